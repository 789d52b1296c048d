/-
  The law 'TextTells' of delayslotlaw04 returns true at every instruction: its text is the one that the document says, or none, and it is parsed.
  Conditions: when the call begins, five variables of Go's library (math/bits.deBruijn32tab, math/bits.deBruijn64tab, internal/strconv.uint64pow10, strconv.ErrRange, strconv.ErrSyntax) hold what their own initialisers lay. The card ties that to the text of the program as it was turned (a pruned copy of the project: the packages that the law loads, and no test file).
-/
import Derived.Test.YtbkmdmmcjaanmaaDoorRows
import Derived.Test.YtbkmdmmcjaanmaaDoorCards
import Derived.Test.YtbkmdmmcjaanmaaDoorTie
import Derived.Test.YtbkmdmmcjaanmaaDoorDoor
import Derived.Carry
import Derived.Stop.Joined
import Derived.WalkKit
import Derived.ProofKit
import Derived.OpenShut
import Derived.ShutString
import Derived.ChangeOld
import Derived.Below
import Derived.Test.YtbkmdmmcjaanmaaDoorAwake4
import Derived.Test.YtbkmdmmcjaanmaaDoorRtx
import Derived.Test.YtbkmdmmcjaanmaaDoorRef2R
namespace Go.Proofs.YtbkmdmmcjaanmaaDoor.textTells
open Go.ChangeShapes Go.WideShapes Go.ChangeAt Go.RowKit
open Go.ChangeMaps (open_string shut_string)
open Go.Lib hiding intOf
set_option linter.unusedVariables false

theorem own : ownKnob Tryd.prog.godebug = none := by kernel_rfl
theorem laidOut : laidOutB Tryd.prog = true := by kernel_rfl
theorem cells23 : Tryd.prog.cellsOf 23 = 5 := by kernel_rfl

set_option maxHeartbeats 2000000 in
theorem walk (w : World) (g : Gl w) (o0 a0 b0 c0 i0 : Int) (wo0 : (Lit.int .i64 o0).wf = true) (wa0 : (Lit.int .i64 a0).wf = true) (wb0 : (Lit.int .i64 b0).wf = true) (wc0 : (Lit.int .i64 c0).wf = true) (wi0 : (Lit.int .i64 i0).wf = true) :
    Calls Tryd.prog 3 #[.agg #[.int .i64 o0, .int .i64 a0, .int .i64 b0, .int .i64 c0, .int .i64 i0]] w fun e w' => e = .returned (.bool true) ∧ Bel w w' := by
  cases hr : rightB o0 a0 b0 c0 i0 with
  | false =>
    have ht : textL o0 a0 b0 c0 i0 = [] := by unfold textL; rw [hr]; rfl
    have hs : (bs (textL o0 a0 b0 c0 i0)).toList = [] := by rw [bs_toList, ht]
    clear ht
    go_enter Tryd.func3, Tryd.ntmps3
    go_wp2_with (first
      | (go_at_call 9; refine (text_any _ _ _ _ _ _ (g.alloc _)).mono ?_; rintro e w1 ⟨rfl, b1⟩; have g1 := (g.alloc _).stay b1; have y1 := boxed5 b1)
      | (go_at_call 10; refine (refRight_any _ _ _ _ _ _).mono ?_; rintro e w2 ⟨rfl, b2⟩; rw [hr]; have g2 := g1.stay b2)
      | (go_at_call 11; refine (awake_any _ g2).mono ?_; rintro e w3 ⟨rfl, b3⟩))
    go_ret
    exact ⟨rfl, btrans (btrans (btrans ((Bel.refl w).alloc _) b1) b2) b3⟩
  | true =>
    have hx : (⟨o0, a0, b0, c0, i0⟩ : Ins).right = true := hr
    have ht : textL o0 a0 b0 c0 i0 = txtL o0 a0 b0 c0 i0 := if_pos hr
    have hp : parseO (txtL o0 a0 b0 c0 i0) = some ⟨o0, a0, b0, c0, i0⟩ := parse_text ⟨o0, a0, b0, c0, i0⟩ hx
    have hpar : ∀ w, Gl w → Calls Tryd.prog 12 #[.string (bs (txtL o0 a0 b0 c0 i0))] w fun e w' => e = .returned (.tuple #[.agg #[.int .i64 o0, .int .i64 a0, .int .i64 b0, .int .i64 c0, .int .i64 i0], .bool true]) ∧ Bel w w' := fun w g => by
      have h := parse_agg (txtL o0 a0 b0 c0 i0) w g (by have := (txt_len hr).2; omega)
      unfold parseI at h
      rw [hp] at h
      exact h
    have HT : Hid _ := ht
    clear ht hp hx
    go_enter Tryd.func3, Tryd.ntmps3
    go_wp2_with (first
      | (go_at_call 9; refine (text_any _ _ _ _ _ _ (g.alloc _)).mono ?_; rintro e w1 ⟨rfl, b1⟩; rw [HT.out]; have g1 := (g.alloc _).stay b1; have y1 := boxed5 b1)
      | (go_at_call 10; refine (refRight_any _ _ _ _ _ _).mono ?_; rintro e w2 ⟨rfl, b2⟩; rw [hr]; have g2 := g1.stay b2; have b12 := btrans b1 b2; have y2 := boxed5 b12)
      | (go_at_call 12; refine (hpar _ g2).mono ?_; rintro e w3 ⟨rfl, b3⟩; have g3 := g2.stay b3; have b13 := btrans b12 b3; have y3 := boxed5 b13; have z3 : w.heap.size < w3.heap.size := (by have := b13.size; simp at this; omega))
      | (go_at_call 13; refine (rtext_any _ _ _ _ _ _ hr).mono ?_; rintro e w4 ⟨rfl, b4⟩; have g4 := (g3.alloc _).stay b4; have y4 := boxed5 (btrans (b13.alloc _) b4); have j4 := boxed5 b4)
      | (go_at_call 11; refine (awake_any _ g4).mono ?_; rintro e w5 ⟨rfl, b5⟩))
    go_ret
    exact ⟨rfl, btrans (btrans ((Bel.refl w).alloc _) (btrans (b13.alloc _) b4)) b5⟩

set_option maxRecDepth 100000 in
theorem lifted (os : Os) (started : os.Started) (H : Type) (enc : TypeId × Value → H) :
    ReturnsInHanded {} Tryd.checked os 3 .any (fun w args => (Rows.textTellsSpec.pre enc Tryd.prog Tryd.f3 [] false w args ∧ laidMetH Tryd.prog laid5 w) ∧ sizedMet enc Tryd.prog Tryd.f3 (OpenSpec.ofChange Rows.textTellsSpec) false w args)
      (Rows.textTellsSpec.post enc Tryd.prog Tryd.f3 false true false false) := by
  refine returnsInHanded_of_change_and (C := Tryd.checked) (X := fun w _ => laidMetH Tryd.prog laid5 w) (fun _ _ _ hh h => h.of_heap hh) own started (by kernel_rfl) Tryd.func3
    (ChangeSpec.witness_shaped (enc := enc) (C := Tryd.checked) (os := os) (X := fun w _ => laidMetH Tryd.prog laid5 w) false (World.doorLaid Tryd.prog 400 os) #[.agg #[.int .i64 0, .int .i64 0, .int .i64 0, .int .i64 0, .int .i64 0]] 8 rfl (World.shaped_of_RefB (by kernel_rfl) (by kernel_rfl)) (by kernel_rfl) (by kernel_rfl) (by kernel_rfl) (door_met os _)) ?_
  intro W base args ds gs before hval0 hW _ _ hL _
  have hval : ∀ (j : Nat) t v, Tryd.f3.params[j]? = some t → args[j]? = some v → Value.okWide Tryd.prog W .any base t v := hval0
  have hW' := hW
  obtain ⟨p, q, hA0, hV, rfl, hfz, hnd⟩ := hW
  have hA : DataW.TrodAll enc Tryd.prog W 0 (fun _ => true) true Tryd.f3.params.toList args.toList ds p := hA0
  rw [Tryd.params3] at hA hval
  obtain ⟨v0, vs0, d0, ds0, p0, q0, hargs, rfl, rfl, h0, r0⟩ := trodAll_cons hA
  obtain ⟨rfl, rfl, rfl⟩ := trodAll_nil r0
  obtain rfl : args = #[v0] := by cases args; simp_all
  obtain ⟨rfl, rfl⟩ := trodVars_none hV
  obtain ⟨o0, a0, b0, c0, i0, rfl, rfl, rfl, wo0, wa0, wb0, wc0, wi0⟩ := open_agg5i Tryd.underlying23 (by kernel_rfl) cells23 Tryd.underlying3 rfl rfl rfl rfl rfl (hval 0 23 v0 rfl rfl) h0
  clear hA0 hval0
  refine (walk W (of_laid hL) o0 a0 b0 c0 i0 wo0 wa0 wb0 wc0 wi0).mono fun e W' ⟨he, bel⟩ => ?_
  subst he
  exact ⟨_, rfl, _, _, _, [], _, [], hW', trodAll_mk1 (shut_bool Tryd.underlying4 _), (trodAll_cons_mk (shut_agg5i Tryd.underlying23 (by kernel_rfl) cells23 Tryd.underlying3 rfl rfl rfl rfl rfl wo0 wa0 wb0 wc0 wi0) trodAll_mk0), rfl, bel.out.frame _, fun h => by cases h⟩

theorem over : Rows.textTellsRow.holds Tryd.pinned (OpenSpec.ofChange Rows.textTellsSpec) :=
  OpenClaim.holds_of_wide 3 Tryd.f3 rfl rfl rfl rfl rfl rfl rfl ⟨rfl, rfl, rfl, rfl, rfl⟩ rfl rfl rfl rfl rfl (by kernel_rfl) Tryd.func3 (by kernel_rfl)
    (of_decide_eq_true (by kernel_rfl)) (by unfold Func.isWrapper; first | (rw [if_pos (by decide +kernel)]; kernel_rfl) | (rw [if_neg (by decide +kernel)]; exact ⟨rfl, rfl⟩))
    (fun os started H enc _ => lifted os started H enc)

theorem proved : Rows.TextTellsCardSaid :=
  Claim7.holds_tied_plain_at .later [] [.data, .data, .data, .sentinel, .sentinel] true (true, "504fc16b671b34644bb352d4a91002a957a587496d8d14da3073f2f297746a58") true
    over (fun _ h => by cases h) (by kernel_rfl) (fun _ h => by cases h) textTells_row_tie rfl ⟨rfl, rfl⟩ (by kernel_rfl) rfl
    (fun f fn hf hfn => by
      obtain rfl : f = 3 := Option.some.inj ((show Tryd.prog.funcNamed "delayslot/delayslotlaw04.TextTells" = some 3 by kernel_rfl).symm.trans hf) |>.symm
      obtain rfl : fn = Tryd.f3 := (Option.some.inj (Tryd.func3.symm.trans hfn)).symm
      exact ⟨by kernel_rfl, fun j t ht => by
        rw [Tryd.params3] at ht
        have h3 : t = 23 := by
          rcases j with _ | j
          · simpa using ht.symm
          · simp at ht
        rcases h3 with rfl
        · exact (show Tryd.prog.wantsStandIn 23 = false by kernel_rfl)⟩)
    (by kernel_rfl)
#print axioms proved
end Go.Proofs.YtbkmdmmcjaanmaaDoor.textTells
