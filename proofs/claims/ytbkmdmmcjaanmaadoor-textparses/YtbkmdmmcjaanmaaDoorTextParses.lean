/-
  The law 'TextParses' of delayslotlaw04 returns true at every text: it is the instruction that the document says, or none; and that has it.
  Conditions: when the call begins, five variables of Go's library (math/bits.deBruijn32tab, math/bits.deBruijn64tab, internal/strconv.uint64pow10, strconv.ErrRange, strconv.ErrSyntax) hold what their own initialisers lay. The card ties that to the text of the program as it was turned (a pruned copy of the project: the packages that the law loads, and no test file).
-/
import Derived.Test.YtbkmdmmcjaanmaaDoorRows
import Derived.Test.YtbkmdmmcjaanmaaDoorCards
import Derived.Test.YtbkmdmmcjaanmaaDoorTie
import Derived.Test.YtbkmdmmcjaanmaaDoorDoor
import Derived.Carry
import Derived.Stop.Joined
import Derived.WalkKit
import Derived.ProofKit
import Derived.OpenShut
import Derived.ShutString
import Derived.ChangeOld
import Derived.Below
import Derived.Test.YtbkmdmmcjaanmaaDoorAwake4
import Derived.Test.YtbkmdmmcjaanmaaDoorRpw
namespace Go.Proofs.YtbkmdmmcjaanmaaDoor.textParses
open Go.ChangeShapes Go.WideShapes Go.ChangeAt Go.RowKit
open Go.ChangeMaps (open_string shut_string)
open Go.Lib hiding intOf
set_option linter.unusedVariables false

theorem own : ownKnob Tryd.prog.godebug = none := by kernel_rfl
theorem laidOut : laidOutB Tryd.prog = true := by kernel_rfl
set_option maxHeartbeats 2000000 in
set_option maxRecDepth 20000 in
theorem walk_no (w : World) (g : Gl w) (S : ByteArray) (hS : S.size ≤ maxLen) (h : 100 < S.size) :
    Calls Tryd.prog 4 #[.string S] w fun e w' => e = .returned (.bool true) ∧ Bel w w' := by
  unfold maxLen at hS
  have h' : (100 : Int) < S.size := by omega
  go_enter Tryd.func4, Tryd.ntmps4
  go_wp2_with (go_at_call 11; refine (awake_any _ g).mono ?_; rintro e w2 ⟨rfl, b2⟩)
  go_ret
  exact ⟨rfl, b2⟩
theorem text_of {l : List UInt8} {y : Ins} (h : parseO l = some y) : textL y.o y.a y.b y.c y.i = l := by
  obtain ⟨hr, ht⟩ := parse_some h
  have e : textL y.o y.a y.b y.c y.i = txtL y.o y.a y.b y.c y.i := if_pos hr
  rw [e]
  exact ht

set_option maxHeartbeats 2000000 in
theorem walk (w : World) (g : Gl w) (x0 : ByteArray) (wx0 : x0.size ≤ maxLen) :
    Calls Tryd.prog 4 #[.string x0] w fun e w' => e = .returned (.bool true) ∧ Bel w w' := by
  by_cases hn : 100 < x0.size
  · exact walk_no w g x0 wx0 hn
  · obtain ⟨l, rfl⟩ : ∃ l, x0 = bs l := ⟨_, of_bs x0⟩
    have hn' : ¬ (100 : Int) < (bs l).size := by omega
    have hll : l.length ≤ 100 := by rw [bs_size] at hn; omega
    have hpar := fun w g => parse_agg l w g (by omega)
    have href := fun w => rparse_any (bs l) w (by omega)
    simp only [bs_list] at href
    have htx : (parseO l).isSome = true → textL (parseI l).o (parseI l).a (parseI l).b (parseI l).c (parseI l).i = l := by
      intro hs
      cases hp : parseO l with
      | none => rw [hp] at hs; cases hs
      | some y => unfold parseI; rw [hp]; exact text_of hp
    cases hs : (parseO l).isSome with
    | false =>
      rw [hs] at hpar href
      clear htx
      generalize parseI l = y at hpar href
      go_enter Tryd.func4, Tryd.ntmps4
      go_wp2_with (first
        | (go_at_call 12; refine (hpar _ g).mono ?_; rintro e w1 ⟨rfl, b1⟩; have g1 := g.stay b1)
        | (go_at_call 14; refine (href _).mono ?_; rintro e w2 ⟨rfl, b2⟩; have g2 := (g1.alloc _).stay b2; have y2 := boxed5 b2; have z2 : w1.heap.size < w2.heap.size := (by have := b2.size; simp at this; omega))
        | (go_at_call 11; refine (awake_any _ (g2.alloc _)).mono ?_; rintro e w3 ⟨rfl, b3⟩))
      go_ret
      exact ⟨rfl, btrans (btrans (b1.alloc _) b2) (btrans ((Bel.refl _).alloc _) b3)⟩
    | true =>
      have ht := htx hs
      rw [hs] at hpar href
      clear htx
      generalize parseI l = y at hpar href ht
      have hq : ((bs (textL y.o y.a y.b y.c y.i)).toList == (bs l).toList) = true := by rw [ht]; simp
      have HT : Hid _ := ht
      clear ht
      go_enter Tryd.func4, Tryd.ntmps4
      go_wp2_with (first
        | (go_at_call 12; refine (hpar _ g).mono ?_; rintro e w1 ⟨rfl, b1⟩; have g1 := g.stay b1)
        | (go_at_call 14; refine (href _).mono ?_; rintro e w2 ⟨rfl, b2⟩; have g2 := (g1.alloc _).stay b2; have y2 := boxed5 b2; have z2 : w1.heap.size < w2.heap.size := (by have := b2.size; simp at this; omega))
        | (go_at_call 9; refine (text_any _ _ _ _ _ _ (g2.alloc _)).mono ?_; rintro e w3 ⟨rfl, b3⟩; have g3 := (g2.alloc _).stay b3)
        | (go_at_call 11; refine (awake_any _ g3).mono ?_; rintro e w4 ⟨rfl, b4⟩))
      go_ret
      exact ⟨rfl, btrans (btrans (b1.alloc _) b2) (btrans (btrans ((Bel.refl _).alloc _) b3) b4)⟩

set_option maxRecDepth 100000 in
theorem lifted (os : Os) (started : os.Started) (H : Type) (enc : TypeId × Value → H) :
    ReturnsInHanded {} Tryd.checked os 4 .any (fun w args => (Rows.textParsesSpec.pre enc Tryd.prog Tryd.f4 [] false w args ∧ laidMetH Tryd.prog laid5 w) ∧ sizedMet enc Tryd.prog Tryd.f4 (OpenSpec.ofChange Rows.textParsesSpec) false w args)
      (Rows.textParsesSpec.post enc Tryd.prog Tryd.f4 false true false false) := by
  refine returnsInHanded_of_change_and (C := Tryd.checked) (X := fun w _ => laidMetH Tryd.prog laid5 w) (fun _ _ _ hh h => h.of_heap hh) own started (by kernel_rfl) Tryd.func4
    (ChangeSpec.witness_shaped (enc := enc) (C := Tryd.checked) (os := os) (X := fun w _ => laidMetH Tryd.prog laid5 w) false (World.doorLaid Tryd.prog 400 os) #[.string ByteArray.empty] 8 rfl (World.shaped_of_RefB (by kernel_rfl) (by kernel_rfl)) (by kernel_rfl) (by kernel_rfl) (by kernel_rfl) (door_met os _)) ?_
  intro W base args ds gs before hval0 hW _ _ hL _
  have hval : ∀ (j : Nat) t v, Tryd.f4.params[j]? = some t → args[j]? = some v → Value.okWide Tryd.prog W .any base t v := hval0
  have hW' := hW
  obtain ⟨p, q, hA0, hV, rfl, hfz, hnd⟩ := hW
  have hA : DataW.TrodAll enc Tryd.prog W 0 (fun _ => true) true Tryd.f4.params.toList args.toList ds p := hA0
  rw [Tryd.params4] at hA hval
  obtain ⟨v0, vs0, d0, ds0, p0, q0, hargs, rfl, rfl, h0, r0⟩ := trodAll_cons hA
  obtain ⟨rfl, rfl, rfl⟩ := trodAll_nil r0
  obtain rfl : args = #[v0] := by cases args; simp_all
  obtain ⟨rfl, rfl⟩ := trodVars_none hV
  obtain ⟨x0, rfl, rfl, rfl, wx0⟩ := open_string Tryd.underlying9 (hval 0 9 v0 rfl rfl) h0
  clear hA0 hval0
  refine (walk W (of_laid hL) x0 wx0).mono fun e W' ⟨he, bel⟩ => ?_
  subst he
  exact ⟨_, rfl, _, _, _, [], _, [], hW', trodAll_mk1 (shut_bool Tryd.underlying4 _), (trodAll_cons_mk (shut_string Tryd.underlying9 wx0) trodAll_mk0), rfl, bel.out.frame _, fun h => by cases h⟩

theorem over : Rows.textParsesRow.holds Tryd.pinned (OpenSpec.ofChange Rows.textParsesSpec) :=
  OpenClaim.holds_of_wide 4 Tryd.f4 rfl rfl rfl rfl rfl rfl rfl ⟨rfl, rfl, rfl, rfl, rfl⟩ rfl rfl rfl rfl rfl (by kernel_rfl) Tryd.func4 (by kernel_rfl)
    (of_decide_eq_true (by kernel_rfl)) (by unfold Func.isWrapper; first | (rw [if_pos (by decide +kernel)]; kernel_rfl) | (rw [if_neg (by decide +kernel)]; exact ⟨rfl, rfl⟩))
    (fun os started H enc _ => lifted os started H enc)

theorem proved : Rows.TextParsesCardSaid :=
  Claim7.holds_tied_plain_at .later [] [.data, .data, .data, .sentinel, .sentinel] true (true, "504fc16b671b34644bb352d4a91002a957a587496d8d14da3073f2f297746a58") true
    over (fun _ h => by cases h) (by kernel_rfl) (fun _ h => by cases h) textParses_row_tie rfl ⟨rfl, rfl⟩ (by kernel_rfl) rfl
    (fun f fn hf hfn => by
      obtain rfl : f = 4 := Option.some.inj ((show Tryd.prog.funcNamed "delayslot/delayslotlaw04.TextParses" = some 4 by kernel_rfl).symm.trans hf) |>.symm
      obtain rfl : fn = Tryd.f4 := (Option.some.inj (Tryd.func4.symm.trans hfn)).symm
      exact ⟨by kernel_rfl, fun j t ht => by
        rw [Tryd.params4] at ht
        have h3 : t = 9 := by
          rcases j with _ | j
          · simpa using ht.symm
          · simp at ht
        rcases h3 with rfl
        · exact (show Tryd.prog.wantsStandIn 9 = false by kernel_rfl)⟩)
    (by kernel_rfl)
#print axioms proved
end Go.Proofs.YtbkmdmmcjaanmaaDoor.textParses
