/-
  The law 'TextLists' of delayslotlaw04 returns true at every slice of instructions: the listing is the texts, line by line, with their places.
  Conditions: when the call begins, five variables of Go's library (math/bits.deBruijn32tab, math/bits.deBruijn64tab, internal/strconv.uint64pow10, strconv.ErrRange, strconv.ErrSyntax) hold what their own initialisers lay. The card ties that to the text of the program as it was turned (a pruned copy of the project: the packages that the law loads, and no test file).
-/
import Derived.Test.YtbkmdmmcjaanmaaDoorRows
import Derived.Test.YtbkmdmmcjaanmaaDoorCards
import Derived.Test.YtbkmdmmcjaanmaaDoorTie
import Derived.Test.YtbkmdmmcjaanmaaDoorDoor
import Derived.Carry
import Derived.Stop.Joined
import Derived.WalkKit
import Derived.ProofKit
import Derived.OpenShut
import Derived.ShutString
import Derived.ChangeOld
import Derived.Below
import Derived.Test.YtbkmdmmcjaanmaaDoorAwake4
import Derived.Test.YtbkmdmmcjaanmaaDoorSlc
import Derived.Test.YtbkmdmmcjaanmaaDoorRtx
import Derived.Test.YtbkmdmmcjaanmaaDoorRef2R
namespace Go.Proofs.YtbkmdmmcjaanmaaDoor.textLists
open Go.ChangeShapes Go.WideShapes Go.ChangeAt Go.RowKit
open Go.ChangeMaps (open_string shut_string)
open Go.Lib hiding intOf
set_option linter.unusedVariables false

theorem own : ownKnob Tryd.prog.godebug = none := by kernel_rfl
theorem laidOut : laidOutB Tryd.prog = true := by kernel_rfl
set_option maxHeartbeats 2000000 in
set_option maxRecDepth 20000 in
theorem walk_no (w : World) (g : Gl w) (ao : Option Addr) (n cap : Nat) (h : 100 < n) :
    Calls Tryd.prog 5 #[.slice ao n cap] w fun e w' => e = .returned (.bool true) ∧ Bel w w' := by
  have h' : (100 : Int) < n := by omega
  go_enter Tryd.func5, Tryd.ntmps5
  go_wp2_with (go_at_call 11; refine (awake_any _ g).mono ?_; rintro e w2 ⟨rfl, b2⟩)
  go_ret
  exact ⟨rfl, b2⟩

set_option maxHeartbeats 2000000 in
theorem walk (w : World) (g : Gl w) (y0 : Value) (X0 : List Ins) (wy0 : Code w y0 X0) :
    Calls Tryd.prog 5 #[y0] w fun e w' => e = .returned (.bool true) ∧ Bel w w' := by
  obtain ⟨ao, cap, rfl, hc⟩ := wy0
  by_cases hn : 100 < X0.length
  · exact walk_no w g ao _ cap hn
  · have hn' : ¬ (100 : Int) < X0.length := by omega
    have hcode : Hid (Code w (.slice ao X0.length cap) X0) := ⟨ao, cap, rfl, hc⟩
    go_enter Tryd.func5, Tryd.ntmps5
    go_wp2_with fail
    haveI := Later.ne w
    go_loopw [3, 13] (fun s i wr => ∃ (k : Nat) (u : Later w), k ≤ X0.length ∧ i = .int .i64 k ∧ s = .string (bs (listN X0 k)) ∧ wr = u.at_) (fun _ i _ => X0.length - (intOf i).toNat)
    case atStart => exact ⟨0, ⟨w, Bel.refl _⟩, Nat.zero_le _, rfl, rfl, rfl⟩
    case round =>
      obtain ⟨k, u, hk, rfl, rfl, rfl⟩ := hrel
      have hll := list_len X0 k (by omega)
      by_cases hlt : k < X0.length
      · obtain ⟨b, o, rfl, hbw, hca⟩ := hc (by omega)
        obtain ⟨a0, a1, a2, a3, a4⟩ := hca k hlt
        rw [← (bcell u.is_).1 _ _ hbw] at a0 a1 a2 a3 a4
        have hline : Hid (listN X0 (k + 1) = listN X0 k ++ (((itoa k ++ [58, 32]) ++ textL (X0.getD k Ins.zero).o (X0.getD k Ins.zero).a (X0.getD k Ins.zero).b (X0.getD k Ins.zero).c (X0.getD k Ins.zero).i) ++ [10])) := by
          show _ = _
          simp only [listN, lineL, Ins.text, List.append_assoc]
        generalize X0.getD k Ins.zero = x at a0 a1 a2 a3 a4 hline
        have hil := itoa_len k (by omega) (by omega)
        have htl := text_len x.o x.a x.b x.c x.i
        generalize listN X0 k = L at hll hline ⊢
        clear hc hca hcode
        have q1 := add_bs (x := bs (itoa k)) (y := ⟨#[58, 32]⟩) (b := [58, 32]) rfl rfl (by simp; omega)
        have q2 := add_bs (x := bs (itoa k ++ [58, 32])) (y := bs (textL x.o x.a x.b x.c x.i)) rfl rfl (by simp; omega)
        have q3 := add_bs (x := bs (itoa k ++ 58 :: 32 :: textL x.o x.a x.b x.c x.i)) (y := ⟨#[10]⟩) (b := [10]) rfl rfl (by simp; omega)
        have q4 := add_bs (x := bs L) (y := bs (itoa k ++ 58 :: 32 :: (textL x.o x.a x.b x.c x.i ++ [10]))) rfl rfl (by simp; omega)
        cases hr : rightB x.o x.a x.b x.c x.i with
        | false =>
          have ht : textL x.o x.a x.b x.c x.i = [] := by unfold textL; rw [hr]; rfl
          rw [ht] at q2 q3 q4
          rw [List.nil_append] at q4
          have q2' : ∀ w, (Op.stringOp .add (bs (itoa k ++ [58, 32])) ⟨#[]⟩).run Tryd.prog w = .ok (.string (bs (itoa k ++ [58, 32]))) w := fun w => by
            have := q2 w
            rw [List.append_nil] at this
            exact this
          have HT : Hid _ := ht
          clear ht q2
          go_wp2_with (first
            | (go_at_call 10; refine (refRight_any _ _ _ _ _ _).mono ?_; rintro e w2 ⟨rfl, b2⟩; rw [hr]; have y2 := boxed5 b2)
            | (go_at_call 15; refine (dig_any _ _ (by omega) (by omega)).mono ?_; rintro e w4 ⟨rfl, b4⟩))
          go_roundw
          case rel => exact ⟨k + 1, ⟨w4, btrans (btrans (u.is_.alloc _) b2) b4⟩, by omega, by go_num, by rw [hline.out, HT.out]; simp, rfl⟩
          case measure => simp [intOf]; omega
        | true =>
          have ht : textL x.o x.a x.b x.c x.i = txtL x.o x.a x.b x.c x.i := if_pos hr
          rw [ht] at q2 q3 q4
          have HT : Hid _ := ht
          clear ht
          go_wp2_with (first
            | (go_at_call 10; refine (refRight_any _ _ _ _ _ _).mono ?_; rintro e w2 ⟨rfl, b2⟩; rw [hr]; have y2 := boxed5 b2)
            | (go_at_call 13; refine (rtext_any _ _ _ _ _ _ hr).mono ?_; rintro e w3 ⟨rfl, b3⟩)
            | (go_at_call 15; refine (dig_any _ _ (by omega) (by omega)).mono ?_; rintro e w4 ⟨rfl, b4⟩))
          go_roundw
          case rel => exact ⟨k + 1, ⟨w4, btrans (btrans (btrans (u.is_.alloc _) b2) b3) b4⟩, by omega, by go_num, by rw [hline.out, HT.out]; simp, rfl⟩
          case measure => simp [intOf]; omega
      · have hkn : X0.length = k := by omega
        have HK : Hid _ := hkn
        clear hkn hc
        have hq : ((bs (listN X0 X0.length)).toList == (bs (listN X0 k)).toList) = true := by rw [HK.out]; simp
        go_wp2_with (first
          | (go_at_call 16; refine (listing_any X0 _ _ (g.later u) (by omega) (hcode.out.stay u.is_)).mono ?_; rintro e w2 ⟨rfl, b2⟩; have g2 := (g.later u).stay b2)
          | (go_at_call 11; refine (awake_any _ g2).mono ?_; rintro e w3 ⟨rfl, b3⟩))
        go_ret
        exact ⟨rfl, btrans (btrans u.is_ b2) b3⟩

set_option maxRecDepth 100000 in
theorem lifted (os : Os) (started : os.Started) (H : Type) (enc : TypeId × Value → H) :
    ReturnsInHanded {} Tryd.checked os 5 .any (fun w args => (Rows.textListsSpec.pre enc Tryd.prog Tryd.f5 [] false w args ∧ laidMetH Tryd.prog laid5 w) ∧ sizedMet enc Tryd.prog Tryd.f5 (OpenSpec.ofChange Rows.textListsSpec) false w args)
      (Rows.textListsSpec.post enc Tryd.prog Tryd.f5 false true false false) := by
  refine returnsInHanded_of_change_and (C := Tryd.checked) (X := fun w _ => laidMetH Tryd.prog laid5 w) (fun _ _ _ hh h => h.of_heap hh) own started (by kernel_rfl) Tryd.func5
    (ChangeSpec.witness_shaped (enc := enc) (C := Tryd.checked) (os := os) (X := fun w _ => laidMetH Tryd.prog laid5 w) false (World.doorLaid Tryd.prog 400 os) #[.slice none 0 0] 8 rfl (World.shaped_of_RefB (by kernel_rfl) (by kernel_rfl)) (by kernel_rfl) (by kernel_rfl) (by kernel_rfl) (door_met os _)) ?_
  intro W base args ds gs before hval0 hW _ _ hL _
  have hval : ∀ (j : Nat) t v, Tryd.f5.params[j]? = some t → args[j]? = some v → Value.okWide Tryd.prog W .any base t v := hval0
  have hW' := hW
  obtain ⟨p, q, hA0, hV, rfl, hfz, hnd⟩ := hW
  have hA : DataW.TrodAll enc Tryd.prog W 0 (fun _ => true) true Tryd.f5.params.toList args.toList ds p := hA0
  rw [Tryd.params5] at hA hval
  obtain ⟨v0, vs0, d0, ds0, p0, q0, hargs, rfl, rfl, h0, r0⟩ := trodAll_cons hA
  obtain ⟨rfl, rfl, rfl⟩ := trodAll_nil r0
  obtain rfl : args = #[v0] := by cases args; simp_all
  obtain ⟨rfl, rfl⟩ := trodVars_none hV
  have k0 := h0
  have lt0 : ∀ x ∈ p0, x.block < W.heap.size := by obtain ⟨m, hm⟩ := k0; exact DataW.trod_lt m _ _ _ hm
  obtain ⟨X0, wy0⟩ := open_code (hval 0 30 v0 rfl rfl) h0
  clear hA0 hval0
  refine (walk W (of_laid hL) v0 X0 wy0).mono fun e W' ⟨he, bel⟩ => ?_
  subst he
  exact ⟨_, rfl, _, _, _, [], _, [], hW', trodAll_mk1 (shut_bool Tryd.underlying4 _), (trodAll_cons_mk (Below.trod laidOut (by kernel_rfl) (of_decide_eq_true (by kernel_rfl)) k0 bel.out lt0) trodAll_mk0), rfl, bel.out.frame _, fun h => by cases h⟩

theorem over : Rows.textListsRow.holds Tryd.pinned (OpenSpec.ofChange Rows.textListsSpec) :=
  OpenClaim.holds_of_wide 5 Tryd.f5 rfl rfl rfl rfl rfl rfl rfl ⟨rfl, rfl, rfl, rfl, rfl⟩ rfl rfl rfl rfl rfl (by kernel_rfl) Tryd.func5 (by kernel_rfl)
    (of_decide_eq_true (by kernel_rfl)) (by unfold Func.isWrapper; first | (rw [if_pos (by decide +kernel)]; kernel_rfl) | (rw [if_neg (by decide +kernel)]; exact ⟨rfl, rfl⟩))
    (fun os started H enc _ => lifted os started H enc)

theorem proved : Rows.TextListsCardSaid :=
  Claim7.holds_tied_plain_at .later [] [.data, .data, .data, .sentinel, .sentinel] true (true, "504fc16b671b34644bb352d4a91002a957a587496d8d14da3073f2f297746a58") true
    over (fun _ h => by cases h) (by kernel_rfl) (fun _ h => by cases h) textLists_row_tie rfl ⟨rfl, rfl⟩ (by kernel_rfl) rfl
    (fun f fn hf hfn => by
      obtain rfl : f = 5 := Option.some.inj ((show Tryd.prog.funcNamed "delayslot/delayslotlaw04.TextLists" = some 5 by kernel_rfl).symm.trans hf) |>.symm
      obtain rfl : fn = Tryd.f5 := (Option.some.inj (Tryd.func5.symm.trans hfn)).symm
      exact ⟨by kernel_rfl, fun j t ht => by
        rw [Tryd.params5] at ht
        have h3 : t = 30 := by
          rcases j with _ | j
          · simpa using ht.symm
          · simp at ht
        rcases h3 with rfl
        · exact (show Tryd.prog.wantsStandIn 30 = false by kernel_rfl)⟩)
    (by kernel_rfl)
#print axioms proved
end Go.Proofs.YtbkmdmmcjaanmaaDoor.textLists
