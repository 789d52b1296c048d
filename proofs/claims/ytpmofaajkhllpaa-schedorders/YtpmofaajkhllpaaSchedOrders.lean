/-
  The law 'SchedOrders' of delayslotlaw11 returns true at every list: its order is the document's (asked of at most 40 instructions).
  Conditions: none.
-/
import Derived.Test.YtpmofaajkhllpaaRows
import Derived.WalkKit
import Derived.ProofKit
import Derived.OpenShut
import Derived.ShutString
import Derived.ChangeOld
import Derived.Below
import Derived.Carry
import Derived.Test.YtpmofaajkhllpaaRo11
import Derived.Test.YtpmofaajkhllpaaAln11
namespace Go.Proofs.Ytpmofaajkhllpaa.schedOrders
open Go.ChangeShapes Go.WideShapes Go.ChangeAt Go.RowKit
open Go.ChangeMaps (open_string shut_string)
set_option linter.unusedVariables false

theorem laidOut : laidOutB Try.prog = true := by kernel_rfl
theorem own : ownKnob Try.prog.godebug = none := by kernel_rfl

set_option maxRecDepth 20000 in
set_option maxHeartbeats 2000000 in
theorem walk (w : World) (y0 : Value) (X0 : List Ins) (wy0 : Code w y0 X0) :
    Calls Try.prog 3 #[y0] w fun e w' => e = .returned (.bool true) ∧ Bel w w' := by
  by_cases hs : X0.length ≤ 40
  · have HW := hidm wy0
    obtain ⟨ao, cap, rfl, hc⟩ := wy0
    clear hc
    have ho := fun ww (hb : Bel w ww) => order_any X0 (.slice ao X0.length cap) ww (by omega) (code_bel HW.out hb)
    have hr := fun ww (hb : Bel w ww) => refOrder_any X0 (.slice ao X0.length cap) ww (by omega) (code_bel HW.out hb)
    go_enter Try.func3, Try.ntmps3
    go_wp2_with (first
      | (have q := t3; go_at_call 10; refine (awake_any _).mono ?_; rintro e w4 ⟨rfl, b4⟩)
      | (have q := t2; go_at_call 11; refine (same_yes Z _ _ _ ((own_ints O1.out).bel b2) (own_ints O2.out) (by have := ord_len HZ.out; omega)).mono ?_; rintro e w3 ⟨rfl, b3⟩; have t3 : Hid True := True.intro)
      | (have q := t1; go_at_call 13; refine (hr w1 b1).mono ?_; rintro e w2 ⟨v2, Z2, rfl, hZ2, o2, b2⟩; obtain rfl := ord_one HZ.out hZ2; have O2 := hidm o2; clear o2 hZ2; have t2 : Hid True := True.intro)
      | (go_at_call 12; refine (ho w (Bel.refl _)).mono ?_; rintro e w1 ⟨v1, Z, rfl, hZ, o1, b1⟩; have HZ := hidm hZ; have O1 := hidm o1; clear hZ o1; have t1 : Hid True := True.intro))
    go_ret
    exact ⟨rfl, btrans b1 (btrans b2 (btrans b3 b4))⟩
  · obtain ⟨ao, cap, rfl, hc⟩ := wy0
    clear hc
    go_enter Try.func3, Try.ntmps3
    go_wp2_with (go_at_call 10; refine (awake_any _).mono ?_; rintro e w4 ⟨rfl, b4⟩)
    go_ret
    exact ⟨rfl, b4⟩

set_option maxRecDepth 100000 in
theorem lifted (os : Os) (started : os.Started) (H : Type) (enc : TypeId × Value → H) :
    ReturnsInHanded {} Try.checked os 3 .any (Rows.schedOrdersSpec.pre6 enc Try.prog Try.f3 Rows.schedOrdersRow.domain false) (Rows.schedOrdersSpec.post enc Try.prog Try.f3 false true false false) := by
  refine returnsInHanded_of_change (C := Try.checked) own started (by kernel_rfl) Try.func3
    (ChangeSpec.witness6 (enc := enc) (C := Try.checked) false ⟨#[], #[.slice none 0 0], []⟩ 8 (by kernel_rfl) (by kernel_rfl) (by kernel_rfl) (by kernel_rfl)) ?_
  intro W base args ds gs before hval0 hW hcnd _
  have hval : ∀ (j : Nat) t v, Try.f3.params[j]? = some t → args[j]? = some v → Value.okWide Try.prog W .any base t v := hval0
  have hW' := hW
  obtain ⟨p, q, hA0, hV, rfl, hfz, hnd⟩ := hW
  have hA : DataW.TrodAll enc Try.prog W 0 (fun _ => true) true Try.f3.params.toList args.toList ds p := hA0
  rw [Try.params3] at hA hval
  obtain ⟨v0, vs0, d0, ds0, p0, q0, hargs, rfl, rfl, h0, r0⟩ := trodAll_cons hA
  obtain ⟨rfl, rfl, rfl⟩ := trodAll_nil r0
  obtain rfl : args = #[v0] := by cases args; simp_all
  obtain ⟨rfl, rfl⟩ := trodVars_none hV
  have k0 := h0
  have lt0 : ∀ x ∈ p0, x.block < W.heap.size := by obtain ⟨m, hm⟩ := k0; exact DataW.trod_lt m _ _ _ hm
  obtain ⟨X0, wy0⟩ := open_code (hval 0 22 v0 rfl rfl) h0
  clear hA0 hval0
  refine (walk W v0 X0 wy0).mono fun e W' ⟨he, bel⟩ => ?_
  subst he
  exact ⟨_, rfl, _, _, _, [], _, [], hW', trodAll_mk1 (shut_bool Try.underlying4 _), (trodAll_cons_mk (Below.trod laidOut (by kernel_rfl) (of_decide_eq_true (by kernel_rfl)) k0 bel.out lt0) trodAll_mk0), rfl, bel.out.frame _, fun h => by cases h⟩

theorem over : Rows.schedOrdersRow.holds Try.pinned (OpenSpec.ofChange Rows.schedOrdersSpec) :=
  OpenClaim.holds_of_wide 3 Try.f3 rfl rfl rfl rfl rfl rfl rfl ⟨rfl, rfl, rfl, rfl, rfl⟩ rfl rfl rfl rfl rfl (by kernel_rfl) Try.func3 (by kernel_rfl)
    (of_decide_eq_true (by kernel_rfl)) (by unfold Func.isWrapper; first | (rw [if_pos (by decide +kernel)]; kernel_rfl) | (rw [if_neg (by decide +kernel)]; exact ⟨rfl, rfl⟩))
    (fun os started H enc _ => lifted os started H enc)

theorem proved : Rows.SchedOrdersSaid :=
  over
#print axioms proved
end Go.Proofs.Ytpmofaajkhllpaa.schedOrders
