/-
  The law 'SchedKeeps' of delayslotlaw11 returns true at every list: its order keeps what must stay ahead, has at most twice as many places, never two free side by side, and none at the end (asked of at most 40 instructions).
  Conditions: none.
-/
import Derived.Test.YtpmofaajkhllpaaRows
import Derived.WalkKit
import Derived.ProofKit
import Derived.OpenShut
import Derived.ShutString
import Derived.ChangeOld
import Derived.Below
import Derived.Carry
import Derived.Test.YtpmofaajkhllpaaLw11
import Derived.Test.YtpmofaajkhllpaaRq10
namespace Go.Proofs.Ytpmofaajkhllpaa.schedKeeps
open Go.ChangeShapes Go.WideShapes Go.ChangeAt Go.RowKit
open Go.ChangeMaps (open_string shut_string)
set_option linter.unusedVariables false

theorem laidOut : laidOutB Try.prog = true := by kernel_rfl
theorem own : ownKnob Try.prog.godebug = none := by kernel_rfl

set_option maxRecDepth 20000 in
set_option maxHeartbeats 2000000 in
theorem walk (w : World) (y0 : Value) (X0 : List Ins) (wy0 : Code w y0 X0) :
    Calls Try.prog 5 #[y0] w fun e w' => e = .returned (.bool true) ∧ Bel w w' := by
  by_cases hs : X0.length ≤ 40
  · have HW := hidm wy0
    obtain ⟨ao, cap, rfl, hc⟩ := wy0
    have ho := fun ww (hb : Bel w ww) => order_any X0 (.slice ao X0.length cap) ww (by omega) (code_bel HW.out hb)
    clear hc
    by_cases h0 : X0.length = 0
    · have H0 := hidm h0
      clear h0
      go_enter Try.func5, Try.ntmps5
      go_wp2_with (first
        | (have q := b1; go_at_call 17; refine (refKeeps_any X0 Z _ _ w1 (by omega) (by omega) (code_bel HW.out b1) (own_ints o1.out)).mono ?_; rintro e w2 ⟨rfl, b2⟩; rw [(keepsB_iff X0 Z).2 (ord_keeps hZ.out)])
        | (go_at_call 12; refine (ho _ (Bel.refl _)).mono ?_; rintro e w1 ⟨v1, Z, rfl, hZ', o1', b1⟩; obtain ⟨a1, c1, q1⟩ := ownI_form o1'; subst q1; have hzl := ord_len hZ'; have hzn : ¬ (0 : Int) < Z.length := (by have := H0.out; omega); have hz2 : (Z.length : Int) ≤ 2 * X0.length := (by omega); have hz1 : (Z.length : Int) < 1 := (by have := H0.out; omega); have hZ := hidm hZ'; have o1 := hidm o1'; clear hZ' o1'))
      go_loopw [4] (fun i wr => ∃ k : Nat, i = .int .i64 ((k : Int) + 1) ∧ Bel w2 wr) (fun _ _ => 0)
      case atStart => exact ⟨0, rfl, Bel.refl _⟩
      case round =>
        obtain ⟨k, rfl, hB⟩ := hrel
        rename World => wr
        have hge : ¬ (k : Int) + 1 < Z.length := by omega
        go_wp2_with (go_at_call 10; refine (awake_any _).mono ?_; rintro e w4 ⟨rfl, b4⟩)
        go_ret
        exact ⟨rfl, btrans b1 (btrans b2 (btrans hB b4))⟩
    · have h0' : 0 < X0.length := by omega
      go_enter Try.func5, Try.ntmps5
      go_wp2_with (first
        | (have q := b1; go_at_call 17; refine (refKeeps_any X0 Z _ _ w1 (by omega) (by omega) (code_bel HW.out b1) (own_ints o1.out)).mono ?_; rintro e w2 ⟨rfl, b2⟩; rw [(keepsB_iff X0 Z).2 (ord_keeps hZ.out)]; have c2 := ((bcell b2).1 bo E hbo).trans c0)
        | (go_at_call 12; refine (ho _ (Bel.refl _)).mono ?_; rintro e w1 ⟨v1, Z, rfl, hZ', o1', b1⟩; obtain ⟨a1, c1, q1⟩ := ownI_form o1'; subst q1; obtain ⟨E, j, bo, HE, HJ, hjX, q7, hbo, hall', c0⟩ := ord_end hZ' h0' o1'; subst q7; have hzl := ord_len hZ'; have HALL := hidm hall'; have hEI : (Z.length : Int) - 1 = (E : Int) := (by have := HE.out; omega); have hEl : (E : Int) < Z.length := (by omega); have hz0 : (0 : Int) < Z.length := (by omega); have hz2 : (Z.length : Int) ≤ 2 * X0.length := (by omega); have hZ := hidm hZ'; have o1 := hidm o1'; clear hZ' o1' hall'))
      go_loopw [4] (fun i wr => ∃ k : Nat, k + 1 ≤ Z.length ∧ i = .int .i64 ((k : Int) + 1) ∧ Bel w2 wr) (fun i _ => Z.length - (intOf i).toNat)
      case atStart => exact ⟨0, by omega, rfl, Bel.refl _⟩
      case round =>
        obtain ⟨k, hk1, rfl, hB⟩ := hrel
        rename World => wr
        by_cases hlt : k + 1 < Z.length
        · have cc := fun i hi => ((bcell (btrans b2 hB)).1 bo i hbo).trans (HALL.out i hi)
          have d1 := cc (k + 1) hlt
          have d0 := cc k (by omega)
          have hf := ord_two hZ.out k hlt
          have hk2 : (k : Int) + 1 < Z.length := by omega
          have ek : ((k + 1 : Nat) : Int) = (k : Int) + 1 := by omega
          generalize Z.getD (k + 1) 0 = z1 at d1 hf
          generalize Z.getD k 0 = z0 at d0 hf
          clear cc
          by_cases hz : z1 < 0
          · have hz0' : ¬ z0 < 0 := by have := hf hz; omega
            go_wp2
            go_roundw
            case rel => exact ⟨k + 1, by omega, by go_num, hB⟩
            case measure => simp [intOf]; omega
          · go_wp2
            go_roundw
            case rel => exact ⟨k + 1, by omega, by go_num, hB⟩
            case measure => simp [intOf]; omega
        · have hge : ¬ (k : Int) + 1 < Z.length := by omega
          go_wp2_with (go_at_call 10; refine (awake_any _).mono ?_; rintro e w4 ⟨rfl, b4⟩)
          go_ret
          exact ⟨rfl, btrans b1 (btrans b2 (btrans hB b4))⟩
  · obtain ⟨ao, cap, rfl, hc⟩ := wy0
    clear hc
    go_enter Try.func5, Try.ntmps5
    go_wp2_with (go_at_call 10; refine (awake_any _).mono ?_; rintro e w4 ⟨rfl, b4⟩)
    go_ret
    exact ⟨rfl, b4⟩

set_option maxRecDepth 100000 in
theorem lifted (os : Os) (started : os.Started) (H : Type) (enc : TypeId × Value → H) :
    ReturnsInHanded {} Try.checked os 5 .any (Rows.schedKeepsSpec.pre6 enc Try.prog Try.f5 Rows.schedKeepsRow.domain false) (Rows.schedKeepsSpec.post enc Try.prog Try.f5 false true false false) := by
  refine returnsInHanded_of_change (C := Try.checked) own started (by kernel_rfl) Try.func5
    (ChangeSpec.witness6 (enc := enc) (C := Try.checked) false ⟨#[], #[.slice none 0 0], []⟩ 8 (by kernel_rfl) (by kernel_rfl) (by kernel_rfl) (by kernel_rfl)) ?_
  intro W base args ds gs before hval0 hW hcnd _
  have hval : ∀ (j : Nat) t v, Try.f5.params[j]? = some t → args[j]? = some v → Value.okWide Try.prog W .any base t v := hval0
  have hW' := hW
  obtain ⟨p, q, hA0, hV, rfl, hfz, hnd⟩ := hW
  have hA : DataW.TrodAll enc Try.prog W 0 (fun _ => true) true Try.f5.params.toList args.toList ds p := hA0
  rw [Try.params5] at hA hval
  obtain ⟨v0, vs0, d0, ds0, p0, q0, hargs, rfl, rfl, h0, r0⟩ := trodAll_cons hA
  obtain ⟨rfl, rfl, rfl⟩ := trodAll_nil r0
  obtain rfl : args = #[v0] := by cases args; simp_all
  obtain ⟨rfl, rfl⟩ := trodVars_none hV
  have k0 := h0
  have lt0 : ∀ x ∈ p0, x.block < W.heap.size := by obtain ⟨m, hm⟩ := k0; exact DataW.trod_lt m _ _ _ hm
  obtain ⟨X0, wy0⟩ := open_code (hval 0 22 v0 rfl rfl) h0
  clear hA0 hval0
  refine (walk W v0 X0 wy0).mono fun e W' ⟨he, bel⟩ => ?_
  subst he
  exact ⟨_, rfl, _, _, _, [], _, [], hW', trodAll_mk1 (shut_bool Try.underlying4 _), (trodAll_cons_mk (Below.trod laidOut (by kernel_rfl) (of_decide_eq_true (by kernel_rfl)) k0 bel.out lt0) trodAll_mk0), rfl, bel.out.frame _, fun h => by cases h⟩

theorem over : Rows.schedKeepsRow.holds Try.pinned (OpenSpec.ofChange Rows.schedKeepsSpec) :=
  OpenClaim.holds_of_wide 5 Try.f5 rfl rfl rfl rfl rfl rfl rfl ⟨rfl, rfl, rfl, rfl, rfl⟩ rfl rfl rfl rfl rfl (by kernel_rfl) Try.func5 (by kernel_rfl)
    (of_decide_eq_true (by kernel_rfl)) (by unfold Func.isWrapper; first | (rw [if_pos (by decide +kernel)]; kernel_rfl) | (rw [if_neg (by decide +kernel)]; exact ⟨rfl, rfl⟩))
    (fun os started H enc _ => lifted os started H enc)

theorem proved : Rows.SchedKeepsSaid :=
  over
#print axioms proved
end Go.Proofs.Ytpmofaajkhllpaa.schedKeeps
