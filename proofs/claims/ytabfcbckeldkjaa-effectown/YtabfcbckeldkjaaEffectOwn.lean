/-
  The law 'EffectOwn' of delayslotlaw03 returns true at every instruction: each register that is touched is one of the instruction's, or 4, or 31; what is right and none of those that act, or go, or Nop, writes its A.
  Conditions: none.
-/
import Derived.Test.YtabfcbckeldkjaaRows
import Derived.WalkKit
import Derived.ProofKit
import Derived.OpenShut
import Derived.ShutString
import Derived.ChangeOld
import Derived.Below
import Derived.Test.YtabfcbckeldkjaaAwake3
import Derived.Test.YtabfcbckeldkjaaRdFacts
import Derived.Test.YtabfcbckeldkjaaLater
namespace Go.Proofs.Ytabfcbckeldkjaa.effectOwn
open Go.ChangeShapes Go.WideShapes Go.ChangeAt Go.RowKit
open Go.ChangeMaps (open_string shut_string)
set_option linter.unusedVariables false

theorem own : ownKnob Try.prog.godebug = none := by kernel_rfl
theorem cells23 : Try.prog.cellsOf 23 = 5 := by kernel_rfl
theorem touch_own {o a b c i n : Int} (h : touchB o a b c i n = true) : n = a ∨ n = b ∨ n = c ∨ n = 4 ∨ n = 31 := by
  unfold touchB at h
  simp only [decide_eq_true_eq] at h
  obtain ⟨h0, h⟩ := h
  cases hr : rightB o a b c i
  · simp [rd1, rd2, wr1, hr] at h; omega
  · have e1 : rd1 o a b c i = rA o a b i := by simp [rd1, hr]
    have e2 : rd2 o a b c i = rB o b c := by simp [rd2, hr]
    have e3 : wr1 o a b c i = wA o a i := by simp [wr1, hr]
    rw [e1, e2, e3] at h
    unfold rA rB wA sR sW at h
    omega
theorem plain_writes {o a b c i : Int} (hr : rightB o a b c i = true) (ha : actsB o a b c i = false) (hg : goesB o a b c i = false) (h0 : o ≠ 0) : wr1 o a b c i = a := by
  obtain ⟨b1, b2, _⟩ := right_bd hr
  have e3 : wr1 o a b c i = wA o a i := by simp [wr1, hr]
  rw [e3]
  unfold actsB at ha
  unfold goesB at hg
  simp [hr] at ha hg
  unfold wA
  omega

set_option maxHeartbeats 2000000 in
theorem walk (o0 a0 b0 c0 i0 : Int) (wo0 : (Lit.int .i64 o0).wf = true) (wa0 : (Lit.int .i64 a0).wf = true) (wb0 : (Lit.int .i64 b0).wf = true) (wc0 : (Lit.int .i64 c0).wf = true) (wi0 : (Lit.int .i64 i0).wf = true) (w : World) :
    Calls Try.prog 8 #[.agg #[.int .i64 o0, .int .i64 a0, .int .i64 b0, .int .i64 c0, .int .i64 i0]] w fun e w' => e = .returned (.bool true) ∧ Bel w w' := by
  go_enter Try.func8, Try.ntmps8
  go_wp2_with fail
  have hB : Bel w (w.alloc (Obj.cells #[.int .i64 o0, .int .i64 a0, .int .i64 b0, .int .i64 c0, .int .i64 i0] 23)) := (Bel.refl w).alloc _
  obtain ⟨c0', c1, c2, c3, c4⟩ := box5 w o0 a0 b0 c0 i0 23
  have hz := later_size (w := w.alloc (Obj.cells #[.int .i64 o0, .int .i64 a0, .int .i64 b0, .int .i64 c0, .int .i64 i0] 23)) (n := w.heap.size) (by simp)
  generalize w.alloc (Obj.cells #[.int .i64 o0, .int .i64 a0, .int .i64 b0, .int .i64 c0, .int .i64 i0] 23) = w1 at hB c0' c1 c2 c3 c4 hz ⊢
  haveI := Later.ne w1
  obtain ⟨u1, e0⟩ := later_start w1
  rw [← e0]
  clear e0
  go_wp2_with fail
  go_loopw [5] (fun k wr => ∃ (j : Nat) (u : Later w1), j ≤ 32 ∧ k = .int .i64 j ∧ wr = u.at_) (fun k _ => 32 - (intOf k).toNat)
  case atStart => exact ⟨0, u1, Nat.zero_le _, rfl, rfl⟩
  case round =>
    obtain ⟨j, u2, hj, rfl, rfl⟩ := hrel
    by_cases hlt : j < 32
    · cases ht : touchB o0 a0 b0 c0 i0 j
      · go_wp2_with (go_at_call 11; refine (later_of (touches_any _ _ _ _ _ _ _)).mono ?_; rintro e _ ⟨rfl, u3, rfl⟩)
        go_roundw
        case rel => exact ⟨j + 1, u3, by omega, by go_num, rfl⟩
        case measure => simp [intOf]; omega
      · have hn := touch_own ht
        go_wp2_with (go_at_call 11; refine (later_of (touches_any _ _ _ _ _ _ _)).mono ?_; rintro e _ ⟨rfl, u3, rfl⟩)
        all_goals
          first
            | (exfalso; simp only [bne_iff_ne, ne_eq] at *; omega)
            | (go_roundw
               case rel => exact ⟨j + 1, u3, by omega, by go_num, rfl⟩
               case measure => simp [intOf]; omega)
    · have key : (rightB o0 a0 b0 c0 i0 = false) ∨ (rightB o0 a0 b0 c0 i0 = true ∧ actsB o0 a0 b0 c0 i0 = true) ∨ (rightB o0 a0 b0 c0 i0 = true ∧ actsB o0 a0 b0 c0 i0 = false ∧ goesB o0 a0 b0 c0 i0 = true) ∨ (rightB o0 a0 b0 c0 i0 = true ∧ actsB o0 a0 b0 c0 i0 = false ∧ goesB o0 a0 b0 c0 i0 = false ∧ (o0 != 0) = false) ∨ (rightB o0 a0 b0 c0 i0 = true ∧ actsB o0 a0 b0 c0 i0 = false ∧ goesB o0 a0 b0 c0 i0 = false ∧ (o0 != 0) = true ∧ wr1 o0 a0 b0 c0 i0 = a0) := by
        cases hr : rightB o0 a0 b0 c0 i0 <;> cases ha : actsB o0 a0 b0 c0 i0 <;> cases hg : goesB o0 a0 b0 c0 i0 <;> simp
        by_cases h0 : o0 = 0
        · exact .inl h0
        · exact .inr ⟨h0, plain_writes hr ha hg h0⟩
      rcases key with k1 | ⟨k1, k2⟩ | ⟨k1, k2, k3⟩ | ⟨k1, k2, k3, k4⟩ | ⟨k1, k2, k3, k4, k5⟩
      all_goals
        go_wp2_with (first | (go_at_call 21; refine (later_of (refRight_any _ _ _ _ _ _)).mono ?_; rintro e _ ⟨rfl, u3, rfl⟩) | (go_at_call 15; refine (later_of (acts_any _ _ _ _ _ _)).mono ?_; rintro e _ ⟨rfl, u4, rfl⟩) | (go_at_call 17; refine (later_of (goes_any _ _ _ _ _ _)).mono ?_; rintro e _ ⟨rfl, u5, rfl⟩))
        refine wp_region_later (by kernel_rfl) (by kernel_rfl) ?_
        repeat (go_big_quiet_step (first | (go_at_call 13; exact later_of (writes_any _ _ _ _ _ _)) | (go_at_call 14; exact later_of (awake3_any _))))
        refine wpQuiet_nil ?_
        rintro _ ⟨u9, rfl⟩
        go_wp2
        go_ret
        exact ⟨rfl, btrans hB u9.is_⟩

set_option maxRecDepth 100000 in
theorem lifted (os : Os) (started : os.Started) (H : Type) (enc : TypeId × Value → H) :
    ReturnsInHanded {} Try.checked os 8 .any (Rows.effectOwnSpec.pre6 enc Try.prog Try.f8 Rows.effectOwnRow.domain false) (Rows.effectOwnSpec.post enc Try.prog Try.f8 false true false false) := by
  refine returnsInHanded_of_change (C := Try.checked) own started (by kernel_rfl) Try.func8
    (ChangeSpec.witness6 (enc := enc) (C := Try.checked) false ⟨#[], #[.agg #[.int .i64 0, .int .i64 0, .int .i64 0, .int .i64 0, .int .i64 0]], []⟩ 8 (by kernel_rfl) (by kernel_rfl) (by kernel_rfl) (by kernel_rfl)) ?_
  intro W base args ds gs before hval0 hW hcnd _
  have hval : ∀ (j : Nat) t v, Try.f8.params[j]? = some t → args[j]? = some v → Value.okWide Try.prog W .any base t v := hval0
  have hW' := hW
  obtain ⟨p, q, hA0, hV, rfl, hfz, hnd⟩ := hW
  have hA : DataW.TrodAll enc Try.prog W 0 (fun _ => true) true Try.f8.params.toList args.toList ds p := hA0
  rw [Try.params8] at hA hval
  obtain ⟨v0, vs0, d0, ds0, p0, q0, hargs, rfl, rfl, h0, r0⟩ := trodAll_cons hA
  obtain ⟨rfl, rfl, rfl⟩ := trodAll_nil r0
  obtain rfl : args = #[v0] := by cases args; simp_all
  obtain ⟨rfl, rfl⟩ := trodVars_none hV
  obtain ⟨o0, a0, b0, c0, i0, rfl, rfl, rfl, wo0, wa0, wb0, wc0, wi0⟩ := open_agg5i Try.underlying23 (by kernel_rfl) cells23 Try.underlying3 rfl rfl rfl rfl rfl (hval 0 23 v0 rfl rfl) h0
  clear hA0 hval0
  refine (walk o0 a0 b0 c0 i0 wo0 wa0 wb0 wc0 wi0 W).mono fun e W' ⟨he, bel⟩ => ?_
  subst he
  exact ⟨_, rfl, _, _, _, [], _, [], hW', trodAll_mk1 (shut_bool Try.underlying4 _), (trodAll_cons_mk (shut_agg5i Try.underlying23 (by kernel_rfl) cells23 Try.underlying3 rfl rfl rfl rfl rfl wo0 wa0 wb0 wc0 wi0) trodAll_mk0), rfl, bel.out.frame _, fun h => by cases h⟩

theorem over : Rows.effectOwnRow.holds Try.pinned (OpenSpec.ofChange Rows.effectOwnSpec) :=
  OpenClaim.holds_of_wide 8 Try.f8 rfl rfl rfl rfl rfl rfl rfl ⟨rfl, rfl, rfl, rfl, rfl⟩ rfl rfl rfl rfl rfl (by kernel_rfl) Try.func8 (by kernel_rfl)
    (of_decide_eq_true (by kernel_rfl)) (by unfold Func.isWrapper; first | (rw [if_pos (by decide +kernel)]; kernel_rfl) | (rw [if_neg (by decide +kernel)]; exact ⟨rfl, rfl⟩))
    (fun os started H enc _ => lifted os started H enc)

theorem proved : Rows.EffectOwnSaid :=
  over
#print axioms proved
end Go.Proofs.Ytabfcbckeldkjaa.effectOwn
