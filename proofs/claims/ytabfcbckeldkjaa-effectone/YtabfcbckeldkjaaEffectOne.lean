/-
  The law 'EffectOne' of delayslotlaw03 returns true at every instruction: what goes does not act; what is late acts; at most two registers are read; no one is 0.
  Conditions: none.
-/
import Derived.Test.YtabfcbckeldkjaaRows
import Derived.WalkKit
import Derived.ProofKit
import Derived.OpenShut
import Derived.ShutString
import Derived.ChangeOld
import Derived.Below
import Derived.Test.YtabfcbckeldkjaaAwake3
import Derived.Test.YtabfcbckeldkjaaRdFacts
import Derived.Test.YtabfcbckeldkjaaLater
namespace Go.Proofs.Ytabfcbckeldkjaa.effectOne
open Go.ChangeShapes Go.WideShapes Go.ChangeAt Go.RowKit
open Go.ChangeMaps (open_string shut_string)
set_option linter.unusedVariables false

theorem own : ownKnob Try.prog.godebug = none := by kernel_rfl
theorem cells23 : Try.prog.cellsOf 23 = 5 := by kernel_rfl

set_option maxHeartbeats 2000000 in
theorem walk (o0 a0 b0 c0 i0 : Int) (wo0 : (Lit.int .i64 o0).wf = true) (wa0 : (Lit.int .i64 a0).wf = true) (wb0 : (Lit.int .i64 b0).wf = true) (wc0 : (Lit.int .i64 c0).wf = true) (wi0 : (Lit.int .i64 i0).wf = true) (w : World) :
    Calls Try.prog 5 #[.agg #[.int .i64 o0, .int .i64 a0, .int .i64 b0, .int .i64 c0, .int .i64 i0]] w fun e w' => e = .returned (.bool true) ∧ Bel w w' := by
  have hl := len_bd o0 a0 b0 c0 i0
  have hel := el_bd o0 a0 b0 c0 i0
  obtain ⟨_, _, _, _, hw1, hw2⟩ := rd_bd o0 a0 b0 c0 i0
  have t0 : touchB o0 a0 b0 c0 i0 0 = false := by simp [touchB]
  have nb : Hid _ := not_both o0 a0 b0 c0 i0
  have la : Hid _ := late_acts o0 a0 b0 c0 i0
  go_enter Try.func5, Try.ntmps5
  go_wp2_with fail
  have hB : Bel w (w.alloc (Obj.cells #[.int .i64 o0, .int .i64 a0, .int .i64 b0, .int .i64 c0, .int .i64 i0] 23)) := (Bel.refl w).alloc _
  obtain ⟨c0', c1, c2, c3, c4⟩ := box5 w o0 a0 b0 c0 i0 23
  have hz := later_size (w := w.alloc (Obj.cells #[.int .i64 o0, .int .i64 a0, .int .i64 b0, .int .i64 c0, .int .i64 i0] 23)) (n := w.heap.size) (by simp)
  generalize w.alloc (Obj.cells #[.int .i64 o0, .int .i64 a0, .int .i64 b0, .int .i64 c0, .int .i64 i0] 23) = w1 at hB c0' c1 c2 c3 c4 hz ⊢
  haveI := Later.ne w1
  obtain ⟨u1, e0⟩ := later_start w1
  rw [← e0]
  clear e0
  go_wp2_with (go_at_call 9; refine (reads_any _ _ _ _ _ _).mono ?_; rintro e w2 ⟨v2, rfl, hown, hg2⟩; obtain ⟨ao, cap, rfl, hv⟩ := ints_view hown; obtain ⟨u2, rfl⟩ := later_next hg2; clear hown hg2)
  generalize rdL o0 a0 b0 c0 i0 = L at hl hel hv ⊢
  go_loop [11] (fun k => ∃ j : Nat, j ≤ L.length ∧ k = .int .i64 j) (fun k => L.length - (intOf k).toNat)
  case atStart => exact ⟨0, Nat.zero_le _, rfl⟩
  case round =>
    obtain ⟨j, hj, rfl⟩ := hrel
    by_cases hlt : j < L.length
    · obtain ⟨g, rfl, q1, q2, q3, q4, q5⟩ := hv (by omega)
      obtain ⟨r1, r2⟩ := hel j hlt
      have q6 := q5 j hlt
      generalize L.getD j 0 = x at q6 r1 r2
      clear q5 hv hel
      go_wp2
      go_round
      case rel => exact ⟨j + 1, by omega, by go_num⟩
      case measure => simp [intOf]; omega
    · clear hv hel
      cases hG : goesB o0 a0 b0 c0 i0 <;> cases hA : actsB o0 a0 b0 c0 i0 <;> cases hLt : lateB o0 a0 b0 c0 i0
      all_goals
        first
          | (exfalso; have h1 := nb.out; have h2 := la.out; simp [hG, hA, hLt] at h1 h2; done)
          | (clear nb la
             go_wp2_with (first | (go_at_call 13; refine (later_of (writes_any _ _ _ _ _ _)).mono ?_; rintro e _ ⟨rfl, u3, rfl⟩) | (go_at_call 15; refine (later_of (acts_any _ _ _ _ _ _)).mono ?_; rintro e _ ⟨rfl, u4, rfl⟩) | (go_at_call 17; refine (later_of (goes_any _ _ _ _ _ _)).mono ?_; rintro e _ ⟨rfl, u5, rfl⟩) | (go_at_call 19; refine (later_of (late_any _ _ _ _ _ _)).mono ?_; rintro e _ ⟨rfl, u6, rfl⟩) | (go_at_call 11; refine (later_of (touches_any _ _ _ _ _ _ _)).mono ?_; rintro e _ ⟨rfl, u7, rfl⟩) | (go_at_call 14; refine (later_of (awake3_any _)).mono ?_; rintro e _ ⟨rfl, u8, rfl⟩))
             go_ret
             exact ⟨rfl, btrans hB u8.is_⟩)

set_option maxRecDepth 100000 in
theorem lifted (os : Os) (started : os.Started) (H : Type) (enc : TypeId × Value → H) :
    ReturnsInHanded {} Try.checked os 5 .any (Rows.effectOneSpec.pre6 enc Try.prog Try.f5 Rows.effectOneRow.domain false) (Rows.effectOneSpec.post enc Try.prog Try.f5 false true false false) := by
  refine returnsInHanded_of_change (C := Try.checked) own started (by kernel_rfl) Try.func5
    (ChangeSpec.witness6 (enc := enc) (C := Try.checked) false ⟨#[], #[.agg #[.int .i64 0, .int .i64 0, .int .i64 0, .int .i64 0, .int .i64 0]], []⟩ 8 (by kernel_rfl) (by kernel_rfl) (by kernel_rfl) (by kernel_rfl)) ?_
  intro W base args ds gs before hval0 hW hcnd _
  have hval : ∀ (j : Nat) t v, Try.f5.params[j]? = some t → args[j]? = some v → Value.okWide Try.prog W .any base t v := hval0
  have hW' := hW
  obtain ⟨p, q, hA0, hV, rfl, hfz, hnd⟩ := hW
  have hA : DataW.TrodAll enc Try.prog W 0 (fun _ => true) true Try.f5.params.toList args.toList ds p := hA0
  rw [Try.params5] at hA hval
  obtain ⟨v0, vs0, d0, ds0, p0, q0, hargs, rfl, rfl, h0, r0⟩ := trodAll_cons hA
  obtain ⟨rfl, rfl, rfl⟩ := trodAll_nil r0
  obtain rfl : args = #[v0] := by cases args; simp_all
  obtain ⟨rfl, rfl⟩ := trodVars_none hV
  obtain ⟨o0, a0, b0, c0, i0, rfl, rfl, rfl, wo0, wa0, wb0, wc0, wi0⟩ := open_agg5i Try.underlying23 (by kernel_rfl) cells23 Try.underlying3 rfl rfl rfl rfl rfl (hval 0 23 v0 rfl rfl) h0
  clear hA0 hval0
  refine (walk o0 a0 b0 c0 i0 wo0 wa0 wb0 wc0 wi0 W).mono fun e W' ⟨he, bel⟩ => ?_
  subst he
  exact ⟨_, rfl, _, _, _, [], _, [], hW', trodAll_mk1 (shut_bool Try.underlying4 _), (trodAll_cons_mk (shut_agg5i Try.underlying23 (by kernel_rfl) cells23 Try.underlying3 rfl rfl rfl rfl rfl wo0 wa0 wb0 wc0 wi0) trodAll_mk0), rfl, bel.out.frame _, fun h => by cases h⟩

theorem over : Rows.effectOneRow.holds Try.pinned (OpenSpec.ofChange Rows.effectOneSpec) :=
  OpenClaim.holds_of_wide 5 Try.f5 rfl rfl rfl rfl rfl rfl rfl ⟨rfl, rfl, rfl, rfl, rfl⟩ rfl rfl rfl rfl rfl (by kernel_rfl) Try.func5 (by kernel_rfl)
    (of_decide_eq_true (by kernel_rfl)) (by unfold Func.isWrapper; first | (rw [if_pos (by decide +kernel)]; kernel_rfl) | (rw [if_neg (by decide +kernel)]; exact ⟨rfl, rfl⟩))
    (fun os started H enc _ => lifted os started H enc)

theorem proved : Rows.EffectOneSaid :=
  over
#print axioms proved
end Go.Proofs.Ytabfcbckeldkjaa.effectOne
