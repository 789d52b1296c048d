/-
  The law 'EffectStops' of delayslotlaw03 returns true at all arguments: of an instruction whose A is -1 nothing is told.
  Conditions: none.
-/
import Derived.Test.YtabfcbckeldkjaaRows
import Derived.WalkKit
import Derived.ProofKit
import Derived.OpenShut
import Derived.ShutString
import Derived.ChangeOld
import Derived.Below
import Derived.Test.YtabfcbckeldkjaaAwake3
import Derived.Test.YtabfcbckeldkjaaRdFacts
import Derived.Test.YtabfcbckeldkjaaLater
namespace Go.Proofs.Ytabfcbckeldkjaa.effectStops
open Go.ChangeShapes Go.WideShapes Go.ChangeAt Go.RowKit
open Go.ChangeMaps (open_string shut_string)
set_option linter.unusedVariables false

theorem own : ownKnob Try.prog.godebug = none := by kernel_rfl
theorem cells23 : Try.prog.cellsOf 23 = 5 := by kernel_rfl
theorem stops {o b c i : Int} : rightB o (-1) b c i = false := by
  cases h : rightB o (-1) b c i
  · rfl
  · have := (right_bd h).2.2.1
    omega
theorem noL {o b c i : Int} : rdL o (-1) b c i = [] := by
  have h1 : rd1 o (-1) b c i = 0 := by simp [rd1, stops]
  have h2 : rd2 o (-1) b c i = 0 := by simp [rd2, stops]
  unfold rdL
  rw [h1, h2]
  decide

set_option maxHeartbeats 2000000 in
theorem walk (o0 a0 b0 c0 i0 : Int) (wo0 : (Lit.int .i64 o0).wf = true) (wa0 : (Lit.int .i64 a0).wf = true) (wb0 : (Lit.int .i64 b0).wf = true) (wc0 : (Lit.int .i64 c0).wf = true) (wi0 : (Lit.int .i64 i0).wf = true) (x1 : Int) (wx1 : (Lit.int .i64 x1).wf = true) (w : World) :
    Calls Try.prog 7 #[.agg #[.int .i64 o0, .int .i64 a0, .int .i64 b0, .int .i64 c0, .int .i64 i0], .int .i64 x1] w fun e w' => e = .returned (.bool true) ∧ Bel w w' := by
  have hL : Hid (rdL o0 (-1) b0 c0 i0 = []) := noL
  have e1 : wr1 o0 (-1) b0 c0 i0 = 0 := by simp [wr1, stops]
  have e2 : actsB o0 (-1) b0 c0 i0 = false := by simp [actsB, stops]
  have e3 : goesB o0 (-1) b0 c0 i0 = false := by simp [goesB, stops]
  have e4 : lateB o0 (-1) b0 c0 i0 = false := by simp [lateB, stops]
  have e5 : touchB o0 (-1) b0 c0 i0 x1 = false := by simp [touchB, rd1, rd2, wr1, stops]
  go_enter Try.func7, Try.ntmps7
  go_wp2_with fail
  have hB : Bel w (w.alloc (Obj.cells #[.int .i64 o0, .int .i64 (-1), .int .i64 b0, .int .i64 c0, .int .i64 i0] 23)) := (Bel.refl w).alloc _
  obtain ⟨c0', c1, c2, c3, c4⟩ := box5 w o0 (-1) b0 c0 i0 23
  have hz := later_size (w := w.alloc (Obj.cells #[.int .i64 o0, .int .i64 (-1), .int .i64 b0, .int .i64 c0, .int .i64 i0] 23)) (n := w.heap.size) (by simp)
  generalize w.alloc (Obj.cells #[.int .i64 o0, .int .i64 (-1), .int .i64 b0, .int .i64 c0, .int .i64 i0] 23) = w1 at hB c0' c1 c2 c3 c4 hz ⊢
  haveI := Later.ne w1
  obtain ⟨u1, e0⟩ := later_start w1
  rw [← e0]
  clear e0
  go_wp2_with (first | (go_at_call 9; refine (reads_any _ _ _ _ _ _).mono ?_; rintro e w2 ⟨v2, rfl, hown, hg2⟩; rw [hL.out] at hown; obtain ⟨a2, cap2, rfl⟩ := ints_nil hown; obtain ⟨u2, rfl⟩ := later_next hg2; clear hown hg2) | (go_at_call 13; refine (later_of (writes_any _ _ _ _ _ _)).mono ?_; rintro e _ ⟨rfl, u3, rfl⟩) | (go_at_call 15; refine (later_of (acts_any _ _ _ _ _ _)).mono ?_; rintro e _ ⟨rfl, u4, rfl⟩) | (go_at_call 17; refine (later_of (goes_any _ _ _ _ _ _)).mono ?_; rintro e _ ⟨rfl, u5, rfl⟩) | (go_at_call 19; refine (later_of (late_any _ _ _ _ _ _)).mono ?_; rintro e _ ⟨rfl, u6, rfl⟩) | (go_at_call 11; refine (later_of (touches_any _ _ _ _ _ _ _)).mono ?_; rintro e _ ⟨rfl, u7, rfl⟩) | (go_at_call 14; refine (later_of (awake3_any _)).mono ?_; rintro e _ ⟨rfl, u8, rfl⟩))
  go_ret
  exact ⟨rfl, btrans hB u8.is_⟩

set_option maxRecDepth 100000 in
theorem lifted (os : Os) (started : os.Started) (H : Type) (enc : TypeId × Value → H) :
    ReturnsInHanded {} Try.checked os 7 .any (Rows.effectStopsSpec.pre6 enc Try.prog Try.f7 Rows.effectStopsRow.domain false) (Rows.effectStopsSpec.post enc Try.prog Try.f7 false true false false) := by
  refine returnsInHanded_of_change (C := Try.checked) own started (by kernel_rfl) Try.func7
    (ChangeSpec.witness6 (enc := enc) (C := Try.checked) false ⟨#[], #[.agg #[.int .i64 0, .int .i64 0, .int .i64 0, .int .i64 0, .int .i64 0], .int .i64 0], []⟩ 8 (by kernel_rfl) (by kernel_rfl) (by kernel_rfl) (by kernel_rfl)) ?_
  intro W base args ds gs before hval0 hW hcnd _
  have hval : ∀ (j : Nat) t v, Try.f7.params[j]? = some t → args[j]? = some v → Value.okWide Try.prog W .any base t v := hval0
  have hW' := hW
  obtain ⟨p, q, hA0, hV, rfl, hfz, hnd⟩ := hW
  have hA : DataW.TrodAll enc Try.prog W 0 (fun _ => true) true Try.f7.params.toList args.toList ds p := hA0
  rw [Try.params7] at hA hval
  obtain ⟨v0, vs0, d0, ds0, p0, q0, hargs, rfl, rfl, h0, r0⟩ := trodAll_cons hA
  obtain ⟨v1, vs1, d1, ds1, p1, q1, rfl, rfl, rfl, h1, r1⟩ := trodAll_cons r0
  obtain ⟨rfl, rfl, rfl⟩ := trodAll_nil r1
  obtain rfl : args = #[v0, v1] := by cases args; simp_all
  obtain ⟨rfl, rfl⟩ := trodVars_none hV
  obtain ⟨o0, a0, b0, c0, i0, rfl, rfl, rfl, wo0, wa0, wb0, wc0, wi0⟩ := open_agg5i Try.underlying23 (by kernel_rfl) cells23 Try.underlying3 rfl rfl rfl rfl rfl (hval 0 23 v0 rfl rfl) h0
  obtain ⟨x1, rfl, rfl, rfl, wx1⟩ := open_int Try.underlying3 (hval 1 3 v1 rfl rfl) h1
  clear hA0 hval0
  refine (walk o0 a0 b0 c0 i0 wo0 wa0 wb0 wc0 wi0 x1 wx1 W).mono fun e W' ⟨he, bel⟩ => ?_
  subst he
  exact ⟨_, rfl, _, _, _, [], _, [], hW', trodAll_mk1 (shut_bool Try.underlying4 _), (trodAll_cons_mk (shut_agg5i Try.underlying23 (by kernel_rfl) cells23 Try.underlying3 rfl rfl rfl rfl rfl wo0 wa0 wb0 wc0 wi0) (trodAll_cons_mk (shut_int Try.underlying3 wx1) trodAll_mk0)), rfl, bel.out.frame _, fun h => by cases h⟩

theorem over : Rows.effectStopsRow.holds Try.pinned (OpenSpec.ofChange Rows.effectStopsSpec) :=
  OpenClaim.holds_of_wide 7 Try.f7 rfl rfl rfl rfl rfl rfl rfl ⟨rfl, rfl, rfl, rfl, rfl⟩ rfl rfl rfl rfl rfl (by kernel_rfl) Try.func7 (by kernel_rfl)
    (of_decide_eq_true (by kernel_rfl)) (by unfold Func.isWrapper; first | (rw [if_pos (by decide +kernel)]; kernel_rfl) | (rw [if_neg (by decide +kernel)]; exact ⟨rfl, rfl⟩))
    (fun os started H enc _ => lifted os started H enc)

theorem proved : Rows.EffectStopsSaid :=
  over
#print axioms proved
end Go.Proofs.Ytabfcbckeldkjaa.effectStops
