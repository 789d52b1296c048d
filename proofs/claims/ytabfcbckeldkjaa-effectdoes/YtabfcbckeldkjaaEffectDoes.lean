/-
  The law 'EffectDoes' of delayslotlaw03 returns true at every instruction: whether it acts, goes, or is late, is told as the document says.
  Conditions: none.
-/
import Derived.Test.YtabfcbckeldkjaaRows
import Derived.WalkKit
import Derived.ProofKit
import Derived.OpenShut
import Derived.ShutString
import Derived.ChangeOld
import Derived.Below
import Derived.Test.YtabfcbckeldkjaaAwake3
import Derived.Test.YtabfcbckeldkjaaRdFacts
import Derived.Test.YtabfcbckeldkjaaLater
namespace Go.Proofs.Ytabfcbckeldkjaa.effectDoes
open Go.ChangeShapes Go.WideShapes Go.ChangeAt Go.RowKit
open Go.ChangeMaps (open_string shut_string)
set_option linter.unusedVariables false

theorem own : ownKnob Try.prog.godebug = none := by kernel_rfl
theorem cells23 : Try.prog.cellsOf 23 = 5 := by kernel_rfl

set_option maxHeartbeats 2000000 in
theorem walk (o0 a0 b0 c0 i0 : Int) (wo0 : (Lit.int .i64 o0).wf = true) (wa0 : (Lit.int .i64 a0).wf = true) (wb0 : (Lit.int .i64 b0).wf = true) (wc0 : (Lit.int .i64 c0).wf = true) (wi0 : (Lit.int .i64 i0).wf = true) (w : World) :
    Calls Try.prog 4 #[.agg #[.int .i64 o0, .int .i64 a0, .int .i64 b0, .int .i64 c0, .int .i64 i0]] w fun e w' => e = .returned (.bool true) ∧ Bel w w' := by
  go_enter Try.func4, Try.ntmps4
  go_wp2_with fail
  have hB : Bel w (w.alloc (Obj.cells #[.int .i64 o0, .int .i64 a0, .int .i64 b0, .int .i64 c0, .int .i64 i0] 23)) := (Bel.refl w).alloc _
  obtain ⟨c0', c1, c2, c3, c4⟩ := box5 w o0 a0 b0 c0 i0 23
  generalize w.alloc (Obj.cells #[.int .i64 o0, .int .i64 a0, .int .i64 b0, .int .i64 c0, .int .i64 i0] 23) = w1 at hB c0' c1 c2 c3 c4 ⊢
  haveI := Later.ne w1
  obtain ⟨u1, e1⟩ := later_start w1
  rw [← e1]
  clear e1
  refine wp_region_later (by kernel_rfl) (by kernel_rfl) ?_
  repeat (go_big_quiet_step (first | (go_at_call 15; exact later_of (acts_any _ _ _ _ _ _)) | (go_at_call 17; exact later_of (goes_any _ _ _ _ _ _)) | (go_at_call 19; exact later_of (late_any _ _ _ _ _ _)) | (go_at_call 16; exact later_of (refActs_any _ _ _ _ _ _)) | (go_at_call 18; exact later_of (refGoes_any _ _ _ _ _ _)) | (go_at_call 20; exact later_of (refLate_any _ _ _ _ _ _)) | (go_at_call 14; exact later_of (awake3_any _))))
  refine wpQuiet_nil ?_
  rintro _ ⟨u2, rfl⟩
  go_wp2
  go_ret
  exact ⟨rfl, btrans hB u2.is_⟩

set_option maxRecDepth 100000 in
theorem lifted (os : Os) (started : os.Started) (H : Type) (enc : TypeId × Value → H) :
    ReturnsInHanded {} Try.checked os 4 .any (Rows.effectDoesSpec.pre6 enc Try.prog Try.f4 Rows.effectDoesRow.domain false) (Rows.effectDoesSpec.post enc Try.prog Try.f4 false true false false) := by
  refine returnsInHanded_of_change (C := Try.checked) own started (by kernel_rfl) Try.func4
    (ChangeSpec.witness6 (enc := enc) (C := Try.checked) false ⟨#[], #[.agg #[.int .i64 0, .int .i64 0, .int .i64 0, .int .i64 0, .int .i64 0]], []⟩ 8 (by kernel_rfl) (by kernel_rfl) (by kernel_rfl) (by kernel_rfl)) ?_
  intro W base args ds gs before hval0 hW hcnd _
  have hval : ∀ (j : Nat) t v, Try.f4.params[j]? = some t → args[j]? = some v → Value.okWide Try.prog W .any base t v := hval0
  have hW' := hW
  obtain ⟨p, q, hA0, hV, rfl, hfz, hnd⟩ := hW
  have hA : DataW.TrodAll enc Try.prog W 0 (fun _ => true) true Try.f4.params.toList args.toList ds p := hA0
  rw [Try.params4] at hA hval
  obtain ⟨v0, vs0, d0, ds0, p0, q0, hargs, rfl, rfl, h0, r0⟩ := trodAll_cons hA
  obtain ⟨rfl, rfl, rfl⟩ := trodAll_nil r0
  obtain rfl : args = #[v0] := by cases args; simp_all
  obtain ⟨rfl, rfl⟩ := trodVars_none hV
  obtain ⟨o0, a0, b0, c0, i0, rfl, rfl, rfl, wo0, wa0, wb0, wc0, wi0⟩ := open_agg5i Try.underlying23 (by kernel_rfl) cells23 Try.underlying3 rfl rfl rfl rfl rfl (hval 0 23 v0 rfl rfl) h0
  clear hA0 hval0
  refine (walk o0 a0 b0 c0 i0 wo0 wa0 wb0 wc0 wi0 W).mono fun e W' ⟨he, bel⟩ => ?_
  subst he
  exact ⟨_, rfl, _, _, _, [], _, [], hW', trodAll_mk1 (shut_bool Try.underlying4 _), (trodAll_cons_mk (shut_agg5i Try.underlying23 (by kernel_rfl) cells23 Try.underlying3 rfl rfl rfl rfl rfl wo0 wa0 wb0 wc0 wi0) trodAll_mk0), rfl, bel.out.frame _, fun h => by cases h⟩

theorem over : Rows.effectDoesRow.holds Try.pinned (OpenSpec.ofChange Rows.effectDoesSpec) :=
  OpenClaim.holds_of_wide 4 Try.f4 rfl rfl rfl rfl rfl rfl rfl ⟨rfl, rfl, rfl, rfl, rfl⟩ rfl rfl rfl rfl rfl (by kernel_rfl) Try.func4 (by kernel_rfl)
    (of_decide_eq_true (by kernel_rfl)) (by unfold Func.isWrapper; first | (rw [if_pos (by decide +kernel)]; kernel_rfl) | (rw [if_neg (by decide +kernel)]; exact ⟨rfl, rfl⟩))
    (fun os started H enc _ => lifted os started H enc)

theorem proved : Rows.EffectDoesSaid :=
  over
#print axioms proved
end Go.Proofs.Ytabfcbckeldkjaa.effectDoes
