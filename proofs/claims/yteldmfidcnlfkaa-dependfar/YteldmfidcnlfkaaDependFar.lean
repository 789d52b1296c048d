/-
  The law 'DependFar' of delayslotlaw10 returns true at every two instructions: how far the one must stay ahead of the other one is told as the document says.
  Conditions: none.
-/
import Derived.Test.YteldmfidcnlfkaaRows
import Derived.WalkKit
import Derived.ProofKit
import Derived.OpenShut
import Derived.ShutString
import Derived.ChangeOld
import Derived.Below
import Derived.Carry
import Derived.Test.YteldmfidcnlfkaaWk10
namespace Go.Proofs.Yteldmfidcnlfkaa.dependFar
open Go.ChangeShapes Go.WideShapes Go.ChangeAt Go.RowKit
open Go.ChangeMaps (open_string shut_string)
set_option linter.unusedVariables false

theorem laidOut : laidOutB Try.prog = true := by kernel_rfl
theorem own : ownKnob Try.prog.godebug = none := by kernel_rfl
theorem cells23 : Try.prog.cellsOf 23 = 5 := by kernel_rfl

set_option maxRecDepth 20000 in
set_option maxHeartbeats 2000000 in
theorem walk (w : World) (o0 a0 b0 c0 i0 : Int) (wo0 : (Lit.int .i64 o0).wf = true) (wa0 : (Lit.int .i64 a0).wf = true) (wb0 : (Lit.int .i64 b0).wf = true) (wc0 : (Lit.int .i64 c0).wf = true) (wi0 : (Lit.int .i64 i0).wf = true) (o1 a1 b1 c1 i1 : Int) (wo1 : (Lit.int .i64 o1).wf = true) (wa1 : (Lit.int .i64 a1).wf = true) (wb1 : (Lit.int .i64 b1).wf = true) (wc1 : (Lit.int .i64 c1).wf = true) (wi1 : (Lit.int .i64 i1).wf = true) :
    Calls Try.prog 3 #[.agg #[.int .i64 o0, .int .i64 a0, .int .i64 b0, .int .i64 c0, .int .i64 i0], .agg #[.int .i64 o1, .int .i64 a1, .int .i64 b1, .int .i64 c1, .int .i64 i1]] w fun e w' => e = .returned (.bool true) ∧ Bel w w' := by
  obtain ⟨wB, eB, hB, ⟨p0, p1, p2, p3, p4⟩, ⟨q0, q1, q2, q3, q4⟩⟩ := two_boxes w o0 a0 b0 c0 i0 o1 a1 b1 c1 i1
  have hp := far_gen o0 a0 b0 c0 i0 o1 a1 b1 c1 i1
  have hr := refFar_gen o0 a0 b0 c0 i0 o1 a1 b1 c1 i1
  generalize farI ⟨o0, a0, b0, c0, i0⟩ ⟨o1, a1, b1, c1, i1⟩ = d at hp hr
  have EB := hidm eB
  clear eB
  go_enter Try.func3, Try.ntmps3
  go_wp2_with fail
  rw [EB.out]
  haveI := Later.ne wB
  obtain ⟨u1, e1⟩ := later_start wB
  rw [← e1]
  clear e1
  refine wp_region_later (by kernel_rfl) (by kernel_rfl) ?_
  repeat (go_big_quiet_step (first | (go_at_call 10; exact later_of (hp _)) | (go_at_call 11; exact later_of (hr _)) | (go_at_call 12; exact later_of (awake_any _))))
  refine wpQuiet_nil ?_
  rintro _ ⟨u2, rfl⟩
  go_wp2
  go_ret
  exact ⟨rfl, btrans hB u2.is_⟩

set_option maxRecDepth 100000 in
theorem lifted (os : Os) (started : os.Started) (H : Type) (enc : TypeId × Value → H) :
    ReturnsInHanded {} Try.checked os 3 .any (Rows.dependFarSpec.pre6 enc Try.prog Try.f3 Rows.dependFarRow.domain false) (Rows.dependFarSpec.post enc Try.prog Try.f3 false true false false) := by
  refine returnsInHanded_of_change (C := Try.checked) own started (by kernel_rfl) Try.func3
    (ChangeSpec.witness6 (enc := enc) (C := Try.checked) false ⟨#[], #[.agg #[.int .i64 0, .int .i64 0, .int .i64 0, .int .i64 0, .int .i64 0], .agg #[.int .i64 0, .int .i64 0, .int .i64 0, .int .i64 0, .int .i64 0]], []⟩ 8 (by kernel_rfl) (by kernel_rfl) (by kernel_rfl) (by kernel_rfl)) ?_
  intro W base args ds gs before hval0 hW hcnd _
  have hval : ∀ (j : Nat) t v, Try.f3.params[j]? = some t → args[j]? = some v → Value.okWide Try.prog W .any base t v := hval0
  have hW' := hW
  obtain ⟨p, q, hA0, hV, rfl, hfz, hnd⟩ := hW
  have hA : DataW.TrodAll enc Try.prog W 0 (fun _ => true) true Try.f3.params.toList args.toList ds p := hA0
  rw [Try.params3] at hA hval
  obtain ⟨v0, vs0, d0, ds0, p0, q0, hargs, rfl, rfl, h0, r0⟩ := trodAll_cons hA
  obtain ⟨v1, vs1, d1, ds1, p1, q1, rfl, rfl, rfl, h1, r1⟩ := trodAll_cons r0
  obtain ⟨rfl, rfl, rfl⟩ := trodAll_nil r1
  obtain rfl : args = #[v0, v1] := by cases args; simp_all
  obtain ⟨rfl, rfl⟩ := trodVars_none hV
  obtain ⟨o0, a0, b0, c0, i0, rfl, rfl, rfl, wo0, wa0, wb0, wc0, wi0⟩ := open_agg5i Try.underlying23 (by kernel_rfl) cells23 Try.underlying3 rfl rfl rfl rfl rfl (hval 0 23 v0 rfl rfl) h0
  obtain ⟨o1, a1, b1, c1, i1, rfl, rfl, rfl, wo1, wa1, wb1, wc1, wi1⟩ := open_agg5i Try.underlying23 (by kernel_rfl) cells23 Try.underlying3 rfl rfl rfl rfl rfl (hval 1 23 v1 rfl rfl) h1
  clear hA0 hval0
  refine (walk W o0 a0 b0 c0 i0 wo0 wa0 wb0 wc0 wi0 o1 a1 b1 c1 i1 wo1 wa1 wb1 wc1 wi1).mono fun e W' ⟨he, bel⟩ => ?_
  subst he
  exact ⟨_, rfl, _, _, _, [], _, [], hW', trodAll_mk1 (shut_bool Try.underlying4 _), (trodAll_cons_mk (shut_agg5i Try.underlying23 (by kernel_rfl) cells23 Try.underlying3 rfl rfl rfl rfl rfl wo0 wa0 wb0 wc0 wi0) (trodAll_cons_mk (shut_agg5i Try.underlying23 (by kernel_rfl) cells23 Try.underlying3 rfl rfl rfl rfl rfl wo1 wa1 wb1 wc1 wi1) trodAll_mk0)), rfl, bel.out.frame _, fun h => by cases h⟩

theorem over : Rows.dependFarRow.holds Try.pinned (OpenSpec.ofChange Rows.dependFarSpec) :=
  OpenClaim.holds_of_wide 3 Try.f3 rfl rfl rfl rfl rfl rfl rfl ⟨rfl, rfl, rfl, rfl, rfl⟩ rfl rfl rfl rfl rfl (by kernel_rfl) Try.func3 (by kernel_rfl)
    (of_decide_eq_true (by kernel_rfl)) (by unfold Func.isWrapper; first | (rw [if_pos (by decide +kernel)]; kernel_rfl) | (rw [if_neg (by decide +kernel)]; exact ⟨rfl, rfl⟩))
    (fun os started H enc _ => lifted os started H enc)

theorem proved : Rows.DependFarSaid :=
  over
#print axioms proved
end Go.Proofs.Yteldmfidcnlfkaa.dependFar
