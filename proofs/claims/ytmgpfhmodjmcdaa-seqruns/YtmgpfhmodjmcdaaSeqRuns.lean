/-
  The law 'SeqRuns' of delayslotlaw07 returns true at all code, memory, input and fuel: a run does what the document's own machine does.
  Conditions: none.
-/
import Derived.Test.YtmgpfhmodjmcdaaRows
import Derived.WalkKit
import Derived.ProofKit
import Derived.OpenShut
import Derived.ShutString
import Derived.ChangeOld
import Derived.Below
import Derived.Carry
import Derived.Test.YtmgpfhmodjmcdaaRz
import Derived.Test.YtmgpfhmodjmcdaaAwk7
namespace Go.Proofs.Ytmgpfhmodjmcdaa.seqRuns
open Go.ChangeShapes Go.WideShapes Go.ChangeAt Go.RowKit
open Go.ChangeMaps (open_string shut_string)
set_option linter.unusedVariables false

theorem laidOut : laidOutB Try.prog = true := by kernel_rfl
theorem own : ownKnob Try.prog.godebug = none := by kernel_rfl

set_option maxRecDepth 20000 in
set_option maxHeartbeats 2000000 in
theorem walk (w : World) (y0 : Value) (X0 : List Ins) (wy0 : Code w y0 X0) (x1 : Int) (wx1 : (Lit.int .i64 x1).wf = true) (y2 : Value) (X2 : List Int) (wy2 : IntsC w y2 X2) (vy2 : ∀ x ∈ X2, (Lit.int .i64 x).wf = true) (x3 : Int) (wx3 : (Lit.int .i64 x3).wf = true) :
    Calls Try.prog 3 #[y0, .int .i64 x1, y2, .int .i64 x3] w fun e w' => e = .returned (.bool true) ∧ Bel w w' := by
  have hI := vy2
  obtain ⟨ao, ca, rfl, hc0⟩ := id wy0
  obtain ⟨ai, ci, rfl, hc2⟩ := id wy2
  have HV := hidm wy0
  have HI := hidm wy2
  have HII := hidm hI
  clear wy0 wy2 hc0 hc2 hI vy2
  by_cases hs : smallB X0.length x1 X2.length x3 = true
  · obtain ⟨s1, s2, s3, s4⟩ := small_of hs
    go_enter Try.func3, Try.ntmps3
    go_wp2_with (first
      | (go_at_call 13; refine (small_any _ _ _ _ _ _ _ _ _).mono ?_; rintro e w' ⟨rfl, rfl⟩; rw [hs])
      | (go_at_call 16; refine (run_said X0 _ _ x1 x3 X2 _ (Hid.out HV) (Hid.out HI) (by omega) (by omega)).mono ?_; rintro e w1 ⟨t, k, O, M, ao1, ca1, am1, cm1, hS, rfl, o1, m1, b1, lo1, lm1, lk1⟩; have HS := hidm hS; have O1 := hidm o1; have M1 := hidm m1; have B1 := hidm b1; clear hS o1 m1 b1)
      | (go_at_call 17; refine (refrun_said X0 _ _ x1 x3 X2 _ (Code.stay (Hid.out HV) (Hid.out B1)) (IntsC.bel (Hid.out HI) (Hid.out B1)) (Hid.out HII) (by omega) (by omega)).mono ?_; rintro e w2 ⟨t', k', O', M', ao', ca', am', cm', hS', rfl, o2, m2, b2⟩; obtain ⟨rfl, rfl, rfl, rfl⟩ := said_one (Hid.out HS) hS'; have O2 := hidm o2; have M2 := hidm m2; have B2 := hidm b2; clear hS' o2 m2 b2)
      | (go_at_call 15; refine (equal_true t' k' _ _ _ _ O' M' _ ((Hid.out O1).bel (Hid.out B2)) (Hid.out O2) ((Hid.out M1).bel (Hid.out B2)) (Hid.out M2) (by omega) (by omega)).mono ?_; rintro e w3 ⟨rfl, b3⟩)
      | (go_at_call 14; refine (awake_any _).mono ?_; rintro e w4 ⟨rfl, b4⟩))
    go_ret
    exact ⟨rfl, btrans (btrans (btrans (Hid.out B1) (Hid.out B2)) b3) b4⟩
  · have hs' : smallB X0.length x1 X2.length x3 = false := by simpa using hs
    go_enter Try.func3, Try.ntmps3
    go_wp2_with (first
      | (go_at_call 13; refine (small_any _ _ _ _ _ _ _ _ _).mono ?_; rintro e w' ⟨rfl, rfl⟩; rw [hs'])
      | (go_at_call 14; refine (awake_any _).mono ?_; rintro e w4 ⟨rfl, b4⟩))
    go_ret
    exact ⟨rfl, b4⟩

set_option maxRecDepth 100000 in
theorem lifted (os : Os) (started : os.Started) (H : Type) (enc : TypeId × Value → H) :
    ReturnsInHanded {} Try.checked os 3 .any (Rows.seqRunsSpec.pre6 enc Try.prog Try.f3 Rows.seqRunsRow.domain false) (Rows.seqRunsSpec.post enc Try.prog Try.f3 false true false false) := by
  refine returnsInHanded_of_change (C := Try.checked) own started (by kernel_rfl) Try.func3
    (ChangeSpec.witness6 (enc := enc) (C := Try.checked) false ⟨#[], #[.slice none 0 0, .int .i64 0, .slice none 0 0, .int .i64 0], []⟩ 8 (by kernel_rfl) (by kernel_rfl) (by kernel_rfl) (by kernel_rfl)) ?_
  intro W base args ds gs before hval0 hW hcnd _
  have hval : ∀ (j : Nat) t v, Try.f3.params[j]? = some t → args[j]? = some v → Value.okWide Try.prog W .any base t v := hval0
  have hW' := hW
  obtain ⟨p, q, hA0, hV, rfl, hfz, hnd⟩ := hW
  have hA : DataW.TrodAll enc Try.prog W 0 (fun _ => true) true Try.f3.params.toList args.toList ds p := hA0
  rw [Try.params3] at hA hval
  obtain ⟨v0, vs0, d0, ds0, p0, q0, hargs, rfl, rfl, h0, r0⟩ := trodAll_cons hA
  obtain ⟨v1, vs1, d1, ds1, p1, q1, rfl, rfl, rfl, h1, r1⟩ := trodAll_cons r0
  obtain ⟨v2, vs2, d2, ds2, p2, q2, rfl, rfl, rfl, h2, r2⟩ := trodAll_cons r1
  obtain ⟨v3, vs3, d3, ds3, p3, q3, rfl, rfl, rfl, h3, r3⟩ := trodAll_cons r2
  obtain ⟨rfl, rfl, rfl⟩ := trodAll_nil r3
  obtain rfl : args = #[v0, v1, v2, v3] := by cases args; simp_all
  obtain ⟨rfl, rfl⟩ := trodVars_none hV
  have k0 := h0
  have lt0 : ∀ x ∈ p0, x.block < W.heap.size := by obtain ⟨m, hm⟩ := k0; exact DataW.trod_lt m _ _ _ hm
  obtain ⟨X0, wy0⟩ := open_code (hval 0 22 v0 rfl rfl) h0
  obtain ⟨x1, rfl, rfl, rfl, wx1⟩ := open_int Try.underlying3 (hval 1 3 v1 rfl rfl) h1
  have k2 := h2
  have lt2 : ∀ x ∈ p2, x.block < W.heap.size := by obtain ⟨m, hm⟩ := k2; exact DataW.trod_lt m _ _ _ hm
  obtain ⟨X2, wy2, vy2⟩ := open_intsC Try.underlying23 Try.underlying3 (by kernel_rfl) (hval 2 23 v2 rfl rfl) h2
  obtain ⟨x3, rfl, rfl, rfl, wx3⟩ := open_int Try.underlying3 (hval 3 3 v3 rfl rfl) h3
  clear hA0 hval0
  refine (walk W v0 X0 wy0 x1 wx1 v2 X2 wy2 vy2 x3 wx3).mono fun e W' ⟨he, bel⟩ => ?_
  subst he
  exact ⟨_, rfl, _, _, _, [], _, [], hW', trodAll_mk1 (shut_bool Try.underlying4 _), (trodAll_cons_mk (Below.trod laidOut (by kernel_rfl) (of_decide_eq_true (by kernel_rfl)) k0 bel.out lt0) (trodAll_cons_mk (shut_int Try.underlying3 wx1) (trodAll_cons_mk (Below.trod laidOut (by kernel_rfl) (of_decide_eq_true (by kernel_rfl)) k2 bel.out lt2) (trodAll_cons_mk (shut_int Try.underlying3 wx3) trodAll_mk0)))), rfl, bel.out.frame _, fun h => by cases h⟩

theorem over : Rows.seqRunsRow.holds Try.pinned (OpenSpec.ofChange Rows.seqRunsSpec) :=
  OpenClaim.holds_of_wide 3 Try.f3 rfl rfl rfl rfl rfl rfl rfl ⟨rfl, rfl, rfl, rfl, rfl⟩ rfl rfl rfl rfl rfl (by kernel_rfl) Try.func3 (by kernel_rfl)
    (of_decide_eq_true (by kernel_rfl)) (by unfold Func.isWrapper; first | (rw [if_pos (by decide +kernel)]; kernel_rfl) | (rw [if_neg (by decide +kernel)]; exact ⟨rfl, rfl⟩))
    (fun os started H enc _ => lifted os started H enc)

theorem proved : Rows.SeqRunsSaid :=
  over
#print axioms proved
end Go.Proofs.Ytmgpfhmodjmcdaa.seqRuns
