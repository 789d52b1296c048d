/-
  The law 'BlockFits' of delayslotlaw09 returns true at all code, every instruction and every place: whether code is fit, and strict, and where an instruction goes, is told as the document says.
  Conditions: none.
-/
import Derived.Test.YtdhnlloohjehgaaRows
import Derived.WalkKit
import Derived.ProofKit
import Derived.OpenShut
import Derived.ShutString
import Derived.ChangeOld
import Derived.Below
import Derived.Carry
import Derived.Test.YtdhnlloohjehgaaAwk9
namespace Go.Proofs.Ytdhnlloohjehgaa.blockFits
open Go.ChangeShapes Go.WideShapes Go.ChangeAt Go.RowKit
open Go.ChangeMaps (open_string shut_string)
set_option linter.unusedVariables false

theorem laidOut : laidOutB Try.prog = true := by kernel_rfl
theorem own : ownKnob Try.prog.godebug = none := by kernel_rfl
theorem cells24 : Try.prog.cellsOf 24 = 5 := by kernel_rfl

set_option maxRecDepth 20000 in
set_option maxHeartbeats 2000000 in
theorem walk (w : World) (y0 : Value) (X0 : List Ins) (wy0 : Code w y0 X0) (o1 a1 b1 c1 i1 : Int) (wo1 : (Lit.int .i64 o1).wf = true) (wa1 : (Lit.int .i64 a1).wf = true) (wb1 : (Lit.int .i64 b1).wf = true) (wc1 : (Lit.int .i64 c1).wf = true) (wi1 : (Lit.int .i64 i1).wf = true) (x2 : Int) (wx2 : (Lit.int .i64 x2).wf = true) :
    Calls Try.prog 3 #[y0, .agg #[.int .i64 o1, .int .i64 a1, .int .i64 b1, .int .i64 c1, .int .i64 i1], .int .i64 x2] w fun e w' => e = .returned (.bool true) ∧ Bel w w' := by
  have HV := hidm wy0
  obtain ⟨ao, ca, rfl, hc0⟩ := wy0
  clear hc0
  by_cases hg : X0.length ≤ 200 ∧ x2 ≤ 1048576 ∧ -1048576 ≤ x2
  · obtain ⟨g0, g1, g2⟩ := hg
    have hd := tgt_bd o1 a1 b1 c1 i1 x2 (by omega)
    go_enter Try.func3, Try.ntmps3
    go_wp2_with (first
      | (go_at_call 11; refine (target_any _ _ _ _ _ _ (by omega) _).mono ?_; rintro e w1 ⟨rfl, b1⟩; obtain ⟨hc, hf⟩ := bcell b1; have hz : w.heap.size < w1.heap.size := (by have := b1.size; simp at this; omega))
      | (go_at_call 12; refine (refTarget_any _ _ _ _ _ _ (by omega) _).mono ?_; rintro e w2 ⟨rfl, b2⟩; have B2 := btrans (btrans ((Bel.refl w).alloc _) b1) b2)
      | (go_at_call 13; refine (fit_any X0 _ _ (by omega) (HV.out.stay B2)).mono ?_; rintro e w3 ⟨rfl, b3⟩; have B3 := btrans B2 b3)
      | (go_at_call 14; refine (refFit_any X0 _ _ (by omega) (HV.out.stay B3)).mono ?_; rintro e w4 ⟨rfl, b4⟩; have B4 := btrans B3 b4)
      | (go_at_call 15; refine (strict_any X0 _ _ (by omega) (HV.out.stay B4)).mono ?_; rintro e w5 ⟨rfl, b5⟩; have B5 := btrans B4 b5)
      | (go_at_call 16; refine (refStrict_any X0 _ _ (by omega) (HV.out.stay B5)).mono ?_; rintro e w6 ⟨rfl, b6⟩; have B6 := btrans B5 b6)
      | (go_at_call 10; refine (awake_any _).mono ?_; rintro e w7 ⟨rfl, b7⟩))
    go_ret
    exact ⟨rfl, btrans B6 b7⟩
  · have hcase : 200 < X0.length ∨ (X0.length ≤ 200 ∧ 1048576 < x2) ∨ (X0.length ≤ 200 ∧ x2 ≤ 1048576 ∧ x2 < -1048576) := by omega
    clear hg
    rcases hcase with h | ⟨h, h'⟩ | ⟨h, h', h''⟩
    all_goals
      go_enter Try.func3, Try.ntmps3
      go_wp2_with (first
        | (go_at_call 10; refine (awake_any _).mono ?_; rintro e w7 ⟨rfl, b7⟩))
      go_ret
      exact ⟨rfl, btrans ((Bel.refl w).alloc _) b7⟩

set_option maxRecDepth 100000 in
theorem lifted (os : Os) (started : os.Started) (H : Type) (enc : TypeId × Value → H) :
    ReturnsInHanded {} Try.checked os 3 .any (Rows.blockFitsSpec.pre6 enc Try.prog Try.f3 Rows.blockFitsRow.domain false) (Rows.blockFitsSpec.post enc Try.prog Try.f3 false true false false) := by
  refine returnsInHanded_of_change (C := Try.checked) own started (by kernel_rfl) Try.func3
    (ChangeSpec.witness6 (enc := enc) (C := Try.checked) false ⟨#[], #[.slice none 0 0, .agg #[.int .i64 0, .int .i64 0, .int .i64 0, .int .i64 0, .int .i64 0], .int .i64 0], []⟩ 8 (by kernel_rfl) (by kernel_rfl) (by kernel_rfl) (by kernel_rfl)) ?_
  intro W base args ds gs before hval0 hW hcnd _
  have hval : ∀ (j : Nat) t v, Try.f3.params[j]? = some t → args[j]? = some v → Value.okWide Try.prog W .any base t v := hval0
  have hW' := hW
  obtain ⟨p, q, hA0, hV, rfl, hfz, hnd⟩ := hW
  have hA : DataW.TrodAll enc Try.prog W 0 (fun _ => true) true Try.f3.params.toList args.toList ds p := hA0
  rw [Try.params3] at hA hval
  obtain ⟨v0, vs0, d0, ds0, p0, q0, hargs, rfl, rfl, h0, r0⟩ := trodAll_cons hA
  obtain ⟨v1, vs1, d1, ds1, p1, q1, rfl, rfl, rfl, h1, r1⟩ := trodAll_cons r0
  obtain ⟨v2, vs2, d2, ds2, p2, q2, rfl, rfl, rfl, h2, r2⟩ := trodAll_cons r1
  obtain ⟨rfl, rfl, rfl⟩ := trodAll_nil r2
  obtain rfl : args = #[v0, v1, v2] := by cases args; simp_all
  obtain ⟨rfl, rfl⟩ := trodVars_none hV
  have k0 := h0
  have lt0 : ∀ x ∈ p0, x.block < W.heap.size := by obtain ⟨m, hm⟩ := k0; exact DataW.trod_lt m _ _ _ hm
  obtain ⟨X0, wy0⟩ := open_code (hval 0 22 v0 rfl rfl) h0
  obtain ⟨o1, a1, b1, c1, i1, rfl, rfl, rfl, wo1, wa1, wb1, wc1, wi1⟩ := open_agg5i Try.underlying24 (by kernel_rfl) cells24 Try.underlying3 rfl rfl rfl rfl rfl (hval 1 24 v1 rfl rfl) h1
  obtain ⟨x2, rfl, rfl, rfl, wx2⟩ := open_int Try.underlying3 (hval 2 3 v2 rfl rfl) h2
  clear hA0 hval0
  refine (walk W v0 X0 wy0 o1 a1 b1 c1 i1 wo1 wa1 wb1 wc1 wi1 x2 wx2).mono fun e W' ⟨he, bel⟩ => ?_
  subst he
  exact ⟨_, rfl, _, _, _, [], _, [], hW', trodAll_mk1 (shut_bool Try.underlying4 _), (trodAll_cons_mk (Below.trod laidOut (by kernel_rfl) (of_decide_eq_true (by kernel_rfl)) k0 bel.out lt0) (trodAll_cons_mk (shut_agg5i Try.underlying24 (by kernel_rfl) cells24 Try.underlying3 rfl rfl rfl rfl rfl wo1 wa1 wb1 wc1 wi1) (trodAll_cons_mk (shut_int Try.underlying3 wx2) trodAll_mk0))), rfl, bel.out.frame _, fun h => by cases h⟩

theorem over : Rows.blockFitsRow.holds Try.pinned (OpenSpec.ofChange Rows.blockFitsSpec) :=
  OpenClaim.holds_of_wide 3 Try.f3 rfl rfl rfl rfl rfl rfl rfl ⟨rfl, rfl, rfl, rfl, rfl⟩ rfl rfl rfl rfl rfl (by kernel_rfl) Try.func3 (by kernel_rfl)
    (of_decide_eq_true (by kernel_rfl)) (by unfold Func.isWrapper; first | (rw [if_pos (by decide +kernel)]; kernel_rfl) | (rw [if_neg (by decide +kernel)]; exact ⟨rfl, rfl⟩))
    (fun os started H enc _ => lifted os started H enc)

theorem proved : Rows.BlockFitsSaid :=
  over
#print axioms proved
end Go.Proofs.Ytdhnlloohjehgaa.blockFits
