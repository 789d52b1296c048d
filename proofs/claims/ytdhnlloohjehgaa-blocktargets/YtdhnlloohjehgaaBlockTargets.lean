/-
  The law 'BlockTargets' of delayslotlaw09 returns true at every instruction and place: a right branch goes so many more than one more than its place, a Jmp and a Jal where they say, others nowhere that they say.
  Conditions: none.
-/
import Derived.Test.YtdhnlloohjehgaaRows
import Derived.WalkKit
import Derived.ProofKit
import Derived.OpenShut
import Derived.ShutString
import Derived.ChangeOld
import Derived.Below
import Derived.Carry
import Derived.Test.YtdhnlloohjehgaaAwk9
namespace Go.Proofs.Ytdhnlloohjehgaa.blockTargets
open Go.ChangeShapes Go.WideShapes Go.ChangeAt Go.RowKit
open Go.ChangeMaps (open_string shut_string)
set_option linter.unusedVariables false

theorem laidOut : laidOutB Try.prog = true := by kernel_rfl
theorem own : ownKnob Try.prog.godebug = none := by kernel_rfl
theorem cells24 : Try.prog.cellsOf 24 = 5 := by kernel_rfl
theorem tgt_no {o a b c i n : Int} (h : namesB o a b c i = false) : tgtI o a b c i n = 0 := by simp [tgtI, h]
theorem tgt_br {o a b c i n : Int} (h : namesB o a b c i = true) (k : o ≤ 16) : tgtI o a b c i n = n + 1 + i := by simp [tgtI, h, k]
theorem tgt_jp {o a b c i n : Int} (h : namesB o a b c i = true) (k : ¬ o ≤ 16) : tgtI o a b c i n = i := by simp [tgtI, h, k]

set_option maxRecDepth 20000 in
set_option maxHeartbeats 2000000 in
theorem walk (w : World) (o0 a0 b0 c0 i0 : Int) (wo0 : (Lit.int .i64 o0).wf = true) (wa0 : (Lit.int .i64 a0).wf = true) (wb0 : (Lit.int .i64 b0).wf = true) (wc0 : (Lit.int .i64 c0).wf = true) (wi0 : (Lit.int .i64 i0).wf = true) (x1 : Int) (wx1 : (Lit.int .u16 x1).wf = true) :
    Calls Try.prog 9 #[.agg #[.int .i64 o0, .int .i64 a0, .int .i64 b0, .int .i64 c0, .int .i64 i0], .int .u16 x1] w fun e w' => e = .returned (.bool true) ∧ Bel w w' := by
  obtain ⟨q1, q2⟩ := wf_u16 wx1
  cases hr : rightB o0 a0 b0 c0 i0 with
  | false =>
    have e1 : namesB o0 a0 b0 c0 i0 = false := by simp [namesB, hr]
    have E2 := hidm (tgt_no (n := x1) e1)
    go_enter Try.func9, Try.ntmps9
    go_wp2_with (first
      | (go_at_call 11; refine (target_any _ _ _ _ _ _ (by omega) _).mono ?_; rw [E2.out, e1]; rintro e w1 ⟨rfl, g1⟩; obtain ⟨hc, hf⟩ := bcell g1; have hz : w.heap.size < w1.heap.size := (by have := g1.size; simp at this; omega))
      | (go_at_call 21; refine (refRight_any _ _ _ _ _ _).mono ?_; rintro e w2 ⟨rfl, g2⟩)
      | (go_at_call 10; refine (awake_any _).mono ?_; rintro e w3 ⟨rfl, g3⟩))
    go_ret
    exact ⟨rfl, btrans (btrans (btrans ((Bel.refl w).alloc _) g1) g2) g3⟩
  | true =>
    have hbd := right_bd hr
    have hcase : (o0 < 15 ∨ 18 < o0) ∨ (o0 = 15 ∨ o0 = 16) ∨ (o0 = 17 ∨ o0 = 18) := by omega
    rcases hcase with h | h | h
    · have e1 : namesB o0 a0 b0 c0 i0 = false := by simp [namesB, hr]; omega
      have E2 := hidm (tgt_no (n := x1) e1)
      have n15 : (o0 == 15) = false := beq_eq_false_iff_ne.2 (by omega)
      have n16 : (o0 == 16) = false := beq_eq_false_iff_ne.2 (by omega)
      have n17 : (o0 == 17) = false := beq_eq_false_iff_ne.2 (by omega)
      have n18 : (o0 == 18) = false := beq_eq_false_iff_ne.2 (by omega)
      clear hbd h
      go_enter Try.func9, Try.ntmps9
      go_wp2_with (first
        | (go_at_call 11; refine (target_any _ _ _ _ _ _ (by omega) _).mono ?_; rw [E2.out, e1]; rintro e w1 ⟨rfl, g1⟩; obtain ⟨hc, hf⟩ := bcell g1; have hz : w.heap.size < w1.heap.size := (by have := g1.size; simp at this; omega))
        | (go_at_call 21; refine (refRight_any _ _ _ _ _ _).mono ?_; rintro e w2 ⟨rfl, g2⟩; obtain ⟨hc2, hf2⟩ := bcell g2; have hz2 : w.heap.size < w2.heap.size := (by have := g2.size; omega))
        | (go_at_call 10; refine (awake_any _).mono ?_; rintro e w3 ⟨rfl, g3⟩))
      go_ret
      exact ⟨rfl, btrans (btrans (btrans ((Bel.refl w).alloc _) g1) g2) g3⟩
    · have e1 : namesB o0 a0 b0 c0 i0 = true := by simp [namesB, hr]; omega
      have E2 := hidm (tgt_br (n := x1) e1 (by omega))
      obtain ⟨_, _, _, _, _, _, _, _, b9, b10⟩ := hbd
      rcases h with rfl | rfl
      all_goals
        go_enter Try.func9, Try.ntmps9
        go_wp2_with (first
          | (go_at_call 11; refine (target_any _ _ _ _ _ _ (by omega) _).mono ?_; rw [E2.out, e1]; rintro e w1 ⟨rfl, g1⟩; obtain ⟨hc, hf⟩ := bcell g1; have hz : w.heap.size < w1.heap.size := (by have := g1.size; simp at this; omega))
          | (go_at_call 21; refine (refRight_any _ _ _ _ _ _).mono ?_; rintro e w2 ⟨rfl, g2⟩; obtain ⟨hc2, hf2⟩ := bcell g2; have hz2 : w.heap.size < w2.heap.size := (by have := g2.size; omega))
          | (go_at_call 10; refine (awake_any _).mono ?_; rintro e w3 ⟨rfl, g3⟩))
        go_ret
        exact ⟨rfl, btrans (btrans (btrans ((Bel.refl w).alloc _) g1) g2) g3⟩
    · have e1 : namesB o0 a0 b0 c0 i0 = true := by simp [namesB, hr]; omega
      have E2 := hidm (tgt_jp (n := x1) e1 (by omega))
      clear hbd
      rcases h with rfl | rfl
      all_goals
        go_enter Try.func9, Try.ntmps9
        go_wp2_with (first
          | (go_at_call 11; refine (target_any _ _ _ _ _ _ (by omega) _).mono ?_; rw [E2.out, e1]; rintro e w1 ⟨rfl, g1⟩; obtain ⟨hc, hf⟩ := bcell g1; have hz : w.heap.size < w1.heap.size := (by have := g1.size; simp at this; omega))
          | (go_at_call 21; refine (refRight_any _ _ _ _ _ _).mono ?_; rintro e w2 ⟨rfl, g2⟩; obtain ⟨hc2, hf2⟩ := bcell g2; have hz2 : w.heap.size < w2.heap.size := (by have := g2.size; omega))
          | (go_at_call 10; refine (awake_any _).mono ?_; rintro e w3 ⟨rfl, g3⟩))
        go_ret
        exact ⟨rfl, btrans (btrans (btrans ((Bel.refl w).alloc _) g1) g2) g3⟩

set_option maxRecDepth 100000 in
theorem lifted (os : Os) (started : os.Started) (H : Type) (enc : TypeId × Value → H) :
    ReturnsInHanded {} Try.checked os 9 .any (Rows.blockTargetsSpec.pre6 enc Try.prog Try.f9 Rows.blockTargetsRow.domain false) (Rows.blockTargetsSpec.post enc Try.prog Try.f9 false true false false) := by
  refine returnsInHanded_of_change (C := Try.checked) own started (by kernel_rfl) Try.func9
    (ChangeSpec.witness6 (enc := enc) (C := Try.checked) false ⟨#[], #[.agg #[.int .i64 0, .int .i64 0, .int .i64 0, .int .i64 0, .int .i64 0], .int .u16 0], []⟩ 8 (by kernel_rfl) (by kernel_rfl) (by kernel_rfl) (by kernel_rfl)) ?_
  intro W base args ds gs before hval0 hW hcnd _
  have hval : ∀ (j : Nat) t v, Try.f9.params[j]? = some t → args[j]? = some v → Value.okWide Try.prog W .any base t v := hval0
  have hW' := hW
  obtain ⟨p, q, hA0, hV, rfl, hfz, hnd⟩ := hW
  have hA : DataW.TrodAll enc Try.prog W 0 (fun _ => true) true Try.f9.params.toList args.toList ds p := hA0
  rw [Try.params9] at hA hval
  obtain ⟨v0, vs0, d0, ds0, p0, q0, hargs, rfl, rfl, h0, r0⟩ := trodAll_cons hA
  obtain ⟨v1, vs1, d1, ds1, p1, q1, rfl, rfl, rfl, h1, r1⟩ := trodAll_cons r0
  obtain ⟨rfl, rfl, rfl⟩ := trodAll_nil r1
  obtain rfl : args = #[v0, v1] := by cases args; simp_all
  obtain ⟨rfl, rfl⟩ := trodVars_none hV
  obtain ⟨o0, a0, b0, c0, i0, rfl, rfl, rfl, wo0, wa0, wb0, wc0, wi0⟩ := open_agg5i Try.underlying24 (by kernel_rfl) cells24 Try.underlying3 rfl rfl rfl rfl rfl (hval 0 24 v0 rfl rfl) h0
  obtain ⟨x1, rfl, rfl, rfl, wx1⟩ := open_int Try.underlying41 (hval 1 41 v1 rfl rfl) h1
  clear hA0 hval0
  refine (walk W o0 a0 b0 c0 i0 wo0 wa0 wb0 wc0 wi0 x1 wx1).mono fun e W' ⟨he, bel⟩ => ?_
  subst he
  exact ⟨_, rfl, _, _, _, [], _, [], hW', trodAll_mk1 (shut_bool Try.underlying4 _), (trodAll_cons_mk (shut_agg5i Try.underlying24 (by kernel_rfl) cells24 Try.underlying3 rfl rfl rfl rfl rfl wo0 wa0 wb0 wc0 wi0) (trodAll_cons_mk (shut_int Try.underlying41 wx1) trodAll_mk0)), rfl, bel.out.frame _, fun h => by cases h⟩

theorem over : Rows.blockTargetsRow.holds Try.pinned (OpenSpec.ofChange Rows.blockTargetsSpec) :=
  OpenClaim.holds_of_wide 9 Try.f9 rfl rfl rfl rfl rfl rfl rfl ⟨rfl, rfl, rfl, rfl, rfl⟩ rfl rfl rfl rfl rfl (by kernel_rfl) Try.func9 (by kernel_rfl)
    (of_decide_eq_true (by kernel_rfl)) (by unfold Func.isWrapper; first | (rw [if_pos (by decide +kernel)]; kernel_rfl) | (rw [if_neg (by decide +kernel)]; exact ⟨rfl, rfl⟩))
    (fun os started H enc _ => lifted os started H enc)

theorem proved : Rows.BlockTargetsSaid :=
  over
#print axioms proved
end Go.Proofs.Ytdhnlloohjehgaa.blockTargets
