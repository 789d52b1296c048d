/-
  Contracts of package effect: Writes, Touches, Acts, Goes, Late.
-/
import Derived.Test.YtfhepjjebadpdaaEff
namespace Go.Proofs.Ytfhepjjebadpdaa
set_option maxRecDepth 20000
open Go.ChangeShapes Go.WideShapes Go.ChangeAt Go.RowKit

theorem writes_any (op a b c imm : Int) (w : World) :
    Calls Try.prog 29 #[.agg #[.int .i64 op, .int .i64 a, .int .i64 b, .int .i64 c, .int .i64 imm]] w fun e w' => e = .returned (.int .i64 (wr1 op a b c imm)) ∧ Bel w w' := by
  have hfd : ∀ (x y z : Int) (w : World), (Instr.field 48 (.agg #[.int .i64 x, .int .i64 y, .int .i64 z]) 2).run Try.prog w = .ok (.int .i64 z) w := fun _ _ _ _ => by kernel_rfl
  go_enter Try.func29, Try.ntmps29
  go_wp2_with (go_at_call 31; refine (regs_any _ _ _ _ _ _).mono ?_; rintro e w1 ⟨rfl, hg1⟩)
  go_ret
  refine ⟨rfl, ?_⟩
  have hG := btrans ((Bel.refl w).alloc _) hg1
  repeat (first | with_reducible exact hG | with_reducible apply Bel.alloc | (with_reducible refine Bel.setCell ?_ ?_ _; rotate_left 1; (simp <;> omega)))
theorem goes_any (op a b c imm : Int) (w : World) :
    Calls Try.prog 19 #[.agg #[.int .i64 op, .int .i64 a, .int .i64 b, .int .i64 c, .int .i64 imm]] w fun e w' => e = .returned (.bool (goesB op a b c imm)) ∧ Bel w w' := by
  go_enter Try.func19, Try.ntmps19
  go_wp2_with (go_at_call 18; refine (right_any _ _ _ _ _ _).mono ?_; rintro e w1 ⟨rfl, hg1⟩)
  all_goals
    go_ret
    refine ⟨ret_bool ?_, ?_⟩
    · unfold goesB
      simp only [beq_iff_eq, beq_eq_false_iff_ne, ne_eq] at *
      first | (rw [show decide (15 ≤ op ∧ op ≤ 19) = true from decide_eq_true (by omega)]; simp) | (rw [show decide (15 ≤ op ∧ op ≤ 19) = false from decide_eq_false (by omega)]; simp)
    · first | exact (Bel.refl w).alloc _ | exact btrans ((Bel.refl w).alloc _) hg1
theorem late_any (op a b c imm : Int) (w : World) :
    Calls Try.prog 21 #[.agg #[.int .i64 op, .int .i64 a, .int .i64 b, .int .i64 c, .int .i64 imm]] w fun e w' => e = .returned (.bool (lateB op a b c imm)) ∧ Bel w w' := by
  go_enter Try.func21, Try.ntmps21
  go_wp2_with (go_at_call 18; refine (right_any _ _ _ _ _ _).mono ?_; rintro e w1 ⟨rfl, hg1⟩; obtain ⟨hc, hf⟩ := bcell hg1; have hz := hg1.size)
  all_goals
    go_ret
    refine ⟨ret_bool ?_, ?_⟩
    · unfold lateB
      rw [Bool.eq_iff_iff]; simp_all <;> omega
    · exact btrans ((Bel.refl w).alloc _) hg1
end Go.Proofs.Ytfhepjjebadpdaa
