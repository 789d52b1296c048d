/-
  Contracts of package effect: Writes, Touches, Acts, Goes, Late.
-/
import Derived.Test.YtdhnlloohjehgaaEff
namespace Go.Proofs.Ytdhnlloohjehgaa
set_option maxRecDepth 20000
open Go.ChangeShapes Go.WideShapes Go.ChangeAt Go.RowKit

set_option maxHeartbeats 1000000 in
theorem touches_any (op a b c imm n : Int) (w : World) :
    Calls Try.prog 32 #[.agg #[.int .i64 op, .int .i64 a, .int .i64 b, .int .i64 c, .int .i64 imm], .int .i64 n] w fun e w' => e = .returned (.bool (touchB op a b c imm n)) ∧ Bel w w' := by
  go_enter Try.func32, Try.ntmps32
  go_wp2_with (go_at_call 37; refine (regs_any _ _ _ _ _ _).mono ?_; rintro e w1 ⟨rfl, hg1⟩; have hz := hg1.size)
  all_goals
    go_ret
    refine ⟨ret_bool ?_, ?_⟩
    · unfold touchB
      rw [Bool.eq_iff_iff]; simp_all <;> omega
    · have hG := btrans ((Bel.refl w).alloc _) hg1
      repeat (first | with_reducible exact hG | with_reducible apply Bel.alloc | (with_reducible refine Bel.setCell ?_ ?_ _; rotate_left 1; (simp <;> omega)))
theorem goes_any (op a b c imm : Int) (w : World) :
    Calls Try.prog 34 #[.agg #[.int .i64 op, .int .i64 a, .int .i64 b, .int .i64 c, .int .i64 imm]] w fun e w' => e = .returned (.bool (goesB op a b c imm)) ∧ Bel w w' := by
  go_enter Try.func34, Try.ntmps34
  go_wp2_with (go_at_call 22; refine (right_any _ _ _ _ _ _).mono ?_; rintro e w1 ⟨rfl, hg1⟩)
  all_goals
    go_ret
    refine ⟨ret_bool ?_, ?_⟩
    · unfold goesB
      simp only [beq_iff_eq, beq_eq_false_iff_ne, ne_eq] at *
      first | (rw [show decide (15 ≤ op ∧ op ≤ 19) = true from decide_eq_true (by omega)]; simp) | (rw [show decide (15 ≤ op ∧ op ≤ 19) = false from decide_eq_false (by omega)]; simp)
    · first | exact (Bel.refl w).alloc _ | exact btrans ((Bel.refl w).alloc _) hg1
end Go.Proofs.Ytdhnlloohjehgaa
