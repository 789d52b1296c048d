/-
  The contract of package isa's Right.
-/
import Derived.Test.YtfhepjjebadpdaaIsa
namespace Go.Proofs.Ytfhepjjebadpdaa
set_option maxRecDepth 20000
open Go.ChangeShapes Go.WideShapes Go.ChangeAt Go.RowKit

def rightB (op a b c imm : Int) : Bool :=
  okOp op && regB a (decide (0 < regsOf op)) && regB b (decide (1 < regsOf op)) && regB c (decide (2 < regsOf op)) && decide (leastOf op ≤ imm ∧ imm ≤ mostOf op)

set_option maxHeartbeats 1000000 in
theorem right_any (op a b c imm : Int) (w : World) :
    Calls Try.prog 18 #[.agg #[.int .i64 op, .int .i64 a, .int .i64 b, .int .i64 c, .int .i64 imm]] w fun e w' => e = .returned (.bool (rightB op a b c imm)) ∧ Bel w w' := by
  go_enter Try.func18, Try.ntmps18
  go_wp2_with (first | (go_at_call 25; refine (parts_any _ _).mono ?_; rintro e w' ⟨rfl, hg⟩; obtain ⟨hc, hf⟩ := bcell hg; have hz : w.heap.size < w'.heap.size := by have := hg.size; simp at this; omega) | (go_at_call 26; refine (reg_any _ _ _).mono ?_; rintro e w' ⟨rfl, rfl⟩))
  all_goals
    go_ret
    refine ⟨ret_bool ?_, ?_⟩
    · unfold rightB
      rw [Bool.eq_iff_iff]; simp_all <;> omega
    · have hg' := btrans ((Bel.refl w).alloc _) hg
      repeat (first | exact hg' | apply Bel.alloc | (refine Bel.setCell ?_ (by simp; omega) _))

theorem right_bd {op a b c imm : Int} (h : rightB op a b c imm = true) : 0 ≤ op ∧ op ≤ 20 ∧ 0 ≤ a ∧ a ≤ 31 ∧ 0 ≤ b ∧ b ≤ 31 ∧ 0 ≤ c ∧ c ≤ 31 ∧ -32768 ≤ imm ∧ imm ≤ 32767 := by
  have hm : mostOf op ≤ 32767 ∧ -32768 ≤ leastOf op := by unfold mostOf leastOf; omega
  have hr : ∀ n x, regB n x = true → 0 ≤ n ∧ n ≤ 31 := by intro n x; unfold regB; cases x <;> simp <;> omega
  unfold rightB at h
  simp only [Bool.and_eq_true, decide_eq_true_eq] at h
  obtain ⟨⟨⟨⟨h1, h2⟩, h3⟩, h4⟩, h5⟩ := h
  have := hr _ _ h2
  have := hr _ _ h3
  have := hr _ _ h4
  have h6 : 0 ≤ op ∧ op ≤ 20 := by simpa [okOp] using h1
  omega
end Go.Proofs.Ytfhepjjebadpdaa
