/-
  The contract of the reference's Right of layer 2, at an operation that is one.
-/
import Derived.Test.YtfhepjjebadpdaaRef2
namespace Go.Proofs.Ytfhepjjebadpdaa
set_option maxRecDepth 20000
open Go.ChangeShapes Go.WideShapes Go.ChangeAt Go.RowKit

set_option maxHeartbeats 2000000 in
theorem refRight_yes (op a b c imm : Int) (w : World) (h : 0 ≤ op ∧ op ≤ 20) :
    Calls Try.prog 15 #[.agg #[.int .i64 op, .int .i64 a, .int .i64 b, .int .i64 c, .int .i64 imm]] w fun e w' => e = .returned (.bool (rightB op a b c imm)) ∧ Bel w w' := by
  obtain ⟨hs1, hs2⟩ := shape_bd h
  go_enter Try.func15, Try.ntmps15
  go_wp2_with (go_at_call 24; refine (shape_any _ _).mono ?_; rintro e w1 ⟨rfl, hg1⟩; obtain ⟨hc, hf⟩ := bcell hg1; have hz : w.heap.size < w1.heap.size := by have := hg1.size; simp at this; omega)
  go_loop [3, 5] (fun s k => (s = .int .i64 (shapeOf op) ∧ k = .int .i64 0) ∨ (s = .int .i64 (shapeOf op / 2) ∧ k = .int .i64 1 ∧ chk (shapeOf op) a) ∨
    (s = .int .i64 (shapeOf op / 2 / 2) ∧ k = .int .i64 2 ∧ chk (shapeOf op) a ∧ chk (shapeOf op / 2) b) ∨
    (s = .int .i64 (shapeOf op / 2 / 2 / 2) ∧ k = .int .i64 3 ∧ chk (shapeOf op) a ∧ chk (shapeOf op / 2) b ∧ chk (shapeOf op / 2 / 2) c)) (fun _ k => 3 - (intOf k).toNat)
  case atStart => exact Or.inl ⟨rfl, rfl⟩
  case round =>
    have hG := btrans ((Bel.refl w).alloc _) hg1
    rcases hrel with ⟨rfl, rfl⟩ | ⟨rfl, rfl, k1⟩ | ⟨rfl, rfl, k1, k2⟩ | ⟨rfl, rfl, k1, k2, k3⟩
    · go_wp2
      all_goals
        first
          | (go_ret; exact ⟨ret_bool (bad1 h (by unfold chk; omega)).symm, hG.alloc _⟩)
          | (go_round
             case rel => exact Or.inr (Or.inl ⟨by go_num, by go_num, by unfold chk; omega⟩)
             case measure => simp [intOf])
          | (go_round
             · exact ⟨_, _, _, Or.inr (Or.inl ⟨rfl, rfl, by unfold chk; omega⟩), rfl, rfl, rfl⟩
             · simp [intOf])
    · go_wp2
      all_goals
        first
          | (go_ret; exact ⟨ret_bool (bad2 h (by unfold chk; omega)).symm, hG.alloc _⟩)
          | (go_round
             case rel => exact Or.inr (Or.inr (Or.inl ⟨by go_num, by go_num, k1, by unfold chk; omega⟩))
             case measure => simp [intOf])
          | (go_round
             · exact ⟨_, _, _, Or.inr (Or.inr (Or.inl ⟨rfl, rfl, by unfold chk; omega⟩)), rfl, rfl, rfl⟩
             · simp [intOf])
    · go_wp2
      all_goals
        first
          | (go_ret; exact ⟨ret_bool (bad3 h (by unfold chk; omega)).symm, hG.alloc _⟩)
          | (go_round
             case rel => exact Or.inr (Or.inr (Or.inr ⟨by go_num, by go_num, k1, k2, by unfold chk; omega⟩))
             case measure => simp [intOf])
          | (go_round
             · exact ⟨_, _, _, Or.inr (Or.inr (Or.inr ⟨rfl, rfl, by unfold chk; omega⟩)), rfl, rfl, rfl⟩
             · simp [intOf])
    · have hfin := fin_iff (imm := imm) h k1 k2 k3
      have HF : Hid _ := hfin
      clear hfin
      by_cases e17 : op = 17
      · subst e17
        go_wp2
        all_goals
          go_ret
          refine ⟨ret_bool ?_, hG.alloc _⟩
          rw [Bool.eq_iff_iff, HF.out]
          simp
          omega
      · have f17 : (op == 17) = false := by simpa using e17
        go_wp2
        all_goals
          go_ret
          refine ⟨ret_bool ?_, hG.alloc _⟩
          simp only [beq_iff_eq, beq_eq_false_iff_ne, ne_eq] at *
          rw [Bool.eq_iff_iff, HF.out]
          simp
          omega
theorem refRight_any (op a b c imm : Int) (w : World) :
    Calls Try.prog 15 #[.agg #[.int .i64 op, .int .i64 a, .int .i64 b, .int .i64 c, .int .i64 imm]] w fun e w' => e = .returned (.bool (rightB op a b c imm)) ∧ Bel w w' := by
  by_cases h : 0 ≤ op ∧ op ≤ 20
  · exact refRight_yes op a b c imm w h
  · exact refRight_no op a b c imm w (by omega)
end Go.Proofs.Ytfhepjjebadpdaa
