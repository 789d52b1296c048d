/-
  Contracts of the reference of layer 2: shape and Right.
-/
import Derived.Test.YtfhepjjebadpdaaRight
namespace Go.Proofs.Ytfhepjjebadpdaa
set_option maxRecDepth 20000
open Go.ChangeShapes Go.WideShapes Go.ChangeAt Go.RowKit

def shapeOf (op : Int) : Int := if op < 0 ∨ 20 < op then -1 else if op = 0 then 0 else if op ≤ 9 then 7 else if op = 11 then 9 else if op ≤ 16 then 11 else if op = 19 then 1 else 8
theorem shape_no (op : Int) (w : World) (h : op < 0 ∨ 20 < op) :
    Calls Try.prog 24 #[.int .i64 op] w fun e w' => e = .returned (.int .i64 (shapeOf op)) ∧ Bel w w' := by
  go_enter Try.func24, Try.ntmps24
  go_wp2
  all_goals
    first
      | (exfalso; omega)
      | (go_ret; exact ⟨ret_int (by unfold shapeOf; omega), Bel.refl _⟩)
set_option maxHeartbeats 4000000 in
theorem shape_yes (op : Int) (w : World) (h : 0 ≤ op ∧ op ≤ 20) :
    Calls Try.prog 24 #[.int .i64 op] w fun e w' => e = .returned (.int .i64 (shapeOf op)) ∧ Bel w w' := by
  have hc : op = 0 ∨ op = 1 ∨ op = 2 ∨ op = 3 ∨ op = 4 ∨ op = 5 ∨ op = 6 ∨ op = 7 ∨ op = 8 ∨ op = 9 ∨ op = 10 ∨ op = 11 ∨ op = 12 ∨ op = 13 ∨ op = 14 ∨ op = 15 ∨ op = 16 ∨ op = 17 ∨ op = 18 ∨ op = 19 ∨ op = 20 := by omega
  clear h
  rcases hc with rfl | rfl | rfl | rfl | rfl | rfl | rfl | rfl | rfl | rfl | rfl | rfl | rfl | rfl | rfl | rfl | rfl | rfl | rfl | rfl | rfl
  all_goals
    go_enter Try.func24, Try.ntmps24
    go_wp2
    go_ret
    exact ⟨rfl, (Bel.refl _).alloc _⟩
theorem shape_any (op : Int) (w : World) :
    Calls Try.prog 24 #[.int .i64 op] w fun e w' => e = .returned (.int .i64 (shapeOf op)) ∧ Bel w w' := by
  by_cases h : 0 ≤ op ∧ op ≤ 20
  · exact shape_yes op w h
  · exact shape_no op w (by omega)

theorem right_iff (op a b c imm : Int) : rightB op a b c imm = true ↔ 0 ≤ op ∧ op ≤ 20 ∧ (0 < regsOf op → 0 ≤ a ∧ a ≤ 31) ∧ (regsOf op ≤ 0 → a = 0) ∧ (1 < regsOf op → 0 ≤ b ∧ b ≤ 31) ∧ (regsOf op ≤ 1 → b = 0) ∧ (2 < regsOf op → 0 ≤ c ∧ c ≤ 31) ∧ (regsOf op ≤ 2 → c = 0) ∧ leastOf op ≤ imm ∧ imm ≤ mostOf op := by
  have hr : ∀ n k : Int, regB n (decide (k < regsOf op)) = true ↔ (k < regsOf op → 0 ≤ n ∧ n ≤ 31) ∧ (regsOf op ≤ k → n = 0) := by
    intro n k
    unfold regB
    by_cases h : k < regsOf op
    · simp [h]; omega
    · simp [h]; omega
  unfold rightB okOp
  simp only [Bool.and_eq_true, hr, decide_eq_true_eq]
  omega
theorem classes (op : Int) (h : 0 ≤ op ∧ op ≤ 20) :
    (op = 0 ∧ shapeOf op = 0 ∧ regsOf op = 0 ∧ leastOf op = 0 ∧ mostOf op = 0) ∨
    (1 ≤ op ∧ op ≤ 9 ∧ shapeOf op = 7 ∧ regsOf op = 3 ∧ leastOf op = 0 ∧ mostOf op = 0) ∨
    ((op = 10 ∨ 12 ≤ op ∧ op ≤ 13 ∨ 15 ≤ op ∧ op ≤ 16) ∧ shapeOf op = 11 ∧ regsOf op = 2 ∧ leastOf op = -32768 ∧ mostOf op = 32767) ∨
    (op = 14 ∧ shapeOf op = 11 ∧ regsOf op = 2 ∧ leastOf op = 0 ∧ mostOf op = 32767) ∨
    (op = 11 ∧ shapeOf op = 9 ∧ regsOf op = 1 ∧ leastOf op = -32768 ∧ mostOf op = 32767) ∨
    ((op = 17 ∨ op = 18) ∧ shapeOf op = 8 ∧ regsOf op = 0 ∧ leastOf op = 0 ∧ mostOf op = 4096) ∨
    (op = 19 ∧ shapeOf op = 1 ∧ regsOf op = 1 ∧ leastOf op = 0 ∧ mostOf op = 0) ∨
    (op = 20 ∧ shapeOf op = 8 ∧ regsOf op = 0 ∧ leastOf op = 0 ∧ mostOf op = 2) := by
  have hc : op = 0 ∨ op = 1 ∨ op = 2 ∨ op = 3 ∨ op = 4 ∨ op = 5 ∨ op = 6 ∨ op = 7 ∨ op = 8 ∨ op = 9 ∨ op = 10 ∨ op = 11 ∨ op = 12 ∨ op = 13 ∨ op = 14 ∨ op = 15 ∨ op = 16 ∨ op = 17 ∨ op = 18 ∨ op = 19 ∨ op = 20 := by omega
  clear h
  rcases hc with rfl | rfl | rfl | rfl | rfl | rfl | rfl | rfl | rfl | rfl | rfl | rfl | rfl | rfl | rfl | rfl | rfl | rfl | rfl | rfl | rfl <;> decide

def chk (s n : Int) : Prop := ¬ ((s % 2 = 0 ∧ n ≠ 0) ∨ n < 0 ∨ 31 < n)
theorem refRight_no (op a b c imm : Int) (w : World) (h : op < 0 ∨ 20 < op) :
    Calls Try.prog 15 #[.agg #[.int .i64 op, .int .i64 a, .int .i64 b, .int .i64 c, .int .i64 imm]] w fun e w' => e = .returned (.bool (rightB op a b c imm)) ∧ Bel w w' := by
  have hs : shapeOf op = -1 := by unfold shapeOf; omega
  have hr : rightB op a b c imm = false := by
    have := right_iff op a b c imm
    cases hb : rightB op a b c imm
    · rfl
    · exact absurd (this.1 hb) (by omega)
  go_enter Try.func15, Try.ntmps15
  go_wp2_with (go_at_call 24; refine (shape_any _ _).mono ?_; rintro e w1 ⟨rfl, hg1⟩; obtain ⟨hc, hf⟩ := bcell hg1)
  go_ret
  exact ⟨ret_bool hr.symm, btrans ((Bel.refl _).alloc _) hg1⟩
theorem bad1 {op a b c imm : Int} (h : 0 ≤ op ∧ op ≤ 20) (k : ¬ chk (shapeOf op) a) : rightB op a b c imm = false := by
  cases hb : rightB op a b c imm
  · rfl
  · have h1 := (right_iff op a b c imm).1 hb
    unfold chk at k
    rcases classes op h with h2 | h2 | h2 | h2 | h2 | h2 | h2 | h2 <;> omega
theorem bad2 {op a b c imm : Int} (h : 0 ≤ op ∧ op ≤ 20) (k : ¬ chk (shapeOf op / 2) b) : rightB op a b c imm = false := by
  cases hb : rightB op a b c imm
  · rfl
  · have h1 := (right_iff op a b c imm).1 hb
    unfold chk at k
    rcases classes op h with h2 | h2 | h2 | h2 | h2 | h2 | h2 | h2 <;> omega
theorem bad3 {op a b c imm : Int} (h : 0 ≤ op ∧ op ≤ 20) (k : ¬ chk (shapeOf op / 2 / 2) c) : rightB op a b c imm = false := by
  cases hb : rightB op a b c imm
  · rfl
  · have h1 := (right_iff op a b c imm).1 hb
    unfold chk at k
    rcases classes op h with h2 | h2 | h2 | h2 | h2 | h2 | h2 | h2 <;> omega
theorem fin_iff {op a b c imm : Int} (h : 0 ≤ op ∧ op ≤ 20) (k1 : chk (shapeOf op) a) (k2 : chk (shapeOf op / 2) b) (k3 : chk (shapeOf op / 2 / 2) c) :
    rightB op a b c imm = true ↔ ((op = 14 → 0 ≤ imm) ∧ (op = 17 ∨ op = 18 → 0 ≤ imm ∧ imm ≤ 4096) ∧ (op = 20 → 0 ≤ imm ∧ imm ≤ 2) ∧ -32768 ≤ imm ∧ imm ≤ 32767 ∧ (shapeOf op / 2 / 2 / 2 = 1 ∨ imm = 0)) := by
  rw [right_iff]
  unfold chk at k1 k2 k3
  rcases classes op h with h2 | h2 | h2 | h2 | h2 | h2 | h2 | h2 <;> omega
theorem shape_bd {op : Int} (h : 0 ≤ op ∧ op ≤ 20) : 0 ≤ shapeOf op ∧ shapeOf op ≤ 11 := by
  rcases classes op h with h2 | h2 | h2 | h2 | h2 | h2 | h2 | h2 <;> omega
end Go.Proofs.Ytfhepjjebadpdaa
