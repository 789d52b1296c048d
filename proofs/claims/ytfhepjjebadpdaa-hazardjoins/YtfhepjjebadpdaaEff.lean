/-
  Contracts of package effect: which registers an instruction has to do with, and whether it acts, goes, or is late.
-/
import Derived.Test.YtfhepjjebadpdaaRight
namespace Go.Proofs.Ytfhepjjebadpdaa
set_option maxRecDepth 20000
open Go.ChangeShapes Go.WideShapes Go.ChangeAt Go.RowKit

def sR (n : Int) : Int := if n = 2 then 4 else 0
def sW (n : Int) : Int := if n = 1 then 4 else 0
def rA (op a b imm : Int) : Int := if (1 ≤ op ∧ op ≤ 10) ∨ op = 12 then b else if op = 13 ∨ op = 14 ∨ op = 15 ∨ op = 16 ∨ op = 19 then a else if op = 20 then sR imm else 0
def rB (op b c : Int) : Int := if 1 ≤ op ∧ op ≤ 9 then c else if op = 13 ∨ op = 15 ∨ op = 16 then b else 0
def wA (op a imm : Int) : Int := if 1 ≤ op ∧ op ≤ 12 then a else if op = 18 then 31 else if op = 20 then sW imm else 0
def rd1 (op a b c imm : Int) : Int := if rightB op a b c imm = true then rA op a b imm else 0
def rd2 (op a b c imm : Int) : Int := if rightB op a b c imm = true then rB op b c else 0
def wr1 (op a b c imm : Int) : Int := if rightB op a b c imm = true then wA op a imm else 0
def actsB (op a b c imm : Int) : Bool := rightB op a b c imm && decide (op = 4 ∨ op = 5 ∨ op = 12 ∨ op = 13 ∨ op = 14 ∨ op = 20)
def goesB (op a b c imm : Int) : Bool := rightB op a b c imm && decide (15 ≤ op ∧ op ≤ 19)
def lateB (op a b c imm : Int) : Bool := rightB op a b c imm && decide (op = 12 ∨ op = 20 ∧ imm = 1)
def touchB (op a b c imm n : Int) : Bool := decide (n ≠ 0 ∧ (n = rd1 op a b c imm ∨ n = rd2 op a b c imm ∨ n = wr1 op a b c imm))

theorem regs3 {a a' b b' c c' : Int} (h1 : a = a') (h2 : b = b') (h3 : c = c') :
    Ending.returned (.agg #[.int .i64 a, .int .i64 b, .int .i64 c]) = .returned (.agg #[.int .i64 a', .int .i64 b', .int .i64 c']) := by rw [h1, h2, h3]

theorem sys_any (n : Int) (w : World) :
    Calls Try.prog 32 #[.int .i64 n] w fun e w' => e = .returned (.agg #[.int .i64 (sR n), .int .i64 0, .int .i64 (sW n)]) ∧ Bel w w' := by
  go_enter Try.func32, Try.ntmps32
  go_wp2
  all_goals
    refine bodyPost_ret (v := ?_) ?_ rfl ⟨?_, ?_⟩
    rotate_left 1
    · simp [results, Try.results32, go_sem]; rfl
    · simp only [beq_iff_eq, beq_eq_false_iff_ne, ne_eq] at *
      exact regs3 (by unfold sR; omega) rfl (by unfold sW; omega)
    · repeat (first | exact Bel.refl _ | apply Bel.alloc | (refine Bel.setCell ?_ (by simp) _))

set_option maxHeartbeats 4000000 in
theorem regs_any (op a b c imm : Int) (w : World) :
    Calls Try.prog 31 #[.agg #[.int .i64 op, .int .i64 a, .int .i64 b, .int .i64 c, .int .i64 imm]] w fun e w' => e = .returned (.agg #[.int .i64 (rd1 op a b c imm), .int .i64 (rd2 op a b c imm), .int .i64 (wr1 op a b c imm)]) ∧ Bel w w' := by
  cases hr : rightB op a b c imm
  · have h1 : rd1 op a b c imm = 0 := by simp [rd1, hr]
    have h2 : rd2 op a b c imm = 0 := by simp [rd2, hr]
    have h3 : wr1 op a b c imm = 0 := by simp [wr1, hr]
    rw [h1, h2, h3]
    clear h1 h2 h3
    go_enter Try.func31, Try.ntmps31
    go_wp2_with (go_at_call 18; refine (right_any _ _ _ _ _ _).mono ?_; rintro e w1 ⟨rfl, hg1⟩; obtain ⟨hc, hf⟩ := bcell hg1; have hz : w.heap.size + 1 < w1.heap.size := (by have := hg1.size; simp at this; omega))
    refine bodyPost_ret (v := ?_) ?_ rfl ⟨?_, ?_⟩
    rotate_left 1
    · simp only [results, Try.results31]; go_simp; rfl
    · rfl
    · have hG := btrans (((Bel.refl w).alloc _).alloc _) hg1
      repeat (first | with_reducible exact hG | with_reducible apply Bel.alloc | (with_reducible refine Bel.setCell ?_ ?_ _; rotate_left 1; (simp <;> omega)))
  · have h1 : rd1 op a b c imm = rA op a b imm := by simp [rd1, hr]
    have h2 : rd2 op a b c imm = rB op b c := by simp [rd2, hr]
    have h3 : wr1 op a b c imm = wA op a imm := by simp [wr1, hr]
    rw [h1, h2, h3]
    clear h1 h2 h3
    go_enter Try.func31, Try.ntmps31
    go_wp2_with (first | (go_at_call 18; refine (right_any _ _ _ _ _ _).mono ?_; rintro e w1 ⟨rfl, hg1⟩; obtain ⟨hc, hf⟩ := bcell hg1; have hz : w.heap.size + 1 < w1.heap.size := (by have := hg1.size; simp at this; omega)) | (go_at_call 32; refine (sys_any _ _).mono ?_; rintro e w2 ⟨rfl, hg2⟩; obtain ⟨hc2, hf2⟩ := bcell hg2))
    all_goals
      refine bodyPost_ret (v := ?_) ?_ rfl ⟨?_, ?_⟩
      rotate_left 1
      · simp only [results, Try.results31]; go_simp; rfl
      · simp only [beq_iff_eq, beq_eq_false_iff_ne, ne_eq] at *
        exact regs3 (by unfold rA; (first | omega | (rw [if_neg (by omega), if_neg (by omega), if_pos (by omega)]))) (by unfold rB; omega) (by unfold wA; (first | omega | (rw [if_neg (by omega), if_neg (by omega), if_pos (by omega)])))
      · have hG := btrans (((Bel.refl w).alloc _).alloc _) hg1
        first
          | (with_reducible refine Bel.setCell ?_ ?_ _
             · first | with_reducible exact hG | with_reducible exact btrans hG hg2
             · (simp <;> omega))
          | (repeat (first | with_reducible exact hG | with_reducible exact btrans hG hg2 | with_reducible apply Bel.alloc | (with_reducible refine Bel.setCell ?_ ?_ _; rotate_left 1; (simp <;> omega))))
end Go.Proofs.Ytfhepjjebadpdaa
