/-
  Contracts of package isa's functions: the parts of an operation, whether an instruction is right, its word, and back.
-/
import Derived.Test.YtfhepjjebadpdaaKit
namespace Go.Proofs.Ytfhepjjebadpdaa
set_option maxRecDepth 20000
open Go.ChangeShapes Go.WideShapes Go.ChangeAt Go.RowKit

def okOp (op : Int) : Bool := decide (0 ≤ op ∧ op ≤ 20)
def regsOf (op : Int) : Int := if 1 ≤ op ∧ op ≤ 9 then 3 else if op = 10 ∨ (12 ≤ op ∧ op ≤ 16) then 2 else if op = 11 ∨ op = 19 then 1 else 0
def leastOf (op : Int) : Int := if 10 ≤ op ∧ op ≤ 16 ∧ op ≠ 14 then -32768 else 0
def mostOf (op : Int) : Int := if 10 ≤ op ∧ op ≤ 16 then 32767 else if op = 17 ∨ op = 18 then 4096 else if op = 20 then 2 else 0
def regB (n : Int) (has : Bool) : Bool := if has then decide (0 ≤ n ∧ n < 32) else decide (n = 0)

theorem agg3 {a a' b b' c c' : Int} {o o' : Bool} (h1 : a = a') (h2 : b = b') (h3 : c = c') (h4 : o = o') :
    Ending.returned (.tuple #[.agg #[.int .i64 a, .int .i64 b, .int .i64 c], .bool o]) = .returned (.tuple #[.agg #[.int .i64 a', .int .i64 b', .int .i64 c'], .bool o']) := by rw [h1, h2, h3, h4]
theorem ret_bool {a b : Bool} (h : a = b) : Ending.returned (.bool a) = .returned (.bool b) := by rw [h]

theorem reg_any (n : Int) (has : Bool) (w : World) :
    Calls Try.prog 26 #[.int .i64 n, .bool has] w fun e w' => e = .returned (.bool (regB n has)) ∧ w' = w := by
  cases has
  · go_enter Try.func26, Try.ntmps26
    go_wp2
    go_ret
    exact ⟨ret_bool (by simp [regB]; rfl), rfl⟩
  · go_enter Try.func26, Try.ntmps26
    go_wp2
    all_goals
      go_ret
      exact ⟨ret_bool (by unfold regB; rw [Bool.eq_iff_iff]; simp; omega), rfl⟩

set_option maxHeartbeats 4000000 in
theorem parts_any (op : Int) (w : World) :
    Calls Try.prog 25 #[.int .i64 op] w fun e w' => e = .returned (.tuple #[.agg #[.int .i64 (regsOf op), .int .i64 (leastOf op), .int .i64 (mostOf op)], .bool (okOp op)]) ∧ Bel w w' := by
  go_enter Try.func25, Try.ntmps25
  go_wp2
  all_goals
    refine bodyPost_ret (v := ?_) ?_ rfl ⟨?_, ?_⟩
    rotate_left 1
    · simp [results, Try.results25, go_sem]; rfl
    · simp only [beq_iff_eq, beq_eq_false_iff_ne, ne_eq] at *
      exact agg3 (by unfold regsOf; omega) (by unfold leastOf; omega) (by unfold mostOf; omega) (by unfold okOp; rw [Bool.eq_iff_iff]; simp; omega)
    · repeat (first | exact Bel.refl _ | apply Bel.alloc | (refine Bel.setCell ?_ (by simp) _))
end Go.Proofs.Ytfhepjjebadpdaa
