/-
  To which place an instruction goes: the contracts of package block's Target and of the reference's.
-/
import Derived.Test.YtdhnlloohjehgaaCd
import Derived.Test.YtdhnlloohjehgaaRef2R
namespace Go.Proofs.Ytdhnlloohjehgaa
set_option maxRecDepth 20000
set_option linter.unusedVariables false
open Go.ChangeShapes Go.WideShapes Go.ChangeAt Go.RowKit

/-- Does it name a place to which it goes? -/
def namesB (o a b c i : Int) : Bool := rightB o a b c i && decide (15 ≤ o ∧ o ≤ 18)
def tgtI (o a b c i n : Int) : Int := if namesB o a b c i = true then (if o ≤ 16 then n + 1 + i else i) else 0
def Ins.names (x : Ins) : Bool := namesB x.o x.a x.b x.c x.i
def Ins.tgt (x : Ins) (n : Int) : Int := tgtI x.o x.a x.b x.c x.i n
theorem ret_two {a b : Int} {c d : Bool} (h : a = b) (k : c = d) : Ending.returned (.tuple #[.int .i64 a, .bool c]) = .returned (.tuple #[.int .i64 b, .bool d]) := by rw [h, k]
theorem hidm {p : Prop} (h : p) : Hid p := h
theorem tgt_bd (o a b c i n : Int) (hn : -2000000000 ≤ n ∧ n ≤ 2000000000) : -2000100000 ≤ tgtI o a b c i n ∧ tgtI o a b c i n ≤ 2000100000 := by
  unfold tgtI namesB
  cases hr : rightB o a b c i
  · simp
  · have := right_bd hr
    split <;> (try split) <;> omega

set_option maxHeartbeats 2000000 in
theorem target_any (o a b c i n : Int) (hn : -2000000000 ≤ n ∧ n ≤ 2000000000) (w : World) :
    Calls Try.prog 11 #[.agg #[.int .i64 o, .int .i64 a, .int .i64 b, .int .i64 c, .int .i64 i], .int .i64 n] w fun e w' => e = .returned (.tuple #[.int .i64 (tgtI o a b c i n), .bool (namesB o a b c i)]) ∧ Bel w w' := by
  cases hr : rightB o a b c i
  · have e1 : namesB o a b c i = false := by simp [namesB, hr]
    have e2 : tgtI o a b c i n = 0 := by simp [tgtI, e1]
    rw [e1, e2]
    clear e1 e2
    go_enter Try.func11, Try.ntmps11
    go_wp2_with (go_at_call 22; refine (right_any _ _ _ _ _ _).mono ?_; rintro e w1 ⟨rfl, hg1⟩)
    go_ret2
    exact ⟨rfl, btrans ((Bel.refl w).alloc _) hg1⟩
  · have hbd := right_bd hr
    have e1 : namesB o a b c i = decide (15 ≤ o ∧ o ≤ 18) := by simp [namesB, hr]
    have e2 : tgtI o a b c i n = if 15 ≤ o ∧ o ≤ 18 then (if o ≤ 16 then n + 1 + i else i) else 0 := by simp [tgtI, e1]
    have E1 := hidm e1
    have E2 := hidm e2
    clear e1 e2
    obtain ⟨q1, q2, q3, q4, q5, q6, q7, q8, q9, q10⟩ := hbd
    go_enter Try.func11, Try.ntmps11
    go_wp2_with (go_at_call 22; refine (right_any _ _ _ _ _ _).mono ?_; rintro e w1 ⟨rfl, hg1⟩; obtain ⟨hc, hf⟩ := bcell hg1; have hz : w.heap.size < w1.heap.size := (by have := hg1.size; simp at this; omega))
    all_goals
      go_ret2
      refine ⟨ret_two ?_ ?_, btrans ((Bel.refl w).alloc _) hg1⟩
      · rw [E2.out]
        (try simp only [beq_iff_eq, beq_eq_false_iff_ne, ne_eq] at *) <;> (first | omega | ((split <;> (try split)) <;> omega))
      · rw [E1.out]
        (try simp only [beq_iff_eq, beq_eq_false_iff_ne, ne_eq] at *) <;> (first | (exfalso; omega) | exact (decide_eq_true (by omega)).symm | exact (decide_eq_false (by omega)).symm)

set_option maxHeartbeats 2000000 in
theorem refTarget_any (o a b c i n : Int) (hn : -2000000000 ≤ n ∧ n ≤ 2000000000) (w : World) :
    Calls Try.prog 12 #[.agg #[.int .i64 o, .int .i64 a, .int .i64 b, .int .i64 c, .int .i64 i], .int .i64 n] w fun e w' => e = .returned (.tuple #[.int .i64 (tgtI o a b c i n), .bool (namesB o a b c i)]) ∧ Bel w w' := by
  cases hr : rightB o a b c i
  · have e1 : namesB o a b c i = false := by simp [namesB, hr]
    have e2 : tgtI o a b c i n = 0 := by simp [tgtI, e1]
    rw [e1, e2]
    clear e1 e2
    go_enter Try.func12, Try.ntmps12
    go_wp2_with (go_at_call 21; refine (refRight_any _ _ _ _ _ _).mono ?_; rintro e w1 ⟨rfl, hg1⟩)
    go_ret2
    exact ⟨rfl, btrans ((Bel.refl w).alloc _) hg1⟩
  · have hbd := right_bd hr
    have e1 : namesB o a b c i = decide (15 ≤ o ∧ o ≤ 18) := by simp [namesB, hr]
    have e2 : tgtI o a b c i n = if 15 ≤ o ∧ o ≤ 18 then (if o ≤ 16 then n + 1 + i else i) else 0 := by simp [tgtI, e1]
    have E1 := hidm e1
    have E2 := hidm e2
    clear e1 e2
    obtain ⟨q1, q2, q3, q4, q5, q6, q7, q8, q9, q10⟩ := hbd
    go_enter Try.func12, Try.ntmps12
    go_wp2_with (go_at_call 21; refine (refRight_any _ _ _ _ _ _).mono ?_; rintro e w1 ⟨rfl, hg1⟩; obtain ⟨hc, hf⟩ := bcell hg1; have hz : w.heap.size < w1.heap.size := (by have := hg1.size; simp at this; omega))
    all_goals
      go_ret2
      refine ⟨ret_two ?_ ?_, btrans ((Bel.refl w).alloc _) hg1⟩
      · rw [E2.out]
        first | omega | ((split <;> (try split)) <;> omega)
      · rw [E1.out]
        first | (exfalso; omega) | exact (decide_eq_true (by omega)).symm | exact (decide_eq_false (by omega)).symm
end Go.Proofs.Ytdhnlloohjehgaa
