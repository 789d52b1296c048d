/-
  Contracts of the reference of layer 3.
-/
import Derived.Test.YtfhepjjebadpdaaRef2R
import Derived.Test.YtfhepjjebadpdaaEff
import Derived.RegionTactic
namespace Go.Proofs.Ytfhepjjebadpdaa
set_option maxRecDepth 20000
open Go.ChangeShapes Go.WideShapes Go.ChangeAt Go.RowKit

def refRd (op a b c imm n : Int) : Bool := decide (n ≠ 0 ∧ (n = rd1 op a b c imm ∨ n = rd2 op a b c imm))
theorem rd_bd (op a b c imm : Int) : 0 ≤ rd1 op a b c imm ∧ rd1 op a b c imm ≤ 31 ∧ 0 ≤ rd2 op a b c imm ∧ rd2 op a b c imm ≤ 31 ∧ 0 ≤ wr1 op a b c imm ∧ wr1 op a b c imm ≤ 31 := by
  cases h : rightB op a b c imm
  · simp [rd1, rd2, wr1, h]
  · obtain ⟨b1, b2, b3, b4, b5, b6, b7, b8, b9, b10⟩ := right_bd h
    have h1 : rd1 op a b c imm = rA op a b imm := by simp [rd1, h]
    have h2 : rd2 op a b c imm = rB op b c := by simp [rd2, h]
    have h3 : wr1 op a b c imm = wA op a imm := by simp [wr1, h]
    rw [h1, h2, h3]
    have : 0 ≤ sR imm ∧ sR imm ≤ 31 := by unfold sR; omega
    have : 0 ≤ sW imm ∧ sW imm ≤ 31 := by unfold sW; omega
    unfold rA rB wA
    omega
theorem refRd_far {op a b c imm n : Int} (h : n < 1 ∨ 31 < n) : refRd op a b c imm n = false := by
  have := rd_bd op a b c imm
  unfold refRd
  simp only [decide_eq_false_iff_not]
  omega
theorem refRd_no {op a b c imm n : Int} (h : rightB op a b c imm = false) : refRd op a b c imm n = false := by
  unfold refRd rd1 rd2
  simp [h]

theorem refReads_no (op a b c imm n : Int) (w : World) (h : rightB op a b c imm = false) :
    Calls Try.prog 16 #[.agg #[.int .i64 op, .int .i64 a, .int .i64 b, .int .i64 c, .int .i64 imm], .int .i64 n] w fun e w' => e = .returned (.bool (refRd op a b c imm n)) ∧ Bel w w' := by
  rw [refRd_no h]
  go_enter Try.func16, Try.ntmps16
  go_wp2_with (go_at_call 15; refine (refRight_any _ _ _ _ _ _).mono ?_; rintro e w1 ⟨rfl, hg1⟩)
  go_ret
  exact ⟨rfl, btrans ((Bel.refl w).alloc _) hg1⟩
theorem refReads_far (op a b c imm n : Int) (w : World) (h : n < 1 ∨ 31 < n) (hr : rightB op a b c imm = true) :
    Calls Try.prog 16 #[.agg #[.int .i64 op, .int .i64 a, .int .i64 b, .int .i64 c, .int .i64 imm], .int .i64 n] w fun e w' => e = .returned (.bool (refRd op a b c imm n)) ∧ Bel w w' := by
  rw [refRd_far h]
  rcases h with h | h
  all_goals
    go_enter Try.func16, Try.ntmps16
    go_wp2_with (go_at_call 15; refine (refRight_any _ _ _ _ _ _).mono ?_; rintro e w1 ⟨rfl, hg1⟩)
    go_ret
    exact ⟨rfl, btrans ((Bel.refl w).alloc _) hg1⟩
set_option maxHeartbeats 8000000 in
theorem refReads_yes (op a b c imm n : Int) (w : World) (h1 : 1 ≤ n) (h2 : n ≤ 31) (hr : rightB op a b c imm = true) :
    Calls Try.prog 16 #[.agg #[.int .i64 op, .int .i64 a, .int .i64 b, .int .i64 c, .int .i64 imm], .int .i64 n] w fun e w' => e = .returned (.bool (refRd op a b c imm n)) ∧ Bel w w' := by
  have e1 : rd1 op a b c imm = rA op a b imm := by simp [rd1, hr]
  have e2 : rd2 op a b c imm = rB op b c := by simp [rd2, hr]
  have e3 : refRd op a b c imm n = decide (n ≠ 0 ∧ (n = rA op a b imm ∨ n = rB op b c)) := by unfold refRd; rw [e1, e2]
  rw [e3]
  clear e1 e2 e3
  go_enter Try.func16, Try.ntmps16
  go_wp2_with (go_at_call 15; refine (refRight_any _ _ _ _ _ _).mono ?_; rintro e w1 ⟨rfl, hg1⟩; obtain ⟨hc, hf⟩ := bcell hg1; have hz : w.heap.size < w1.heap.size := (by have := hg1.size; simp at this; omega); obtain ⟨p0, p1, p2, p3, p4⟩ : w1.cell? ⟨w.heap.size, 0, none⟩ = some (.int .i64 op) ∧ w1.cell? ⟨w.heap.size, 1, none⟩ = some (.int .i64 a) ∧ w1.cell? ⟨w.heap.size, 2, none⟩ = some (.int .i64 b) ∧ w1.cell? ⟨w.heap.size, 3, none⟩ = some (.int .i64 c) ∧ w1.cell? ⟨w.heap.size, 4, none⟩ = some (.int .i64 imm) := (by refine ⟨?_, ?_, ?_, ?_, ?_⟩ <;> (rw [hc _ _ (by simp <;> omega)]; go_simp)); clear hc)
  go_region
  go_wp2
  all_goals
    go_ret
    refine ⟨ret_bool ?_, ?_⟩
    · simp only [beq_iff_eq, beq_eq_false_iff_ne, ne_eq] at *
      rw [Bool.eq_iff_iff]
      simp only [beq_iff_eq, decide_eq_true_eq, Bool.or_eq_true, true_iff, Bool.false_eq_true, false_iff]
      unfold rA rB sR
      omega
    · exact (btrans ((Bel.refl w).alloc _) hg1).drew
theorem refReads_any (op a b c imm n : Int) (w : World) :
    Calls Try.prog 16 #[.agg #[.int .i64 op, .int .i64 a, .int .i64 b, .int .i64 c, .int .i64 imm], .int .i64 n] w fun e w' => e = .returned (.bool (refRd op a b c imm n)) ∧ Bel w w' := by
  cases hr : rightB op a b c imm
  · exact refReads_no op a b c imm n w hr
  · by_cases h : 1 ≤ n ∧ n ≤ 31
    · exact refReads_yes op a b c imm n w h.1 h.2 hr
    · exact refReads_far op a b c imm n w (by omega) hr

set_option maxHeartbeats 1000000 in
theorem refWrites_any (op a b c imm : Int) (w : World) :
    Calls Try.prog 17 #[.agg #[.int .i64 op, .int .i64 a, .int .i64 b, .int .i64 c, .int .i64 imm]] w fun e w' => e = .returned (.int .i64 (wr1 op a b c imm)) ∧ Bel w w' := by
  cases hr : rightB op a b c imm
  · rw [show wr1 op a b c imm = 0 from by simp [wr1, hr]]
    go_enter Try.func17, Try.ntmps17
    go_wp2_with (go_at_call 15; refine (refRight_any _ _ _ _ _ _).mono ?_; rintro e w1 ⟨rfl, hg1⟩)
    go_ret
    exact ⟨rfl, btrans ((Bel.refl w).alloc _) hg1⟩
  · rw [show wr1 op a b c imm = wA op a imm from by simp [wr1, hr]]
    go_enter Try.func17, Try.ntmps17
    go_wp2_with (go_at_call 15; refine (refRight_any _ _ _ _ _ _).mono ?_; rintro e w1 ⟨rfl, hg1⟩; obtain ⟨hc, hf⟩ := bcell hg1; have hz : w.heap.size < w1.heap.size := (by have := hg1.size; simp at this; omega))
    all_goals
      go_ret
      refine ⟨ret_int ?_, btrans ((Bel.refl w).alloc _) hg1⟩
      (try simp only [beq_iff_eq, beq_eq_false_iff_ne, ne_eq] at *)
      unfold wA sW
      omega
set_option maxHeartbeats 1000000 in
theorem refGoes_any (op a b c imm : Int) (w : World) :
    Calls Try.prog 13 #[.agg #[.int .i64 op, .int .i64 a, .int .i64 b, .int .i64 c, .int .i64 imm]] w fun e w' => e = .returned (.bool (goesB op a b c imm)) ∧ Bel w w' := by
  cases hr : rightB op a b c imm
  all_goals
    go_enter Try.func13, Try.ntmps13
    go_wp2_with (go_at_call 15; refine (refRight_any _ _ _ _ _ _).mono ?_; rintro e w1 ⟨rfl, hg1⟩; obtain ⟨hc, hf⟩ := bcell hg1; have hz : w.heap.size < w1.heap.size := (by have := hg1.size; simp at this; omega))
    all_goals
      go_ret
      refine ⟨ret_bool ?_, btrans ((Bel.refl w).alloc _) hg1⟩
      unfold goesB
      rw [Bool.eq_iff_iff]; simp_all <;> omega
set_option maxHeartbeats 1000000 in
theorem refLate_any (op a b c imm : Int) (w : World) :
    Calls Try.prog 14 #[.agg #[.int .i64 op, .int .i64 a, .int .i64 b, .int .i64 c, .int .i64 imm]] w fun e w' => e = .returned (.bool (lateB op a b c imm)) ∧ Bel w w' := by
  cases hr : rightB op a b c imm
  all_goals
    go_enter Try.func14, Try.ntmps14
    go_wp2_with (go_at_call 15; refine (refRight_any _ _ _ _ _ _).mono ?_; rintro e w1 ⟨rfl, hg1⟩; obtain ⟨hc, hf⟩ := bcell hg1; have hz : w.heap.size < w1.heap.size := (by have := hg1.size; simp at this; omega))
    all_goals
      go_ret
      refine ⟨ret_bool ?_, btrans ((Bel.refl w).alloc _) hg1⟩
      unfold lateB
      rw [Bool.eq_iff_iff]; simp_all <;> omega
end Go.Proofs.Ytfhepjjebadpdaa
