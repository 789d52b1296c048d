/-
  The list of the registers that are read: at most two, rising, each from 1 to 31; and just those that the reference says.
-/
import Derived.Test.YtabfcbckeldkjaaRd
import Derived.Test.YtabfcbckeldkjaaRef3
namespace Go.Proofs.Ytabfcbckeldkjaa
open Go.ChangeShapes Go.WideShapes Go.ChangeAt Go.RowKit

theorem rdL_forms (op a b c imm : Int) :
    (rdL op a b c imm = [] ∧ rd1 op a b c imm = 0 ∧ rd2 op a b c imm = 0) ∨
    (∃ x, rdL op a b c imm = [x] ∧ 1 ≤ x ∧ x ≤ 31 ∧ (rd1 op a b c imm = x ∨ rd1 op a b c imm = 0) ∧ (rd2 op a b c imm = x ∨ rd2 op a b c imm = 0) ∧ (rd1 op a b c imm = x ∨ rd2 op a b c imm = x)) ∨
    (∃ x y, rdL op a b c imm = [x, y] ∧ 1 ≤ x ∧ x < y ∧ y ≤ 31 ∧ (rd1 op a b c imm = x ∧ rd2 op a b c imm = y ∨ rd1 op a b c imm = y ∧ rd2 op a b c imm = x)) := by
  obtain ⟨h1, h2, h3, h4, _, _⟩ := rd_bd op a b c imm
  unfold rdL
  generalize rd1 op a b c imm = r1 at *
  generalize rd2 op a b c imm = r2 at *
  have hl : lo2 r1 r2 ≤ hi2 r1 r2 ∧ (lo2 r1 r2 = r1 ∧ hi2 r1 r2 = r2 ∨ lo2 r1 r2 = r2 ∧ hi2 r1 r2 = r1) := by unfold lo2 hi2; omega
  generalize lo2 r1 r2 = l at *
  generalize hi2 r1 r2 = h at *
  by_cases e1 : l = 0
  · by_cases e2 : h = l
    · exact .inl ⟨by simp [pairL, e1, e2], by omega, by omega⟩
    · exact .inr (.inl ⟨h, by subst e1; simp [pairL, e2], by omega, by omega, by omega, by omega, by omega⟩)
  · by_cases e2 : h = l
    · exact .inr (.inl ⟨l, by simp [pairL, e1, e2], by omega, by omega, by omega, by omega, by omega⟩)
    · exact .inr (.inr ⟨l, h, by simp [pairL, e1, e2], by omega, by omega, by omega, by omega⟩)

def cntL (L : List Int) (n : Nat) : Nat := (L.filter (fun x => decide (x < (n : Int)))).length
theorem cnt_zero (op a b c imm : Int) : cntL (rdL op a b c imm) 0 = 0 := by
  rcases rdL_forms op a b c imm with ⟨h, _⟩ | ⟨x, h, h1, _⟩ | ⟨x, y, h, h1, h2, _⟩
  · rw [h]; rfl
  · rw [h]; unfold cntL; rw [List.filter_cons, if_neg (by simp; omega)]; rfl
  · rw [h]; unfold cntL; rw [List.filter_cons, if_neg (by simp; omega), List.filter_cons, if_neg (by simp; omega)]; rfl
theorem cnt_end (op a b c imm : Int) : cntL (rdL op a b c imm) 40 = (rdL op a b c imm).length := by
  rcases rdL_forms op a b c imm with ⟨h, _⟩ | ⟨x, h, h1, h2, _⟩ | ⟨x, y, h, h1, h2, h3, _⟩
  · rw [h]; rfl
  · rw [h]; unfold cntL; rw [List.filter_cons, if_pos (by simp; omega)]; rfl
  · rw [h]; unfold cntL; rw [List.filter_cons, if_pos (by simp; omega), List.filter_cons, if_pos (by simp; omega)]; rfl
theorem cnt_le (L : List Int) (n : Nat) : cntL L n ≤ L.length := List.length_filter_le _ _
theorem cnt_yes (op a b c imm : Int) (n : Nat) (h : refRd op a b c imm n = true) :
    cntL (rdL op a b c imm) n < (rdL op a b c imm).length ∧ (rdL op a b c imm).getD (cntL (rdL op a b c imm) n) 0 = n ∧ cntL (rdL op a b c imm) (n + 1) = cntL (rdL op a b c imm) n + 1 := by
  unfold refRd at h
  simp only [decide_eq_true_eq] at h
  rcases rdL_forms op a b c imm with ⟨h0, _⟩ | ⟨x, h0, h1, h2, _⟩ | ⟨x, y, h0, h1, h2, h3, h4⟩
  · omega
  · have e : x = n := by omega
    subst e
    rw [h0]
    unfold cntL
    have k2 : (n : Int) < n + 1 := by omega
    simp [k2]
  · rw [h0]
    unfold cntL
    by_cases e : x = n
    · subst e
      have : ¬ y < (n : Int) := by omega
      have k : ¬ y < (n : Int) + 1 := by omega
      have k2 : (n : Int) < n + 1 := by omega
      simp [this, k, k2]
    · have e' : y = n := by omega
      subst e'
      have k1 : x < (n : Int) + 1 := by omega
      have k2 : (n : Int) < n + 1 := by omega
      simp [h2, k1, k2]
theorem cnt_no (op a b c imm : Int) (n : Nat) (h : refRd op a b c imm n = false) :
    cntL (rdL op a b c imm) (n + 1) = cntL (rdL op a b c imm) n := by
  unfold refRd at h
  simp only [decide_eq_false_iff_not] at h
  unfold cntL
  congr 1
  apply List.filter_congr
  intro x hx
  have hx' : x ≠ n := by
    rcases rdL_forms op a b c imm with ⟨h0, _⟩ | ⟨y, h0, h1, h2, _⟩ | ⟨y, z, h0, h1, h2, h3, h4⟩
    · rw [h0] at hx; simp at hx
    · rw [h0] at hx; simp at hx; omega
    · rw [h0] at hx; simp at hx; omega
  rw [decide_eq_decide]
  omega
theorem len_bd (op a b c imm : Int) : (rdL op a b c imm).length ≤ 2 := by
  rcases rdL_forms op a b c imm with ⟨h, _⟩ | ⟨x, h, _⟩ | ⟨x, y, h, _⟩ <;> rw [h] <;> simp
theorem el_bd (op a b c imm : Int) (k : Nat) (hk : k < (rdL op a b c imm).length) : 1 ≤ (rdL op a b c imm).getD k 0 ∧ (rdL op a b c imm).getD k 0 ≤ 31 := by
  rcases rdL_forms op a b c imm with ⟨h, _⟩ | ⟨x, h, h1, h2, _⟩ | ⟨x, y, h, h1, h2, h3, _⟩
  · rw [h] at hk; simp at hk
  · rw [h] at hk ⊢
    simp at hk
    subst hk
    exact ⟨h1, h2⟩
  · rw [h] at hk ⊢
    simp at hk
    match k, hk with
    | 0, _ => exact ⟨h1, by simp; omega⟩
    | 1, _ => exact ⟨by simp; omega, by simpa using h3⟩
theorem touch_iff (op a b c imm n : Int) : touchB op a b c imm n = (decide (n ≠ 0) && (refRd op a b c imm n || decide (wr1 op a b c imm = n))) := by
  unfold touchB refRd
  rw [Bool.eq_iff_iff]
  simp
  omega
theorem not_both (op a b c imm : Int) : (goesB op a b c imm && actsB op a b c imm) = false := by
  unfold goesB actsB
  rw [Bool.eq_false_iff]
  simp
  omega
theorem late_acts (op a b c imm : Int) (h : lateB op a b c imm = true) : actsB op a b c imm = true := by
  unfold lateB at h
  unfold actsB
  simp at h ⊢
  exact ⟨h.1, by omega⟩
end Go.Proofs.Ytabfcbckeldkjaa
