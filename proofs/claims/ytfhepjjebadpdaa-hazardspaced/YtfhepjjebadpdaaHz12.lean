/-
  Faults of code, as plain mathematics.
-/
import Derived.Test.YtfhepjjebadpdaaIx
namespace Go.Proofs.Ytfhepjjebadpdaa
set_option maxRecDepth 20000
set_option linter.unusedVariables false
open Go.ChangeShapes Go.WideShapes Go.ChangeAt Go.RowKit

/-- The fault at a place; 0: none. -/
def faultI (X : List Ins) (k : Nat) : Int :=
  if (X.getD k Ins.zero).right = false then 1
  else if (X.getD k Ins.zero).goes = true then (if k + 1 < X.length ∧ (X.getD (k + 1) Ins.zero).goes = false then 0 else 2)
  else if (X.getD k Ins.zero).late = false then 0
  else if 0 < k ∧ (X.getD (k - 1) Ins.zero).goes = true then 3
  else if k + 1 < X.length ∧ (X.getD (k + 1) Ins.zero).rds (X.getD k Ins.zero).wr = true then 4 else 0
theorem fault_bd (X : List Ins) (k : Nat) : 0 ≤ faultI X k ∧ faultI X k ≤ 4 := by unfold faultI; repeat (first | omega | split)
def safeB (X : List Ins) : Bool := (List.range X.length).all fun k => decide (faultI X k = 0)
theorem safeB_iff (X : List Ins) : safeB X = true ↔ ∀ k, k < X.length → faultI X k = 0 := by simp [safeB]
theorem goes_right {x : Ins} (h : x.goes = true) : x.right = true := by
  unfold Ins.goes goesB at h
  rw [Bool.and_eq_true] at h
  exact h.1
theorem late_right {x : Ins} (h : x.late = true) : x.right = true := by
  unfold Ins.late lateB at h
  rw [Bool.and_eq_true] at h
  exact h.1
theorem app_getL {a b : List Ins} {k : Nat} (h : k < a.length) : (a ++ b).getD k Ins.zero = a.getD k Ins.zero := by simp [List.getD, List.getElem?_append_left h]
theorem app_getR (a b : List Ins) (k : Nat) : (a ++ b).getD (a.length + k) Ins.zero = b.getD k Ins.zero := by
  simp only [List.getD]
  rw [List.getElem?_append_right (by omega), Nat.add_sub_cancel_left]
/-- Code behind code that does not end with one that goes, or is late. -/
theorem fault_left {a b : List Ins} (hl : 0 < a.length → (a.getD (a.length - 1) Ins.zero).goes = false ∧ (a.getD (a.length - 1) Ins.zero).late = false) {k : Nat} (h : k < a.length) : faultI (a ++ b) k = faultI a k := by
  unfold faultI
  rw [app_getL h, List.length_append]
  by_cases q : k + 1 < a.length
  · have e : 0 < k → (a ++ b).getD (k - 1) Ins.zero = a.getD (k - 1) Ins.zero := fun h0 => app_getL (by omega)
    rw [app_getL q]
    by_cases h0 : 0 < k
    · rw [e h0]
      simp only [q, show k + 1 < a.length + b.length by omega]
    · simp only [q, show k + 1 < a.length + b.length by omega, h0, false_and, if_false]
  · obtain rfl : k = a.length - 1 := by omega
    obtain ⟨h1, h2⟩ := hl (by omega)
    rw [h1, h2]
    simp
theorem fault_right {a b : List Ins} (hl : 0 < a.length → (a.getD (a.length - 1) Ins.zero).goes = false ∧ (a.getD (a.length - 1) Ins.zero).late = false) (k : Nat) : faultI (a ++ b) (a.length + k) = faultI b k := by
  unfold faultI
  rw [app_getR, show a.length + k + 1 = a.length + (k + 1) by omega, app_getR, List.length_append]
  have e1 : (a.length + (k + 1) < a.length + b.length) = (k + 1 < b.length) := by simp
  have e2 : (0 < a.length + k ∧ ((a ++ b).getD (a.length + k - 1) Ins.zero).goes = true) = (0 < k ∧ (b.getD (k - 1) Ins.zero).goes = true) := by
    by_cases h0 : 0 < k
    · rw [show a.length + k - 1 = a.length + (k - 1) by omega, app_getR]
      simp only [h0, show 0 < a.length + k by omega, true_and]
    · obtain rfl : k = 0 := by omega
      by_cases ha : 0 < a.length
      · rw [Nat.add_zero, app_getL (show a.length - 1 < a.length by omega), (hl ha).1]
        simp
      · simp [ha]
  simp only [e1, e2]
theorem safe_joins {a b : List Ins} (hl : 0 < a.length → (a.getD (a.length - 1) Ins.zero).goes = false ∧ (a.getD (a.length - 1) Ins.zero).late = false) : safeB (a ++ b) = (safeB a && safeB b) := by
  rw [Bool.eq_iff_iff, Bool.and_eq_true, safeB_iff, safeB_iff, safeB_iff]
  constructor
  · intro h
    refine ⟨fun k hk => ?_, fun k hk => ?_⟩
    · rw [← fault_left (b := b) hl hk]; exact h k (by simp; omega)
    · rw [← fault_right (b := b) hl k]; exact h _ (by simp; omega)
  · rintro ⟨h1, h2⟩ k hk
    rw [List.length_append] at hk
    by_cases q : k < a.length
    · rw [fault_left hl q]; exact h1 k q
    · obtain ⟨j, rfl⟩ : ∃ j, k = a.length + j := ⟨k - a.length, by omega⟩
      rw [fault_right hl]; exact h2 j (by omega)
/-- Code of which none goes, and none is late. -/
theorem safe_plain {X : List Ins} (h : ∀ k, k < X.length → (X.getD k Ins.zero).right = true ∧ (X.getD k Ins.zero).goes = false ∧ (X.getD k Ins.zero).late = false) : safeB X = true := by
  rw [safeB_iff]
  intro k hk
  obtain ⟨h1, h2, h3⟩ := h k hk
  unfold faultI
  rw [h1, h2, h3]
  simp
theorem safe_one (x : Ins) : safeB [x] = (x.right && !x.goes) := by
  rw [Bool.eq_iff_iff, safeB_iff]
  constructor
  · intro h
    have := h 0 (by simp)
    unfold faultI at this
    simp only [List.getD_cons_zero, List.length_singleton] at this
    cases hr : x.right <;> cases hg : x.goes <;> simp_all
  · intro h k hk
    obtain rfl : k = 0 := by simp at hk; omega
    simp only [Bool.and_eq_true, Bool.not_eq_true'] at h
    unfold faultI
    simp [h.1, h.2]
/-- Two that go side by side. -/
theorem two_go {X : List Ins} {k : Nat} (hk : k + 1 < X.length) (h1 : (X.getD k Ins.zero).goes = true) (h2 : (X.getD (k + 1) Ins.zero).goes = true) : faultI X k = 2 := by
  unfold faultI
  rw [goes_right h1, h1, h2]
  simp
theorem two_fault {X : List Ins} {k : Nat} (hk : k + 1 < X.length) (h1 : (X.getD k Ins.zero).goes = true) (h2 : (X.getD (k + 1) Ins.zero).goes = true) : safeB X = false := by
  rw [Bool.eq_false_iff]
  intro h
  have := (safeB_iff X).1 h k (by omega)
  rw [two_go hk h1 h2] at this
  omega
/-- Code with a Nop behind each. -/
def wideX : List Ins → List Ins
  | [] => []
  | x :: l => x :: Ins.zero :: wideX l
theorem wideX_len : ∀ X : List Ins, (wideX X).length = 2 * X.length
  | [] => rfl
  | x :: l => by simp [wideX, wideX_len l]; omega
theorem wideX_at : ∀ (X : List Ins) (k : Nat), (wideX X).getD (2 * k) Ins.zero = X.getD k Ins.zero ∧ (wideX X).getD (2 * k + 1) Ins.zero = Ins.zero
  | [], k => by simp [wideX]
  | x :: l, 0 => ⟨rfl, rfl⟩
  | x :: l, k + 1 => by
    have := wideX_at l k
    rw [show 2 * (k + 1) = 2 * k + 1 + 1 by omega, show 2 * k + 1 + 1 + 1 = (2 * k + 1) + 1 + 1 from rfl]
    exact this
theorem nop_r : Ins.zero.right = true := by decide
theorem nop_g : Ins.zero.goes = false := by decide
theorem nop_l : Ins.zero.late = false := by decide
theorem nop_rds (n : Int) : Ins.zero.rds n = false := by
  have h1 : Ins.zero.rd1 = 0 := by decide
  have h2 : Ins.zero.rd2 = 0 := by decide
  unfold Ins.rds
  rw [h1, h2]
  simp
theorem wide_fault (X : List Ins) (k : Nat) : faultI (wideX X) (2 * k) = (if (X.getD k Ins.zero).right = false then 1 else if 2 * k + 1 < 2 * X.length ∨ (X.getD k Ins.zero).goes = false then 0 else 2) ∧ faultI (wideX X) (2 * k + 1) = 0 := by
  obtain ⟨e1, e2⟩ := wideX_at X k
  constructor
  · unfold faultI
    rw [e1, e2, wideX_len, nop_g]
    have e3 : 0 < 2 * k → (wideX X).getD (2 * k - 1) Ins.zero = Ins.zero := fun h => by
      rw [show 2 * k - 1 = 2 * (k - 1) + 1 by omega]; exact (wideX_at X (k - 1)).2
    cases hr : (X.getD k Ins.zero).right with
    | false => simp
    | true =>
      cases hg : (X.getD k Ins.zero).goes with
      | true =>
        by_cases q : 2 * k + 1 < 2 * X.length
        · simp [q]
        · simp [q]
      | false =>
        cases hl : (X.getD k Ins.zero).late with
        | false => simp
        | true =>
          by_cases h0 : 0 < 2 * k
          · rw [e3 h0, nop_g]; simp [nop_rds]
          · simp [nop_rds, h0]
  · unfold faultI
    rw [e2, nop_r, nop_g, nop_l]
    simp
/-- A load. -/
def loadX (n : Int) : Ins := ⟨12, n, 0, 0, 0⟩
theorem load_facts {n : Int} (h0 : 0 ≤ n) (h1 : n ≤ 31) : (loadX n).right = true ∧ (loadX n).goes = false ∧ (loadX n).late = true ∧ (loadX n).wr = n := by
  have hr : rightB 12 n 0 0 0 = true := by
    have e1 : regsOf 12 = 2 := by decide
    have e2 : leastOf 12 ≤ 0 ∧ 0 ≤ mostOf 12 := by decide
    have e3 : okOp 12 = true := by decide
    unfold rightB regB
    rw [e1, e3]
    simp [e2]
    omega
  refine ⟨hr, ?_, ?_, ?_⟩
  · unfold Ins.goes goesB loadX; simp
  · unfold Ins.late lateB loadX; simp [hr]
  · unfold Ins.wr wr1 wA loadX; simp [hr]
theorem jmp_facts : (⟨17, 0, 0, 0, 0⟩ : Ins).right = true ∧ (⟨17, 0, 0, 0, 0⟩ : Ins).goes = true := by decide
theorem late_two {n : Int} (h0 : 0 ≤ n) (h1 : n ≤ 31) {x : Ins} (hr : x.right = true) (hg : x.goes = false) (hl : x.late = false) : safeB [loadX n, x] = !x.rds n := by
  obtain ⟨l1, l2, l3, l4⟩ := load_facts h0 h1
  rw [Bool.eq_iff_iff, safeB_iff, Bool.not_eq_true']
  constructor
  · intro h
    have := h 0 (by simp)
    unfold faultI at this
    cases q : x.rds n with
    | false => rfl
    | true => simp [l1, l2, l3, l4, q] at this
  · intro h k hk
    have hk2 : k = 0 ∨ k = 1 := by simp at hk; omega
    rcases hk2 with rfl | rfl
    · unfold faultI; simp [l1, l2, l3, l4, h]
    · unfold faultI; simp [hr, hg, hl]
theorem late_slot {n : Int} (h0 : 0 ≤ n) (h1 : n ≤ 31) (x : Ins) : safeB [⟨17, 0, 0, 0, 0⟩, loadX n, x] = false := by
  obtain ⟨l1, l2, l3, l4⟩ := load_facts h0 h1
  rw [Bool.eq_false_iff]
  intro h
  have := (safeB_iff _).1 h 1 (by simp)
  unfold faultI at this
  simp [l1, l2, l3, jmp_facts.2] at this
theorem late_nop {n : Int} (h0 : 0 ≤ n) (h1 : n ≤ 31) {x : Ins} (hr : x.right = true) (hg : x.goes = false) (hl : x.late = false) : safeB [loadX n, Ins.zero, x] = true := by
  obtain ⟨l1, l2, l3, l4⟩ := load_facts h0 h1
  rw [safeB_iff]
  intro k hk
  have hk2 : k = 0 ∨ k = 1 ∨ k = 2 := by simp at hk; omega
  rcases hk2 with rfl | rfl | rfl
  · unfold faultI; simp [l1, l2, l3, nop_rds]
  · unfold faultI; simp [nop_r, nop_g, nop_l]
  · unfold faultI; simp [hr, hg, hl]
/-- The first place of a fault, from a place on. -/
def fstF (X : List Ins) : Nat → Int × Int
  | 0 => (-1, 0)
  | d + 1 => if faultI X (X.length - (d + 1)) ≠ 0 then (((X.length - (d + 1) : Nat) : Int), faultI X (X.length - (d + 1))) else fstF X d
theorem fstF_safe (X : List Ins) : ∀ d, d ≤ X.length → ((fstF X d).2 = 0 ↔ ∀ k, X.length - d ≤ k → k < X.length → faultI X k = 0)
  | 0, _ => by simp only [fstF, true_iff]; intro k h1 h2; omega
  | d + 1, h => by
    have ih := fstF_safe X d (by omega)
    unfold fstF
    by_cases q : faultI X (X.length - (d + 1)) ≠ 0
    · rw [if_pos q]
      exact ⟨fun e => absurd e q, fun e => e _ (Nat.le_refl _) (by omega)⟩
    · rw [if_neg q, ih]
      constructor
      · intro e k h1 h2
        by_cases z : k = X.length - (d + 1)
        · subst z; exact Classical.byContradiction q
        · exact e k (by omega) h2
      · intro e k h1 h2
        exact e k (by omega) h2
end Go.Proofs.Ytfhepjjebadpdaa
