/-
  Mathematics of heights, and of orders that keep.
-/
import Derived.Test.YtpmofaajkhllpaaDm
namespace Go.Proofs.Ytpmofaajkhllpaa
set_option maxRecDepth 20000
set_option linter.unusedVariables false
open Go.ChangeShapes Go.WideShapes Go.ChangeAt Go.RowKit

/-- The heights of a list. -/
def hgt : List Ins → List Int
  | [] => []
  | x :: l => most x (l.zip (hgt l)) :: hgt l
theorem hgt_len : ∀ l : List Ins, (hgt l).length = l.length
  | [] => rfl
  | x :: l => by simp [hgt, hgt_len l]
theorem hgt_good : ∀ l : List Ins, Good (2 * ((l.length : Int) - 1)) (l.zip (hgt l))
  | [] => fun p hp => by simp [hgt] at hp
  | x :: l => by
    have ih := hgt_good l
    have e : (x :: l).zip (hgt (x :: l)) = (x, most x (l.zip (hgt l))) :: l.zip (hgt l) := rfl
    rw [e]
    have hn : (((x :: l).length : Nat) : Int) = (l.length : Int) + 1 := by simp
    rw [hn]
    cases l with
    | nil => 
      intro p hp
      simp [hgt, most] at hp
      subst hp
      simp
    | cons y r =>
      have hn2 : (((y :: r).length : Nat) : Int) = (r.length : Int) + 1 := by simp
      rw [hn2] at ih ⊢
      have h := most_bd (m := 2 * ((r.length : Int) + 1 - 1)) (by omega) x ih
      exact Good.cons (ih.mono (by omega)) h.1 (by omega)
theorem hgt_bd (l : List Ins) (k : Nat) (hk : k < l.length) : 0 ≤ (hgt l).getD k 0 ∧ (hgt l).getD k 0 ≤ 2 * ((l.length : Int) - 1 - k) := by
  induction l generalizing k with
  | nil => simp at hk
  | cons x l ih =>
    cases k with
    | zero =>
      have := hgt_good (x :: l) (x, most x (l.zip (hgt l))) (by simp [hgt])
      simp only [hgt, List.getD_cons_zero, List.length_cons] at this ⊢
      omega
    | succ k =>
      have := ih k (by simpa using hk)
      simp only [hgt, List.getD_cons_succ, List.length_cons] at this ⊢
      omega
/-- Which instructions have been looked at, from the end on, down to place k, with their numbers. -/
def addL (X : List Ins) (B : Nat → Int) (k : Nat) : List (Ins × Int) := (X.drop k).zip ((List.range' k (X.length - k)).map B)
theorem addL_end (X : List Ins) (B : Nat → Int) (k : Nat) (h : X.length ≤ k) : addL X B k = [] := by
  simp [addL, List.drop_eq_nil_of_le h]
theorem addL_step (X : List Ins) (B : Nat → Int) (k : Nat) (h : k < X.length) : addL X B k = (X.getD k Ins.zero, B k) :: addL X B (k + 1) := by
  unfold addL
  rw [List.drop_eq_getElem_cons h, show X.length - k = (X.length - (k + 1)) + 1 by omega, List.range'_succ, List.map_cons, List.zip_cons_cons]
  simp [List.getD, h]
theorem addL_cong (X : List Ins) (B C : Nat → Int) (k : Nat) (h : ∀ j, k ≤ j → j < X.length → B j = C j) : addL X B k = addL X C k := by
  unfold addL
  congr 1
  apply List.map_congr_left
  intro j hj
  rw [List.mem_range'] at hj
  obtain ⟨i, hi, rfl⟩ := hj
  exact h _ (by omega) (by omega)
theorem addL_good {X : List Ins} {B : Nat → Int} {m : Int} (h : ∀ j, j < X.length → 0 ≤ B j ∧ B j ≤ m) (k : Nat) : Good m (addL X B k) := by
  generalize hd : X.length - k = d
  induction d generalizing k with
  | zero =>
    rw [addL_end X B k (by omega)]
    intro p hp
    simp at hp
  | succ d ih =>
    rw [addL_step X B k (by omega)]
    have := h k (by omega)
    exact Good.cons (ih (k + 1) (by omega)) this.1 this.2
theorem hgt_at (X : List Ins) (k : Nat) (h : k < X.length) : (hgt X).getD k 0 = most (X.getD k Ins.zero) (addL X (fun j => (hgt X).getD j 0) (k + 1)) := by
  induction X generalizing k with
  | nil => simp at h
  | cons x l ih =>
    have hs : ∀ k, addL (x :: l) (fun j => (hgt (x :: l)).getD j 0) (k + 1) = addL l (fun j => (hgt l).getD j 0) k := by
      intro k
      unfold addL
      simp only [List.drop_succ_cons, List.length_cons, Nat.add_sub_add_right]
      congr 1
      rw [show k + 1 = 1 + k by omega, ← List.map_add_range', List.map_map]
      apply List.map_congr_left
      intro j _
      simp [hgt, Nat.add_comm 1 j]
    have h0 : addL l (fun j => (hgt l).getD j 0) 0 = l.zip (hgt l) := by
      unfold addL
      rw [List.drop_zero, Nat.sub_zero]
      congr 1
      apply List.ext_getElem
      · simp [hgt_len]
      · intro i h1 h2
        simp [h2]
    cases k with
    | zero => rw [hs, h0]; simp [hgt]
    | succ k =>
      rw [hs, List.getD_cons_succ]
      exact ih k (by simpa using h)
/-- Does each that must stay ahead of a later one do so, where B says how many places stand behind each? -/
def keepM (X : List Ins) (B : Nat → Int) : Prop := ∀ i j, i < j → j < X.length → 0 < farI (X.getD i Ins.zero) (X.getD j Ins.zero) → B j + farI (X.getD i Ins.zero) (X.getD j Ins.zero) ≤ B i
theorem most_le (x : Ins) (X : List Ins) (B : Nat → Int) (b : Int) (hb : 0 ≤ b) (k : Nat) : most x (addL X B k) ≤ b ↔ ∀ j, k ≤ j → j < X.length → 0 < farI x (X.getD j Ins.zero) → B j + farI x (X.getD j Ins.zero) ≤ b := by
  generalize hd : X.length - k = d
  induction d generalizing k with
  | zero =>
    rw [addL_end X B k (by omega)]
    simp only [most]
    exact ⟨fun _ j h1 h2 => by omega, fun _ => hb⟩
  | succ d ih0 =>
    have hk : k < X.length := by omega
    have ih := ih0 (k + 1) (by omega)
    have e : most x (addL X B k) = if 0 < farI x (X.getD k Ins.zero) then max (most x (addL X B (k + 1))) (B k + farI x (X.getD k Ins.zero)) else most x (addL X B (k + 1)) := by rw [addL_step X B k hk]; rfl
    rw [e]
    constructor
    · intro h j h1 h2 h3
      by_cases hj : j = k
      · subst hj
        rw [if_pos h3] at h
        omega
      · refine ih.1 ?_ j (by omega) h2 h3
        split at h <;> omega
    · intro h
      have h1 := ih.2 (fun j h1 h2 h3 => h j (by omega) h2 h3)
      split
      · rename_i h2
        have := h k (Nat.le_refl _) hk h2
        omega
      · exact h1
theorem keep_most (X : List Ins) (B : Nat → Int) (hB : ∀ j, j < X.length → 0 ≤ B j) : keepM X B ↔ ∀ i, i < X.length → most (X.getD i Ins.zero) (addL X B (i + 1)) ≤ B i := by
  constructor
  · intro h i hi
    exact (most_le _ X B _ (hB i hi) (i + 1)).2 fun j h1 h2 h3 => h i j (by omega) h2 h3
  · intro h i j h1 h2 h3
    exact (most_le _ X B _ (hB i (by omega)) (i + 1)).1 (h i (by omega)) j (by omega) h2 h3
end Go.Proofs.Ytpmofaajkhllpaa
