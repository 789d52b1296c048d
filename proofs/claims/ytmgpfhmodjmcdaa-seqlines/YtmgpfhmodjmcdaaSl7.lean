/-
  Runs of written code, as plain mathematics: code that only reckons; code that tells its input; a loop that adds.
-/
import Derived.Test.YtmgpfhmodjmcdaaSd
namespace Go.Proofs.Ytmgpfhmodjmcdaa
set_option maxRecDepth 20000
set_option linter.unusedVariables false
open Go.ChangeShapes Go.WideShapes Go.ChangeAt Go.RowKit

theorem used_zeros (n : Nat) : usedL (List.replicate n 0) = [] := by
  have e : EndAt (List.replicate n 0) 0 := ⟨Nat.zero_le _, fun j _ hj => by rw [List.getElem?_replicate]; split <;> rfl, .inl rfl⟩
  rw [← used_of e]; rfl
/-- Behind j steps of code that only reckons. -/
theorem lines_run (X : List Ins) (n : Nat) (hX : ∀ x ∈ X, x.o ≤ 11 ∧ x.o ≠ 4 ∧ x.o ≠ 5) : ∀ j, j ≤ X.length → (∀ i, i ≤ j → (runK X (start n []) i).1 = 0) →
    (runK X (start n []) j).2.place = j ∧ (runK X (start n []) j).2.mem = List.replicate n 0 ∧ (runK X (start n []) j).2.out = []
  | 0, _, _ => ⟨rfl, rfl, rfl⟩
  | j + 1, hj, h => by
    obtain ⟨p1, p2, p3⟩ := lines_run X n hX j (by omega) (fun i hi => h i (by omega))
    have z := h j (by omega)
    have z1 := h (j + 1) (Nat.le_refl _)
    rw [runK_succ z] at z1 ⊢
    generalize (runK X (start n []) j).2 = s at *
    obtain ⟨R, M, p, I, O⟩ := s
    dsimp only at p1 p2 p3
    subst p1 p2 p3
    have hget : X.getD j Ins.zero = X[j] := by simp [List.getD, show j < X.length by omega]
    have hx := hX X[j] (List.getElem_mem _)
    rw [← hget] at hx
    revert z1
    unfold stepM
    dsimp only
    rw [if_neg (by omega), Int.toNat_natCast]
    generalize X.getD j Ins.zero = x at *
    split
    · rename_i hr
      have hb := right_bd hr
      unfold actM
      split
      · unfold resM
        dsimp only
        intro _
        split <;> exact ⟨by push_cast; rfl, rfl, rfl⟩
      · rename_i hre
        have h0 : x.o = 0 := by
          have : ¬ (1 ≤ x.o ∧ x.o ≤ 11) := by simpa [reckonsB] using hre
          omega
        unfold doM
        simp only [h0]
        intro _
        exact ⟨by push_cast; rfl, rfl, rfl⟩
    · intro h8
      exact absurd h8 (show ¬ ((8 : Int) = 0) by decide)
theorem lines_step (X : List Ins) (n : Nat) (hX : ∀ x ∈ X, x.o ≤ 11 ∧ x.o ≠ 4 ∧ x.o ≠ 5) (s : St) (j : Nat) (hs : s.place = j) (hj : j < X.length) (hne : (stepM X s).1 ≠ 0) : (stepM X s).1 = 8 := by
  have hget : X.getD j Ins.zero = X[j] := by simp [List.getD, hj]
  have hx := hX X[j] (List.getElem_mem _)
  rw [← hget] at hx
  revert hne
  unfold stepM
  rw [if_neg (by omega), hs, Int.toNat_natCast]
  generalize X.getD j Ins.zero = x at *
  split
  · rename_i hr
    have hb := right_bd hr
    unfold actM
    split
    · unfold resM
      intro h
      exfalso
      apply h
      show recT x.o _ = 0
      unfold recT
      rw [if_neg (by omega)]
    · rename_i hre
      have h0 : x.o = 0 := by
        have : ¬ (1 ≤ x.o ∧ x.o ≤ 11) := by simpa [reckonsB] using hre
        omega
      unfold doM
      simp [h0]
  · intro _; rfl
/-- What code that only reckons tells. -/
theorem said_lines {X : List Ins} {f t : Int} {k : Nat} {O M : List Int} (hX : ∀ x ∈ X, x.o ≤ 11 ∧ x.o ≠ 4 ∧ x.o ≠ 5) (hl : X.length ≤ 200) (h : Said X 10 [] 1000 t k O M) :
    (t = 8 ∧ k ≤ X.length) ∨ (t = 2 ∧ k = X.length + 1 ∧ O = [] ∧ M = []) := by
  unfold Said at h
  rw [if_neg (by omega)] at h
  obtain ⟨hE, ht, hO, hM⟩ := h
  obtain ⟨e1, e2, e3⟩ := hE
  have hF : (1000 : Int).toNat = 1000 := rfl
  have hZ : (10 : Int).toNat = 10 := rfl
  rw [hF] at e1 e3
  rw [hZ] at e2 e3 ht hO hM
  rcases Nat.lt_or_ge X.length k with hk | hk
  · -- all of the code was done
    have hz : ∀ i, i ≤ X.length → (runK X (start 10 []) i).1 = 0 := fun i hi => e2 i (by omega)
    obtain ⟨p1, p2, p3⟩ := lines_run X 10 hX X.length (Nat.le_refl _) hz
    have hst : stepM X (runK X (start 10 []) X.length).2 = (2, (runK X (start 10 []) X.length).2) := by
      unfold stepM
      rw [if_pos (by rw [p1]; omega)]
    have hs1 := runK_succ (hz X.length (Nat.le_refl _))
    rw [hst] at hs1
    have hkk : k = X.length + 1 := by
      rcases Nat.lt_or_ge (X.length + 1) k with h | h
      · have := e2 (X.length + 1) h
        rw [hs1] at this
        exact absurd this (show ¬ ((2 : Int) = 0) by decide)
      · omega
    subst hkk
    right
    rw [hs1] at ht hO hM
    exact ⟨ht, rfl, hO.trans p3, by rw [hM, p2]; exact used_zeros 10⟩
  · left
    have hne : (runK X (start 10 []) k).1 ≠ 0 := by
      rcases e3 with e3 | e3
      · exact e3
      · omega
    cases k with
    | zero => exact absurd rfl hne
    | succ k =>
      have hz : ∀ i, i ≤ k → (runK X (start 10 []) i).1 = 0 := fun i hi => e2 i (by omega)
      obtain ⟨p1, p2, p3⟩ := lines_run X 10 hX k (by omega) hz
      rw [runK_succ (hz k (Nat.le_refl _))] at hne ht
      exact ⟨by rw [ht]; exact lines_step X 10 hX _ k p1 (by omega) hne, hk⟩
end Go.Proofs.Ytmgpfhmodjmcdaa
