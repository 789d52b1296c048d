/-
  Load and Store at any address at all.
-/
import Derived.Test.YtpmjkdhnoknhlaaAct6
namespace Go.Proofs.Ytpmjkdhnoknhlaa
set_option linter.unusedVariables false
open Go.ChangeShapes Go.WideShapes Go.ChangeAt Go.RowKit

/-- Is there a cell at z? -/
def inM (L : List Int) (z : Int) : Bool := decide (0 ≤ z ∧ z < L.length)
/-- The words behind a store of v at z. -/
def putM (L : List Int) (z v : Int) : List Int := if inM L z = true then L.set z.toNat (wrap32 v) else L
/-- The word at z; 0, if there is none. -/
def getM (L : List Int) (z : Int) : Int := if inM L z = true then L[z.toNat]?.getD 0 else 0
theorem inM_yes {L : List Int} {z : Int} (h0 : 0 ≤ z) (h1 : z < L.length) : inM L z = true := decide_eq_true ⟨h0, h1⟩
theorem inM_no {L : List Int} {z : Int} (h : z < 0 ∨ L.length ≤ z) : inM L z = false := decide_eq_false (fun e => by omega)
theorem inM_iff {L : List Int} {z : Int} : inM L z = true ↔ 0 ≤ z ∧ z < L.length := decide_eq_true_iff
theorem put_len (L : List Int) (z v : Int) : (putM L z v).length = L.length := by unfold putM; split <;> simp
theorem inM_put (L : List Int) (z v y : Int) : inM (putM L z v) y = inM L y := by unfold inM; rw [put_len]
theorem get_no {L : List Int} {z : Int} (h : inM L z = false) : getM L z = 0 := by unfold getM; rw [h]; rfl
theorem get_put_same {L : List Int} {z v : Int} (h : inM L z = true) : getM (putM L z v) z = wrap32 v := by
  unfold getM
  rw [inM_put, h, if_pos rfl]
  unfold putM
  rw [if_pos h]
  obtain ⟨h0, h1⟩ := inM_iff.1 h
  simp [show z.toNat < L.length by omega]
theorem get_put_other {L : List Int} {z v y : Int} (h : y ≠ z) : getM (putM L z v) y = getM L y := by
  unfold getM
  rw [inM_put]
  by_cases hy : inM L y = true
  · rw [if_pos hy, if_pos hy]
    unfold putM
    by_cases hz : inM L z = true
    · rw [if_pos hz]
      obtain ⟨h0, h1⟩ := inM_iff.1 hz
      obtain ⟨h2, h3⟩ := inM_iff.1 hy
      rw [List.getElem?_set_ne (by omega)]
    · rw [if_neg hz]
  · rw [if_neg hy, if_neg hy]
theorem get_nat {L : List Int} {k : Nat} (h : k < L.length) : L[k]?.getD 0 = getM L (k : Int) := by
  unfold getM
  rw [inM_yes (by omega) (by omega), if_pos rfl, Int.toNat_natCast]
theorem get_zero (n : Nat) (z : Int) : getM (List.replicate n 0) z = 0 := by
  unfold getM
  split
  · rw [List.getElem?_replicate]; split <;> rfl
  · rfl
theorem store_gen {n₀ b g : Nat} {W : World} {L : List Int} (h : IsM n₀ W b g L) (z v : Int) :
    Calls Try.prog 11 #[.pointer (some ⟨b, 0, none⟩), .int .i64 z, .int .i64 v] W fun e w' => e = .returned (.bool (inM L z)) ∧ IsM n₀ w' b g (putM L z v) ∧ Kept (fun j _ => j = g) W w' := by
  by_cases hz : inM L z = true
  · obtain ⟨h0, h1⟩ := inM_iff.1 hz
    refine (store_at h z z.toNat v (by omega) (by omega)).mono ?_
    rintro e w' ⟨rfl, m, k⟩
    unfold putM
    rw [if_pos hz, hz]
    exact ⟨rfl, m, k⟩
  · have hz' : inM L z = false := by simpa using hz
    refine (store_out h z v (by have := mt inM_iff.2 hz; omega)).mono ?_
    rintro e w' ⟨rfl, rfl⟩
    unfold putM
    rw [if_neg hz, hz']
    exact ⟨rfl, h, Kept.refl _ _⟩
theorem store_bel {n₀ b g : Nat} {W : World} {L : List Int} (h : IsM n₀ W b g L) (z v : Int) (V : World) (hb : Bel W V) :
    Calls Try.prog 11 #[.pointer (some ⟨b, 0, none⟩), .int .i64 z, .int .i64 v] V fun e w' => e = .returned (.bool (inM L z)) ∧ IsM n₀ w' b g (putM L z v) ∧ Kept (fun j _ => j = g) W w' := by
  refine (store_gen (h.bel hb) z v).mono ?_
  rintro e w' ⟨rfl, m, k⟩
  exact ⟨rfl, m, (Kept.of_bel hb).trans k⟩
theorem load_gen {n₀ b g : Nat} {W : World} {L : List Int} (h : IsM n₀ W b g L) (z : Int) :
    Calls Try.prog 13 #[.pointer (some ⟨b, 0, none⟩), .int .i64 z] W fun e w' => e = .returned (.tuple #[.int .i64 (getM L z), .bool (inM L z)]) ∧ w' = W := by
  by_cases hz : inM L z = true
  · obtain ⟨h0, h1⟩ := inM_iff.1 hz
    refine (load_at h z z.toNat (by omega) (by omega)).mono ?_
    rintro e w' ⟨rfl, rfl⟩
    unfold getM
    rw [if_pos hz, hz]
    exact ⟨rfl, rfl⟩
  · have hz' : inM L z = false := by simpa using hz
    refine (load_out h z (by have := mt inM_iff.2 hz; omega)).mono ?_
    rintro e w' ⟨rfl, rfl⟩
    unfold getM
    rw [if_neg hz, hz']
    exact ⟨rfl, rfl⟩
end Go.Proofs.Ytpmjkdhnoknhlaa
