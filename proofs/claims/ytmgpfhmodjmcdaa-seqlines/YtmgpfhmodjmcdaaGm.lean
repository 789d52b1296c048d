/-
  Memories at any address (stage 7 on: of stage 6's Awk6 and Gen6, without its statements' types).
-/
import Derived.Test.YtmgpfhmodjmcdaaMem7
namespace Go.Proofs.Ytmgpfhmodjmcdaa
set_option maxRecDepth 20000
set_option linter.unusedVariables false
open Go.ChangeShapes Go.WideShapes Go.ChangeAt Go.RowKit

theorem load_at {n₀ b g : Nat} {W : World} {L : List Int} (h : IsM n₀ W b g L) (z : Int) (k : Nat) (hz : z = k) (h1 : k < L.length) :
    Calls Try.prog 58 #[.pointer (some ⟨b, 0, none⟩), .int .i64 z] W fun e w' => e = .returned (.tuple #[.int .i64 (L[k]?.getD 0), .bool true]) ∧ w' = W := by
  subst hz; exact load_in h k h1
theorem store_at {n₀ b g : Nat} {W : World} {L : List Int} (h : IsM n₀ W b g L) (z : Int) (k : Nat) (v : Int) (hz : z = k) (h1 : k < L.length) :
    Calls Try.prog 59 #[.pointer (some ⟨b, 0, none⟩), .int .i64 z, .int .i64 v] W fun e w' => e = .returned (.bool true) ∧ IsM n₀ w' b g (L.set k (wrap32 v)) ∧ Kept (fun j _ => j = g) W w' := by
  subst hz; exact store_in h k v h1
/-- Behind a store: what was there ahead of the memory is as it was. -/
theorem bel_store {a W W' : World} {g : Nat} (hB : Bel a W) (hk : Kept (fun j _ => j = g) W W') (hg : a.heap.size ≤ g) : Bel a W' :=
  hB.out.trans (hk.below hB.size (fun k o _ e => by subst e; exact hg))
theorem row_store {W W' : World} {n g m : Nat} {e : TypeId} {v : Value} {xs : List Value} (h : W.ownsRow n e 1 v m xs) (hk : Kept (fun j _ => j = g) W W') (hg : g < n) : W'.ownsRow n e 1 v m xs :=
  row_kept h hk (fun k c f e1 e2 => by subst e2; have := (h.lt k e1).1; omega)
theorem row_bel {W W' : World} {n m : Nat} {e : TypeId} {v : Value} {xs : List Value} (h : W.ownsRow n e 1 v m xs) (hb : Bel W W') : W'.ownsRow n e 1 v m xs :=
  row_kept (S := fun _ _ => False) h (Kept.of_bel hb) (fun _ _ _ _ h => h)
theorem Ints.cells {q : IntKind} {W : World} {ao : Option Addr} {n c : Nat} {X : List Int} (h : Ints q W (.slice ao n c) X) : n = X.length ∧ (0 < X.length → ∃ b o, ao = some ⟨b, o, none⟩ ∧ b < W.heap.size ∧ ∀ j, j < X.length → W.cell? ⟨b, o + j, none⟩ = some (.int q (X[j]?.getD 0))) := by
  obtain ⟨ao', c', e, hv⟩ := h
  injection e with e1 e2 e3
  subst e1
  exact ⟨e2, hv⟩
theorem w32_id (x : Int) (h1 : -2147483648 ≤ x) (h2 : x ≤ 2147483647) : wrap32 x = x := by unfold wrap32; omega
/-- Is there a cell at z? -/
def inM (L : List Int) (z : Int) : Bool := decide (0 ≤ z ∧ z < L.length)
/-- The words behind a store of v at z. -/
def putM (L : List Int) (z v : Int) : List Int := if inM L z = true then L.set z.toNat (wrap32 v) else L
/-- The word at z; 0, if there is none. -/
def getM (L : List Int) (z : Int) : Int := if inM L z = true then L[z.toNat]?.getD 0 else 0
theorem inM_yes {L : List Int} {z : Int} (h0 : 0 ≤ z) (h1 : z < L.length) : inM L z = true := decide_eq_true ⟨h0, h1⟩
theorem inM_no {L : List Int} {z : Int} (h : z < 0 ∨ L.length ≤ z) : inM L z = false := decide_eq_false (fun e => by omega)
theorem inM_iff {L : List Int} {z : Int} : inM L z = true ↔ 0 ≤ z ∧ z < L.length := decide_eq_true_iff
theorem put_len (L : List Int) (z v : Int) : (putM L z v).length = L.length := by unfold putM; split <;> simp
theorem inM_put (L : List Int) (z v y : Int) : inM (putM L z v) y = inM L y := by unfold inM; rw [put_len]
theorem get_no {L : List Int} {z : Int} (h : inM L z = false) : getM L z = 0 := by unfold getM; rw [h]; rfl
theorem get_put_same {L : List Int} {z v : Int} (h : inM L z = true) : getM (putM L z v) z = wrap32 v := by
  unfold getM
  rw [inM_put, h, if_pos rfl]
  unfold putM
  rw [if_pos h]
  obtain ⟨h0, h1⟩ := inM_iff.1 h
  simp [show z.toNat < L.length by omega]
theorem get_put_other {L : List Int} {z v y : Int} (h : y ≠ z) : getM (putM L z v) y = getM L y := by
  unfold getM
  rw [inM_put]
  by_cases hy : inM L y = true
  · rw [if_pos hy, if_pos hy]
    unfold putM
    by_cases hz : inM L z = true
    · rw [if_pos hz]
      obtain ⟨h0, h1⟩ := inM_iff.1 hz
      obtain ⟨h2, h3⟩ := inM_iff.1 hy
      rw [List.getElem?_set_ne (by omega)]
    · rw [if_neg hz]
  · rw [if_neg hy, if_neg hy]
theorem get_nat {L : List Int} {k : Nat} (h : k < L.length) : L[k]?.getD 0 = getM L (k : Int) := by
  unfold getM
  rw [inM_yes (by omega) (by omega), if_pos rfl, Int.toNat_natCast]
theorem get_zero (n : Nat) (z : Int) : getM (List.replicate n 0) z = 0 := by
  unfold getM
  split
  · rw [List.getElem?_replicate]; split <;> rfl
  · rfl
theorem store_gen {n₀ b g : Nat} {W : World} {L : List Int} (h : IsM n₀ W b g L) (z v : Int) :
    Calls Try.prog 59 #[.pointer (some ⟨b, 0, none⟩), .int .i64 z, .int .i64 v] W fun e w' => e = .returned (.bool (inM L z)) ∧ IsM n₀ w' b g (putM L z v) ∧ Kept (fun j _ => j = g) W w' := by
  by_cases hz : inM L z = true
  · obtain ⟨h0, h1⟩ := inM_iff.1 hz
    refine (store_at h z z.toNat v (by omega) (by omega)).mono ?_
    rintro e w' ⟨rfl, m, k⟩
    unfold putM
    rw [if_pos hz, hz]
    exact ⟨rfl, m, k⟩
  · have hz' : inM L z = false := by simpa using hz
    refine (store_out h z v (by have := mt inM_iff.2 hz; omega)).mono ?_
    rintro e w' ⟨rfl, rfl⟩
    unfold putM
    rw [if_neg hz, hz']
    exact ⟨rfl, h, Kept.refl _ _⟩
theorem store_bel {n₀ b g : Nat} {W : World} {L : List Int} (h : IsM n₀ W b g L) (z v : Int) (V : World) (hb : Bel W V) :
    Calls Try.prog 59 #[.pointer (some ⟨b, 0, none⟩), .int .i64 z, .int .i64 v] V fun e w' => e = .returned (.bool (inM L z)) ∧ IsM n₀ w' b g (putM L z v) ∧ Kept (fun j _ => j = g) W w' := by
  refine (store_gen (h.bel hb) z v).mono ?_
  rintro e w' ⟨rfl, m, k⟩
  exact ⟨rfl, m, (Kept.of_bel hb).trans k⟩
theorem load_gen {n₀ b g : Nat} {W : World} {L : List Int} (h : IsM n₀ W b g L) (z : Int) :
    Calls Try.prog 58 #[.pointer (some ⟨b, 0, none⟩), .int .i64 z] W fun e w' => e = .returned (.tuple #[.int .i64 (getM L z), .bool (inM L z)]) ∧ w' = W := by
  by_cases hz : inM L z = true
  · obtain ⟨h0, h1⟩ := inM_iff.1 hz
    refine (load_at h z z.toNat (by omega) (by omega)).mono ?_
    rintro e w' ⟨rfl, rfl⟩
    unfold getM
    rw [if_pos hz, hz]
    exact ⟨rfl, rfl⟩
  · have hz' : inM L z = false := by simpa using hz
    refine (load_out h z (by have := mt inM_iff.2 hz; omega)).mono ?_
    rintro e w' ⟨rfl, rfl⟩
    unfold getM
    rw [if_neg hz, hz']
    exact ⟨rfl, rfl⟩
end Go.Proofs.Ytmgpfhmodjmcdaa
