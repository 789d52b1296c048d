/-
  A slice of ints that a call makes, written one by one: its block as a function.
-/
import Derived.Test.YtpmofaajkhllpaaAl
import Derived.Test.YtpmofaajkhllpaaSl6
import Derived.Laws.MakeOwn
namespace Go.Proofs.Ytpmofaajkhllpaa
set_option maxRecDepth 20000
open Go.ChangeShapes Go.WideShapes Go.ChangeAt Go.RowKit
set_option linter.unusedVariables false

def intB (f : Nat → Int) (n : Nat) : Obj := .cells ((Array.range n).map fun i => Value.int .i64 (f i)) 3
def updN (f : Nat → Int) (j : Nat) (x : Int) : Nat → Int := fun i => if i = j then x else f i
theorem make_ints (n : Nat) (hn : n ≤ 100000) (z : Int) (hz : z = n) (W : World) :
    (Instr.makeSlice 25 (.int .i64 z) (.int .i64 z)).run Try.prog W = .ok (.slice (some ⟨W.heap.size, 0, none⟩) n n) (W.alloc (intB (fun _ => 0) n)) := by
  subst hz
  obtain ⟨i0, hi, hz0, hz1, hz2⟩ := info_parts intInfo
  have h := run_make (P := Try.prog) W 25 3 i0 _ Try.underlying25 hi hz0 .i64 .i64 n n (by omega) (by omega) (by rw [hz2]; omega) (by omega)
  rw [hz1] at h
  have e : madeCells (Value.int .i64 0).cells (n * 1) = (Array.range n).map fun _ => Value.int .i64 0 := by
    have hc : (Value.int .i64 0).cells = #[.int .i64 0] := rfl
    unfold madeCells
    rw [hc, Nat.mul_one]
    refine congrArg (fun f => Array.map f (Array.range n)) (funext fun i => ?_)
    simp [Nat.mod_one]
  rw [show ((n : Int).toNat * 1) = n * 1 from rfl, e] at h
  exact h
theorem int_cell {W : World} {g n : Nat} {f : Nat → Int} (h : W.heap[g]? = some (intB f n)) (j : Nat) (hj : j < n) : W.cell? ⟨g, j, none⟩ = some (.int .i64 (f j)) := by
  refine (cell_of h j).trans ?_
  simp [hj]
theorem int_fz {W : World} {g n : Nat} {f : Nat → Int} (h : W.heap[g]? = some (intB f n)) (j : Nat) : W.frozen? ⟨g, j, none⟩ = false := frozen_of h j
theorem int_set {W : World} {g n : Nat} {f : Nat → Int} (h : W.heap[g]? = some (intB f n)) (j : Nat) (x : Int) : (W.setCell ⟨g, j, none⟩ (.int .i64 x)).heap[g]? = some (intB (updN f j x) n) := by
  refine (heap_set_same h).trans ?_
  unfold intB updN
  congr 2
  apply Array.ext_getElem?
  intro i
  rw [Array.getElem?_setIfInBounds]
  by_cases e : j = i
  · subst e
    by_cases hj : j < n <;> simp [hj]
  · rw [if_neg e]
    by_cases hi : i < n <;> simp [hi, show ¬ i = j from fun q => e q.symm]
/-- The block as a slice of the numbers of a list. -/
theorem ints_intB {W : World} {g : Nat} {f : Nat → Int} {L : List Int} (h : W.heap[g]? = some (intB f L.length)) (hf : ∀ j, j < L.length → f j = L[j]?.getD 0) (c : Nat) : Ints .i64 W (.slice (some ⟨g, 0, none⟩) L.length c) L :=
  ⟨_, c, rfl, fun _ => ⟨g, 0, rfl, lt_of_heap h, fun j hj => by rw [Nat.zero_add, int_cell h j hj, hf j hj]⟩⟩
theorem intB_cong {f h : Nat → Int} {n : Nat} (e : ∀ j, j < n → f j = h j) : intB f n = intB h n := by
  unfold intB
  congr 1
  apply Array.map_congr_left
  intro j hj
  rw [Array.mem_range] at hj
  rw [e j hj]
theorem own_block {B k : Nat} {o : Obj} {A A' : World} {row : Option Nat} (hg : A.grownBy A' row) (hr : ∀ r, row = some r → B ≤ r) (hk : k < B) (h : A.heap[k]? = some o) : A'.heap[k]? = some o :=
  (hg.block k (lt_of_heap h) (fun e => by have := hr k e.symm; omega)).trans h
end Go.Proofs.Ytpmofaajkhllpaa
