/-
  A slice of Nops that a call makes; a store of an instruction in it.
-/
import Derived.Test.YtpmofaajkhllpaaApp9
import Derived.Laws.MakeOwn
namespace Go.Proofs.Ytpmofaajkhllpaa
set_option maxRecDepth 20000
open Go.ChangeShapes Go.WideShapes Go.ChangeAt Go.RowKit Go.Deep
set_option linter.unusedVariables false

def insZ : Value := .agg #[.int .i64 0, .int .i64 0, .int .i64 0, .int .i64 0, .int .i64 0]
def nopsB (n : Nat) : Obj := .cells (madeCells insZ.cells (n * 5)) 30
theorem made_at (n i : Nat) (h : i < n * 5) : (madeCells insZ.cells (n * 5))[i]? = some (.int .i64 0) := by
  have hc : insZ.cells = #[.int .i64 0, .int .i64 0, .int .i64 0, .int .i64 0, .int .i64 0] := rfl
  have hm : i % 5 = 0 ∨ i % 5 = 1 ∨ i % 5 = 2 ∨ i % 5 = 3 ∨ i % 5 = 4 := by omega
  unfold madeCells
  rw [hc, Array.getElem?_map, Array.getElem?_range]
  rw [if_pos h]
  simp only [Option.map_some, List.size_toArray, List.length_cons, List.length_nil, Nat.zero_add, Nat.reduceAdd]
  rcases hm with e | e | e | e | e <;> rw [e] <;> rfl
theorem nops_get (n j : Nat) : (List.replicate n Ins.zero).getD j Ins.zero = Ins.zero := by
  by_cases h : j < n
  · simp [List.getD, h]
  · simp [List.getD, h]
theorem nops_code (w : World) (n c : Nat) : Code (w.alloc (nopsB n)) (.slice (some ⟨w.heap.size, 0, none⟩) n c) (List.replicate n Ins.zero) := by
  refine ⟨some ⟨w.heap.size, 0, none⟩, c, by rw [List.length_replicate], fun hn => ⟨w.heap.size, 0, rfl, lt_of_heap (heap_new w _), fun j hj => ?_⟩⟩
  rw [List.length_replicate] at hj
  rw [nops_get]
  have hh : ∀ i, i < n * 5 → (w.alloc (nopsB n)).cell? ⟨w.heap.size, i, none⟩ = some (.int .i64 0) := fun i hi => (cell_of (heap_new w _) i).trans (made_at n i hi)
  exact ⟨hh _ (by omega), hh _ (by omega), hh _ (by omega), hh _ (by omega), hh _ (by omega)⟩
theorem make_nops (n : Nat) (hn : n ≤ 100000) (z : Int) (hz : z = n) (W : World) :
    (Instr.makeSlice 22 (.int .i64 z) (.int .i64 z)).run Try.prog W = .ok (.slice (some ⟨W.heap.size, 0, none⟩) n n) (W.alloc (nopsB n)) := by
  subst hz
  obtain ⟨i0, hi, hz0, hz1, hz2⟩ := info_parts instrInfo
  have h := run_make (P := Try.prog) W 22 30 i0 _ Try.underlying22 hi hz0 .i64 .i64 n n (by omega) (by omega) (by rw [hz2]; omega) (by omega)
  rw [hz1] at h
  exact h
end Go.Proofs.Ytpmofaajkhllpaa
