/-
  A slice of bools that a call makes, written one by one; which places are heads once so many blocks have been looked at.
-/
import Derived.Test.YtdhnlloohjehgaaHn
import Derived.Laws.MakeOwn
namespace Go.Proofs.Ytdhnlloohjehgaa
set_option maxRecDepth 20000
open Go.ChangeShapes Go.WideShapes Go.ChangeAt Go.RowKit
set_option linter.unusedVariables false

def boolB (f : Nat → Bool) (n : Nat) : Obj := .cells ((Array.range n).map fun i => Value.bool (f i)) 4
theorem boolInfo : (Try.prog.info? 4).map (fun i => (i.zero, i.size, i.bytes)) = some (some (.bool false), 1, 1) := by kernel_rfl
theorem make_bools (n : Nat) (hn : n ≤ 100000) (z : Int) (hz : z = n) (W : World) :
    (Instr.makeSlice 37 (.int .i64 z) (.int .i64 z)).run Try.prog W = .ok (.slice (some ⟨W.heap.size, 0, none⟩) n n) (W.alloc (boolB (fun _ => false) n)) := by
  subst hz
  obtain ⟨i0, hi, hz0, hz1, hz2⟩ := info_parts boolInfo
  have h := run_make (P := Try.prog) W 37 4 i0 _ Try.underlying37 hi hz0 .i64 .i64 n n (by omega) (by omega) (by rw [hz2]; omega) (by omega)
  rw [hz1] at h
  have e : madeCells (Value.bool false).cells (n * 1) = (Array.range n).map fun _ => Value.bool false := by
    have hc : (Value.bool false).cells = #[.bool false] := rfl
    unfold madeCells
    rw [hc, Nat.mul_one]
    refine congrArg (fun f => Array.map f (Array.range n)) (funext fun i => ?_)
    simp [Nat.mod_one]
  rw [show ((n : Int).toNat * 1) = n * 1 from rfl, e] at h
  exact h
theorem bool_cell {W : World} {g n : Nat} {f : Nat → Bool} (h : W.heap[g]? = some (boolB f n)) (j : Nat) (hj : j < n) : W.cell? ⟨g, j, none⟩ = some (.bool (f j)) := by
  refine (cell_of h j).trans ?_
  simp [hj]
theorem bool_set {W : World} {g n : Nat} {f : Nat → Bool} (h : W.heap[g]? = some (boolB f n)) (j : Nat) : (W.setCell ⟨g, j, none⟩ (.bool true)).heap[g]? = some (boolB (fun i => decide (i = j) || f i) n) := by
  refine (heap_set_same h).trans ?_
  unfold boolB
  congr 2
  apply Array.ext_getElem?
  intro i
  rw [Array.getElem?_setIfInBounds]
  by_cases e : j = i
  · subst e
    by_cases hj : j < n <;> simp [hj]
  · rw [if_neg e]
    by_cases hi : i < n <;> simp [hi, show ¬ i = j from fun q => e q.symm]
theorem bool_ne {W : World} {g n : Nat} {f : Nat → Bool} (h : W.heap[g]? = some (boolB f n)) {b o : Nat} {x : Int} (hc : W.cell? ⟨b, o, none⟩ = some (.int .i64 x)) : b ≠ g := by
  intro e
  subst e
  rw [cell_of h o] at hc
  have hb := Array.getElem?_eq_some_iff.1 hc
  obtain ⟨h1, h2⟩ := hb
  simp at h2
theorem kept_cell {g : Nat} {W W' : World} (h : Kept (fun k _ => k = g) W W') {b : Nat} (hb : b < W.heap.size) (hne : b ≠ g) (o : Nat) : W'.cell? ⟨b, o, none⟩ = W.cell? ⟨b, o, none⟩ := by
  have e := Array.getElem?_eq_getElem hb
  exact World.cell?_of_block ((h.block b _ e hne).trans e.symm)

/-- Which places are told as heads, once j blocks have been looked at (and the end). -/
def hdJ (X : List Ins) (j : Nat) (x : Nat) : Bool := decide (x = X.length) || (List.range j).any fun i => decide ((cutL X).getD i 0 = (x : Int))
theorem hdJ_zero (X : List Ins) : hdJ X 0 = fun x => decide (x = X.length) || false := by
  funext x
  simp [hdJ]
theorem hdJ_succ (X : List Ins) (j a : Nat) (h : (cutL X).getD j 0 = (a : Int)) : hdJ X (j + 1) = fun x => decide (x = a) || hdJ X j x := by
  funext x
  rw [Bool.eq_iff_iff]
  simp only [hdJ, List.range_succ, List.any_append, List.any_cons, List.any_nil, Bool.or_false, Bool.or_eq_true, decide_eq_true_eq, h]
  constructor
  · rintro (q | q | q)
    · exact .inr (.inl q)
    · exact .inr (.inr q)
    · exact .inl (by omega)
  · rintro (q | q | q)
    · exact .inr (.inr (by omega))
    · exact .inl q
    · exact .inr (.inl q)
theorem hdJ_all {X : List Ins} {t : Nat} (h : (t : Int) ∈ cutL X) : hdJ X (hdL X).length t = true := by
  unfold cutL at h
  rw [List.mem_append, List.mem_singleton] at h
  unfold hdJ
  rw [Bool.or_eq_true, decide_eq_true_eq, List.any_eq_true]
  rcases h with h | h
  · obtain ⟨i, hi, e⟩ := List.mem_iff_getElem.1 h
    refine .inr ⟨i, List.mem_range.2 hi, ?_⟩
    rw [decide_eq_true_eq, cutL_at X i hi]
    simp [List.getD, hi, e]
  · exact .inl (by omega)
theorem cut_nat {X : List Ins} (hf : fitB X = true) (j : Nat) (hj : j < (cutL X).length) : ∃ a : Nat, (cutL X).getD j 0 = (a : Int) ∧ a ≤ X.length := by
  have hm : (cutL X).getD j 0 ∈ cutL X := by
    rw [show (cutL X).getD j 0 = (cutL X)[j] by simp [List.getD, hj]]
    exact List.getElem_mem hj
  generalize (cutL X).getD j 0 = x at hm
  unfold cutL at hm
  rw [List.mem_append, mem_hdL, List.mem_singleton] at hm
  rcases hm with ⟨n, h1, _, h2⟩ | h2
  · exact ⟨n, h2, by omega⟩
  · exact ⟨X.length, h2, Nat.le_refl _⟩
/-- What stands within a block ahead of its last one does not go. -/
theorem in_block {X : List Ins} (hf : fitB X = true) {j a b : Nat} (hj : j + 1 < (cutL X).length) (ha : (cutL X).getD j 0 = (a : Int)) (hb : (cutL X).getD (j + 1) 0 = (b : Int)) {q : Nat} (h1 : a ≤ q) (h2 : q + 1 < b) (h3 : b ≤ X.length) : (X.getD q Ins.zero).goes = false := by
  cases hg : (X.getD q Ins.zero).goes with
  | false => rfl
  | true =>
    have : ((q : Int) + 1) ∈ cutL X := (mem_cutL hf _).2 (.inr (.inr (.inl ⟨q, by omega, hg, rfl⟩)))
    exact absurd this (gap (cutL_lt X) hj (by rw [ha]; omega) (by rw [hb]; omega))
theorem tgt_head {X : List Ins} (hf : fitB X = true) {q : Nat} (hq : q < X.length) (hn : (X.getD q Ins.zero).names = true) : ∃ t : Nat, (X.getD q Ins.zero).tgt q = (t : Int) ∧ t ≤ X.length ∧ hdJ X (hdL X).length t = true := by
  have hb := fit_tgt hf hq hn
  obtain ⟨t, ht⟩ : ∃ t : Nat, (X.getD q Ins.zero).tgt q = (t : Int) := ⟨((X.getD q Ins.zero).tgt q).toNat, by omega⟩
  refine ⟨t, ht, by omega, hdJ_all ?_⟩
  rw [← ht]
  exact (mem_cutL hf _).2 (.inr (.inr (.inr ⟨q, hq, hn, rfl⟩)))
end Go.Proofs.Ytdhnlloohjehgaa
