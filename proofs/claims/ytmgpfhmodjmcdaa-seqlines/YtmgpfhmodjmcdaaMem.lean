/-
  A memory of words as it lies in the heap; the contracts of package cells' calls.
-/
import Derived.Test.YtmgpfhmodjmcdaaSl6
import Derived.Laws.OwnMore
import Derived.OwnWalk
import Derived.Deep.RegionHeld3
namespace Go.Proofs.Ytmgpfhmodjmcdaa
set_option maxRecDepth 20000
set_option linter.unusedVariables false
open Go.ChangeShapes Go.WideShapes Go.ChangeAt Go.RowKit

/-- The memory at b, its row at g: the words L. -/
structure IsM (n₀ : Nat) (W : World) (b g : Nat) (L : List Int) : Prop where
  box : W.heap[b]? = some (.cells #[.slice (some ⟨g, 0, none⟩) L.length L.length] 71 (0, 0))
  row : W.heap[g]? = some (.cells (L.map (Value.int .i64)).toArray 3 (0, 0))
  low : n₀ ≤ b
  lowg : n₀ ≤ g
theorem IsM.ne {n₀ b g : Nat} {W : World} {L : List Int} (h : IsM n₀ W b g L) : b ≠ g := by
  intro e
  have h1 := h.box
  have h2 := h.row
  subst e
  rw [h1] at h2
  injection h2 with h2
  injection h2 with _ h2 _
  exact absurd h2 (by decide)
theorem IsM.bel {n₀ b g : Nat} {W W' : World} {L : List Int} (h : IsM n₀ W b g L) (hb : Bel W W') : IsM n₀ W' b g L :=
  ⟨(hb.out.block b (lt_of_heap h.box)).trans h.box, (hb.out.block g (lt_of_heap h.row)).trans h.row, h.low, h.lowg⟩
theorem IsM.cell {n₀ b g : Nat} {W : World} {L : List Int} (h : IsM n₀ W b g L) {k : Nat} (hk : k < L.length) : W.cell? ⟨g, k, none⟩ = some (.int .i64 (L[k]?.getD 0)) := by
  rw [cell_of h.row k]
  simp [hk]
theorem IsM.ints {n₀ b g : Nat} {W : World} {L : List Int} (h : IsM n₀ W b g L) (c : Nat) : Ints .i64 W (.slice (some ⟨g, 0, none⟩) L.length c) L :=
  ⟨_, c, rfl, fun _ => ⟨g, 0, rfl, lt_of_heap h.row, fun j hj => by rw [Nat.zero_add]; exact h.cell hj⟩⟩
theorem IsM.intsTake {n₀ b g : Nat} {W : World} {L : List Int} (h : IsM n₀ W b g L) (c k : Nat) (hk : k ≤ L.length) : Ints .i64 W (.slice (some ⟨g, 0, none⟩) k c) (L.take k) := by
  have e : (L.take k).length = k := by rw [List.length_take]; omega
  refine ⟨some ⟨g, 0, none⟩, c, by rw [e], fun _ => ⟨g, 0, rfl, lt_of_heap h.row, fun j hj => ?_⟩⟩
  rw [Nat.zero_add, h.cell (by omega), List.getElem?_take, if_pos (by omega)]
/-- A store at k. -/
theorem IsM.set {n₀ b g : Nat} {W : World} {L : List Int} (h : IsM n₀ W b g L) (k : Nat) (x : Int) : IsM n₀ (W.setCell ⟨g, k, none⟩ (.int .i64 x)) b g (L.set k x) := by
  refine ⟨?_, ?_, h.low, h.lowg⟩
  · rw [heap_set_other h.ne, h.box, List.length_set]
  · rw [heap_set_same h.row]
    simp [List.map_set]

theorem wrap_any (n : Int) (w : World) :
    Calls Try.prog 31 #[.int .i64 n] w fun e w' => e = .returned (.int .i64 (wrap32 n)) ∧ w' = w := by
  have h1 : -2147483648 ≤ wrap32 n := by unfold wrap32; omega
  have h2 : wrap32 n ≤ 2147483647 := by unfold wrap32; omega
  go_enter Try.func31, Try.ntmps31
  go_wp2
  go_ret
  exact ⟨rfl, rfl⟩

/-- What 'Len' and the others may be asked of: no memory. -/
theorem len_nil (w : World) : Calls Try.prog 38 #[.pointer none] w fun e w' => e = .returned (.int .i64 0) ∧ w' = w := by
  go_enter Try.func38, Try.ntmps38
  go_wp2
  go_ret
  exact ⟨rfl, rfl⟩
theorem len_any {n₀ b g : Nat} {W : World} {L : List Int} (h : IsM n₀ W b g L) :
    Calls Try.prog 38 #[.pointer (some ⟨b, 0, none⟩)] W fun e w' => e = .returned (.int .i64 L.length) ∧ w' = W := by
  have c0 : W.cell? ⟨b, 0, none⟩ = some (.slice (some ⟨g, 0, none⟩) L.length L.length) := cell_of h.box 0
  go_enter Try.func38, Try.ntmps38
  go_wp2
  go_ret
  exact ⟨rfl, rfl⟩
theorem has_nil (z : Int) (w : World) : Calls Try.prog 62 #[.pointer none, .int .i64 z] w fun e w' => e = .returned (.bool false) ∧ w' = w := by
  rcases Int.lt_or_le z 0 with hz | hz
  · go_enter Try.func62, Try.ntmps62
    go_wp2_with (go_at_call 38; refine (len_nil _).mono ?_; rintro e w' ⟨rfl, rfl⟩)
    go_ret
    exact ⟨rfl, rfl⟩
  · have hd : decide (z < 0) = false := by simpa using hz
    go_enter Try.func62, Try.ntmps62
    go_wp2_with (go_at_call 38; refine (len_nil _).mono ?_; rintro e w' ⟨rfl, rfl⟩)
    go_ret
    exact ⟨rfl, rfl⟩
theorem has_in {n₀ b g : Nat} {W : World} {L : List Int} (h : IsM n₀ W b g L) (z : Int) (h0 : 0 ≤ z) (h1 : z < L.length) :
    Calls Try.prog 62 #[.pointer (some ⟨b, 0, none⟩), .int .i64 z] W fun e w' => e = .returned (.bool true) ∧ w' = W := by
  go_enter Try.func62, Try.ntmps62
  go_wp2_with (go_at_call 38; refine (len_any h).mono ?_; rintro e w' ⟨rfl, rfl⟩)
  go_ret
  exact ⟨rfl, rfl⟩
theorem has_out {n₀ b g : Nat} {W : World} {L : List Int} (h : IsM n₀ W b g L) (z : Int) (h1 : z < 0 ∨ L.length ≤ z) :
    Calls Try.prog 62 #[.pointer (some ⟨b, 0, none⟩), .int .i64 z] W fun e w' => e = .returned (.bool false) ∧ w' = W := by
  rcases Int.lt_or_le z 0 with hz | hz
  · go_enter Try.func62, Try.ntmps62
    go_wp2_with (go_at_call 38; refine (len_any h).mono ?_; rintro e w' ⟨rfl, rfl⟩)
    go_ret
    exact ⟨rfl, rfl⟩
  · have h2 : decide (z < L.length) = false := by simp; omega
    go_enter Try.func62, Try.ntmps62
    go_wp2_with (go_at_call 38; refine (len_any h).mono ?_; rintro e w' ⟨rfl, rfl⟩)
    go_ret
    exact ⟨rfl, rfl⟩
theorem load_nil (z : Int) (w : World) : Calls Try.prog 58 #[.pointer none, .int .i64 z] w fun e w' => e = .returned (.tuple #[.int .i64 0, .bool false]) ∧ w' = w := by
  go_enter Try.func58, Try.ntmps58
  go_wp2_with (go_at_call 62; refine (has_nil _ _).mono ?_; rintro e w' ⟨rfl, rfl⟩)
  go_ret2
  exact ⟨rfl, rfl⟩
theorem load_out {n₀ b g : Nat} {W : World} {L : List Int} (h : IsM n₀ W b g L) (z : Int) (h1 : z < 0 ∨ L.length ≤ z) :
    Calls Try.prog 58 #[.pointer (some ⟨b, 0, none⟩), .int .i64 z] W fun e w' => e = .returned (.tuple #[.int .i64 0, .bool false]) ∧ w' = W := by
  go_enter Try.func58, Try.ntmps58
  go_wp2_with (go_at_call 62; refine (has_out h _ h1).mono ?_; rintro e w' ⟨rfl, rfl⟩)
  go_ret2
  exact ⟨rfl, rfl⟩
theorem load_in {n₀ b g : Nat} {W : World} {L : List Int} (h : IsM n₀ W b g L) (k : Nat) (h1 : k < L.length) :
    Calls Try.prog 58 #[.pointer (some ⟨b, 0, none⟩), .int .i64 (k : Int)] W fun e w' => e = .returned (.tuple #[.int .i64 (L[k]?.getD 0), .bool true]) ∧ w' = W := by
  have c0 : W.cell? ⟨b, 0, none⟩ = some (.slice (some ⟨g, 0, none⟩) L.length L.length) := cell_of h.box 0
  have c1 := h.cell h1
  generalize L[k]?.getD 0 = x at c1 ⊢
  go_enter Try.func58, Try.ntmps58
  go_wp2_with (go_at_call 62; refine (has_in h _ (by omega) (by omega)).mono ?_; rintro e w' ⟨rfl, rfl⟩)
  go_ret2
  exact ⟨rfl, rfl⟩
theorem store_nil (z v : Int) (w : World) : Calls Try.prog 59 #[.pointer none, .int .i64 z, .int .i64 v] w fun e w' => e = .returned (.bool false) ∧ w' = w := by
  go_enter Try.func59, Try.ntmps59
  go_wp2_with (go_at_call 62; refine (has_nil _ _).mono ?_; rintro e w' ⟨rfl, rfl⟩)
  go_ret
  exact ⟨rfl, rfl⟩
theorem store_out {n₀ b g : Nat} {W : World} {L : List Int} (h : IsM n₀ W b g L) (z v : Int) (h1 : z < 0 ∨ L.length ≤ z) :
    Calls Try.prog 59 #[.pointer (some ⟨b, 0, none⟩), .int .i64 z, .int .i64 v] W fun e w' => e = .returned (.bool false) ∧ w' = W := by
  go_enter Try.func59, Try.ntmps59
  go_wp2_with (go_at_call 62; refine (has_out h _ h1).mono ?_; rintro e w' ⟨rfl, rfl⟩)
  go_ret
  exact ⟨rfl, rfl⟩
set_option maxHeartbeats 1000000 in
theorem store_in {n₀ b g : Nat} {W : World} {L : List Int} (h : IsM n₀ W b g L) (k : Nat) (v : Int) (h1 : k < L.length) :
    Calls Try.prog 59 #[.pointer (some ⟨b, 0, none⟩), .int .i64 (k : Int), .int .i64 v] W fun e w' => e = .returned (.bool true) ∧ IsM n₀ w' b g (L.set k (wrap32 v)) ∧ Kept (fun j _ => j = g) W w' := by
  have c0 : W.cell? ⟨b, 0, none⟩ = some (.slice (some ⟨g, 0, none⟩) L.length L.length) := cell_of h.box 0
  have c1 := h.cell h1
  have f1 := frozen_of h.row k
  have hne := h.ne
  have hne' := hne.symm
  have hk : (k : Int) < L.length := by omega
  go_enter Try.func59, Try.ntmps59
  go_wp2_with (go_at_call 62; refine (has_in h _ (by omega) (by omega)).mono ?_; rintro e w' ⟨rfl, rfl⟩)
  go_region_held (fun w' => w'.cell? ⟨b, 0, none⟩ = some (.slice (some ⟨g, 0, none⟩) L.length L.length)) (go_keep) (first
    | (go_at_call 31; refine (wrap_any _ _).mono ?_; rintro e w' ⟨rfl, rfl⟩))
  go_wp2
  go_ret
  have hm := h.set k (wrap32 v)
  exact ⟨rfl, ⟨hm.box, hm.row, hm.low, hm.lowg⟩, (Kept.setCell _ _ ⟨g, k, none⟩ _ (fun _ _ => rfl)).trans (Kept.drew _ _)⟩

/-- New of what may not be. -/
theorem new_none (z : Int) (w : World) (hz : z < 0 ∨ 32000 < z) : Calls Try.prog 22 #[.int .i64 z] w fun e w' => e = .returned (.pointer none) ∧ w' = w := by
  rcases Int.lt_or_le z 0 with h0 | h0
  all_goals
    go_enter Try.func22, Try.ntmps22
    go_wp2
    go_ret
    exact ⟨rfl, rfl⟩
theorem made_zero (n : Nat) : madeCells (Value.int .i64 0).cells (n * 1) = ((List.replicate n (0 : Int)).map (Value.int .i64)).toArray := by
  apply Array.ext'
  rw [List.toList_toArray, List.map_replicate, Nat.mul_one]
  exact toList_madeCells_one _ _
set_option maxHeartbeats 1000000 in
theorem new_any (z : Int) (n : Nat) (hz : z = n) (hn : n ≤ 32000) (W : World) :
    Calls Try.prog 22 #[.int .i64 z] W fun e w' => e = .returned (.pointer (some ⟨W.heap.size + 1, 0, none⟩)) ∧ IsM W.heap.size w' (W.heap.size + 1) W.heap.size (List.replicate n 0) ∧ Bel W w' := by
  subst hz
  obtain ⟨i0, hi, hz0, hz1, hz2⟩ := info_parts intInfo
  have hmk : (Instr.makeSlice 23 (.int .i64 (n : Int)) (.int .i64 (n : Int))).run Try.prog W = .ok (.slice (some ⟨W.heap.size, 0, none⟩) n n) (W.alloc (.cells (((List.replicate n (0 : Int)).map (Value.int .i64)).toArray) 3)) := by
    have h := run_make (P := Try.prog) W 23 3 i0 (.int .i64 0) Try.underlying23 hi hz0 .i64 .i64 (n : Int) (n : Int) (by omega) (by omega) (by rw [hz2]; omega) (by omega)
    rw [hz1, Int.toNat_natCast, made_zero] at h
    exact h
  have hl : (List.replicate n (0 : Int)).length = n := List.length_replicate
  generalize List.replicate n (0 : Int) = L at *
  go_enter Try.func22, Try.ntmps22
  go_wp2
  go_ret
  refine ⟨rfl, ⟨?_, heap_old (heap_new W _), Nat.le_succ _, Nat.le_refl _⟩, ((Bel.refl W).alloc _).alloc _⟩
  have := heap_new (W.alloc (Obj.cells (List.map (Value.int IntKind.i64) L).toArray 3)) (Obj.cells #[Value.slice (some ⟨W.heap.size, 0, none⟩) n n] 71)
  rw [hl]
  simpa using this
end Go.Proofs.Ytmgpfhmodjmcdaa
