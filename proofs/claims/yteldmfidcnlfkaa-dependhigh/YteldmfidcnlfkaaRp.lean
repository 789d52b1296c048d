/-
  slices.Repeat of one number; math/bits.Mul at 1.
-/
import Derived.Test.YteldmfidcnlfkaaIb
import Derived.Laws.IdiomCopy
import Derived.Lib.Mul64
import Derived.Laws.Bits64b
import Derived.RegionTactic
namespace Go.Proofs.Yteldmfidcnlfkaa
set_option maxRecDepth 20000
open Go.ChangeShapes Go.WideShapes Go.ChangeAt Go.RowKit
set_option linter.unusedVariables false

theorem low_u64 (a : Nat) (ha : a < 4294967296) : bits .and .u64 (a : Int) 4294967295 = (a : Int) := by
  have h := bits_and_u64_nat a 4294967295 (by omega) (by omega)
  have e : a &&& 4294967295 = a % 4294967296 := Nat.and_two_pow_sub_one_eq_mod a 32
  rw [e, Nat.mod_eq_of_lt ha] at h
  exact h
theorem wrap_u64 (a : Int) (h0 : 0 ≤ a) (h1 : a < 18446744073709551616) : IntKind.u64.wrap a = a := by rw [IntKind.wrap_u64]; omega
set_option maxHeartbeats 1000000 in
theorem mul64_one (y : Nat) (hy : y ≤ 100000) (w : World) :
    Calls Try.prog 44 #[.int .u64 1, .int .u64 (y : Int)] w fun e w' => e = .returned (.tuple #[.int .u64 0, .int .u64 (y : Int)]) ∧ w' = w := by
  have h1 := low_u64 1 (by omega)
  have h2 := low_u64 y (by omega)
  have h0 := low_u64 0 (by omega)
  have hw := wrap_u64 y (by omega) (by omega)
  have hq : (y : Int) / 4294967296 = 0 := by omega
  rw [show ((1 : Nat) : Int) = 1 from rfl] at h1
  rw [show ((0 : Nat) : Int) = 0 from rfl] at h0
  go_enter Try.func44, Try.ntmps44
  go_wp2
  go_ret2
  exact ⟨rfl, rfl⟩
theorem mul_one' (y : Nat) (hy : y ≤ 100000) (w : World) :
    Calls Try.prog 38 #[.int .u64 1, .int .u64 (y : Int)] w fun e w' => e = .returned (.tuple #[.int .u64 0, .int .u64 (y : Int)]) ∧ w' = w := by
  go_enter Try.func38, Try.ntmps38
  go_wp2_with (go_at_call 44; refine (mul64_one y hy _).mono ?_; rintro e w1 ⟨rfl, rfl⟩)
  go_ret2
  exact ⟨rfl, rfl⟩
theorem setCells_intB (g m : Nat) (x : Int) : ∀ (c o : Nat) (f : Nat → Int) (w : World), w.heap[g]? = some (intB f m) → (w.setCells g o (List.replicate c (.int .i64 x))).heap[g]? = some (intB (fun i => if o ≤ i ∧ i < o + c then x else f i) m)
  | 0, o, f, w, h => by
    rw [List.replicate_zero, World.setCells, h]
    congr 1
    exact intB_cong fun j _ => by rw [if_neg (by omega)]
  | c + 1, o, f, w, h => by
    rw [List.replicate_succ, World.setCells, setCells_intB g m x c (o + 1) _ _ (int_set h o x)]
    congr 1
    refine intB_cong fun j _ => ?_
    unfold updN
    by_cases e : j = o
    · subst e
      rw [if_neg (by omega), if_pos rfl, if_pos (by omega)]
    · rw [if_neg e]
      by_cases e2 : o + 1 ≤ j ∧ j < o + 1 + c
      · rw [if_pos e2, if_pos (by omega)]
      · rw [if_neg e2, if_neg (by omega)]
theorem setCells_kept (g : Nat) : ∀ (l : List Value) (o : Nat) (w : World), Kept (fun k _ => k = g) w (w.setCells g o l)
  | [], _, w => Kept.refl _ _
  | v :: l, o, w => (Kept.setCell _ _ ⟨g, o, none⟩ v (fun _ _ => rfl)).trans (setCells_kept g l (o + 1) _)
/-- One 'copy' within a block of ints whose cells to be copied are all x. -/
theorem copy_in (g m n d : Nat) (x : Int) (f : Nat → Int) (w : World) (ty : TypeId) (h : w.heap[g]? = some (intB f m)) (hn : 1 ≤ n) (hm : n + d = m) (hx : ∀ i, i < n → f i = x) (c1 c2 : Nat) :
    (Builtin.copy_ #[29, 29] ty #[.slice (some ⟨g, n, none⟩) d c1, .slice (some ⟨g, 0, none⟩) n c2]).run Try.prog w = .ok (.int .i64 ((min n d : Nat) : Int)) (w.setCells g n (List.replicate (min n d) (.int .i64 x))) := by
  obtain ⟨i0, hi, hz0, hz1, hz2⟩ := info_parts intInfo
  have hr := run_copy_cells (P := Try.prog) w 29 29 ty 3 g n d c1 ⟨g, 0, none⟩ n c2 (List.replicate (min n d) (.int .i64 x)) Try.underlying29 (by rw [hi]; simp [hz1]) (by simp [List.length_replicate])
    (by
      intro j v hj
      rw [List.getElem?_replicate] at hj
      split at hj
      · rename_i hlt
        cases hj
        rw [show (⟨g, 0, none⟩ : Addr).add j = ⟨g, 0 + j, none⟩ by unfold Addr.add; split <;> simp_all, Nat.zero_add, int_cell h j (by omega), hx j (by omega)]
      · cases hj)
    (by
      intro j hj
      rw [List.length_replicate] at hj
      rw [int_cell h (n + j) (by omega)]
      rfl)
    (by
      intro j hj
      exact int_fz h (n + j))
    (by
      intro v hv
      rw [List.mem_replicate] at hv
      rw [hv.2]
      rfl)
  rw [List.length_replicate] at hr
  exact hr
/-- The first n cells are x, the others 0. -/
def fillB (x : Int) (n : Nat) : Nat → Int := fun i => if i < n then x else 0
theorem copy_first (g m b : Nat) (x : Int) (w : World) (ty : TypeId) (h : w.heap[g]? = some (intB (fun _ => 0) m)) (hm : 0 < m) (hb : w.cell? ⟨b, 0, none⟩ = some (.int .i64 x)) (c1 c2 : Nat) :
    (Builtin.copy_ #[29, 29] ty #[.slice (some ⟨g, 0, none⟩) m c1, .slice (some ⟨b, 0, none⟩) 1 c2]).run Try.prog w = .ok (.int .i64 1) (w.setCells g 0 (List.replicate 1 (.int .i64 x))) := by
  obtain ⟨i0, hi, hz0, hz1, hz2⟩ := info_parts intInfo
  exact run_copy_cells (P := Try.prog) w 29 29 ty 3 g 0 m c1 ⟨b, 0, none⟩ 1 c2 [.int .i64 x] Try.underlying29 (by rw [hi]; simp [hz1]) (by simp; exact (Nat.min_eq_left hm).symm)
    (by
      intro j v hj
      match j, hj with
      | 0, hj =>
        simp at hj
        subst hj
        rw [show (⟨b, 0, none⟩ : Addr).add 0 = ⟨b, 0, none⟩ by unfold Addr.add; split <;> simp_all]
        exact hb)
    (by
      intro j hj
      rw [int_cell h _ (by simp at hj; omega)]
      rfl)
    (fun j hj => int_fz h _)
    (by
      intro v hv
      simp at hv
      rw [hv]
      rfl)
theorem fill_first (g m : Nat) (x : Int) (w : World) (h : w.heap[g]? = some (intB (fun _ => 0) m)) : (w.setCells g 0 (List.replicate 1 (.int .i64 x))).heap[g]? = some (intB (fillB x 1) m) := by
  rw [setCells_intB g m x 1 0 _ w h]
  congr 1
  exact intB_cong fun j _ => by
    unfold fillB
    by_cases e : j < 1
    · rw [if_pos e, if_pos (by omega)]
    · rw [if_neg e, if_neg (by omega)]
theorem fill_next (g m n d : Nat) (x : Int) (w : World) (h : w.heap[g]? = some (intB (fillB x n) m)) : (w.setCells g n (List.replicate (min n d) (.int .i64 x))).heap[g]? = some (intB (fillB x (n + min n d)) m) := by
  rw [setCells_intB g m x _ n _ w h]
  congr 1
  exact intB_cong fun j _ => by
    unfold fillB
    by_cases e : j < n
    · rw [if_neg (by omega), if_pos e, if_pos (by omega)]
    · by_cases e2 : j < n + min n d
      · rw [if_pos (by omega), if_pos e2]
      · rw [if_neg (by omega), if_neg e, if_neg e2]
theorem repeat_none (x : Int) (b c : Nat) (W : World) : Calls Try.prog 33 #[.slice (some ⟨b, 0, none⟩) 1 c, .int .i64 0] W fun e W' => ∃ g, e = .returned (.slice (some ⟨g, 0, none⟩) 0 0) ∧ W.heap.size ≤ g ∧ W'.heap[g]? = some (intB (fun _ => x) 0) ∧ Bel W W' := by
  obtain ⟨i0, hi, hz0, hz1, hz2⟩ := info_parts intInfo
  have hmk : ∀ W : World, (Instr.makeSlice 29 (.int .i64 0) (.int .i64 0)).run Try.prog W = .ok (.slice (some ⟨W.heap.size, 0, none⟩) 0 0) (W.alloc (intB (fun _ => 0) 0)) := fun W => make_ints 0 (by omega) _ rfl W
  have hcp : ∀ (ty : TypeId) (w : World), (Builtin.copy_ #[29, 29] ty #[.slice (some ⟨W.heap.size, 0, none⟩) 0 0, .slice (some ⟨b, 0, none⟩) 1 c]).run Try.prog w = .ok (.int .i64 0) w := fun ty w =>
    run_copy_none (P := Try.prog) w 29 29 ty 3 _ _ 0 0 1 c Try.underlying29 (by rw [hi]; simp [hz1]) (by simp)
  have hm0 := mul_one' 0 (by omega)
  rw [show ((0 : Nat) : Int) = 0 from rfl] at hm0
  go_enter Try.func33, Try.ntmps33
  go_wp2_with (go_at_call 38; refine (hm0 _).mono ?_; rintro e w9 ⟨rfl, h9⟩; rw [h9]; clear h9)
  go_loopw [8] (fun i wr => i = .int .i64 0 ∧ wr.heap[W.heap.size]? = some (intB (fun _ => x) 0) ∧ Bel W wr) (fun _ _ => 0)
  case atStart => exact ⟨rfl, (heap_new W _).trans (by rw [show intB (fun _ => 0) 0 = intB (fun _ => x) 0 from intB_cong fun j hj => absurd hj (Nat.not_lt_zero _)]), (Bel.refl W).alloc _⟩
  case round =>
    obtain ⟨rfl, hr, hb⟩ := hrel
    go_wp2
    go_ret
    exact ⟨_, rfl, Nat.le_refl _, hr, hb⟩

set_option maxHeartbeats 1000000 in
theorem repeat_any (m : Nat) (hm0 : 0 < m) (hm : m ≤ 1000) (b c : Nat) (x : Int) (W : World) (hb : W.cell? ⟨b, 0, none⟩ = some (.int .i64 x)) (hbw : b < W.heap.size) :
    Calls Try.prog 33 #[.slice (some ⟨b, 0, none⟩) 1 c, .int .i64 m] W fun e W' => ∃ g, e = .returned (.slice (some ⟨g, 0, none⟩) m m) ∧ W.heap.size ≤ g ∧ W'.heap[g]? = some (intB (fun _ => x) m) ∧ Bel W W' := by
  have hmk : ∀ W : World, (Instr.makeSlice 29 (.int .i64 m) (.int .i64 m)).run Try.prog W = .ok (.slice (some ⟨W.heap.size, 0, none⟩) m m) (W.alloc (intB (fun _ => 0) m)) := fun W => make_ints m (by omega) _ rfl W
  have r0 := heap_new W (intB (fun _ => 0) m)
  have hb1 : (W.alloc (intB (fun _ => 0) m)).cell? ⟨b, 0, none⟩ = some (.int .i64 x) := ((bcell ((Bel.refl W).alloc (intB (fun _ => 0) m))).1 b 0 hbw).trans hb
  have hcp := fun ty => copy_first W.heap.size m b x _ ty r0 hm0 hb1 m c
  have hf := fill_first W.heap.size m x _ r0
  have hk := setCells_kept W.heap.size (List.replicate 1 (.int .i64 x)) 0 (W.alloc (intB (fun _ => 0) m))
  have B1 : Bel W ((W.alloc (intB (fun _ => 0) m)).setCells W.heap.size 0 (List.replicate 1 (.int .i64 x))) := Below.trans ((Bel.refl W).alloc _) (hk.below (by simp) (fun i o _ s => by omega))
  generalize (W.alloc (intB (fun _ => 0) m)).setCells W.heap.size 0 (List.replicate 1 (.int .i64 x)) = w1 at hcp hf B1
  clear hk r0 hb1
  go_enter Try.func33, Try.ntmps33
  go_wp2_with (go_at_call 38; refine (mul_one' m (by omega) _).mono ?_; rintro e w9 ⟨rfl, h9⟩; rw [h9]; clear h9)
  clear hmk hcp
  go_loopw [8] (fun i wr => ∃ n : Nat, 1 ≤ n ∧ n ≤ m ∧ i = .int .i64 n ∧ wr.heap[W.heap.size]? = some (intB (fillB x n) m) ∧ Bel W wr) (fun i _ => m - (intOf i).toNat)
  case atStart => exact ⟨1, Nat.le_refl _, hm0, rfl, hf, B1⟩
  case round =>
    obtain ⟨n, hn1, hnm, rfl, hrow, hB⟩ := hrel
    rename World => wr
    by_cases hlt : n < m
    · obtain ⟨d, rfl⟩ : ∃ d, m = n + d := ⟨m - n, by omega⟩
      have hcp := fun ty c1 c2 => copy_in W.heap.size (n + d) n d x (fillB x n) wr.drew ty hrow hn1 rfl (fun i hi => by unfold fillB; rw [if_pos hi]) c1 c2
      have hnx := fill_next W.heap.size (n + d) n d x wr.drew hrow
      have hk := setCells_kept W.heap.size (List.replicate (min n d) (.int .i64 x)) n wr.drew
      generalize wr.drew.setCells W.heap.size n (List.replicate (min n d) (.int .i64 x)) = w3 at hcp hnx hk
      obtain ⟨q, hq⟩ : ∃ q, q = min n d := ⟨_, rfl⟩
      rw [← hq] at hcp hnx
      have hq1 : 1 ≤ q := by omega
      have hq2 : q ≤ d := by omega
      have HQ := hidm hq
      clear hq
      have hle : (n : Int) ≤ (n : Int) + (d : Int) := by omega
      go_wp2
      go_region
      go_wp2
      go_roundw
      case rel => exact ⟨n + q, by omega, by omega, by go_num, hnx, Below.trans hB.drew (hk.below hB.drew.size (fun i o _ s => by omega))⟩
      case measure => simp [intOf]; omega
    · obtain rfl : n = m := by omega
      go_wp2
      go_ret
      refine ⟨_, rfl, Nat.le_refl _, ?_, hB⟩
      rw [hrow]
      congr 1
      exact intB_cong fun j hj => by unfold fillB; rw [if_pos hj]
theorem repeat_all (m : Nat) (hm : m ≤ 1000) (b c : Nat) (x : Int) (W : World) (hb : W.cell? ⟨b, 0, none⟩ = some (.int .i64 x)) (hbw : b < W.heap.size) :
    Calls Try.prog 33 #[.slice (some ⟨b, 0, none⟩) 1 c, .int .i64 m] W fun e W' => ∃ g, e = .returned (.slice (some ⟨g, 0, none⟩) m m) ∧ W.heap.size ≤ g ∧ W'.heap[g]? = some (intB (fun _ => x) m) ∧ Bel W W' := by
  by_cases h : 0 < m
  · exact repeat_any m h hm b c x W hb hbw
  · obtain rfl : m = 0 := by omega
    exact repeat_none x b c W
end Go.Proofs.Yteldmfidcnlfkaa
