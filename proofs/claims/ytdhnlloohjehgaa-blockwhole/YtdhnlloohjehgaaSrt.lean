/-
  The contracts of slices.AppendSeq, Collect and Sorted at what a set's All tells.
-/
import Derived.Test.YtdhnlloohjehgaaSa
import Derived.Test.YtdhnlloohjehgaaShelf
import Derived.Sort.OwnSortedInts
namespace Go.Proofs.Ytdhnlloohjehgaa
set_option maxRecDepth 20000
set_option linter.unusedVariables false
open Go.ChangeShapes Go.WideShapes Go.ChangeAt Go.RowKit Go.Shelf Go.Sort
attribute [local go_sem] Oper.semAt_some

set_option maxRecDepth 100000 in
set_option maxHeartbeats 2000000 in
theorem appendSeq_any (B1 : Nat) (ao : Option Addr) (cap : Nat) (L : List Int) (w : World) (hlen : L.length < 1000000) (b1 : Boxed w B1 30 (.slice ao L.length cap))
    (hL : 0 < L.length → ∃ g o, ao = some ⟨g, o, none⟩ ∧ g < w.heap.size ∧ ∀ j, j < L.length → w.cell? ⟨g, o + j, none⟩ = some (.int .i64 (L[j]?.getD 0))) :
    Calls Try.prog 46 #[.slice none 0 0, .func (.func 42) #[] #[.pointer (some ⟨B1, 0, none⟩)]] w fun e W' => ∃ v, e = .returned v ∧ W'.ownsRow w.heap.size 3 1 v L.length (L.map (Value.int .i64)) ∧ Bel w W' := by
  obtain ⟨i0, hi, hz0, hz1, hz2⟩ := info_parts intInfo
  refine (callsIn_wide (n := 4)).1 ?_
  refine callsIn_of_wp_marks Try.func46 rfl trivial ?_ rfl
  simp only [Try.ntmps46, List.size_toArray, List.length_cons, List.length_nil, Nat.reduceAdd, Nat.reduceSub, Array.replicate_succ, Array.replicate_zero, List.push_toArray, List.append_toArray, List.nil_append, List.cons_append]
  gi_wp2
  have bO : Boxed (w.alloc (.cells #[.slice none 0 0] 30)) w.heap.size 30 (.slice none 0 0) := Boxed.new w _ _
  have Bw : Bel w (w.alloc (.cells #[.slice none 0 0] 30)) := (Bel.refl w).alloc _
  have b1' : Boxed (w.alloc (.cells #[.slice none 0 0] 30)) B1 30 (.slice ao L.length cap) := b1.alloc _
  have hL' : HeldX (w.heap.size + 1) (fun k => k = w.heap.size) (w.alloc (.cells #[.slice none 0 0] 30)) ao L := fun hp => by
    obtain ⟨g, o, e, hg, hc⟩ := hL hp
    exact ⟨g, o, e, by omega, by omega, fun j hj => ((bcell Bw).1 g (o + j) hg).trans (hc j hj)⟩
  have hsz : (w.alloc (.cells #[.slice none 0 0] 30)).heap.size = w.heap.size + 1 := World.size_alloc _ _
  generalize (w.alloc (Obj.cells #[.slice none 0 0] 30)) = w1 at bO Bw b1' hL' hsz ⊢
  refine wpIn_rangeFunc_ownG rfl (by omega) (gf := 42) (lb := #[.pointer (some ⟨B1, 0, none⟩)]) rfl trivial (enters_of Try.func42 (by kernel_rfl) rfl)
    (sall_stops Fence.wide 3 trivial rfl (by omega) B1 (w.heap.size + 1) (fun k => k = w.heap.size) ao cap L (by omega) w1 b1' (by omega) hL') keepX_t (keepX_b (by omega)) (Below.refl _ _) (fun _ => rfl)
    (fun (pre : List Int) W => (∃ v, Boxed W w.heap.size 30 v ∧ W.ownsRow (w.heap.size + 1) 3 1 v pre.length (pre.map (Value.int .i64)) ∧ True) ∧ Below w.heap.size w W ∧ w.heap.size + 1 ≤ W.heap.size)
    (fun _ _ _ => False)
    (OwnFrom.and (Own.from (holdsRow_own (w.heap.size + 1) w.heap.size 30 3 1 (fun pre : List Int => pre.length) (fun pre => pre.map (Value.int .i64)) (fun _ _ => True)) _) (OwnFrom.and (ownFrom_below (Nat.le_refl _) (by omega)) (fun _ _ _ _ hs hg _ => Nat.le_trans hs hg.size)))
    (fun _ _ _ _ _ hs _ _ => hs)
    ⟨⟨_, bO, World.ownsRow_nil _ _ _ _, trivial⟩, Bw, by omega⟩
    (fun x : Int => { tmps := #[.slice none 0 0, .func (.func 42) #[] #[.pointer (some ⟨B1, 0, none⟩)], .pointer (some ⟨w.heap.size, 0, none⟩), undef, .slice none 0 0, .int .i64 x, .func (.func 42) #[] #[.pointer (some ⟨B1, 0, none⟩)], .int .i64 x, undef, undef, undef, undef, undef], defers := [] }) ?assign ?body ?done ?stop
  case assign =>
    intro l x W K hK
    gi_wp2
    exact hK
  case body =>
    rintro l pre x W ⟨⟨v, hv, hrow, _⟩, hB, hle⟩ hlt
    have hc := hv.cell
    obtain ⟨ao, cap, hva⟩ := slice_of hrow
    subst hva
    have hlen2 : pre.length < 1000000 := by omega
    gi_wp2_with (gi_at_builtin; refine wpListIn_append_own _ rfl _ _ 30 rfl (w.heap.size + 1) 3 i0 (.int .i64 0) 1 8 Try.underlying30 hi hz0 hz1 hz2 rfl (by decide) _ _ _ rfl (hrow.alloc _) ⟨W.heap.size, 0, none⟩ 1 1 [.int .i64 x] rfl rfl (one_cell rfl) (by intro u hu; simp at hu; subst hu; rfl) (by unfold maxLen; omega) (by omega) (by simp; omega) ?_; intro v' w2 hown' hgrow _; obtain ⟨g', cap', hv'⟩ := row_succ hown'; subst hv'; obtain ⟨hv3, hv4, hr4, hk4, hb4⟩ := appended hv (by omega) hle hrow hown' hgrow; have hc3 := hv3.cell; have hf3 := hv3.frozen)
    refine ⟨hk4.from _, hb4.keepX hle (fun k o s => s), ⟨_, hv4, ?_, trivial⟩, hB.trans (hb4.below (by omega) (fun k o _ s => by omega)), by have := hb4.size; omega⟩
    rw [List.map_append, List.length_append]
    exact hr4
  case done =>
    rintro D ys W hD rfl ⟨⟨v, hv, hrow, _⟩, hB, hle⟩ hK
    have hc := hv.cell
    gi_wp2
    refine ⟨by simp, .inl ⟨_, _, rfl, run_takeDeferred hK, ?_⟩⟩
    exact ⟨_, results_tmp rfl _ _ _, v, rfl, row_base (ownsRow_putObj hrow _ hK rfl) (by omega), hB.trans (belowK_b (w := w) (Nat.le_refl _) W D _ _ (by omega) hK rfl rfl)⟩
  case stop =>
    rintro D c pre W _ _ h _
    exact h.elim

theorem collect_any (B1 : Nat) (ao : Option Addr) (cap : Nat) (L : List Int) (w : World) (hlen : L.length < 1000000) (b1 : Boxed w B1 30 (.slice ao L.length cap))
    (hL : 0 < L.length → ∃ g o, ao = some ⟨g, o, none⟩ ∧ g < w.heap.size ∧ ∀ j, j < L.length → w.cell? ⟨g, o + j, none⟩ = some (.int .i64 (L[j]?.getD 0))) :
    Calls Try.prog 40 #[.func (.func 42) #[] #[.pointer (some ⟨B1, 0, none⟩)]] w fun e W' => ∃ v, e = .returned v ∧ W'.ownsRow w.heap.size 3 1 v L.length (L.map (Value.int .i64)) ∧ Bel w W' := by
  go_enter Try.func40, Try.ntmps40
  go_wp2_with (go_at_call 46; refine (appendSeq_any B1 ao cap L _ hlen b1 hL).mono ?_; rintro e w1 ⟨v, rfl, hrow, hb⟩)
  go_ret
  exact ⟨v, rfl, hrow, hb⟩

/-- The numbers of a list, in order. -/
def srt (L : List Int) : List Int := L.mergeSort fun x y => decide (x ≤ y)
theorem srt_length (L : List Int) : (srt L).length = L.length := List.length_mergeSort _
theorem srt_mem (L : List Int) (x : Int) : x ∈ srt L ↔ x ∈ L := (List.mergeSort_perm L _).mem_iff
theorem srt_nodup {L : List Int} (h : L.Nodup) : (srt L).Nodup := (List.mergeSort_perm L _).nodup_iff.2 h
theorem srt_sorted (L : List Int) : (srt L).Pairwise (· ≤ ·) := by
  have := List.pairwise_mergeSort (le := fun x y : Int => decide (x ≤ y)) (by intro a b c; simp; omega) (by intro a b; simp; omega) L
  exact this.imp (by intro a b h; simpa using h)
theorem sorted_any (B1 : Nat) (ao : Option Addr) (cap : Nat) (L : List Int) (w : World) (hlen : L.length < 1000000) (h0 : L ≠ []) (b1 : Boxed w B1 30 (.slice ao L.length cap))
    (hL : 0 < L.length → ∃ g o, ao = some ⟨g, o, none⟩ ∧ g < w.heap.size ∧ ∀ j, j < L.length → w.cell? ⟨g, o + j, none⟩ = some (.int .i64 (L[j]?.getD 0))) :
    Calls Try.prog 35 #[.func (.func 42) #[] #[.pointer (some ⟨B1, 0, none⟩)]] w fun e W' => ∃ v, e = .returned v ∧ W'.ownsRow w.heap.size 3 1 v (srt L).length ((srt L).map (Value.int .i64)) ∧ Bel w W' := by
  go_enter Try.func35, Try.ntmps35
  go_wp2_with (first
    | (go_at_call 40; refine (collect_any B1 ao cap L _ hlen b1 hL).mono ?_; rintro e w1 ⟨v, rfl, hrow, hb⟩; obtain ⟨hn, hx⟩ := hrow; obtain ⟨g, cap1, cur, rfl, hg0, hgb, h1, h2, h3, h4⟩ := hx.resolve_left (fun e => h0 (List.length_eq_zero_iff.1 e.2)))
    | (go_at_call 41; refine (Try.slices_Sort_int g 0 cap1 L _ (holds_of_blockI hgb (by simpa using h4)) (lt_of_heap hgb) (by omega)).mono ?_; rintro e w2 ⟨rfl, nn, os, rfl⟩))
  go_ret
  refine ⟨_, rfl, ?_, hb.grown (grownBy_sortedI _) (fun k e => by cases e; exact hg0)⟩
  rw [srt_length]
  exact ownsRow_sortedI (n := nn) (os := os) (ts := srt L) (srt_length L) hg0 hgb h1 h2 h3
end Go.Proofs.Ytdhnlloohjehgaa
