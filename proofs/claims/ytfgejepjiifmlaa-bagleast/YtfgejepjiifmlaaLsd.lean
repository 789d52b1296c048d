/-
  The contract of package bag's listed.
-/
import Derived.Test.YtfgejepjiifmlaaSAll
namespace Go.Proofs.Ytfgejepjiifmlaa
set_option linter.unusedVariables false
open Go.ChangeShapes Go.WideShapes Go.ChangeAt Go.RowKit Go.Shelf
attribute [local go_sem] Oper.semAt_some

set_option maxRecDepth 100000 in
set_option maxHeartbeats 2000000 in
theorem listed_any (B1 : Nat) (ao : Option Addr) (cap : Nat) (L : List Int) (w : World) (hlen : L.length < 1000000) (b1 : Boxed w B1 22 (.slice ao L.length cap))
    (hL : 0 < L.length → ∃ g o, ao = some ⟨g, o, none⟩ ∧ g < w.heap.size ∧ ∀ j, j < L.length → w.cell? ⟨g, o + j, none⟩ = some (.int .i64 (L[j]?.getD 0))) :
    Calls Try.prog 29 #[.func (.func 28) #[] #[.pointer (some ⟨B1, 0, none⟩)]] w fun e W' => ∃ v, e = .returned v ∧ W'.ownsRow w.heap.size 3 1 v L.length (L.map (Value.int .i64)) ∧ Bel w W' := by
  obtain ⟨i0, hi, hz0, hz1, hz2⟩ := info_parts intInfo
  refine (callsIn_wide (n := 4)).1 ?_
  refine callsIn_of_wp_marks Try.func29 rfl trivial ?_ rfl
  simp only [Try.ntmps29, List.size_toArray, List.length_cons, List.length_nil, Nat.reduceAdd, Nat.reduceSub, Array.replicate_succ, Array.replicate_zero, List.push_toArray, List.append_toArray, List.nil_append, List.cons_append]
  have heq := fun (w : World) (B1 : Nat) => eql_func_nil w 43 (.func 28) #[] #[.pointer (some ⟨B1, 0, none⟩)] Try.underlying43
  gi_wp2
  have bO : Boxed (w.alloc (.cells #[.slice none 0 0] 22)) w.heap.size 22 (.slice none 0 0) := Boxed.new w _ _
  have Bw : Bel w (w.alloc (.cells #[.slice none 0 0] 22)) := (Bel.refl w).alloc _
  have b1' : Boxed (w.alloc (.cells #[.slice none 0 0] 22)) B1 22 (.slice ao L.length cap) := b1.alloc _
  have hL' : HeldX (w.heap.size + 1) (fun k => k = w.heap.size) (w.alloc (.cells #[.slice none 0 0] 22)) ao L := fun hp => by
    obtain ⟨g, o, e, hg, hc⟩ := hL hp
    exact ⟨g, o, e, by omega, by omega, fun j hj => ((bcell Bw).1 g (o + j) hg).trans (hc j hj)⟩
  have hsz : (w.alloc (.cells #[.slice none 0 0] 22)).heap.size = w.heap.size + 1 := World.size_alloc _ _
  generalize (w.alloc (Obj.cells #[.slice none 0 0] 22)) = w1 at bO Bw b1' hL' hsz ⊢
  refine wpIn_rangeFunc_ownG rfl (by omega) (gf := 28) (lb := #[.pointer (some ⟨B1, 0, none⟩)]) rfl trivial (enters_of Try.func28 (by kernel_rfl) rfl)
    (sall_stops Fence.wide 3 trivial rfl (by omega) B1 (w.heap.size + 1) (fun k => k = w.heap.size) ao cap L (by omega) w1 b1' (by omega) hL') keepX_t (keepX_b (by omega)) (Below.refl _ _) (fun _ => rfl)
    (fun (pre : List Int) W => (∃ v, Boxed W w.heap.size 22 v ∧ W.ownsRow (w.heap.size + 1) 3 1 v pre.length (pre.map (Value.int .i64)) ∧ True) ∧ Below w.heap.size w W ∧ w.heap.size + 1 ≤ W.heap.size)
    (fun _ _ _ => False)
    (OwnFrom.and (Own.from (holdsRow_own (w.heap.size + 1) w.heap.size 22 3 1 (fun pre : List Int => pre.length) (fun pre => pre.map (Value.int .i64)) (fun _ _ => True)) _) (OwnFrom.and (ownFrom_below (Nat.le_refl _) (by omega)) (fun _ _ _ _ hs hg _ => Nat.le_trans hs hg.size)))
    (fun _ _ _ _ _ hs _ _ => hs)
    ⟨⟨_, bO, World.ownsRow_nil _ _ _ _, trivial⟩, Bw, by omega⟩
    (fun x : Int => { tmps := #[.func (.func 28) #[] #[.pointer (some ⟨B1, 0, none⟩)], undef, .slice none 0 0, .pointer (some ⟨w.heap.size, 0, none⟩), .int .i64 x, .func (.func 28) #[] #[.pointer (some ⟨B1, 0, none⟩)], .bool false, undef, .func (.func 28) #[] #[.pointer (some ⟨B1, 0, none⟩)], .int .i64 x, undef, undef, undef, undef, undef], defers := [] }) ?assign ?body ?done ?stop
  case assign =>
    intro l x W K hK
    gi_wp2
    exact hK
  case body =>
    rintro l pre x W ⟨⟨v, hv, hrow, _⟩, hB, hle⟩ hlt
    have hc := hv.cell
    obtain ⟨ao, cap, hva⟩ := slice_of hrow
    subst hva
    have hlen2 : pre.length < 1000000 := by omega
    gi_wp2_with (gi_at_builtin; refine wpListIn_append_own _ rfl _ _ 22 rfl (w.heap.size + 1) 3 i0 (.int .i64 0) 1 8 Try.underlying22 hi hz0 hz1 hz2 rfl (by decide) _ _ _ rfl (hrow.alloc _) ⟨W.heap.size, 0, none⟩ 1 1 [.int .i64 x] rfl rfl (one_cell rfl) (by intro u hu; simp at hu; subst hu; rfl) (by unfold maxLen; omega) (by omega) (by simp; omega) ?_; intro v' w2 hown' hgrow _; obtain ⟨g', cap', hv'⟩ := row_succ hown'; subst hv'; obtain ⟨hv3, hv4, hr4, hk4, hb4⟩ := appended hv (by omega) hle hrow hown' hgrow; have hc3 := hv3.cell; have hf3 := hv3.frozen)
    refine ⟨hk4.from _, hb4.keepX hle (fun k o s => s), ⟨_, hv4, ?_, trivial⟩, hB.trans (hb4.below (by omega) (fun k o _ s => by omega)), by have := hb4.size; omega⟩
    rw [List.map_append, List.length_append]
    exact hr4
  case done =>
    rintro D ys W hD rfl ⟨⟨v, hv, hrow, _⟩, hB, hle⟩ hK
    have hc := hv.cell
    gi_wp2
    refine ⟨by simp, .inl ⟨_, _, rfl, run_takeDeferred hK, ?_⟩⟩
    exact ⟨_, results_tmp rfl _ _ _, v, rfl, row_base (ownsRow_putObj hrow _ hK rfl) (by omega), hB.trans (belowK_b (w := w) (Nat.le_refl _) W D _ _ (by omega) hK rfl rfl)⟩
  case stop =>
    rintro D c pre W _ _ h _
    exact h.elim
end Go.Proofs.Ytfgejepjiifmlaa
