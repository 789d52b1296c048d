/-
  What the laws of stage 11 ask of orders.
-/
import Derived.Test.YtpmofaajkhllpaaAwk11
namespace Go.Proofs.Ytpmofaajkhllpaa
set_option maxRecDepth 20000
set_option linter.unusedVariables false
open Go.ChangeShapes Go.WideShapes Go.ChangeAt Go.RowKit

theorem ord_end {X : List Ins} {Z : List Int} {w2 : World} {ao2 : Option Addr} {cap2 n : Nat} (hz : OrdS X Z) (h0 : 0 < X.length) (ho : OwnI n w2 (.slice ao2 Z.length cap2) Z) :
    ∃ (E j bo : Nat), Hid (Z.length = E + 1) ∧ Hid (lastI Z = j) ∧ j < X.length ∧ ao2 = some ⟨bo, 0, none⟩ ∧ bo < w2.heap.size ∧ (∀ k, k < Z.length → w2.cell? ⟨bo, k, none⟩ = some (.int .i64 (Z.getD k 0))) ∧ w2.cell? ⟨bo, E, none⟩ = some (.int .i64 j) := by
  have h1 := ord_pos hz h0
  obtain ⟨j, hj, hjX⟩ := ord_last hz h1
  obtain ⟨E, hE⟩ := Nat.exists_eq_succ_of_ne_zero (Nat.ne_of_gt h1)
  obtain ⟨_, _, e5, hcz⟩ := own_ints ho
  cases e5
  obtain ⟨bo, oo, rfl, hbo, hcz⟩ := hcz h1
  have hoo : oo = 0 := by
    rcases ho.2 with ⟨q, _⟩ | ⟨_, _, _, q, _⟩
    · cases q
    · cases q; rfl
  subst hoo
  have hall : ∀ k, k < Z.length → w2.cell? ⟨bo, k, none⟩ = some (.int .i64 (Z.getD k 0)) := fun k hk => by
    have := hcz k hk
    rw [Nat.zero_add] at this
    exact this
  refine ⟨E, j, bo, hE, hj, hjX, rfl, hbo, hall, ?_⟩
  rw [hall E (by omega)]
  have : Z.getD E 0 = lastI Z := by
    unfold lastI
    rw [hE, Nat.succ_sub_one]
  rw [this, hj]
/-- Two places side by side are not both free. -/
theorem ord_two {X : List Ins} {Z : List Int} (h : OrdS X Z) (k : Nat) (hk : k + 1 < Z.length) : Z.getD (k + 1) 0 < 0 → 0 ≤ Z.getD k 0 := fun q => by
  have h1 := ord_places h (k + 1) hk
  have h2 := ord_places h k (by omega)
  have h3 := steps_free h.1 (k + 1) hk (by rcases h1 with s | ⟨j, s, _⟩; exact s; omega)
  rw [Nat.add_sub_cancel] at h3
  rcases h2 with s | ⟨j, s, _⟩
  · exact absurd s h3.2.1
  · omega
def Box5 (W : World) (k : Nat) (o a b c i : Int) : Prop := W.cell? ⟨k, 0, none⟩ = some (.int .i64 o) ∧ W.cell? ⟨k, 1, none⟩ = some (.int .i64 a) ∧ W.cell? ⟨k, 2, none⟩ = some (.int .i64 b) ∧ W.cell? ⟨k, 3, none⟩ = some (.int .i64 c) ∧ W.cell? ⟨k, 4, none⟩ = some (.int .i64 i)
theorem Box5.bel {W W' : World} {k : Nat} {o a b c i : Int} (h : Box5 W k o a b c i) (hb : Bel W W') (hk : k < W.heap.size) : Box5 W' k o a b c i :=
  ⟨((bcell hb).1 k 0 hk).trans h.1, ((bcell hb).1 k 1 hk).trans h.2.1, ((bcell hb).1 k 2 hk).trans h.2.2.1, ((bcell hb).1 k 3 hk).trans h.2.2.2.1, ((bcell hb).1 k 4 hk).trans h.2.2.2.2⟩
theorem Box5.new (W : World) (o a b c i : Int) (t : TypeId) : Box5 (W.alloc (.cells #[.int .i64 o, .int .i64 a, .int .i64 b, .int .i64 c, .int .i64 i] t)) W.heap.size o a b c i :=
  ⟨cell_of (heap_new W _) 0, cell_of (heap_new W _) 1, cell_of (heap_new W _) 2, cell_of (heap_new W _) 3, cell_of (heap_new W _) 4⟩
end Go.Proofs.Ytpmofaajkhllpaa
