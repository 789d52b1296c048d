/-
  Queues, sets and lists side by side: what a step on one leaves of the others.
-/
import Derived.Test.YtfgejepjiifmlaaAwk5
import Derived.Test.YtfgejepjiifmlaaRf5
import Derived.Test.YtfgejepjiifmlaaQd
namespace Go.Proofs.Ytfgejepjiifmlaa
set_option linter.unusedVariables false
open Go.ChangeShapes Go.WideShapes Go.ChangeAt Go.RowKit

theorem row_tag {n₁ : Nat} {e : TypeId} {W : World} {v : Value} {n : Nat} {xs : List Value} (h : W.ownsRow n₁ e 1 v n xs) (k : Nat) (o : Obj) (hk : W.heap[k]? = some o) (hv : v.ownBlock = some k) : n₁ ≤ k ∧ tag o = some e := by
  rcases h.2 with ⟨rfl, _⟩ | ⟨g, cap, cur, rfl, hb, hg, _⟩
  · cases hv
  · obtain rfl : g = k := by simpa [Value.ownBlock] using hv
    rw [hg] at hk
    injection hk with hk
    subst hk
    exact ⟨hb, rfl⟩
theorem IsQ.of_row {n₀ n₁ b : Nat} {W W' : World} {ks : List (Nat × Int)} {v : Value} {n : Nat} {xs : List Value} (h : IsQ n₀ W b ks) (hr : W.ownsRow n₁ 3 1 v n xs) (hg : W.grownBy W' v.ownBlock) : IsQ n₀ W' b ks :=
  h.kept (S := fun _ o => tag o = some 3) ((Kept.grown (S := fun k _ => v.ownBlock = some k) hg (fun k o e _ => e)).mono (fun k o e hs => (row_tag hr k o e hs).2)) (fun k o s => by
    rw [s]
    exact ⟨(by intro e; injection e with e; exact absurd e (by decide)), (by intro e; injection e with e; exact absurd e (by decide))⟩)
theorem row_of_queue {n₀ n₁ : Nat} {W W' : World} {v : Value} {n : Nat} {xs : List Value} (hr : W.ownsRow n₁ 3 1 v n xs) (hk : Kept (QS n₀) W W') : W'.ownsRow n₁ 3 1 v n xs :=
  row_kept hr hk (fun g c f _ s => s.2.elim (by intro e; injection e with e; exact absurd e (by decide)) (by intro e; injection e with e; exact absurd e (by decide)))
theorem row_bel {n₁ : Nat} {e : TypeId} {W W' : World} {v : Value} {n : Nat} {xs : List Value} (hr : W.ownsRow n₁ e 1 v n xs) (hb : Bel W W') : W'.ownsRow n₁ e 1 v n xs :=
  row_kept hr (Kept.of_bel (S := fun _ _ => False) hb) (fun _ _ _ _ s => s)
theorem ints_ks {n₁ : Nat} {W : World} {v : Value} {ks : List (Nat × Int)} (h : W.ownsRow n₁ 3 1 v ks.length ((ks.map Prod.snd).map (Value.int .i64))) : Ints .i64 W v (ks.map Prod.snd) :=
  ints_of_row (by rw [List.length_map]; exact h)
end Go.Proofs.Ytfgejepjiifmlaa
