/-
  What a range over a function keeps.
-/
import Derived.Test.YtpmofaajkhllpaaKpt
import Derived.RangeFuncNested
import Derived.RangeFuncBound
import Derived.RangeFuncCalls
import Derived.RangeFuncLeaves
import Derived.Shelf.Abstract
import Derived.Shelf.RegionOpen
import Derived.WalkKit
import Derived.Maps.OwnIn
import Derived.Maps.AppendAt
import Derived.OwnWalkIn
import Derived.TacticsInMore
import Derived.LoopNIn
import Derived.LoopIn
import Derived.RegionTactic
namespace Go.Proofs.Ytpmofaajkhllpaa
set_option maxRecDepth 20000
set_option linter.unusedVariables false
open Go.ChangeShapes Go.WideShapes Go.ChangeAt Go.RowKit Go.Shelf
attribute [local go_sem] Oper.semAt_some

/-- What a round keeps: all that lay below n₁, but what X names. -/
def KeepX (n₁ : Nat) (X : Nat → Prop) (W W' : World) : Prop := ∀ k, k < n₁ → ¬ X k → W'.heap[k]? = W.heap[k]?
theorem keepX_t {n₁ : Nat} {X : Nat → Prop} {A B C : World} (h : KeepX n₁ X A B) (k : KeepX n₁ X B C) : KeepX n₁ X A C := fun i hi hx => (k i hi hx).trans (h i hi hx)
theorem keepX_b {n₁ : Nat} {X : Nat → Prop} {w : World} (hn : n₁ ≤ w.heap.size) (W : World) (l : Nat) (o o' : Obj) (hl : w.heap.size ≤ l) (h : W.heap[l]? = some o) (_ : o.isCells = false) (_ : o.isWalk = false) : KeepX n₁ X W (W.putObj l o') :=
  fun k hk _ => World.putObj_heap_other (by omega)
theorem drew_grown (w : World) : w.grownBy w.drew none := ⟨rfl, rfl, rfl, Nat.le_refl _, fun _ _ _ => rfl⟩
theorem eql_func_nil (w : World) (t : TypeId) {x : Array TypeId} {y : Array TypeId} {z : Bool} (fn : Fn) (a c : Array Value) (ht : Try.prog.underlying t = some (.func x y z)) : (binOp .eql t (.func fn a c) .nilFunc).run Try.prog w = .ok (.bool false) w := by
  have h : ∀ d : Nat, (Op.equalIn (d + 1) t (.func fn a c) .nilFunc).run Try.prog w = .ok false w := fun d => by
    simp [Op.equalIn, run_underlying ht]
  simp only [binOp]
  simp [Op.equal, Op.maxDepth, h 9999]

theorem Kept.keepX {S : Nat → Obj → Prop} {n₁ : Nat} {X : Nat → Prop} {W W' : World} (h : Kept S W W') (hn : n₁ ≤ W.heap.size) (hs : ∀ k o, S k o → X k ∨ n₁ ≤ k) : KeepX n₁ X W W' := fun k hk hx => by
  have e := Array.getElem?_eq_getElem (show k < W.heap.size by omega)
  rw [h.block k _ e (fun s => by rcases hs _ _ s with s | s; exact hx s; omega), e]
theorem one_cell {W V : World} {x : Value} {t : TypeId} (hs : V.heap.size = W.heap.size) : ∀ j u, [x][j]? = some u → (V.alloc (.cells #[x] t)).cell? ((⟨W.heap.size, 0, none⟩ : Addr).add j) = some u := by
  intro j u hj
  match j, hj with
  | 0, hj =>
    have := heap_new V (.cells #[x] t)
    rw [hs] at this
    have e : (⟨W.heap.size, 0, none⟩ : Addr).add 0 = ⟨W.heap.size, 0, none⟩ := by unfold Addr.add; rfl
    rw [e]
    exact (cell_of this 0).trans hj
theorem row_base {n₀ n₁ : Nat} {e : TypeId} {W : World} {v : Value} {n : Nat} {xs : List Value} (h : W.ownsRow n₁ e 1 v n xs) (hn : n₀ ≤ n₁) : W.ownsRow n₀ e 1 v n xs := by
  refine ⟨h.1, ?_⟩
  rcases h.2 with hx | ⟨g, cap, cur, rfl, hb, r⟩
  · exact .inl hx
  · exact .inr ⟨g, cap, cur, rfl, Nat.le_trans hn hb, r⟩
/-- 'out = append(out, x)', out in the box Bo, its row from n₁ on. -/
theorem appended {W w2 : World} {n₁ Bo : Nat} {t e : TypeId} {v v' : Value} {k m : Nat} {xs ys : List Value} {tmp : Obj} (hv : Boxed W Bo t v) (hBo : Bo < n₁) (hn : n₁ ≤ W.heap.size) (hrow : W.ownsRow n₁ e 1 v k xs)
    (hown : w2.ownsRow n₁ e 1 v' m ys) (hg : (W.alloc tmp).grownBy w2 v.ownBlock) :
    Boxed w2 Bo t v ∧ Boxed (w2.setCell ⟨Bo, 0, none⟩ v') Bo t v' ∧ (w2.setCell ⟨Bo, 0, none⟩ v').ownsRow n₁ e 1 v' m ys ∧ KeepsOthers W (w2.setCell ⟨Bo, 0, none⟩ v') ∧ Kept (fun k _ => k = Bo ∨ n₁ ≤ k) W (w2.setCell ⟨Bo, 0, none⟩ v') := by
  have hlt : ∀ g, v.ownBlock = some g → n₁ ≤ g := fun g hg => (hrow.lt g hg).1
  have hv1 : Boxed w2 Bo t v := (hv.alloc tmp).kept hg (fun e => by have := hlt Bo e.symm; omega)
  refine ⟨hv1, hv1.set v', ownsRow_setCell_below hown hBo v', ?_, ?_⟩
  · refine ((KeepsOthers.alloc W tmp).trans (KeepsOthers.of_grownBy hg fun j o ej hj => ?_)).trans (KeepsOthers.setCell _ _ _)
    rcases (hrow.alloc tmp).2 with ⟨rfl, _⟩ | ⟨g, cap, cur, rfl, _, hgb, _⟩
    · simp [Value.ownBlock] at ej
    · obtain rfl : g = j := by simpa [Value.ownBlock] using ej
      rw [hgb] at hj; cases hj; rfl
  · exact ((Kept.alloc _ W tmp).trans (Kept.grown hg (fun k o e _ => .inr (hlt k e)))).trans (Kept.setCell _ w2 ⟨Bo, 0, none⟩ v' (fun o _ => .inl rfl))
end Go.Proofs.Ytpmofaajkhllpaa
