/-
  Code that is written out (of RunC, without machines).
-/
import Derived.Test.YtfhepjjebadpdaaCd
import Derived.Test.YtfhepjjebadpdaaKpt
namespace Go.Proofs.Ytfhepjjebadpdaa
set_option maxRecDepth 20000
set_option linter.unusedVariables false
open Go.ChangeShapes Go.WideShapes Go.ChangeAt Go.RowKit

/-- The cells of code. -/
def flat : List Ins → List Value
  | [] => []
  | x :: l => .int .i64 x.o :: .int .i64 x.a :: .int .i64 x.b :: .int .i64 x.c :: .int .i64 x.i :: flat l
theorem flat_get : ∀ (X : List Ins) (j : Nat), j < X.length → (flat X)[j * 5]? = some (.int .i64 (X.getD j Ins.zero).o) ∧ (flat X)[j * 5 + 1]? = some (.int .i64 (X.getD j Ins.zero).a) ∧ (flat X)[j * 5 + 2]? = some (.int .i64 (X.getD j Ins.zero).b) ∧ (flat X)[j * 5 + 3]? = some (.int .i64 (X.getD j Ins.zero).c) ∧ (flat X)[j * 5 + 4]? = some (.int .i64 (X.getD j Ins.zero).i)
  | [], _, h => absurd h (by simp)
  | x :: l, 0, _ => ⟨rfl, rfl, rfl, rfl, rfl⟩
  | x :: l, j + 1, h => by
    have := flat_get l j (by simpa using h)
    simp only [flat, show (j + 1) * 5 = j * 5 + 1 + 1 + 1 + 1 + 1 by omega, List.getElem?_cons_succ, List.getD_cons_succ, show ∀ a b : Nat, a + 1 + 1 + 1 + 1 + 1 + b = a + b + 1 + 1 + 1 + 1 + 1 by omega]
    exact this
theorem code_lit {W : World} {k : Nat} {X : List Ins} {t : TypeId} {f : Nat × Nat} (h : W.heap[k]? = some (.cells (flat X).toArray t f)) (n c : Nat) (hn : n = X.length) : Code W (.slice (some ⟨k, 0, none⟩) n c) X := by
  subst hn
  refine ⟨_, c, rfl, fun _ => ⟨k, 0, rfl, lt_of_heap h, fun j hj => ?_⟩⟩
  have := flat_get X j hj
  simp only [cell_of h, List.getElem?_toArray, Nat.zero_add]
  exact this
end Go.Proofs.Ytfhepjjebadpdaa
