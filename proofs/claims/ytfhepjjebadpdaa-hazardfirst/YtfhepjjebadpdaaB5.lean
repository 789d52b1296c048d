/-
  A block of an instruction's five cells.
-/
import Derived.Test.YtfhepjjebadpdaaKpt
namespace Go.Proofs.Ytfhepjjebadpdaa
set_option maxRecDepth 20000
set_option linter.unusedVariables false
open Go.ChangeShapes Go.WideShapes Go.ChangeAt Go.RowKit

def Box5 (W : World) (k : Nat) (o a b c i : Int) : Prop := W.cell? ⟨k, 0, none⟩ = some (.int .i64 o) ∧ W.cell? ⟨k, 1, none⟩ = some (.int .i64 a) ∧ W.cell? ⟨k, 2, none⟩ = some (.int .i64 b) ∧ W.cell? ⟨k, 3, none⟩ = some (.int .i64 c) ∧ W.cell? ⟨k, 4, none⟩ = some (.int .i64 i)
theorem Box5.bel {W W' : World} {k : Nat} {o a b c i : Int} (h : Box5 W k o a b c i) (hb : Bel W W') (hk : k < W.heap.size) : Box5 W' k o a b c i :=
  ⟨((bcell hb).1 k 0 hk).trans h.1, ((bcell hb).1 k 1 hk).trans h.2.1, ((bcell hb).1 k 2 hk).trans h.2.2.1, ((bcell hb).1 k 3 hk).trans h.2.2.2.1, ((bcell hb).1 k 4 hk).trans h.2.2.2.2⟩
theorem Box5.new (W : World) (o a b c i : Int) (t : TypeId) : Box5 (W.alloc (.cells #[.int .i64 o, .int .i64 a, .int .i64 b, .int .i64 c, .int .i64 i] t)) W.heap.size o a b c i :=
  ⟨cell_of (heap_new W _) 0, cell_of (heap_new W _) 1, cell_of (heap_new W _) 2, cell_of (heap_new W _) 3, cell_of (heap_new W _) 4⟩
end Go.Proofs.Ytfhepjjebadpdaa
