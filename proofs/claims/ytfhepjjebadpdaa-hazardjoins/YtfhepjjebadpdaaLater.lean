/-
  A region that draws its order, whose operations read what was there and whose callees turn nothing that was there: one walk, in the order of the text.
-/
import Derived.Test.YtfhepjjebadpdaaKit
import Derived.Deep.QuietTactic
import Derived.BigQuiet
namespace Go.Proofs.Ytfhepjjebadpdaa
set_option maxRecDepth 20000
open Go.ChangeShapes Go.WideShapes Go.ChangeAt Go.RowKit

/-- A world in which all that was there in w is as it was. -/
structure Later (w : World) where
  at_ : World
  is_ : Bel w at_
theorem Later.ne (w : World) : Nonempty (Later w) := ⟨⟨w, Bel.refl w⟩⟩
theorem wp_region_later {P : Program} {id : Nat} {Q : Exit → Act → World → Prop} {a : Act} {w : World} {u : Later w} {l : List Oper} (hm : P.follows .mixedOrders = true) (hB : Region.lexB .any l.toArray = true)
    (h : wpQuiet P l.toArray (fun w' => ∃ u : Later w, w' = u.at_) (fun a' => ∀ w', (∃ u : Later w, w' = u.at_) → Q .normal a' w') l a) : (Code.region id l.toArray true).wp P Q a u.at_ :=
  wp_region_quiet (C := fun w' => ∃ u : Later w, w' = u.at_) hm hB ⟨⟨u.at_.drew, u.is_.drew⟩, rfl⟩ (by simpa using h)
theorem later_start (w : World) : ∃ u : Later w, u.at_ = w := ⟨⟨w, Bel.refl w⟩, rfl⟩
theorem later_next {w w' : World} {u : Later w} (h : Bel u.at_ w') : ∃ x : Later w, w' = x.at_ := ⟨⟨w', btrans u.is_ h⟩, rfl⟩
theorem later_next_drew {w w' : World} {u : Later w} (h : Bel u.at_.drew w') : ∃ x : Later w, w' = x.at_ := ⟨⟨w', btrans u.is_.drew h⟩, rfl⟩
theorem later_size {w : World} {n : Nat} (h : n < w.heap.size) : ∀ u : Later w, n < u.at_.heap.size := fun u => Nat.lt_of_lt_of_le h u.is_.size
theorem later_of {P : Program} {f : FuncId} {args : Array Value} {w : World} {u : Later w} {v : Value}
    (h : Calls P f args u.at_ fun e w' => e = .returned v ∧ Bel u.at_ w') : Calls P f args u.at_ fun e w'' => e = .returned v ∧ ∃ x : Later w, w'' = x.at_ :=
  h.mono fun _ _ ⟨he, hb⟩ => ⟨he, ⟨⟨_, btrans u.is_ hb⟩, rfl⟩⟩
theorem later_cell {w : World} {b o : Nat} {v : Value} (h : w.cell? ⟨b, o, none⟩ = some v) (hb : b < w.heap.size) : ∀ u : Later w, u.at_.cell? ⟨b, o, none⟩ = some v :=
  fun u => ((bcell u.is_).1 b o hb).trans h
/-- An instruction in a new block: its five cells, as each later world reads them. -/
theorem box5 (w : World) (o a b c i : Int) (t : TypeId) :
    (∀ u : Later (w.alloc (Obj.cells #[.int .i64 o, .int .i64 a, .int .i64 b, .int .i64 c, .int .i64 i] t)), u.at_.cell? ⟨w.heap.size, 0, none⟩ = some (.int .i64 o)) ∧
    (∀ u : Later (w.alloc (Obj.cells #[.int .i64 o, .int .i64 a, .int .i64 b, .int .i64 c, .int .i64 i] t)), u.at_.cell? ⟨w.heap.size, 1, none⟩ = some (.int .i64 a)) ∧
    (∀ u : Later (w.alloc (Obj.cells #[.int .i64 o, .int .i64 a, .int .i64 b, .int .i64 c, .int .i64 i] t)), u.at_.cell? ⟨w.heap.size, 2, none⟩ = some (.int .i64 b)) ∧
    (∀ u : Later (w.alloc (Obj.cells #[.int .i64 o, .int .i64 a, .int .i64 b, .int .i64 c, .int .i64 i] t)), u.at_.cell? ⟨w.heap.size, 3, none⟩ = some (.int .i64 c)) ∧
    (∀ u : Later (w.alloc (Obj.cells #[.int .i64 o, .int .i64 a, .int .i64 b, .int .i64 c, .int .i64 i] t)), u.at_.cell? ⟨w.heap.size, 4, none⟩ = some (.int .i64 i)) := by
  refine ⟨?_, ?_, ?_, ?_, ?_⟩ <;> exact later_cell (by go_simp) (by simp)
theorem later_down {w w1 : World} (h : Bel w w1) {p : World → Prop} (hp : ∀ u : Later w, p u.at_) : ∀ u : Later w1, p u.at_ := fun u => hp ⟨u.at_, btrans h u.is_⟩
end Go.Proofs.Ytfhepjjebadpdaa
