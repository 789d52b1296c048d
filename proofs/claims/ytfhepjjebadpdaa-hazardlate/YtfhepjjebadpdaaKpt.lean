/-
  What a call keeps of the memory.
-/
import Derived.Test.YtfhepjjebadpdaaKit
namespace Go.Proofs.Ytfhepjjebadpdaa
set_option maxRecDepth 20000
set_option linter.unusedVariables false
open Go.ChangeShapes Go.WideShapes Go.ChangeAt Go.RowKit

/-- The type of what a block holds. -/
def tag : Obj → Option TypeId
  | .cells _ e _ => some e
  | _ => none
/-- All that S does not name is as it was. -/
structure Kept (S : Nat → Obj → Prop) (w w' : World) : Prop where
  os : w'.os = w.os
  tape : w'.tape = w.tape
  output : w'.output = w.output
  size : w.heap.size ≤ w'.heap.size
  block : ∀ k o, w.heap[k]? = some o → ¬ S k o → w'.heap[k]? = some o
theorem Kept.refl (S : Nat → Obj → Prop) (w : World) : Kept S w w := ⟨rfl, rfl, rfl, Nat.le_refl _, fun _ _ h _ => h⟩
theorem Kept.trans {S : Nat → Obj → Prop} {a b c : World} (h : Kept S a b) (k : Kept S b c) : Kept S a c :=
  ⟨k.os.trans h.os, k.tape.trans h.tape, k.output.trans h.output, Nat.le_trans h.size k.size, fun i o hi hs => k.block i o (h.block i o hi hs) hs⟩
theorem Kept.mono {S T : Nat → Obj → Prop} {a b : World} (h : Kept S a b) (hs : ∀ k o, a.heap[k]? = some o → S k o → T k o) : Kept T a b :=
  ⟨h.os, h.tape, h.output, h.size, fun i o hi ht => h.block i o hi (fun e => ht (hs i o hi e))⟩
theorem Kept.alloc (S : Nat → Obj → Prop) (w : World) (o : Obj) : Kept S w (w.alloc o) :=
  ⟨rfl, rfl, rfl, by simp, fun k o' hk _ => (Below.heap_alloc w o k (Array.getElem?_eq_some_iff.1 hk).1).trans hk⟩
theorem Kept.drew (S : Nat → Obj → Prop) (w : World) : Kept S w w.drew := ⟨rfl, rfl, rfl, Nat.le_refl _, fun _ _ h _ => h⟩
theorem Kept.setCell (S : Nat → Obj → Prop) (w : World) (p : Addr) (u : Value) (hs : ∀ o, w.heap[p.block]? = some o → S p.block o) : Kept S w (w.setCell p u) :=
  ⟨rfl, rfl, rfl, by simp [World.setCell], fun k o hk hn => by
    have : k ≠ p.block := fun e => by subst e; exact hn (hs o hk)
    exact (Below.heap_setCell w p u k this).trans hk⟩
theorem Kept.grown {S : Nat → Obj → Prop} {w w' : World} {row : Option Nat} (hg : w.grownBy w' row) (hr : ∀ k o, row = some k → w.heap[k]? = some o → S k o) : Kept S w w' :=
  ⟨hg.os, hg.tape, hg.output, hg.size, fun k o hk hn => (hg.block k (Array.getElem?_eq_some_iff.1 hk).1 (fun e => hn (hr k o e.symm hk))).trans hk⟩
theorem Kept.of_bel {S : Nat → Obj → Prop} {w w' : World} (h : Bel w w') : Kept S w w' :=
  ⟨h.out.os, h.out.tape, h.out.output, h.size, fun k o hk _ => (h.out.block k (Array.getElem?_eq_some_iff.1 hk).1).trans hk⟩
theorem Kept.below {S : Nat → Obj → Prop} {w w' : World} {n : Nat} (h : Kept S w w') (hn : n ≤ w.heap.size) (hs : ∀ k o, w.heap[k]? = some o → S k o → n ≤ k) : Below n w w' :=
  ⟨h.os, h.tape, h.output, h.size, fun k hk => by
    have hlt : k < w.heap.size := by omega
    have e := Array.getElem?_eq_getElem hlt
    rw [h.block k _ e (fun s => by have := hs k _ e s; omega), e]⟩

theorem heap_set_same {w : World} {b o : Nat} {c : Array Value} {e : TypeId} {f : Nat × Nat} {u : Value} (h : w.heap[b]? = some (.cells c e f)) :
    (w.setCell ⟨b, o, none⟩ u).heap[b]? = some (.cells (c.setIfInBounds o u) e f) := by
  obtain ⟨hlt, hk⟩ := Array.getElem?_eq_some_iff.1 h
  show (w.heap.modify b _)[b]? = _
  rw [Array.getElem?_eq_getElem (by rw [Array.size_modify]; exact hlt), Array.getElem_modify_self, hk]
  rfl
theorem heap_set_other {w : World} {b o k : Nat} {u : Value} (h : k ≠ b) : (w.setCell ⟨b, o, none⟩ u).heap[k]? = w.heap[k]? := Below.heap_setCell w ⟨b, o, none⟩ u k h
theorem heap_new (w : World) (o : Obj) : (w.alloc o).heap[w.heap.size]? = some o := by show (w.heap.push o)[w.heap.size]? = _; simp
theorem heap_old {w : World} {o o' : Obj} {k : Nat} (h : w.heap[k]? = some o') : (w.alloc o).heap[k]? = some o' := (Below.heap_alloc w o k (Array.getElem?_eq_some_iff.1 h).1).trans h
theorem cell_of {w : World} {b : Nat} {c : Array Value} {e : TypeId} {f : Nat × Nat} (h : w.heap[b]? = some (.cells c e f)) (o : Nat) : w.cell? ⟨b, o, none⟩ = c[o]? := by
  simp [World.cell?, h]
theorem frozen_of {w : World} {b : Nat} {c : Array Value} {e : TypeId} (h : w.heap[b]? = some (.cells c e (0, 0))) (o : Nat) : w.frozen? ⟨b, o, none⟩ = false := by
  simp [World.frozen?, h]
theorem lt_of_heap {w : World} {k : Nat} {o : Obj} (h : w.heap[k]? = some o) : k < w.heap.size := (Array.getElem?_eq_some_iff.1 h).1
theorem row_kept {S : Nat → Obj → Prop} {n₀ : Nat} {e : TypeId} {W W' : World} {v : Value} {n : Nat} {xs : List Value} (h : W.ownsRow n₀ e 1 v n xs) (hk : Kept S W W') (hs : ∀ g c f, v.ownBlock = some g → ¬ S g (.cells c e f)) : W'.ownsRow n₀ e 1 v n xs := by
  refine ⟨h.1, ?_⟩
  rcases h.2 with hn | ⟨g, cap, cur, rfl, hb, hgg, rest⟩
  · exact .inl hn
  · exact .inr ⟨g, cap, cur, rfl, hb, hk.block g _ hgg (hs g _ _ rfl), rest⟩
theorem size_set (w : World) (p : Addr) (u : Value) : (w.setCell p u).heap.size = w.heap.size := by simp [World.setCell]
theorem intInfo : (Try.prog.info? 3).map (fun i => (i.zero, i.size, i.bytes)) = some (some (.int .i64 0), 1, 8) := by kernel_rfl
end Go.Proofs.Ytfhepjjebadpdaa
