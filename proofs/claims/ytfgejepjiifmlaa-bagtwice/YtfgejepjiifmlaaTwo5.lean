/-
  A set of numbers and a set of strings, side by side.
-/
import Derived.Test.YtfgejepjiifmlaaSetZ
import Derived.Test.YtfgejepjiifmlaaMix5
namespace Go.Proofs.Ytfgejepjiifmlaa
set_option linter.unusedVariables false
open Go.ChangeShapes Go.WideShapes Go.ChangeAt Go.RowKit

theorem IsS.tag3 {n₀ b : Nat} {v : Value} {mp : Option Nat} {W : World} {L : List Int} (h : IsS n₀ W b v mp L) (k : Nat) (o : Obj) (hk : W.heap[k]? = some o) (hs : SS b v mp k o) :
    n₀ ≤ k ∧ (tag o = some 39 ∨ tag o = some 3 ∨ (tag o = none ∧ mp = some k)) := by
  rcases hs with rfl | e | e
  · rw [h.box] at hk
    injection hk with hk
    subst hk
    exact ⟨h.low, .inl rfl⟩
  · obtain ⟨h1, h2⟩ := row_tag h.row k o hk e
    exact ⟨h1, .inr (.inl h2)⟩
  · subst e
    obtain ⟨hn, es, clock, hmb, _⟩ := h.map
    rw [hmb] at hk
    injection hk with hk
    subst hk
    exact ⟨hn, .inr (.inr ⟨rfl, rfl⟩)⟩
theorem Z.IsS.tag3 {n₀ b : Nat} {v : Value} {mp : Option Nat} {W : World} {L : List ByteArray} (h : Z.IsS n₀ W b v mp L) (k : Nat) (o : Obj) (hk : W.heap[k]? = some o) (hs : Z.SS b v mp k o) :
    n₀ ≤ k ∧ (tag o = some 55 ∨ tag o = some 9 ∨ (tag o = none ∧ mp = some k)) := by
  rcases hs with rfl | e | e
  · rw [h.box] at hk
    injection hk with hk
    subst hk
    exact ⟨h.low, .inl rfl⟩
  · obtain ⟨h1, h2⟩ := row_tag h.row k o hk e
    exact ⟨h1, .inr (.inl h2)⟩
  · subst e
    obtain ⟨hn, es, clock, hmb, _⟩ := h.map
    rw [hmb] at hk
    injection hk with hk
    subst hk
    exact ⟨hn, .inr (.inr ⟨rfl, rfl⟩)⟩
/-- Two maps are not one. -/
def MapsApart (m m' : Option Nat) : Prop := ∀ k, m = some k → m' ≠ some k
theorem sets_apart {n₀ n₁ b b' : Nat} {v v' : Value} {mp mp' : Option Nat} {W : World} {L : List Int} {L' : List ByteArray} (s : IsS n₀ W b v mp L) (z : Z.IsS n₁ W b' v' mp' L') (hd : MapsApart mp mp') (k : Nat) (o : Obj) (hk : W.heap[k]? = some o)
    (h1 : SS b v mp k o) (h2 : Z.SS b' v' mp' k o) : False := by
  obtain ⟨_, h1⟩ := s.tag3 k o hk h1
  obtain ⟨_, h2⟩ := z.tag3 k o hk h2
  rcases h1 with h1 | h1 | ⟨h1, e1⟩ <;> rcases h2 with h2 | h2 | ⟨h2, e2⟩ <;> (try rw [h1] at h2) <;> first | exact hd k e1 e2 | (injection h2 with h2; exact absurd h2 (by decide)) | cases h2
theorem IsS.of_z {n₀ n₁ b b' : Nat} {v v' : Value} {mp mp' : Option Nat} {W W' : World} {L : List Int} {L' : List ByteArray} (s : IsS n₀ W b v mp L) (z : Z.IsS n₁ W b' v' mp' L') (hd : MapsApart mp mp') (hk : Kept (Z.SS b' v' mp') W W') : IsS n₀ W' b v mp L :=
  s.kept (S := fun k _ => k ≠ b ∧ v.ownBlock ≠ some k ∧ mp ≠ some k) (hk.mono (fun k o e hz => ⟨fun e' => sets_apart s z hd k o e (.inl e') hz, fun e' => sets_apart s z hd k o e (.inr (.inl e')) hz, fun e' => sets_apart s z hd k o e (.inr (.inr e')) hz⟩)) (fun _ _ h => h)
theorem z_of_s {n₀ n₁ b b' : Nat} {v v' : Value} {mp mp' : Option Nat} {W W' : World} {L : List Int} {L' : List ByteArray} (z : Z.IsS n₁ W b' v' mp' L') (s : IsS n₀ W b v mp L) (hd : MapsApart mp mp') (hk : Kept (SS b v mp) W W') : Z.IsS n₁ W' b' v' mp' L' :=
  z.kept (S := fun k _ => k ≠ b' ∧ v'.ownBlock ≠ some k ∧ mp' ≠ some k) (hk.mono (fun k o e hs => ⟨fun e' => sets_apart s z hd k o e hs (.inl e'), fun e' => sets_apart s z hd k o e hs (.inr (.inl e')), fun e' => sets_apart s z hd k o e hs (.inr (.inr e'))⟩)) (fun _ _ h => h)
theorem Z.IsS.below {n₀ b : Nat} {v : Value} {mp : Option Nat} {W W' : World} {L : List ByteArray} (s : Z.IsS n₀ W b v mp L) (hn : n₀ ≤ W.heap.size) (hk : Kept (Z.SS b v mp) W W') : Below n₀ W W' :=
  hk.below hn (fun k o e hs => (s.tag3 k o e hs).1)
theorem IsS.map_lt {n₀ b : Nat} {v : Value} {mp : Option Nat} {W : World} {L : List Int} (h : IsS n₀ W b v mp L) (k : Nat) (e : mp = some k) : k < W.heap.size := by
  subst e
  obtain ⟨_, es, clock, hmb, _⟩ := h.map
  exact lt_of_heap hmb
theorem Z.IsS.map_lt {n₀ b : Nat} {v : Value} {mp : Option Nat} {W : World} {L : List ByteArray} (h : Z.IsS n₀ W b v mp L) (k : Nat) (e : mp = some k) : k < W.heap.size := by
  subst e
  obtain ⟨_, es, clock, hmb, _⟩ := h.map
  exact lt_of_heap hmb
theorem maps_left {n₁ b' : Nat} {v' : Value} {mp mp' : Option Nat} {m : Nat} {W : World} {L' : List ByteArray} (z : Z.IsS n₁ W b' v' mp' L') (hd : MapsApart mp mp') (ho : mp = some m ∨ W.heap.size ≤ m) : MapsApart (some m) mp' := fun k e e' => by
  injection e with e
  subst e
  rcases ho with ho | ho
  · exact hd m ho e'
  · have := z.map_lt m e'; omega
theorem maps_right {n₁ b : Nat} {v : Value} {mp mp' : Option Nat} {m : Nat} {W : World} {L : List Int} (s : IsS n₁ W b v mp L) (hd : MapsApart mp mp') (ho : mp' = some m ∨ W.heap.size ≤ m) : MapsApart mp (some m) := fun k e e' => by
  injection e' with e'
  subst e'
  rcases ho with ho | ho
  · exact hd m e ho
  · have := s.map_lt m e; omega
end Go.Proofs.Ytfgejepjiifmlaa
