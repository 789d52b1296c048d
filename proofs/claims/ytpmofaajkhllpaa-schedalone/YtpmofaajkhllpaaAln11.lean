/-
  One instruction alone: what Lay and Order make of it.
-/
import Derived.Test.YtpmofaajkhllpaaFr11
import Derived.Test.YtpmofaajkhllpaaRef3
namespace Go.Proofs.Ytpmofaajkhllpaa
set_option maxRecDepth 20000
set_option linter.unusedVariables false
open Go.ChangeShapes Go.WideShapes Go.ChangeAt Go.RowKit

theorem alone_code {W : World} {k : Nat} {o a b c i : Int} (h : W.heap[k]? = some (.cells #[.int .i64 o, .int .i64 a, .int .i64 b, .int .i64 c, .int .i64 i] 30)) : Code W (.slice (some ⟨k, 0, none⟩) 1 1) [⟨o, a, b, c, i⟩] := code_lit (X := [⟨o, a, b, c, i⟩]) h 1 1 rfl
theorem alone_lay (o a b c i : Int) (L : List Int) (W : World) (k : Nat) (h : W.heap[k]? = some (.cells #[.int .i64 o, .int .i64 a, .int .i64 b, .int .i64 c, .int .i64 i] 30)) (hL : (if goesB o a b c i = true ∨ lateB o a b c i = true then [0, -1] else [0]) = L) :
    Calls Try.prog 15 #[.slice (some ⟨k, 0, none⟩) 1 1] W fun e W' => ∃ ao c, e = .returned (.slice ao L.length c) ∧ Ints .i64 W' (.slice ao L.length c) L ∧ Bel W W' := by
  refine (lay_any [⟨o, a, b, c, i⟩] _ _ (by simp) (alone_code h) (fun ao n c e => by cases e; exact Nat.le_refl _)).mono ?_
  rintro e W' ⟨v', M, rfl, hM, ho, hb⟩
  have e1 := lay_alone hM
  have e2 : M = L := e1.trans hL
  subst e2
  obtain ⟨ao, c, rfl⟩ := ownI_form ho
  exact ⟨ao, c, rfl, own_ints ho, hb⟩
theorem alone_ord (o a b c i : Int) (W : World) (k : Nat) (h : W.heap[k]? = some (.cells #[.int .i64 o, .int .i64 a, .int .i64 b, .int .i64 c, .int .i64 i] 30)) :
    Calls Try.prog 12 #[.slice (some ⟨k, 0, none⟩) 1 1] W fun e W' => ∃ ao c, e = .returned (.slice ao 1 c) ∧ Ints .i64 W' (.slice ao 1 c) [0] ∧ Bel W W' := by
  refine (order_any [⟨o, a, b, c, i⟩] _ _ (by simp) (alone_code h)).mono ?_
  rintro e W' ⟨v', Z, rfl, hZ, ho, hb⟩
  have e2 := ord_alone hZ
  subst e2
  obtain ⟨ao, c, rfl⟩ := ownI_form ho
  exact ⟨ao, c, rfl, own_ints ho, hb⟩
theorem want2 (W : World) : Ints .i64 (W.alloc (.cells #[.int .i64 0, .int .i64 (-1)] 3)) (.slice (some ⟨W.heap.size, 0, none⟩) 2 2) [0, -1] := ints_lit (heap_new W _) 2 2 rfl
theorem want1 (W : World) : Ints .i64 (W.alloc (.cells #[.int .i64 0] 3)) (.slice (some ⟨W.heap.size, 0, none⟩) 1 1) [0] := ints_lit (heap_new W _) 1 1 rfl
theorem want1N (W : World) (k : Nat) (hk : k = W.heap.size) : Ints .i64 (W.alloc (.cells #[.int .i64 0] 3)) (.slice (some ⟨k, 0, none⟩) 1 1) [0] := by subst hk; exact want1 W
theorem same_yes (A : List Int) (va vb : Value) (W : World) (ha : Ints .i64 W va A) (hb : Ints .i64 W vb A) (hlen : A.length < 1000000000) :
    Calls Try.prog 11 #[va, vb] W fun e W' => e = .returned (.bool true) ∧ Bel W W' := by
  have := same_any va vb A A W ha hb hlen
  rwa [sameB_self] at this
end Go.Proofs.Ytpmofaajkhllpaa
