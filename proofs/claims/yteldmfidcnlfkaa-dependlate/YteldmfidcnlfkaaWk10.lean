/-
  Far and the reference's Far at any ten numbers; what a Nop must do; lists of heights as slices.
-/
import Derived.Test.YteldmfidcnlfkaaAwk10
import Derived.Test.YteldmfidcnlfkaaRg
import Derived.Test.YteldmfidcnlfkaaRh10
import Derived.Test.YteldmfidcnlfkaaSam
namespace Go.Proofs.Yteldmfidcnlfkaa
set_option maxRecDepth 20000
set_option linter.unusedVariables false
open Go.ChangeShapes Go.WideShapes Go.ChangeAt Go.RowKit

theorem far_gen (o a b c i o' a' b' c' i' : Int) (w : World) :
    Calls Try.prog 10 #[.agg #[.int .i64 o, .int .i64 a, .int .i64 b, .int .i64 c, .int .i64 i], .agg #[.int .i64 o', .int .i64 a', .int .i64 b', .int .i64 c', .int .i64 i']] w fun e w' => e = .returned (.int .i64 (farI ⟨o, a, b, c, i⟩ ⟨o', a', b', c', i'⟩)) ∧ Bel w w' := far_any ⟨o, a, b, c, i⟩ ⟨o', a', b', c', i'⟩ w
theorem refFar_gen (o a b c i o' a' b' c' i' : Int) (w : World) :
    Calls Try.prog 11 #[.agg #[.int .i64 o, .int .i64 a, .int .i64 b, .int .i64 c, .int .i64 i], .agg #[.int .i64 o', .int .i64 a', .int .i64 b', .int .i64 c', .int .i64 i']] w fun e w' => e = .returned (.int .i64 (farI ⟨o, a, b, c, i⟩ ⟨o', a', b', c', i'⟩)) ∧ Bel w w' := refFar_any ⟨o, a, b, c, i⟩ ⟨o', a', b', c', i'⟩ w
theorem nop_wr : (⟨0, 0, 0, 0, 0⟩ : Ins).wr = 0 := by decide +kernel
theorem nop_rd1 : (⟨0, 0, 0, 0, 0⟩ : Ins).rd1 = 0 := by decide +kernel
theorem nop_rd2 : (⟨0, 0, 0, 0, 0⟩ : Ins).rd2 = 0 := by decide +kernel
theorem nop_act : (⟨0, 0, 0, 0, 0⟩ : Ins).act = false := by decide +kernel
theorem far_nop (x : Ins) : farI x ⟨0, 0, 0, 0, 0⟩ = 0 := by
  have h : ¬ 0 < farI x ⟨0, 0, 0, 0, 0⟩ := by
    rw [farI_pos, anyI_iff, nop_wr, nop_rd1, nop_rd2, nop_act]
    rintro (⟨h1, h2⟩ | h | h | h) <;> (first | omega | (cases h1; done) | cases h2)
  have := farI_bd x ⟨0, 0, 0, 0, 0⟩
  omega
theorem nop_far (x : Ins) : farI ⟨0, 0, 0, 0, 0⟩ x = 0 := by
  have h : ¬ 0 < farI ⟨0, 0, 0, 0, 0⟩ x := by
    rw [farI_pos, anyI_iff, nop_wr, nop_rd1, nop_rd2, nop_act]
    rintro (⟨h1, h2⟩ | h | h | h) <;> (first | omega | (cases h1; done) | cases h2)
  have := farI_bd ⟨0, 0, 0, 0, 0⟩ x
  omega
theorem far_both (x y : Ins) : 0 < farI x y ↔ 0 < farI y x := by rw [farI_pos, farI_pos, anyI_comm]
theorem heights_ints (X : List Ins) (v : Value) (w : World) (hl : X.length ≤ 1000) (hv : Code w v X) :
    Calls Try.prog 14 #[v] w fun e w' => ∃ g c, e = .returned (.slice (some ⟨g, 0, none⟩) X.length c) ∧ Ints .i64 w' (.slice (some ⟨g, 0, none⟩) X.length c) (hgt X) ∧ w'.heap[g]? = some (intB (fun j => (hgt X).getD j 0) X.length) ∧ Bel w w' := by
  refine (heights_any X v w hl hv).mono ?_
  rintro e w' ⟨g, c, rfl, h1, h2, h3⟩
  have := ints_intB (L := hgt X) (by rw [hgt_len]; exact h2) (fun j hj => rfl) c
  rw [hgt_len] at this
  exact ⟨g, c, rfl, this, h2, h3⟩
theorem refHeights_ints (X : List Ins) (v : Value) (w : World) (hl : X.length ≤ 1000) (hv : Code w v X) :
    Calls Try.prog 15 #[v] w fun e w' => ∃ g c, e = .returned (.slice (some ⟨g, 0, none⟩) X.length c) ∧ Ints .i64 w' (.slice (some ⟨g, 0, none⟩) X.length c) (hgt X) ∧ Bel w w' := by
  refine (refHeights_any X v w hl hv).mono ?_
  rintro e w' ⟨g, c, rfl, h1, h2, h3⟩
  have := ints_intB (L := hgt X) (by rw [hgt_len]; exact h2) (fun j hj => rfl) c
  rw [hgt_len] at this
  exact ⟨g, c, rfl, this, h3⟩
theorem same_refl (A : List Int) (va vb : Value) (W : World) (ha : Ints .i64 W va A) (hb : Ints .i64 W vb A) (hlen : A.length < 1000000000) :
    Calls Try.prog 13 #[va, vb] W fun e W' => e = .returned (.bool true) ∧ Bel W W' := by
  have := same_any va vb A A W ha hb hlen
  rwa [sameB_self] at this
theorem late_gen (o a b c i : Int) (w : World) : Calls Try.prog 18 #[.agg #[.int .i64 o, .int .i64 a, .int .i64 b, .int .i64 c, .int .i64 i]] w fun e w' => e = .returned (.bool (Ins.late ⟨o, a, b, c, i⟩)) ∧ Bel w w' := refLate_any o a b c i w
theorem rwr_gen (o a b c i : Int) (w : World) : Calls Try.prog 20 #[.agg #[.int .i64 o, .int .i64 a, .int .i64 b, .int .i64 c, .int .i64 i]] w fun e w' => e = .returned (.int .i64 (Ins.wr ⟨o, a, b, c, i⟩)) ∧ Bel w w' := refWrites_any o a b c i w
theorem rrd_gen (o a b c i n : Int) (w : World) : Calls Try.prog 19 #[.agg #[.int .i64 o, .int .i64 a, .int .i64 b, .int .i64 c, .int .i64 i], .int .i64 n] w fun e w' => e = .returned (.bool (Ins.rds ⟨o, a, b, c, i⟩ n)) ∧ Bel w w' := refReads_any o a b c i n w
/-- Two boxes of instructions, as each later world reads them. -/
theorem two_boxes (w : World) (o0 a0 b0 c0 i0 o1 a1 b1 c1 i1 : Int) :
    ∃ wB, (w.alloc (Obj.cells #[.int .i64 o0, .int .i64 a0, .int .i64 b0, .int .i64 c0, .int .i64 i0] 23)).alloc (Obj.cells #[.int .i64 o1, .int .i64 a1, .int .i64 b1, .int .i64 c1, .int .i64 i1] 23) = wB ∧ Bel w wB ∧
      ((∀ u : Later wB, u.at_.cell? ⟨w.heap.size, 0, none⟩ = some (.int .i64 o0)) ∧ (∀ u : Later wB, u.at_.cell? ⟨w.heap.size, 1, none⟩ = some (.int .i64 a0)) ∧ (∀ u : Later wB, u.at_.cell? ⟨w.heap.size, 2, none⟩ = some (.int .i64 b0)) ∧ (∀ u : Later wB, u.at_.cell? ⟨w.heap.size, 3, none⟩ = some (.int .i64 c0)) ∧ (∀ u : Later wB, u.at_.cell? ⟨w.heap.size, 4, none⟩ = some (.int .i64 i0))) ∧
      ((∀ u : Later wB, u.at_.cell? ⟨w.heap.size + 1, 0, none⟩ = some (.int .i64 o1)) ∧ (∀ u : Later wB, u.at_.cell? ⟨w.heap.size + 1, 1, none⟩ = some (.int .i64 a1)) ∧ (∀ u : Later wB, u.at_.cell? ⟨w.heap.size + 1, 2, none⟩ = some (.int .i64 b1)) ∧ (∀ u : Later wB, u.at_.cell? ⟨w.heap.size + 1, 3, none⟩ = some (.int .i64 c1)) ∧ (∀ u : Later wB, u.at_.cell? ⟨w.heap.size + 1, 4, none⟩ = some (.int .i64 i1))) := by
  have hx0 : ((w.alloc (Obj.cells #[.int .i64 o0, .int .i64 a0, .int .i64 b0, .int .i64 c0, .int .i64 i0] 23)).alloc (Obj.cells #[.int .i64 o1, .int .i64 a1, .int .i64 b1, .int .i64 c1, .int .i64 i1] 23)).heap[w.heap.size]? = some (Obj.cells #[.int .i64 o0, .int .i64 a0, .int .i64 b0, .int .i64 c0, .int .i64 i0] 23) := heap_old (heap_new _ _)
  have hx1 : ((w.alloc (Obj.cells #[.int .i64 o0, .int .i64 a0, .int .i64 b0, .int .i64 c0, .int .i64 i0] 23)).alloc (Obj.cells #[.int .i64 o1, .int .i64 a1, .int .i64 b1, .int .i64 c1, .int .i64 i1] 23)).heap[w.heap.size + 1]? = some (Obj.cells #[.int .i64 o1, .int .i64 a1, .int .i64 b1, .int .i64 c1, .int .i64 i1] 23) := heap_newN (by simp)
  obtain ⟨p0, p1, p2, p3, p4⟩ := box_cells hx0
  obtain ⟨q0, q1, q2, q3, q4⟩ := box_cells hx1
  have l0 := lt_of_heap hx0
  have l1 := lt_of_heap hx1
  exact ⟨_, rfl, ((Bel.refl w).alloc _).alloc _, ⟨later_cell p0 l0, later_cell p1 l0, later_cell p2 l0, later_cell p3 l0, later_cell p4 l0⟩, ⟨later_cell q0 l1, later_cell q1 l1, later_cell q2 l1, later_cell q3 l1, later_cell q4 l1⟩⟩
end Go.Proofs.Yteldmfidcnlfkaa
