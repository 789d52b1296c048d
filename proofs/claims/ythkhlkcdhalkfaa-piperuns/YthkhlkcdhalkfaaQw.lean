/-
  A step of the reference of layer 8: an instruction that is not right.
-/
import Derived.Test.YthkhlkcdhalkfaaQb
namespace Go.Proofs.Ythkhlkcdhalkfaa
set_option maxRecDepth 20000
set_option linter.unusedVariables false
open Go.ChangeShapes Go.WideShapes Go.ChangeAt Go.RowKit

section
variable {A W : World} {b gr gm : Nat} {ov : Value} {I : List Int} {p : Pt} {rd : Nat} {nx rg lt : Int}
set_option maxHeartbeats 4000000 in
theorem qstep_wrong (h : IsR A W b gr gm ov I p.st rd 0) (X : List Ins) (cv iv : Value) (hv : Code A cv X) (k : Nat) (hp : p.st.place = k) (hk : k < X.length) (hr : ¬ (X.getD k Ins.zero).right = true) :
    Calls Try.prog 22 #[.agg #[.pointer (some ⟨b, 0, none⟩), .int .i64 nx, .int .i64 rg, .int .i64 lt], cv, iv] W fun e W' => ∃ nx' rg' lt', e = .returned (.agg #[.pointer (some ⟨b, 0, none⟩), .int .i64 nx', .int .i64 rg', .int .i64 lt']) ∧ AfterQ A W W' b gr gm I (stepP X p) rd nx' rg' lt' := by
  obtain ⟨ao, cap, rfl, hc⟩ := id hv
  obtain ⟨bc, oc, rfl, hbc, hca⟩ := hc (by omega)
  obtain ⟨a0, a1, a2, a3, a4⟩ := (hca.stay hbc h.bel) k hk
  obtain ⟨c0, c1, c2, c3, c4, c5⟩ := refB_cells h.box
  rw [hp] at c2
  have lb := lt_of_heap h.box
  have hbs := h.bel.size
  have hbcW : bc < W.heap.size := by omega
  have hk1 : (k : Int) < X.length := by omega
  have hk0 : (0 : Int) ≤ (k : Int) := by omega
  have hd : decide ((k : Int) < 0) = false := by simp
  have hst : stepP X p = (8, p) := by
    unfold stepP
    rw [if_neg (by omega), hp, Int.toNat_natCast, if_neg hr]
  rw [hst]
  clear hst hc hca
  generalize X.getD k Ins.zero = x at *
  have HR : Hid (∀ w, Calls Try.prog 35 #[.agg #[.int .i64 x.o, .int .i64 x.a, .int .i64 x.b, .int .i64 x.c, .int .i64 x.i]] w fun e w' => e = .returned (.bool false) ∧ Bel w w') := hidm (fun w => by
    have := refRight_any x.o x.a x.b x.c x.i w
    rw [show rightB x.o x.a x.b x.c x.i = false from by simpa [Ins.right] using hr] at this
    exact this)
  have HH := hidm h
  clear h hv hr
  go_enter Try.func22, Try.ntmps22
  go_wp2_with (first
    | (go_at_call 35; refine (Hid.out HR _).mono ?_; rintro e w2 ⟨rfl, B2⟩; refine Hid.out ?_)
    | fail)
  have B02 : Bel W w2 := btrans ((((Bel.refl W).alloc _).alloc _).alloc _) B2
  have hs2 : w2.heap[W.heap.size]? = some (stB b nx rg lt) := (B2.out.block _ (by simp <;> omega)).trans (heap_old (heap_old (heap_new W _)))
  have hz2 : w2.heap[W.heap.size + 1]? = some stZ := (B2.out.block _ (by simp <;> omega)).trans (heap_old (heap_at2 W _ _))
  have h2 := (Hid.out HH).stay B02
  obtain ⟨s0, s1, s2, s3⟩ := stB_cells hs2
  have y0 : w2.cell? ⟨W.heap.size + 1, 0, none⟩ = some (.pointer none) := cell_of hz2 0
  have y1 : w2.cell? ⟨W.heap.size + 1, 1, none⟩ = some (.int .i64 0) := cell_of hz2 1
  have y2 : w2.cell? ⟨W.heap.size + 1, 2, none⟩ = some (.int .i64 0) := cell_of hz2 2
  have y3 : w2.cell? ⟨W.heap.size + 1, 3, none⟩ = some (.int .i64 0) := cell_of hz2 3
  have g0 : ∀ j, w2.frozen? ⟨W.heap.size + 1, j, none⟩ = false := fun j => frozen_of hz2 j
  have m5 := (refB_cells h2.box).2.2.2.2.2
  have f5 := frozen_of h2.box 5
  have nbz : b ≠ W.heap.size + 1 := by omega
  have nbz' := nbz.symm
  have nbs : b ≠ W.heap.size := by omega
  have nbs' := nbs.symm
  obtain ⟨h3, K3⟩ := h2.setBox 5 (.int .i64 8) p.st.place rd 8 p.st.inp h2.inp rfl
  have hz3 := keptR_box K3 hz2 (by decide) (by decide)
  have x0 := cell_of hz3 0
  have x1 := cell_of hz3 1
  have x2 := cell_of hz3 2
  have x3 := cell_of hz3 3
  have H3 := hidm h3
  have HZ3 := hidm hz3
  have HK3 := hidm ((Kept.of_bel B02).trans K3)
  clear h2 h3 hs2 hz2 hz3 K3 B2 B02 a0 a1 a2 a3 a4 c0 c1 c2 c3 c4 c5 HH
  refine hidm ?_
  go_wp2
  refine bodyPost_ret (v := .agg #[.pointer (some ⟨b, 0, none⟩), .int .i64 nx, .int .i64 rg, .int .i64 lt]) (by simp [results, Try.results22, go_sem, x0, x1, x2, x3]) rfl ⟨_, _, _, rfl, ?_⟩
  exact qend (r := (8, p)) (Hid.out H3) (Hid.out HZ3) hbs (Nat.le_succ _) (Hid.out HK3) (Nat.le_succ _) (fun q => absurd q (show ¬ ((8 : Int) = 0) by decide)) _ _ _ _
end
end Go.Proofs.Ythkhlkcdhalkfaa
