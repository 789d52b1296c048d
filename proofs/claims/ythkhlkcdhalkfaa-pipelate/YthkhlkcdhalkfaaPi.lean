/-
  A step of the machine of five stages.
-/
import Derived.Test.YthkhlkcdhalkfaaPh
import Derived.Test.YthkhlkcdhalkfaaRv2
namespace Go.Proofs.Ythkhlkcdhalkfaa
set_option maxRecDepth 20000
set_option linter.unusedVariables false
open Go.ChangeShapes Go.WideShapes Go.ChangeAt Go.RowKit

section
variable {A W W' : World} {b bm g : Nat} {cv iv : Value} {X : List Ins} {p : Pt}
theorem pstep_out (h : IsQ iv A W b bm g cv X p) (hp : p.st.place < 0 ∨ X.length ≤ p.st.place) :
    Calls Try.prog 19 #[.pointer (some ⟨b, 0, none⟩)] W fun e W' => e = .returned (.int .i64 2) ∧ Bel W W' := by
  have c0 := h.codeAt.1
  have c1 := h.tailAt.2.2.1
  obtain ⟨ov, h⟩ := h
  obtain ⟨ao, cap, rfl, _⟩ := h.code
  clear h
  rcases Int.lt_or_le p.st.place 0 with h0 | h0
  · go_enter Try.func19, Try.ntmps19
    go_wp2
    go_ret
    exact ⟨rfl, Bel.refl _⟩
  · have hd : decide (p.st.place < 0) = false := by simpa using h0
    have h1 : (X.length : Int) ≤ p.st.place := by omega
    go_enter Try.func19, Try.ntmps19
    go_wp2
    go_ret
    exact ⟨rfl, Bel.refl _⟩
/-- The code's cells, in a later world. -/
theorem IsQ.ins (h : IsQ iv A W b bm g cv X p) (k : Nat) (hk : k < X.length) : ∃ bc oc cap, cv = .slice (some ⟨bc, oc, none⟩) X.length cap ∧ bc < A.heap.size ∧
    ∀ V, Bel A V → V.cell? ⟨bc, oc + k * 5, none⟩ = some (.int .i64 (X.getD k Ins.zero).o) ∧ V.cell? ⟨bc, oc + k * 5 + 1, none⟩ = some (.int .i64 (X.getD k Ins.zero).a) ∧ V.cell? ⟨bc, oc + k * 5 + 2, none⟩ = some (.int .i64 (X.getD k Ins.zero).b) ∧
    V.cell? ⟨bc, oc + k * 5 + 3, none⟩ = some (.int .i64 (X.getD k Ins.zero).c) ∧ V.cell? ⟨bc, oc + k * 5 + 4, none⟩ = some (.int .i64 (X.getD k Ins.zero).i) := by
  obtain ⟨ov, h⟩ := h
  obtain ⟨ao, cap, rfl, hc⟩ := h.code
  obtain ⟨bc, oc, rfl, hb, hca⟩ := hc (by omega)
  exact ⟨bc, oc, cap, rfl, hb, fun V hV => (hca.stay hb hV) k hk⟩
theorem pstep_wrong (h : IsQ iv A W b bm g cv X p) (k : Nat) (hp : p.st.place = k) (hk : k < X.length) (hr : ¬ (X.getD k Ins.zero).right = true) :
    Calls Try.prog 19 #[.pointer (some ⟨b, 0, none⟩)] W fun e W' => e = .returned (.int .i64 8) ∧ Bel W W' := by
  have c0 := h.codeAt.1
  have c1 := h.tailAt.2.2.1
  rw [hp] at c1
  obtain ⟨bc, oc, cap, rfl, hbc, hcells⟩ := h.ins k hk
  obtain ⟨a0, a1, a2, a3, a4⟩ := hcells W h.bel
  have hk1 : (k : Int) < X.length := by omega
  have hk0 : (0 : Int) ≤ (k : Int) := by omega
  have hd : decide ((k : Int) < 0) = false := by simp
  clear hcells h
  generalize X.getD k Ins.zero = x at *
  have HR : Hid (∀ w, Calls Try.prog 25 #[.agg #[.int .i64 x.o, .int .i64 x.a, .int .i64 x.b, .int .i64 x.c, .int .i64 x.i]] w fun e w' => e = .returned (.bool false) ∧ Bel w w') := hidm (fun w => by
    have := right_any x.o x.a x.b x.c x.i w
    rw [show rightB x.o x.a x.b x.c x.i = false from by simpa [Ins.right] using hr] at this
    exact this)
  go_enter Try.func19, Try.ntmps19
  go_wp2_with (go_at_call 25; refine (Hid.out HR _).mono ?_; rintro e w2 ⟨rfl, B2⟩)
  go_ret
  exact ⟨rfl, btrans ((Bel.refl W).alloc _) B2⟩
end
end Go.Proofs.Ythkhlkcdhalkfaa
