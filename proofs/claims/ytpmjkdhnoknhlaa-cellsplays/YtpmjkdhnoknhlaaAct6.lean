/-
  An argument that is a slice of acts (two integers each), opened.
-/
import Derived.Test.YtpmjkdhnoknhlaaAwk6
import Derived.Deep.Slices
namespace Go.Proofs.Ytpmjkdhnoknhlaa
set_option linter.unusedVariables false
open Go.ChangeShapes Go.WideShapes Go.ChangeAt Go.RowKit Go.Deep

section
variable {H : Type} {enc : TypeId × Value → H} {P : Program} {w : World} {base : Nat} {spare : Nat → Bool} {held : Bool}
theorem trod2 {t u : TypeId} {n0 n1 : Field} {cs : List Value} {k : Nat} {y : DataW H × List MemPlace} (hs : P.underlying t = some (.struct #[n0, n1])) (hone : oneCellFields P #[n0, n1] = true)
    (hu : P.underlying u = some (.int .i64)) (e0 : n0.type = u) (e1 : n1.type = u) (hlen : cs.length = 2) (hf0 : DataW.trod enc P w base spare held k t cs = some y) :
    ∃ (x0 x1 : Int), cs = [.int .i64 x0, .int .i64 x1] ∧ (Lit.int .i64 x0).wf = true ∧ (Lit.int .i64 x1).wf = true := by
  obtain ⟨c0, c1, rfl⟩ : ∃ c0 c1, cs = [c0, c1] := by
    match cs, hlen with
    | [c0, c1], _ => exact ⟨c0, c1, rfl⟩
  obtain ⟨xs, n, _, hx, hl, hlen', hf⟩ := DataW.trod_struct hs hf0
  obtain ⟨o0, k0⟩ := hone_of hone 0 n0 rfl
  obtain ⟨o1, k1⟩ := hone_of hone 1 n1 rfl
  obtain ⟨y0, y1, rfl⟩ : ∃ y0 y1, xs = [y0, y1] := by
    match xs, hlen' with
    | [y0, y1], _ => exact ⟨y0, y1, rfl⟩
  have t0 : DataW.trod enc P w base spare held n n0.type [c0] = some y0 := by simpa [o0, k0] using hf 0 n0 rfl
  have t1 : DataW.trod enc P w base spare held n n1.type [c1] = some y1 := by simpa [o1, k1] using hf 1 n1 rfl
  obtain ⟨x0, q0, rfl, w0⟩ := DataW.trod_int (e0 ▸ hu) t0
  obtain ⟨x1, q1, rfl, w1⟩ := DataW.trod_int (e1 ▸ hu) t1
  simp only [List.cons.injEq, and_true] at q0 q1
  subst q0 q1
  exact ⟨x0, x1, rfl, w0, w1⟩
end
theorem cellsA : Try.prog.cellsOf 28 = 2 := by kernel_rfl
theorem add_none (b o k : Nat) : (⟨b, o, none⟩ : Addr).add k = ⟨b, o + k, none⟩ := by unfold Addr.add; split <;> simp_all

def ActsAt (W : World) (b o : Nat) (X : List (Int × Int)) : Prop :=
  ∀ j, j < X.length → W.cell? ⟨b, o + j * 2, none⟩ = some (.int .i64 (X[j]?.getD (0, 0)).1) ∧ W.cell? ⟨b, o + j * 2 + 1, none⟩ = some (.int .i64 (X[j]?.getD (0, 0)).2)
/-- The slice v holds these acts. -/
def Acts (W : World) (v : Value) (X : List (Int × Int)) : Prop :=
  ∃ ao cap, v = .slice ao X.length cap ∧ (0 < X.length → ∃ b o, ao = some ⟨b, o, none⟩ ∧ b < W.heap.size ∧ ActsAt W b o X)
theorem ActsAt.bel {W W' : World} {b o : Nat} {X : List (Int × Int)} (h : ActsAt W b o X) (hb : b < W.heap.size) (hB : Bel W W') : ActsAt W' b o X :=
  fun j hj => ⟨((bcell hB).1 b _ hb).trans (h j hj).1, ((bcell hB).1 b _ hb).trans (h j hj).2⟩
set_option maxRecDepth 100000 in
theorem open_acts {H : Type} {enc : TypeId × Value → H} {W : World} {b0 : Nat} {v : Value} {d : DataW H} {p : List MemPlace} (hv : Value.okWide Try.prog W .any b0 22 v)
    (h : DataW.Trod enc Try.prog W 0 (fun _ => true) true 22 v d p) : ∃ X : List (Int × Int), Acts W v X ∧ ∀ x ∈ X, (Lit.int .i64 x.1).wf = true ∧ (Lit.int .i64 x.2).wf = true := by
  obtain ⟨a0, len0, cap0, rfl⟩ := okWide_slice Try.underlying22 hv
  obtain ⟨fuel, hf⟩ := h
  rcases open_slice Try.underlying22 hf with ⟨hcs, _⟩ | ⟨a, len, cap, m, n, D, Pl, hcs, _, hl, hm, hmm, _, hx⟩
  · simp [Value.cells] at hcs
    obtain ⟨rfl, rfl, rfl⟩ := hcs
    exact ⟨[], ⟨none, 0, rfl, fun h => absurd h (by simp)⟩, by simp⟩
  · simp [Value.cells] at hcs
    obtain ⟨rfl, rfl, rfl⟩ := hcs
    have hlm : len0 ≤ m := by rw [hmm]; split <;> omega
    have each : ∀ i, i < len0 → ∃ x : Int × Int, W.cell? (a.add (i * 2)) = some (.int .i64 x.1) ∧ W.cell? (a.add (i * 2 + 1)) = some (.int .i64 x.2) ∧ (Lit.int .i64 x.1).wf = true ∧ (Lit.int .i64 x.2).wf = true := by
      intro i hi
      obtain ⟨cs', h1, h2⟩ := hx i (by omega)
      rw [cellsA] at h1
      obtain ⟨_, hlen, hcell⟩ := World.cells?_some h1
      obtain ⟨x0, x1, rfl, w0, w1⟩ := trod2 Try.underlying28 (by kernel_rfl) Try.underlying3 rfl rfl hlen h2
      have e0 := hcell 0 (by omega)
      have e1 := hcell 1 (by omega)
      rw [add_add] at e0 e1
      exact ⟨⟨x0, x1⟩, by simpa using e0, by simpa using e1, w0, w1⟩
    obtain ⟨q, hq⟩ := choose_lt each
    have hlen : ((List.range len0).map q).length = len0 := by simp
    refine ⟨(List.range len0).map q, ⟨some a, cap0, by rw [hlen], fun hn => ?_⟩, fun x hx => ?_⟩
    · rw [hlen] at hn
      have hs := spot_of (hq 0 hn).1
      obtain ⟨b, o, sp⟩ := a
      have hsp : sp = none := by
        unfold Addr.add at hs
        split at hs <;> simp_all
      subst hsp
      refine ⟨b, o, rfl, ?_, ?_⟩
      · have := (hq 0 hn).1
        rw [add_none] at this
        rcases Nat.lt_or_ge b W.heap.size with h' | h'
        · exact h'
        · simp [World.cell?, Array.getElem?_eq_none h'] at this
      · intro j hj
        rw [hlen] at hj
        have hg : ((List.range len0).map q)[j]?.getD (0, 0) = q j := by simp [hj]
        rw [hg]
        have := hq j hj
        simp only [add_none] at this
        exact ⟨this.1, by rw [Nat.add_assoc]; exact this.2.1⟩
    · obtain ⟨j, hj, rfl⟩ := List.mem_map.1 hx
      exact (hq j (List.mem_range.1 hj)).2.2
end Go.Proofs.Ytpmjkdhnoknhlaa
