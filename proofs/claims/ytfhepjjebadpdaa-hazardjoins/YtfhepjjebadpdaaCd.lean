/-
  Instructions; a slice of them, and an argument that is one, opened (stage 7 on: of Lst and Slc, without texts).
-/
import Derived.Test.YtfhepjjebadpdaaRight
import Derived.Deep.Slices
namespace Go.Proofs.Ytfhepjjebadpdaa
set_option maxRecDepth 20000
set_option linter.unusedVariables false
open Go.ChangeShapes Go.WideShapes Go.ChangeAt Go.RowKit Go.Deep

/-- An instruction. -/
structure Ins where
  o : Int
  a : Int
  b : Int
  c : Int
  i : Int
def Ins.right (x : Ins) : Bool := rightB x.o x.a x.b x.c x.i
def Ins.zero : Ins := ⟨0, 0, 0, 0, 0⟩
/-- The cells of a row of instructions. -/
def CodeAt (w : World) (b o : Nat) (X : List Ins) : Prop :=
  ∀ j, j < X.length → w.cell? ⟨b, o + j * 5, none⟩ = some (.int .i64 (X.getD j Ins.zero).o) ∧ w.cell? ⟨b, o + j * 5 + 1, none⟩ = some (.int .i64 (X.getD j Ins.zero).a) ∧ w.cell? ⟨b, o + j * 5 + 2, none⟩ = some (.int .i64 (X.getD j Ins.zero).b) ∧
    w.cell? ⟨b, o + j * 5 + 3, none⟩ = some (.int .i64 (X.getD j Ins.zero).c) ∧ w.cell? ⟨b, o + j * 5 + 4, none⟩ = some (.int .i64 (X.getD j Ins.zero).i)
/-- A slice that holds these instructions. -/
def Code (w : World) (v : Value) (X : List Ins) : Prop :=
  ∃ ao cap, v = .slice ao X.length cap ∧ (0 < X.length → ∃ b o, ao = some ⟨b, o, none⟩ ∧ b < w.heap.size ∧ CodeAt w b o X)
theorem CodeAt.stay {w w' : World} {b o : Nat} {X : List Ins} (h : CodeAt w b o X) (hb : b < w.heap.size) (hl : Bel w w') : CodeAt w' b o X := by
  intro j hj
  have := h j hj
  rw [(bcell hl).1 _ _ hb, (bcell hl).1 _ _ hb, (bcell hl).1 _ _ hb, (bcell hl).1 _ _ hb, (bcell hl).1 _ _ hb]
  exact this
theorem Code.stay {w w' : World} {v : Value} {X : List Ins} (h : Code w v X) (hl : Bel w w') : Code w' v X := by
  obtain ⟨ao, cap, rfl, h⟩ := h
  exact ⟨ao, cap, rfl, fun hn => let ⟨b, o, e, hb, hc⟩ := h hn; ⟨b, o, e, Nat.lt_of_lt_of_le hb hl.size, hc.stay hb hl⟩⟩
section
variable {H : Type} {enc : TypeId × Value → H} {P : Program} {w : World} {base : Nat} {spare : Nat → Bool} {held : Bool}
theorem trod5 {t u : TypeId} {n0 n1 n2 n3 n4 : Field} {cs : List Value} {k : Nat} {y : DataW H × List MemPlace} (hs : P.underlying t = some (.struct #[n0, n1, n2, n3, n4])) (hone : oneCellFields P #[n0, n1, n2, n3, n4] = true)
    (hu : P.underlying u = some (.int .i64)) (e0 : n0.type = u) (e1 : n1.type = u) (e2 : n2.type = u) (e3 : n3.type = u) (e4 : n4.type = u)
    (hlen : cs.length = 5) (hf0 : DataW.trod enc P w base spare held k t cs = some y) :
    ∃ (x0 x1 x2 x3 x4 : Int), cs = [.int .i64 x0, .int .i64 x1, .int .i64 x2, .int .i64 x3, .int .i64 x4] := by
  obtain ⟨c0, c1, c2, c3, c4, rfl⟩ : ∃ c0 c1 c2 c3 c4, cs = [c0, c1, c2, c3, c4] := by
    match cs, hlen with
    | [c0, c1, c2, c3, c4], _ => exact ⟨c0, c1, c2, c3, c4, rfl⟩
  obtain ⟨xs, n, _, hx, hl, hlen', hf⟩ := DataW.trod_struct hs hf0
  obtain ⟨o0, k0⟩ := hone_of hone 0 n0 rfl
  obtain ⟨o1, k1⟩ := hone_of hone 1 n1 rfl
  obtain ⟨o2, k2⟩ := hone_of hone 2 n2 rfl
  obtain ⟨o3, k3⟩ := hone_of hone 3 n3 rfl
  obtain ⟨o4, k4⟩ := hone_of hone 4 n4 rfl
  obtain ⟨y0, y1, y2, y3, y4, rfl⟩ : ∃ y0 y1 y2 y3 y4, xs = [y0, y1, y2, y3, y4] := by
    match xs, hlen' with
    | [y0, y1, y2, y3, y4], _ => exact ⟨y0, y1, y2, y3, y4, rfl⟩
  have t0 : DataW.trod enc P w base spare held n n0.type [c0] = some y0 := by simpa [o0, k0] using hf 0 n0 rfl
  have t1 : DataW.trod enc P w base spare held n n1.type [c1] = some y1 := by simpa [o1, k1] using hf 1 n1 rfl
  have t2 : DataW.trod enc P w base spare held n n2.type [c2] = some y2 := by simpa [o2, k2] using hf 2 n2 rfl
  have t3 : DataW.trod enc P w base spare held n n3.type [c3] = some y3 := by simpa [o3, k3] using hf 3 n3 rfl
  have t4 : DataW.trod enc P w base spare held n n4.type [c4] = some y4 := by simpa [o4, k4] using hf 4 n4 rfl
  obtain ⟨x0, q0, rfl, w0⟩ := DataW.trod_int (e0 ▸ hu) t0
  obtain ⟨x1, q1, rfl, w1⟩ := DataW.trod_int (e1 ▸ hu) t1
  obtain ⟨x2, q2, rfl, w2⟩ := DataW.trod_int (e2 ▸ hu) t2
  obtain ⟨x3, q3, rfl, w3⟩ := DataW.trod_int (e3 ▸ hu) t3
  obtain ⟨x4, q4, rfl, w4⟩ := DataW.trod_int (e4 ▸ hu) t4
  simp only [List.cons.injEq, and_true] at q0 q1 q2 q3 q4
  subst q0 q1 q2 q3 q4
  exact ⟨x0, x1, x2, x3, x4, rfl⟩
end
theorem cellsI : Try.prog.cellsOf 31 = 5 := by kernel_rfl
theorem spot_none {w : World} {a : Addr} {v : Value} (h : w.cell? a = some v) : a.spot = none := by
  unfold World.cell? at h
  split at h
  · cases hs : a.spot with
    | none => rfl
    | some _ => simp [hs] at h
  · cases h
theorem add_none (b o k : Nat) : (⟨b, o, none⟩ : Addr).add k = ⟨b, o + k, none⟩ := by unfold Addr.add; split <;> simp_all
set_option maxRecDepth 100000 in
/-- The instructions that a slice holds when the call begins. -/
theorem open_code {H : Type} {enc : TypeId × Value → H} {W : World} {b0 : Nat} {v : Value} {d : DataW H} {p : List MemPlace} (hv : Value.okWide Try.prog W .any b0 22 v)
    (h : DataW.Trod enc Try.prog W 0 (fun _ => true) true 22 v d p) : ∃ X : List Ins, Code W v X := by
  obtain ⟨a0, len0, cap0, rfl⟩ := okWide_slice Try.underlying22 hv
  obtain ⟨fuel, hf⟩ := h
  rcases open_slice Try.underlying22 hf with ⟨hcs, _⟩ | ⟨a, len, cap, m, n, D, Pl, hcs, _, hl, hm, hmm, _, hx⟩
  · simp [Value.cells] at hcs
    obtain ⟨rfl, rfl, rfl⟩ := hcs
    exact ⟨[], none, 0, rfl, fun h => absurd h (by simp)⟩
  · simp [Value.cells] at hcs
    obtain ⟨rfl, rfl, rfl⟩ := hcs
    have hlm : len0 ≤ m := by rw [hmm]; split <;> omega
    have each : ∀ i, i < len0 → ∃ x : Ins, W.cell? (a.add (i * 5)) = some (.int .i64 x.o) ∧ W.cell? (a.add (i * 5 + 1)) = some (.int .i64 x.a) ∧ W.cell? (a.add (i * 5 + 2)) = some (.int .i64 x.b) ∧ W.cell? (a.add (i * 5 + 3)) = some (.int .i64 x.c) ∧ W.cell? (a.add (i * 5 + 4)) = some (.int .i64 x.i) := by
      intro i hi
      obtain ⟨cs', h1, h2⟩ := hx i (by omega)
      rw [cellsI] at h1
      obtain ⟨_, hlen, hcell⟩ := World.cells?_some h1
      obtain ⟨x0, x1, x2, x3, x4, rfl⟩ := trod5 Try.underlying31 (by kernel_rfl) Try.underlying3 rfl rfl rfl rfl rfl hlen h2
      have e0 := hcell 0 (by omega)
      have e1 := hcell 1 (by omega)
      have e2 := hcell 2 (by omega)
      have e3 := hcell 3 (by omega)
      have e4 := hcell 4 (by omega)
      rw [add_add] at e0 e1 e2 e3 e4
      exact ⟨⟨x0, x1, x2, x3, x4⟩, by simpa using e0, by simpa using e1, by simpa using e2, by simpa using e3, by simpa using e4⟩
    haveI : Inhabited Ins := ⟨Ins.zero⟩
    obtain ⟨q, hq⟩ := choose_lt each
    have hlen : ((List.range len0).map q).length = len0 := by simp
    refine ⟨(List.range len0).map q, some a, cap0, by rw [hlen], fun hn => ?_⟩
    rw [hlen] at hn
    have hs := spot_none (hq 0 hn).1
    obtain ⟨b, o, sp⟩ := a
    have hsp : sp = none := by
      unfold Addr.add at hs
      split at hs <;> simp_all
    subst hsp
    refine ⟨b, o, rfl, ?_, ?_⟩
    · have := (hq 0 hn).1
      rw [add_none] at this
      rcases Nat.lt_or_ge b W.heap.size with h' | h'
      · exact h'
      · simp [World.cell?, Array.getElem?_eq_none h'] at this
    · intro j hj
      rw [hlen] at hj
      have hg : ((List.range len0).map q).getD j Ins.zero = q j := by simp [List.getD, hj]
      rw [hg]
      have := hq j hj
      simp only [add_none] at this
      exact this
end Go.Proofs.Ytfhepjjebadpdaa
