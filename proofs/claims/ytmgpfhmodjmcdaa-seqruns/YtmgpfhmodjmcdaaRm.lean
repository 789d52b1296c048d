/-
  The reference's machine as it lies in the heap; its set.
-/
import Derived.Test.YtmgpfhmodjmcdaaRv2
import Derived.Test.YtmgpfhmodjmcdaaRr2R
import Derived.Test.YtmgpfhmodjmcdaaRn
namespace Go.Proofs.Ytmgpfhmodjmcdaa
set_option maxRecDepth 20000
set_option linter.unusedVariables false
open Go.ChangeShapes Go.WideShapes Go.ChangeAt Go.RowKit

/-- What the reference's calls may turn. -/
def MutR (n₀ : Nat) (k : Nat) (o : Obj) : Prop := n₀ ≤ k ∧ (tag o = some 61 ∨ tag o = some 3)
def refB (gr gm n : Nat) (p rd : Int) (ov : Value) (t : Int) : Array Value := #[.slice (some ⟨gr, 0, none⟩) 32 32, .slice (some ⟨gm, 0, none⟩) n n, .int .i64 p, .int .i64 rd, ov, .int .i64 t]
structure IsR (A : World) (W : World) (b gr gm : Nat) (ov : Value) (I : List Int) (s : St) (rd : Nat) (t : Int) : Prop where
  box : W.heap[b]? = some (.cells (refB gr gm s.mem.length s.place rd ov t) 61 (0, 0))
  rr : W.heap[gr]? = some (.cells (s.regs.map (Value.int .i64)).toArray 3 (0, 0))
  rm : W.heap[gm]? = some (.cells (s.mem.map (Value.int .i64)).toArray 3 (0, 0))
  low : A.heap.size ≤ b
  lowr : A.heap.size ≤ gr
  lowm : A.heap.size ≤ gm
  ne : gr ≠ gm
  out : W.ownsRow A.heap.size 3 1 ov s.out.length (s.out.map (Value.int .i64))
  apr : ov.ownBlock ≠ some gr
  apm : ov.ownBlock ≠ some gm
  bel : Bel A W
  ok : Ok s
  lenm : s.mem.length ≤ 32000
  leno : s.out.length ≤ 10000
  inp : s.inp = I.drop rd
theorem IsR.stay {A W W' : World} {b gr gm : Nat} {ov : Value} {I : List Int} {s : St} {rd : Nat} {t : Int} (h : IsR A W b gr gm ov I s rd t) (hb : Bel W W') : IsR A W' b gr gm ov I s rd t :=
  ⟨(hb.out.block b (lt_of_heap h.box)).trans h.box, (hb.out.block gr (lt_of_heap h.rr)).trans h.rr, (hb.out.block gm (lt_of_heap h.rm)).trans h.rm, h.low, h.lowr, h.lowm, h.ne, row_bel h.out hb, h.apr, h.apm, btrans h.bel hb, h.ok, h.lenm, h.leno, h.inp⟩
theorem IsR.bne {A W : World} {b gr gm : Nat} {ov : Value} {I : List Int} {s : St} {rd : Nat} {t : Int} (h : IsR A W b gr gm ov I s rd t) : gr ≠ b ∧ gm ≠ b ∧ ov.ownBlock ≠ some b := by
  refine ⟨fun e => ?_, fun e => ?_, fun e => ?_⟩
  · have h1 := h.box
    have h2 := h.rr
    subst e
    rw [h1] at h2
    injection h2 with h2
    injection h2 with _ h2 _
    exact absurd h2 (by decide)
  · have h1 := h.box
    have h2 := h.rm
    subst e
    rw [h1] at h2
    injection h2 with h2
    injection h2 with _ h2 _
    exact absurd h2 (by decide)
  · rcases h.out.2 with ⟨e1, _⟩ | ⟨g, cap, cur, e1, _, hg, _⟩
    · rw [e1] at e; cases e
    · rw [e1] at e
      injection e with e
      subst e
      rw [h.box] at hg
      injection hg with hg
      injection hg with _ hg _
      exact absurd hg (by decide)
theorem refB_cells {W : World} {b gr gm n : Nat} {p rd : Int} {ov : Value} {t : Int} (h : W.heap[b]? = some (.cells (refB gr gm n p rd ov t) 61 (0, 0))) :
    W.cell? ⟨b, 0, none⟩ = some (.slice (some ⟨gr, 0, none⟩) 32 32) ∧ W.cell? ⟨b, 1, none⟩ = some (.slice (some ⟨gm, 0, none⟩) n n) ∧ W.cell? ⟨b, 2, none⟩ = some (.int .i64 p) ∧ W.cell? ⟨b, 3, none⟩ = some (.int .i64 rd) ∧ W.cell? ⟨b, 4, none⟩ = some ov ∧ W.cell? ⟨b, 5, none⟩ = some (.int .i64 t) :=
  ⟨cell_of h 0, cell_of h 1, cell_of h 2, cell_of h 3, cell_of h 4, cell_of h 5⟩
theorem IsR.mut {A W : World} {b gr gm : Nat} {ov : Value} {I : List Int} {s : St} {rd : Nat} {t : Int} (h : IsR A W b gr gm ov I s rd t) : ∀ o, W.heap[b]? = some o → MutR A.heap.size b o := by
  intro o ho
  rw [h.box] at ho
  injection ho with ho
  subst ho
  exact ⟨h.low, .inl rfl⟩
theorem mutR_row {n₀ : Nat} {W : World} {k : Nat} {c : Array Value} {f : Nat × Nat} (h : W.heap[k]? = some (.cells c 3 f)) (hk : n₀ ≤ k) : ∀ o, W.heap[k]? = some o → MutR n₀ k o := by
  intro o ho
  rw [h] at ho
  injection ho with ho
  subst ho
  exact ⟨hk, .inr rfl⟩
theorem keptR_box {n₀ : Nat} {W W' : World} {k : Nat} {c : Array Value} {t : TypeId} {f : Nat × Nat} (hk : Kept (MutR n₀) W W') (h : W.heap[k]? = some (.cells c t f)) (h1 : t ≠ 61) (h2 : t ≠ 3) : W'.heap[k]? = some (.cells c t f) :=
  hk.block k _ h (fun e => by rcases e.2 with e | e <;> (injection e with e; first | exact h1 e | exact h2 e))
theorem keptR_bel {A W W' : World} (h : Bel A W) (hk : Kept (MutR A.heap.size) W W') : Bel A W' := h.out.trans (hk.below h.size (fun k o _ e => e.1))
theorem row_own {W : World} {n₀ n k : Nat} {v : Value} {xs : List Value} (h : W.ownsRow n₀ 3 1 v n xs) (hk : v.ownBlock ≠ some k) (j : Nat) (u : Value) : (W.setCell ⟨k, j, none⟩ u).ownsRow n₀ 3 1 v n xs := by
  refine row_kept h (Kept.setCell (fun k' o => k' = k) W ⟨k, j, none⟩ u (fun _ _ => rfl)) ?_
  rintro k' c f hk' rfl
  exact hk hk'
/-- A store in the machine's own box: the place, how much was read, by what it stopped. -/
theorem IsR.setBox {A W : World} {b gr gm : Nat} {ov : Value} {I : List Int} {s : St} {rd : Nat} {t : Int} (h : IsR A W b gr gm ov I s rd t) (j : Nat) (u : Value) (p' : Int) (rd' : Nat) (t' : Int) (I' : List Int) (hI : I' = I.drop rd')
    (hb : (refB gr gm s.mem.length s.place rd ov t).setIfInBounds j u = refB gr gm s.mem.length p' rd' ov t') : IsR A (W.setCell ⟨b, j, none⟩ u) b gr gm ov I { s with place := p', inp := I' } rd' t' ∧ Kept (MutR A.heap.size) W (W.setCell ⟨b, j, none⟩ u) := by
  obtain ⟨n1, n2, n3⟩ := h.bne
  exact ⟨⟨(heap_set_same h.box).trans (by rw [hb]), (heap_set_other n1).trans h.rr, (heap_set_other n2).trans h.rm, h.low, h.lowr, h.lowm, h.ne, row_own h.out n3 j u, h.apr, h.apm, h.bel.setCell h.low u, ⟨h.ok.len, h.ok.words, h.ok.cells, h.ok.zero⟩, h.lenm, h.leno, hI⟩, Kept.setCell _ _ ⟨b, j, none⟩ _ h.mut⟩
/-- A store in the registers' row. -/
theorem IsR.setReg {A W : World} {b gr gm : Nat} {ov : Value} {I : List Int} {s : St} {rd : Nat} {t : Int} (h : IsR A W b gr gm ov I s rd t) (k : Nat) (hk : k < 32) (h0 : k ≠ 0) (v : Int) (hv : Wd v) : IsR A (W.setCell ⟨gr, k, none⟩ (.int .i64 v)) b gr gm ov I { s with regs := s.regs.set k v } rd t ∧ Kept (MutR A.heap.size) W (W.setCell ⟨gr, k, none⟩ (.int .i64 v)) := by
  obtain ⟨n1, n2, n3⟩ := h.bne
  refine ⟨⟨(heap_set_other n1.symm).trans h.box, ?_, (heap_set_other h.ne.symm).trans h.rm, h.low, h.lowr, h.lowm, h.ne, row_own h.out h.apr k _, h.apr, h.apm, h.bel.setCell h.lowr _, ok_set0 h.ok k v h0 hv, h.lenm, h.leno, h.inp⟩, Kept.setCell _ _ ⟨gr, k, none⟩ _ (mutR_row h.rr h.lowr)⟩
  rw [heap_set_same h.rr]
  simp [List.map_set]
theorem IsR.setMem {A W : World} {b gr gm : Nat} {ov : Value} {I : List Int} {s : St} {rd : Nat} {t : Int} (h : IsR A W b gr gm ov I s rd t) (k : Nat) (v : Int) (hv : Wd v) : IsR A (W.setCell ⟨gm, k, none⟩ (.int .i64 v)) b gr gm ov I { s with mem := s.mem.set k v } rd t ∧ Kept (MutR A.heap.size) W (W.setCell ⟨gm, k, none⟩ (.int .i64 v)) := by
  obtain ⟨n1, n2, n3⟩ := h.bne
  refine ⟨⟨?_, (heap_set_other h.ne).trans h.rr, ?_, h.low, h.lowr, h.lowm, h.ne, row_own h.out h.apm k _, h.apr, h.apm, h.bel.setCell h.lowm _, ⟨h.ok.len, h.ok.words, mem_set h.ok.cells hv, h.ok.zero⟩, by simpa using h.lenm, h.leno, h.inp⟩, Kept.setCell _ _ ⟨gm, k, none⟩ _ (mutR_row h.rm h.lowm)⟩
  · rw [heap_set_other n2.symm, h.box, List.length_set]
  · rw [heap_set_same h.rm]
    simp [List.map_set]
theorem IsR.regAt {A W : World} {b gr gm : Nat} {ov : Value} {I : List Int} {s : St} {rd : Nat} {t : Int} (h : IsR A W b gr gm ov I s rd t) (k : Nat) (hk : k < 32) : W.cell? ⟨gr, k, none⟩ = some (.int .i64 (s.regs[k]?.getD 0)) := by
  rw [cell_of h.rr]
  have := h.ok.len
  simp [show k < s.regs.length by omega]
theorem IsR.memAt {A W : World} {b gr gm : Nat} {ov : Value} {I : List Int} {s : St} {rd : Nat} {t : Int} (h : IsR A W b gr gm ov I s rd t) (k : Nat) (hk : k < s.mem.length) : W.cell? ⟨gm, k, none⟩ = some (.int .i64 (s.mem[k]?.getD 0)) := by
  rw [cell_of h.rm]
  simp [hk]
end Go.Proofs.Ytmgpfhmodjmcdaa
