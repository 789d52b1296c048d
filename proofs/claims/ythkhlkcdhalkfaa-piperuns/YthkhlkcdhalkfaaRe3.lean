/-
  The reference's machine as it lies in the heap; its set.
  What the reference's instructions that act do: its Effect.
  What the reference's Check and Sys do: its Effect.
  What the reference's Sys 2 does: its Effect.
-/
import Derived.Test.YthkhlkcdhalkfaaRv2
import Derived.Test.YthkhlkcdhalkfaaRr2R
import Derived.Test.YthkhlkcdhalkfaaRn
namespace Go.Proofs.Ythkhlkcdhalkfaa
set_option maxRecDepth 20000
section
set_option linter.unusedVariables false
open Go.ChangeShapes Go.WideShapes Go.ChangeAt Go.RowKit

/-- What the reference's calls may turn. -/
def MutR (n₀ : Nat) (k : Nat) (o : Obj) : Prop := n₀ ≤ k ∧ (tag o = some 55 ∨ tag o = some 3)
def refB (gr gm n : Nat) (p rd : Int) (ov : Value) (t : Int) : Array Value := #[.slice (some ⟨gr, 0, none⟩) 32 32, .slice (some ⟨gm, 0, none⟩) n n, .int .i64 p, .int .i64 rd, ov, .int .i64 t]
structure IsR (A : World) (W : World) (b gr gm : Nat) (ov : Value) (I : List Int) (s : St) (rd : Nat) (t : Int) : Prop where
  box : W.heap[b]? = some (.cells (refB gr gm s.mem.length s.place rd ov t) 55 (0, 0))
  rr : W.heap[gr]? = some (.cells (s.regs.map (Value.int .i64)).toArray 3 (0, 0))
  rm : W.heap[gm]? = some (.cells (s.mem.map (Value.int .i64)).toArray 3 (0, 0))
  low : A.heap.size ≤ b
  lowr : A.heap.size ≤ gr
  lowm : A.heap.size ≤ gm
  ne : gr ≠ gm
  out : W.ownsRow A.heap.size 3 1 ov s.out.length (s.out.map (Value.int .i64))
  apr : ov.ownBlock ≠ some gr
  apm : ov.ownBlock ≠ some gm
  bel : Bel A W
  ok : Ok s
  lenm : s.mem.length ≤ 32000
  leno : s.out.length ≤ 10000
  inp : s.inp = I.drop rd
theorem IsR.stay {A W W' : World} {b gr gm : Nat} {ov : Value} {I : List Int} {s : St} {rd : Nat} {t : Int} (h : IsR A W b gr gm ov I s rd t) (hb : Bel W W') : IsR A W' b gr gm ov I s rd t :=
  ⟨(hb.out.block b (lt_of_heap h.box)).trans h.box, (hb.out.block gr (lt_of_heap h.rr)).trans h.rr, (hb.out.block gm (lt_of_heap h.rm)).trans h.rm, h.low, h.lowr, h.lowm, h.ne, row_bel h.out hb, h.apr, h.apm, btrans h.bel hb, h.ok, h.lenm, h.leno, h.inp⟩
theorem IsR.bne {A W : World} {b gr gm : Nat} {ov : Value} {I : List Int} {s : St} {rd : Nat} {t : Int} (h : IsR A W b gr gm ov I s rd t) : gr ≠ b ∧ gm ≠ b ∧ ov.ownBlock ≠ some b := by
  refine ⟨fun e => ?_, fun e => ?_, fun e => ?_⟩
  · have h1 := h.box
    have h2 := h.rr
    subst e
    rw [h1] at h2
    injection h2 with h2
    injection h2 with _ h2 _
    exact absurd h2 (by decide)
  · have h1 := h.box
    have h2 := h.rm
    subst e
    rw [h1] at h2
    injection h2 with h2
    injection h2 with _ h2 _
    exact absurd h2 (by decide)
  · rcases h.out.2 with ⟨e1, _⟩ | ⟨g, cap, cur, e1, _, hg, _⟩
    · rw [e1] at e; cases e
    · rw [e1] at e
      injection e with e
      subst e
      rw [h.box] at hg
      injection hg with hg
      injection hg with _ hg _
      exact absurd hg (by decide)
theorem refB_cells {W : World} {b gr gm n : Nat} {p rd : Int} {ov : Value} {t : Int} (h : W.heap[b]? = some (.cells (refB gr gm n p rd ov t) 55 (0, 0))) :
    W.cell? ⟨b, 0, none⟩ = some (.slice (some ⟨gr, 0, none⟩) 32 32) ∧ W.cell? ⟨b, 1, none⟩ = some (.slice (some ⟨gm, 0, none⟩) n n) ∧ W.cell? ⟨b, 2, none⟩ = some (.int .i64 p) ∧ W.cell? ⟨b, 3, none⟩ = some (.int .i64 rd) ∧ W.cell? ⟨b, 4, none⟩ = some ov ∧ W.cell? ⟨b, 5, none⟩ = some (.int .i64 t) :=
  ⟨cell_of h 0, cell_of h 1, cell_of h 2, cell_of h 3, cell_of h 4, cell_of h 5⟩
theorem IsR.mut {A W : World} {b gr gm : Nat} {ov : Value} {I : List Int} {s : St} {rd : Nat} {t : Int} (h : IsR A W b gr gm ov I s rd t) : ∀ o, W.heap[b]? = some o → MutR A.heap.size b o := by
  intro o ho
  rw [h.box] at ho
  injection ho with ho
  subst ho
  exact ⟨h.low, .inl rfl⟩
theorem mutR_row {n₀ : Nat} {W : World} {k : Nat} {c : Array Value} {f : Nat × Nat} (h : W.heap[k]? = some (.cells c 3 f)) (hk : n₀ ≤ k) : ∀ o, W.heap[k]? = some o → MutR n₀ k o := by
  intro o ho
  rw [h] at ho
  injection ho with ho
  subst ho
  exact ⟨hk, .inr rfl⟩
theorem keptR_box {n₀ : Nat} {W W' : World} {k : Nat} {c : Array Value} {t : TypeId} {f : Nat × Nat} (hk : Kept (MutR n₀) W W') (h : W.heap[k]? = some (.cells c t f)) (h1 : t ≠ 55) (h2 : t ≠ 3) : W'.heap[k]? = some (.cells c t f) :=
  hk.block k _ h (fun e => by rcases e.2 with e | e <;> (injection e with e; first | exact h1 e | exact h2 e))
theorem keptR_bel {A W W' : World} (h : Bel A W) (hk : Kept (MutR A.heap.size) W W') : Bel A W' := h.out.trans (hk.below h.size (fun k o _ e => e.1))
theorem row_own {W : World} {n₀ n k : Nat} {v : Value} {xs : List Value} (h : W.ownsRow n₀ 3 1 v n xs) (hk : v.ownBlock ≠ some k) (j : Nat) (u : Value) : (W.setCell ⟨k, j, none⟩ u).ownsRow n₀ 3 1 v n xs := by
  refine row_kept h (Kept.setCell (fun k' o => k' = k) W ⟨k, j, none⟩ u (fun _ _ => rfl)) ?_
  rintro k' c f hk' rfl
  exact hk hk'
/-- A store in the machine's own box: the place, how much was read, by what it stopped. -/
theorem IsR.setBox {A W : World} {b gr gm : Nat} {ov : Value} {I : List Int} {s : St} {rd : Nat} {t : Int} (h : IsR A W b gr gm ov I s rd t) (j : Nat) (u : Value) (p' : Int) (rd' : Nat) (t' : Int) (I' : List Int) (hI : I' = I.drop rd')
    (hb : (refB gr gm s.mem.length s.place rd ov t).setIfInBounds j u = refB gr gm s.mem.length p' rd' ov t') : IsR A (W.setCell ⟨b, j, none⟩ u) b gr gm ov I { s with place := p', inp := I' } rd' t' ∧ Kept (MutR A.heap.size) W (W.setCell ⟨b, j, none⟩ u) := by
  obtain ⟨n1, n2, n3⟩ := h.bne
  exact ⟨⟨(heap_set_same h.box).trans (by rw [hb]), (heap_set_other n1).trans h.rr, (heap_set_other n2).trans h.rm, h.low, h.lowr, h.lowm, h.ne, row_own h.out n3 j u, h.apr, h.apm, h.bel.setCell h.low u, ⟨h.ok.len, h.ok.words, h.ok.cells, h.ok.zero⟩, h.lenm, h.leno, hI⟩, Kept.setCell _ _ ⟨b, j, none⟩ _ h.mut⟩
/-- A store in the registers' row. -/
theorem IsR.setReg {A W : World} {b gr gm : Nat} {ov : Value} {I : List Int} {s : St} {rd : Nat} {t : Int} (h : IsR A W b gr gm ov I s rd t) (k : Nat) (hk : k < 32) (h0 : k ≠ 0) (v : Int) (hv : Wd v) : IsR A (W.setCell ⟨gr, k, none⟩ (.int .i64 v)) b gr gm ov I { s with regs := s.regs.set k v } rd t ∧ Kept (MutR A.heap.size) W (W.setCell ⟨gr, k, none⟩ (.int .i64 v)) := by
  obtain ⟨n1, n2, n3⟩ := h.bne
  refine ⟨⟨(heap_set_other n1.symm).trans h.box, ?_, (heap_set_other h.ne.symm).trans h.rm, h.low, h.lowr, h.lowm, h.ne, row_own h.out h.apr k _, h.apr, h.apm, h.bel.setCell h.lowr _, ok_set0 h.ok k v h0 hv, h.lenm, h.leno, h.inp⟩, Kept.setCell _ _ ⟨gr, k, none⟩ _ (mutR_row h.rr h.lowr)⟩
  rw [heap_set_same h.rr]
  simp [List.map_set]
theorem IsR.setMem {A W : World} {b gr gm : Nat} {ov : Value} {I : List Int} {s : St} {rd : Nat} {t : Int} (h : IsR A W b gr gm ov I s rd t) (k : Nat) (v : Int) (hv : Wd v) : IsR A (W.setCell ⟨gm, k, none⟩ (.int .i64 v)) b gr gm ov I { s with mem := s.mem.set k v } rd t ∧ Kept (MutR A.heap.size) W (W.setCell ⟨gm, k, none⟩ (.int .i64 v)) := by
  obtain ⟨n1, n2, n3⟩ := h.bne
  refine ⟨⟨?_, (heap_set_other h.ne).trans h.rr, ?_, h.low, h.lowr, h.lowm, h.ne, row_own h.out h.apm k _, h.apr, h.apm, h.bel.setCell h.lowm _, ⟨h.ok.len, h.ok.words, mem_set h.ok.cells hv, h.ok.zero⟩, by simpa using h.lenm, h.leno, h.inp⟩, Kept.setCell _ _ ⟨gm, k, none⟩ _ (mutR_row h.rm h.lowm)⟩
  · rw [heap_set_other n2.symm, h.box, List.length_set]
  · rw [heap_set_same h.rm]
    simp [List.map_set]
theorem IsR.regAt {A W : World} {b gr gm : Nat} {ov : Value} {I : List Int} {s : St} {rd : Nat} {t : Int} (h : IsR A W b gr gm ov I s rd t) (k : Nat) (hk : k < 32) : W.cell? ⟨gr, k, none⟩ = some (.int .i64 (s.regs[k]?.getD 0)) := by
  rw [cell_of h.rr]
  have := h.ok.len
  simp [show k < s.regs.length by omega]
theorem IsR.memAt {A W : World} {b gr gm : Nat} {ov : Value} {I : List Int} {s : St} {rd : Nat} {t : Int} (h : IsR A W b gr gm ov I s rd t) (k : Nat) (hk : k < s.mem.length) : W.cell? ⟨gm, k, none⟩ = some (.int .i64 (s.mem[k]?.getD 0)) := by
  rw [cell_of h.rm]
  simp [hk]
end
section
set_option linter.unusedVariables false
open Go.ChangeShapes Go.WideShapes Go.ChangeAt Go.RowKit

section
variable {A W : World} {b gr gm : Nat} {ov : Value} {I : List Int} {s : St} {rd : Nat} {t : Int}
theorem eff12 (h : IsR A W b gr gm ov I s rd t) (a xb xc i va vb four : Int) (iv : Value) (hb : Wd vb) (hi : -32768 ≤ i ∧ i ≤ 32767) :
    Calls Try.prog 38 #[.pointer (some ⟨b, 0, none⟩), .agg #[.int .i64 12, .int .i64 a, .int .i64 xb, .int .i64 xc, .int .i64 i], .int .i64 va, .int .i64 vb, .int .i64 four, iv] W fun e W' =>
      e = .returned (.tuple #[.int .i64 (if inM s.mem (wrap32 (vb + i)) = true then 0 else 3), .int .i64 (getM s.mem (wrap32 (vb + i)))]) ∧ Bel W W' := by
  obtain ⟨b1, b2⟩ := hb
  have h1 := h.stay ((Bel.refl W).alloc (insB 12 a xb xc i))
  obtain ⟨c0, c1, c2, c3, c4, c5⟩ := refB_cells h1.box
  unfold insB at c1
  have hB : Bel W (W.alloc (insB 12 a xb xc i)) := (Bel.refl W).alloc _
  generalize hat : wrap32 (vb + i) = z
  by_cases hz : inM s.mem z = true
  · rw [if_pos hz]
    obtain ⟨z0, z1⟩ := inM_iff.1 hz
    obtain ⟨k, rfl⟩ := nat_of z0
    have m1 := h1.memAt k (by omega)
    have hg : getM s.mem (k : Int) = s.mem[k]?.getD 0 := by unfold getM; rw [if_pos hz, Int.toNat_natCast]
    rw [hg]
    unfold insB at m1
    generalize s.mem[k]?.getD 0 = x at m1 ⊢
    have HAT := hidm hat
    have HB := hidm hB
    have hk : k < s.mem.length := by omega
    have hk' : (k : Int) < s.mem.length := by omega
    have hk0 : (0 : Int) ≤ (k : Int) := by omega
    clear hg hz h h1 hat c0 c2 c3 c4 c5 hB
    go_enter Try.func38, Try.ntmps38
    go_wp2_with (go_at_call 58; refine (refWrap_any _ _ (by omega) (by omega)).mono ?_; rintro e w' ⟨rfl, rfl⟩; rw [Hid.out HAT])
    go_region_held3 (fun w' => w'.cell? ⟨b, 1, none⟩ = some (.slice (some ⟨gm, 0, none⟩) s.mem.length s.mem.length) ∧ w'.cell? ⟨gm, k, none⟩ = some (.int .i64 x)) (go_keep) (fail)
    go_wp2
    go_ret2
    exact ⟨rfl, (Hid.out HB).drew⟩
  · rw [if_neg hz]
    have hz' : inM s.mem z = false := by simpa using hz
    have hg := get_no hz'
    rw [hg]
    have hzz := mt inM_iff.2 hz
    have hcase : z < 0 ∨ (0 ≤ z ∧ decide (z < (s.mem.length : Int)) = false) := by
      rcases Int.lt_or_le z 0 with q | q
      · exact .inl q
      · exact .inr ⟨q, by simp; omega⟩
    have HAT := hidm hat
    have HB := hidm hB
    clear hg hz hz' hzz h h1 hat c0 c2 c3 c4 c5 hB
    rcases hcase with q | ⟨q, q2⟩
    all_goals
      go_enter Try.func38, Try.ntmps38
      go_wp2_with (go_at_call 58; refine (refWrap_any _ _ (by omega) (by omega)).mono ?_; rintro e w' ⟨rfl, rfl⟩; rw [Hid.out HAT])
      go_ret2
      exact ⟨rfl, Hid.out HB⟩
theorem eff13 (h : IsR A W b gr gm ov I s rd t) (a xb xc i va vb four : Int) (iv : Value) (ha : Wd va) (hb : Wd vb) (hi : -32768 ≤ i ∧ i ≤ 32767) :
    Calls Try.prog 38 #[.pointer (some ⟨b, 0, none⟩), .agg #[.int .i64 13, .int .i64 a, .int .i64 xb, .int .i64 xc, .int .i64 i], .int .i64 va, .int .i64 vb, .int .i64 four, iv] W fun e W' =>
      e = .returned (.tuple #[.int .i64 (if inM s.mem (wrap32 (vb + i)) = true then 0 else 3), .int .i64 0]) ∧ IsR A W' b gr gm ov I { s with mem := putM s.mem (wrap32 (vb + i)) va } rd t ∧ Kept (MutR A.heap.size) W W' := by
  obtain ⟨b1, b2⟩ := hb
  have h1 := h.stay ((Bel.refl W).alloc (insB 13 a xb xc i))
  obtain ⟨c0, c1, c2, c3, c4, c5⟩ := refB_cells h1.box
  unfold insB at c1
  have hK : Kept (MutR A.heap.size) W (W.alloc (insB 13 a xb xc i)) := Kept.alloc _ _ _
  generalize hat : wrap32 (vb + i) = z
  by_cases hz : inM s.mem z = true
  · rw [if_pos hz]
    obtain ⟨z0, z1⟩ := inM_iff.1 hz
    obtain ⟨k, rfl⟩ := nat_of z0
    have m1 := h1.memAt k (by omega)
    have f1 := frozen_of h1.rm k
    have hg : putM s.mem (k : Int) va = s.mem.set k va := by unfold putM; rw [if_pos hz, Int.toNat_natCast, wd_wrap_id ha]
    rw [hg]
    have HS := hidm (h1.setMem k va ha)
    unfold insB at m1 f1
    have HAT := hidm hat
    have HK := hidm hK
    have hk : k < s.mem.length := by omega
    have hk' : (k : Int) < s.mem.length := by omega
    have hk0 : (0 : Int) ≤ (k : Int) := by omega
    clear hg hz h h1 hat c0 c2 c3 c4 c5 hK
    go_enter Try.func38, Try.ntmps38
    go_wp2_with (go_at_call 58; refine (refWrap_any _ _ (by omega) (by omega)).mono ?_; rintro e w' ⟨rfl, rfl⟩; rw [Hid.out HAT])
    go_ret2
    exact ⟨rfl, (Hid.out HS).1, (Hid.out HK).trans (Hid.out HS).2⟩
  · rw [if_neg hz]
    have hg : putM s.mem z va = s.mem := by unfold putM; rw [if_neg hz]
    rw [hg]
    have hzz := mt inM_iff.2 hz
    have hcase : z < 0 ∨ (0 ≤ z ∧ decide (z < (s.mem.length : Int)) = false) := by
      rcases Int.lt_or_le z 0 with q | q
      · exact .inl q
      · exact .inr ⟨q, by simp; omega⟩
    have HAT := hidm hat
    have HK := hidm hK
    have H1 := hidm h1
    clear hg hz hzz h h1 hat c0 c2 c3 c4 c5 hK
    rcases hcase with q | ⟨q, q2⟩
    all_goals
      go_enter Try.func38, Try.ntmps38
      go_wp2_with (go_at_call 58; refine (refWrap_any _ _ (by omega) (by omega)).mono ?_; rintro e w' ⟨rfl, rfl⟩; rw [Hid.out HAT])
      go_ret2
      exact ⟨rfl, Hid.out H1, Hid.out HK⟩
end
end
section
set_option linter.unusedVariables false
open Go.ChangeShapes Go.WideShapes Go.ChangeAt Go.RowKit

section
variable {A W : World} {b gr gm : Nat} {ov : Value} {I : List Int} {s : St} {rd : Nat} {t : Int}
set_option maxHeartbeats 2000000 in
theorem eff14 (h : IsR A W b gr gm ov I s rd t) (a xb xc i va vb four : Int) (iv : Value) (hb : Wd vb) (hi : -32768 ≤ i ∧ i ≤ 32767) :
    Calls Try.prog 38 #[.pointer (some ⟨b, 0, none⟩), .agg #[.int .i64 14, .int .i64 a, .int .i64 xb, .int .i64 xc, .int .i64 i], .int .i64 va, .int .i64 vb, .int .i64 four, iv] W fun e W' =>
      e = .returned (.tuple #[.int .i64 (chkT va i xb), .int .i64 0]) ∧ Bel W W' := by
  obtain ⟨b1, b2⟩ := hb
  have h1 := h.stay ((Bel.refl W).alloc (insB 14 a xb xc i))
  obtain ⟨c0, c1, c2, c3, c4, c5⟩ := refB_cells h1.box
  unfold insB at c1
  have HB := hidm ((Bel.refl W).alloc (insB 14 a xb xc i))
  clear h h1 c0 c2 c3 c4 c5
  generalize hat : wrap32 (vb + i) = z
  have HAT := hidm hat
  clear hat
  by_cases hv : 0 ≤ va ∧ va < i
  · have e : chkT va i xb = 0 := by unfold chkT; rw [if_pos hv]
    rw [e]
    obtain ⟨v0, v1⟩ := hv
    have v0' : ¬ va < 0 := by omega
    have v1' : ¬ i ≤ va := by omega
    clear e v0
    rcases Int.lt_or_le z 0 with hz | hz
    all_goals
      go_enter Try.func38, Try.ntmps38
      go_wp2_with (go_at_call 58; refine (refWrap_any _ _ (by omega) (by omega)).mono ?_; rintro e w' ⟨rfl, rfl⟩; rw [Hid.out HAT])
      go_ret2
      exact ⟨rfl, Hid.out HB⟩
  · have hcase : va < 0 ∨ (¬ va < 0 ∧ i ≤ va) := by omega
    by_cases hx : xb = 0
    · have e : chkT va i xb = 5 := by unfold chkT; rw [if_neg hv, if_pos hx]
      rw [e]
      have hx' : (xb == 0) = true := by simpa using hx
      clear e hv hx
      rcases Int.lt_or_le z 0 with hz | hz
      all_goals
        rcases hcase with q | ⟨q, q2⟩
        all_goals
          go_enter Try.func38, Try.ntmps38
          go_wp2_with (go_at_call 58; refine (refWrap_any _ _ (by omega) (by omega)).mono ?_; rintro e w' ⟨rfl, rfl⟩; rw [Hid.out HAT])
          go_ret2
          exact ⟨rfl, Hid.out HB⟩
    · have e : chkT va i xb = xb := by unfold chkT; rw [if_neg hv, if_neg hx]
      rw [e]
      have hx' : (xb == 0) = false := by simpa using hx
      clear e hv hx
      rcases Int.lt_or_le z 0 with hz | hz
      all_goals
        rcases hcase with q | ⟨q, q2⟩
        all_goals
          go_enter Try.func38, Try.ntmps38
          go_wp2_with (go_at_call 58; refine (refWrap_any _ _ (by omega) (by omega)).mono ?_; rintro e w' ⟨rfl, rfl⟩; rw [Hid.out HAT])
          go_ret2
          exact ⟨rfl, Hid.out HB⟩
theorem eff200 (h : IsR A W b gr gm ov I s rd t) (a xb xc va vb four : Int) (iv : Value) (hb : Wd vb) :
    Calls Try.prog 38 #[.pointer (some ⟨b, 0, none⟩), .agg #[.int .i64 20, .int .i64 a, .int .i64 xb, .int .i64 xc, .int .i64 0], .int .i64 va, .int .i64 vb, .int .i64 four, iv] W fun e W' =>
      e = .returned (.tuple #[.int .i64 1, .int .i64 0]) ∧ Bel W W' := by
  obtain ⟨b1, b2⟩ := hb
  have h1 := h.stay ((Bel.refl W).alloc (insB 20 a xb xc 0))
  obtain ⟨c0, c1, c2, c3, c4, c5⟩ := refB_cells h1.box
  unfold insB at c1
  have HB := hidm ((Bel.refl W).alloc (insB 20 a xb xc 0))
  clear h h1 c0 c2 c3 c4 c5
  rcases Int.lt_or_le (wrap32 vb) 0 with hz | hz
  all_goals
    go_enter Try.func38, Try.ntmps38
    go_wp2_with (go_at_call 58; refine (refWrap_any _ _ (by omega) (by omega)).mono ?_; rintro e w' ⟨rfl, rfl⟩)
    go_ret2
    exact ⟨rfl, Hid.out HB⟩
theorem eff201n (h : IsR A W b gr gm ov I s rd t) (a xb xc va vb four : Int) (ai : Option Addr) (ci : Nat) (hb : Wd vb) (hr : I.length ≤ rd) :
    Calls Try.prog 38 #[.pointer (some ⟨b, 0, none⟩), .agg #[.int .i64 20, .int .i64 a, .int .i64 xb, .int .i64 xc, .int .i64 1], .int .i64 va, .int .i64 vb, .int .i64 four, .slice ai I.length ci] W fun e W' =>
      e = .returned (.tuple #[.int .i64 6, .int .i64 0]) ∧ Bel W W' := by
  obtain ⟨b1, b2⟩ := hb
  have h1 := h.stay ((Bel.refl W).alloc (insB 20 a xb xc 1))
  obtain ⟨c0, c1, c2, c3, c4, c5⟩ := refB_cells h1.box
  unfold insB at c1 c3
  have HB := hidm ((Bel.refl W).alloc (insB 20 a xb xc 1))
  have hr' : (I.length : Int) ≤ rd := by omega
  clear h h1 c0 c2 c4 c5
  rcases Int.lt_or_le (wrap32 (vb + 1)) 0 with hz | hz
  all_goals
    go_enter Try.func38, Try.ntmps38
    go_wp2_with (go_at_call 58; refine (refWrap_any _ _ (by omega) (by omega)).mono ?_; rintro e w' ⟨rfl, rfl⟩)
    go_ret2
    exact ⟨rfl, Hid.out HB⟩
theorem eff202f (h : IsR A W b gr gm ov I s rd t) (a xb xc va vb four : Int) (iv : Value) (hb : Wd vb) (hf : 10000 ≤ s.out.length) :
    Calls Try.prog 38 #[.pointer (some ⟨b, 0, none⟩), .agg #[.int .i64 20, .int .i64 a, .int .i64 xb, .int .i64 xc, .int .i64 2], .int .i64 va, .int .i64 vb, .int .i64 four, iv] W fun e W' =>
      e = .returned (.tuple #[.int .i64 9, .int .i64 0]) ∧ Bel W W' := by
  obtain ⟨b1, b2⟩ := hb
  have h1 := h.stay ((Bel.refl W).alloc (insB 20 a xb xc 2))
  obtain ⟨c0, c1, c2, c3, c4, c5⟩ := refB_cells h1.box
  obtain ⟨ao, co, rfl⟩ := row_slice h.out
  unfold insB at c1 c4
  have HB := hidm ((Bel.refl W).alloc (insB 20 a xb xc 2))
  have hf' : (9999 : Int) < s.out.length := by omega
  clear h h1 c0 c2 c3 c5
  rcases Int.lt_or_le (wrap32 (vb + 2)) 0 with hz | hz
  all_goals
    go_enter Try.func38, Try.ntmps38
    go_wp2_with (go_at_call 58; refine (refWrap_any _ _ (by omega) (by omega)).mono ?_; rintro e w' ⟨rfl, rfl⟩)
    go_ret2
    exact ⟨rfl, Hid.out HB⟩
set_option maxHeartbeats 1000000 in
theorem eff201c (h : IsR A W b gr gm ov I s rd t) (a xb xc va vb four : Int) (ai : Option Addr) (ci : Nat) (hb : Wd vb) (hr : rd < I.length) (hv : IntsC A (.slice ai I.length ci) I) (hI : ∀ x ∈ I, (Lit.int .i64 x).wf = true) (hrd : rd ≤ 1000000) :
    Calls Try.prog 38 #[.pointer (some ⟨b, 0, none⟩), .agg #[.int .i64 20, .int .i64 a, .int .i64 xb, .int .i64 xc, .int .i64 1], .int .i64 va, .int .i64 vb, .int .i64 four, .slice ai I.length ci] W fun e W' =>
      e = .returned (.tuple #[.int .i64 0, .int .i64 (wrap32 (I[rd]?.getD 0))]) ∧ IsR A W' b gr gm ov I { s with inp := I.drop (rd + 1) } (rd + 1) t ∧ Kept (MutR A.heap.size) W W' := by
  obtain ⟨b1, b2⟩ := hb
  have h1 := h.stay ((Bel.refl W).alloc (insB 20 a xb xc 1))
  obtain ⟨c0, c1, c2, c3, c4, c5⟩ := refB_cells h1.box
  have f3 := frozen_of h1.box 3
  obtain ⟨ai', ci', e, _, hcc⟩ := hv
  injection e with e1 e2 e3
  subst e1
  obtain ⟨b0, o0, rfl, hb0, hcell⟩ := hcc (by omega)
  have d1 := ((bcell h1.bel).1 b0 (o0 + rd) hb0).trans (hcell rd hr)
  have hin : (I[rd]?.getD 0) ∈ I := by simp [hr]
  obtain ⟨i1, i2⟩ := wf_i64 (hI _ hin)
  have HS : Hid (IsR A ((W.alloc (insB 20 a xb xc 1)).setCell ⟨b, 3, none⟩ (.int .i64 ((rd : Int) + 1))) b gr gm ov I { s with inp := I.drop (rd + 1) } (rd + 1) t ∧ Kept (MutR A.heap.size) (W.alloc (insB 20 a xb xc 1)) ((W.alloc (insB 20 a xb xc 1)).setCell ⟨b, 3, none⟩ (.int .i64 ((rd : Int) + 1)))) := hidm (h1.setBox 3 (.int .i64 ((rd : Int) + 1)) s.place (rd + 1) t (I.drop (rd + 1)) rfl (by unfold refB; push_cast; rfl))
  have hbb : b ≠ b0 := by have := h1.low; omega
  have hbb' := hbb.symm
  unfold insB at c1 c3 f3 d1
  have HK := hidm (Kept.alloc (MutR A.heap.size) W (insB 20 a xb xc 1))
  have hr' : ¬ ((I.length : Int) ≤ rd) := by omega
  have hr2 : (rd : Int) < I.length := by omega
  generalize I[rd]?.getD 0 = x at d1 i1 i2 ⊢
  clear h h1 c0 c2 c4 c5 hcell hcc hin
  rcases Int.lt_or_le (wrap32 (vb + 1)) 0 with hz | hz
  all_goals
    go_enter Try.func38, Try.ntmps38
    go_wp2_with (go_at_call 58; refine (refWrap_any _ _ (by omega) (by omega)).mono ?_; rintro e w' ⟨rfl, rfl⟩)
    go_ret2
    exact ⟨rfl, (Hid.out HS).1, (Hid.out HK).trans (Hid.out HS).2⟩
end
end
section
set_option linter.unusedVariables false
open Go.ChangeShapes Go.WideShapes Go.ChangeAt Go.RowKit

section
variable {A W : World} {b gr gm : Nat} {ov : Value} {I : List Int} {s : St} {rd : Nat} {t : Int}
theorem IsR.wrote {W' : World} (h : IsR A W b gr gm ov I s rd t) (x : Int) (u : Obj) (g' cap : Nat)
    (hown : W'.ownsRow A.heap.size 3 1 (.slice (some ⟨g', 0, none⟩) (s.out.length + 1) cap) (s.out.length + 1) (s.out.map (Value.int .i64) ++ [.int .i64 x])) (hg : (W.alloc u).grownBy W' ov.ownBlock) (hat : ov.ownBlock = some g' ∨ g' = W.heap.size + 1) (hl : s.out.length < 10000) :
    IsR A (W'.setCell ⟨b, 4, none⟩ (.slice (some ⟨g', 0, none⟩) (s.out.length + 1) cap)) b gr gm (.slice (some ⟨g', 0, none⟩) (s.out.length + 1) cap) I { s with out := s.out ++ [x] } rd t ∧ Kept (MutR A.heap.size) W (W'.setCell ⟨b, 4, none⟩ (.slice (some ⟨g', 0, none⟩) (s.out.length + 1) cap)) := by
  have hrow : ∀ k, ov.ownBlock = some k → (A.heap.size ≤ k ∧ k < W.heap.size) ∧ ∃ c f, W.heap[k]? = some (.cells c 3 f) := by
    intro k hk
    refine ⟨⟨(h.out.lt k hk).1, (h.out.lt k hk).2⟩, ?_⟩
    rcases h.out.2 with ⟨e1, e⟩ | ⟨g, cap, cur, e1, _, hg, _⟩
    · rw [e1] at hk; cases hk
    · rw [e1] at hk
      injection hk with hk
      subst hk
      exact ⟨_, _, hg⟩
  have hkeep : ∀ k o, W.heap[k]? = some o → ov.ownBlock ≠ some k → W'.heap[k]? = some o := fun k o hk hn =>
    (hg.block k (by have := lt_of_heap hk; simp; omega) (fun e => hn e.symm)).trans (heap_old hk)
  obtain ⟨n1, n2, n3⟩ := h.bne
  have lb := lt_of_heap h.box
  have lr := lt_of_heap h.rr
  have lm := lt_of_heap h.rm
  have hb' := hkeep b _ h.box n3
  have hgb : g' ≠ b := by
    rcases hat with e | e
    · intro e2; rw [e2] at e; exact n3 e
    · omega
  have hgr : g' ≠ gr := by
    rcases hat with e | e
    · intro e2; rw [e2] at e; exact h.apr e
    · omega
  have hgm : g' ≠ gm := by
    rcases hat with e | e
    · intro e2; rw [e2] at e; exact h.apm e
    · omega
  have hK : Kept (MutR A.heap.size) W W' := (Kept.alloc _ _ u).trans (Kept.grown hg (fun k o hk ho => by
    obtain ⟨⟨a1, a2⟩, c, f, e⟩ := hrow k hk
    exact mutR_row (heap_old e) a1 o ho))
  have hK2 : Kept (MutR A.heap.size) W (W'.setCell ⟨b, 4, none⟩ (.slice (some ⟨g', 0, none⟩) (s.out.length + 1) cap)) := hK.trans (Kept.setCell _ _ ⟨b, 4, none⟩ _ (fun o ho => by
    rw [hb'] at ho
    injection ho with ho
    subst ho
    exact ⟨h.low, .inl rfl⟩))
  refine ⟨⟨(heap_set_same hb').trans (by unfold refB; rfl), (heap_set_other n1).trans (hkeep gr _ h.rr h.apr), (heap_set_other n2).trans (hkeep gm _ h.rm h.apm), h.low, h.lowr, h.lowm, h.ne, ?_, ?_, ?_, keptR_bel h.bel hK2, ⟨h.ok.len, h.ok.words, h.ok.cells, h.ok.zero⟩, h.lenm, ?_, h.inp⟩, hK2⟩
  · have e1 : (s.out ++ [x]).length = s.out.length + 1 := by simp
    have e2 : (s.out ++ [x]).map (Value.int .i64) = s.out.map (Value.int .i64) ++ [.int .i64 x] := by simp
    show World.ownsRow _ _ _ _ _ (s.out ++ [x]).length ((s.out ++ [x]).map (Value.int .i64))
    rw [e1, e2]
    refine row_own hown ?_ 4 _
    intro e
    injection e with e
    exact hgb e
  · intro e
    injection e with e
    exact hgr e
  · intro e
    injection e with e
    exact hgm e
  · show (s.out ++ [x]).length ≤ 10000
    simp
    omega
set_option maxHeartbeats 2000000 in
theorem eff202 (h : IsR A W b gr gm ov I s rd t) (a xb xc va vb four : Int) (iv : Value) (hb : Wd vb) (hl : s.out.length < 10000) :
    Calls Try.prog 38 #[.pointer (some ⟨b, 0, none⟩), .agg #[.int .i64 20, .int .i64 a, .int .i64 xb, .int .i64 xc, .int .i64 2], .int .i64 va, .int .i64 vb, .int .i64 four, iv] W fun e W' =>
      e = .returned (.tuple #[.int .i64 0, .int .i64 0]) ∧ (∃ ov', IsR A W' b gr gm ov' I { s with out := s.out ++ [four] } rd t) ∧ Kept (MutR A.heap.size) W W' := by
  obtain ⟨b1, b2⟩ := hb
  have h1 := h.stay ((Bel.refl W).alloc (insB 20 a xb xc 2))
  obtain ⟨i0, hi0, hz0, hz1, hz2⟩ := info_parts intInfo
  obtain ⟨c0, c1, c2, c3, c4, c5⟩ := refB_cells h1.box
  have f4 := frozen_of h1.box 4
  obtain ⟨ao, co, e⟩ := row_slice h.out
  obtain ⟨n1, n2, n3⟩ := h1.bne
  have hown := h1.out
  have hbs := h1.bel.size
  have lb := lt_of_heap h1.box
  have HH := hidm h1
  have HK := hidm (Kept.alloc (MutR A.heap.size) W (insB 20 a xb xc 2))
  subst e
  unfold insB at c1 c4 f4 hown hbs lb
  have hl' : ¬ ((9999 : Int) < s.out.length) := by omega
  clear h h1 c0 c2 c3 c5 n1 n2
  rcases Int.lt_or_le (wrap32 (vb + 2)) 0 with hz | hz
  all_goals
    go_enter Try.func38, Try.ntmps38
    go_wp2_with (first
      | (go_at_call 58; refine (refWrap_any _ _ (by omega) (by omega)).mono ?_; rintro e w' ⟨rfl, rfl⟩)
      | (at_builtin; refine wpList_append_lies _ (by rfl) _ _ _ (by rfl) A.heap.size 3 i0 _ 1 8 Try.underlying23 hi0 hz0 hz1 hz2 rfl (by omega) _ _ _ (by rfl) (hown.alloc _) ⟨W.heap.size + 1, 0, none⟩ 1 1 [.int .i64 four] (by rfl) (by rfl) (World.news_of_block (cs := #[.int .i64 four]) (t := 3) (fr := (0, 0)) (by rw [show W.heap.size + 1 = (W.alloc (insB 20 a xb xc 2)).heap.size by simp]; exact heap_alloc_new _ _)) (by simp [Value.oneCell']) (by omega) (by unfold maxLen; omega) (by omega) (by simp; simp at hbs; omega) (W.heap.size + 1 + 1) (by simp) ?_; intro gg cap1 w1 hown1 hgrow hat hlt; have hb1 := (hgrow.block b (by simp; simp at lb; omega) (Ne.symm n3)).trans (heap_old (Hid.out HH).box); have f5 := frozen_of hb1 4; have c6 := (refB_cells hb1).2.2.2.2.1; clear hb1))
    go_ret2
    obtain ⟨r1, r2⟩ := (Hid.out HH).wrote four _ gg cap1 hown1 hgrow (by simpa using hat) hl
    exact ⟨rfl, ⟨_, r1⟩, (Hid.out HK).trans r2⟩
end
end
end Go.Proofs.Ythkhlkcdhalkfaa
