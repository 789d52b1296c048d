/-
  The machine of five stages as it lies in the heap; what its small calls do.
-/
import Derived.Test.YthkhlkcdhalkfaaPq
import Derived.Test.YthkhlkcdhalkfaaEff8
import Derived.Test.YthkhlkcdhalkfaaMc4
import Derived.Deep.Fields
import Derived.Deep.MidRow
namespace Go.Proofs.Ythkhlkcdhalkfaa
set_option maxRecDepth 20000
set_option linter.unusedVariables false
open Go.ChangeShapes Go.WideShapes Go.ChangeAt Go.RowKit

/-- The cells behind the registers. -/
def tailP (p : Pt) (i o : Value) : List Value := [.int .i64 p.lr, .int .i64 p.lv, .int .i64 p.st.place, .int .i64 p.next, i, o]
/-- A machine's cells. -/
def boxP (c m : Value) (p : Pt) (i o : Value) : List Value := c :: m :: (p.st.regs.map (Value.int .i64) ++ tailP p i o)
theorem boxP_reg {c m i o : Value} {p : Pt} (hR : p.st.regs.length = 32) (k : Nat) (hk : k < 32) : (boxP c m p i o).toArray[2 + k]? = some (.int .i64 (p.st.regs[k]?.getD 0)) := by
  have e : 2 + k = k + 1 + 1 := by omega
  rw [List.getElem?_toArray, e]
  simp only [boxP, List.getElem?_cons_succ]
  rw [List.getElem?_append_left (by simp; omega), List.getElem?_map, List.getElem?_eq_getElem (by omega)]
  rfl
theorem boxP_at {c m i o : Value} {p : Pt} (hR : p.st.regs.length = 32) (j : Nat) : (boxP c m p i o).toArray[34 + j]? = (tailP p i o)[j]? := by
  rw [List.getElem?_toArray, show 34 + j = 32 + j + 1 + 1 by omega]
  simp only [boxP, List.getElem?_cons_succ]
  rw [List.getElem?_append_right (by simp; omega)]
  simp [hR]
theorem boxP_setR {c m i o : Value} {p : Pt} (hR : p.st.regs.length = 32) (k : Nat) (hk : k < 32) (v : Int) : (boxP c m p i o).toArray.setIfInBounds (2 + k) (.int .i64 v) = (boxP c m { p with st := { p.st with regs := p.st.regs.set k v } } i o).toArray := by
  rw [List.setIfInBounds_toArray, show 2 + k = k + 1 + 1 by omega]
  simp only [boxP, List.set_cons_succ]
  rw [List.set_append_left _ _ (by simp; omega), List.map_set]
  rfl
theorem boxP_set {c m : Value} {R : List Int} (T : List Value) (hR : R.length = 32) (j : Nat) (v : Value) : (c :: m :: (R.map (Value.int .i64) ++ T)).toArray.setIfInBounds (34 + j) v = (c :: m :: (R.map (Value.int .i64) ++ T.set j v)).toArray := by
  rw [List.setIfInBounds_toArray, show 34 + j = 32 + j + 1 + 1 by omega]
  simp only [List.set_cons_succ]
  rw [List.set_append_right _ _ (by simp; omega)]
  simp [hR]
/-- What the machine's calls may turn. -/
def MutP (n₀ : Nat) (k : Nat) (o : Obj) : Prop := n₀ ≤ k ∧ (tag o = some 47 ∨ tag o = some 3)
structure IsP (A : World) (W : World) (b bm g : Nat) (cv iv ov : Value) (X : List Ins) (p : Pt) : Prop where
  box : W.heap[b]? = some (.cells (boxP cv (.pointer (some ⟨bm, 0, none⟩)) p iv ov).toArray 47 (0, 0))
  low : A.heap.size ≤ b
  mem : IsM A.heap.size W bm g p.st.mem
  code : Code A cv X
  inp : IntsC A iv p.st.inp
  out : W.ownsRow A.heap.size 3 1 ov p.st.out.length (p.st.out.map (Value.int .i64))
  apart : ov.ownBlock ≠ some g
  bel : Bel A W
  ok : OkP p
  lenm : p.st.mem.length ≤ 32000
  leno : p.st.out.length ≤ 10000
theorem IsP.stay {A W W' : World} {b bm g : Nat} {cv iv ov : Value} {X : List Ins} {p : Pt} (h : IsP A W b bm g cv iv ov X p) (hb : Bel W W') : IsP A W' b bm g cv iv ov X p :=
  ⟨(hb.out.block b (lt_of_heap h.box)).trans h.box, h.low, h.mem.bel hb, h.code, h.inp, row_bel h.out hb, h.apart, btrans h.bel hb, h.ok, h.lenm, h.leno⟩
theorem mutP_row {n₀ : Nat} {W : World} {k : Nat} {c : Array Value} {f : Nat × Nat} (h : W.heap[k]? = some (.cells c 3 f)) (hk : n₀ ≤ k) : ∀ o, W.heap[k]? = some o → MutP n₀ k o := by
  intro o ho
  rw [h] at ho
  injection ho with ho
  subst ho
  exact ⟨hk, .inr rfl⟩
theorem keptP_bel {A W W' : World} (h : Bel A W) (hk : Kept (MutP A.heap.size) W W') : Bel A W' :=
  h.out.trans (hk.below h.size (fun k o _ e => e.1))
/-- A box of a type that no call of the machine turns. -/
theorem keptP_box {n₀ : Nat} {W W' : World} {k : Nat} {c : Array Value} {t : TypeId} {f : Nat × Nat} (hk : Kept (MutP n₀) W W') (h : W.heap[k]? = some (.cells c t f)) (h1 : t ≠ 47) (h2 : t ≠ 3) : W'.heap[k]? = some (.cells c t f) :=
  hk.block k _ h (fun e => by rcases e.2 with e | e <;> (injection e with e; first | exact h1 e | exact h2 e))
theorem insP_kept {n₀ : Nat} {W W' : World} {k : Nat} {o a b c i : Int} (hk : Kept (MutP n₀) W W') (h : W.heap[k]? = some (insB o a b c i)) : W'.heap[k]? = some (insB o a b c i) := keptP_box hk h (by decide) (by decide)
theorem IsP.bne {A W : World} {b bm g : Nat} {cv iv ov : Value} {X : List Ins} {p : Pt} (h : IsP A W b bm g cv iv ov X p) : bm ≠ b ∧ g ≠ b := by
  constructor
  · intro e
    have h1 := h.box
    have h2 := h.mem.box
    subst e
    rw [h1] at h2
    injection h2 with h2
    injection h2 with _ h2 _
    exact absurd h2 (by decide)
  · intro e
    have h1 := h.box
    have h2 := h.mem.row
    subst e
    rw [h1] at h2
    injection h2 with h2
    injection h2 with _ h2 _
    exact absurd h2 (by decide)
/-- The machine's own box is another one. -/
theorem IsP.put {A W W' : World} {b bm g : Nat} {cv iv ov iv' : Value} {X : List Ins} {p p' : Pt} (h : IsP A W b bm g cv iv ov X p)
    (hbox : W'.heap[b]? = some (.cells (boxP cv (.pointer (some ⟨bm, 0, none⟩)) p' iv' ov).toArray 47 (0, 0))) (hk : Kept (fun k _ => k = b) W W')
    (hm : p'.st.mem = p.st.mem) (ho : p'.st.out = p.st.out) (hi : IntsC A iv' p'.st.inp) (hok : OkP p') : IsP A W' b bm g cv iv' ov X p' ∧ Kept (MutP A.heap.size) W W' := by
  obtain ⟨n1, n2⟩ := h.bne
  have hk2 : Kept (MutP A.heap.size) W W' := hk.mono (fun k o ho e => by
    subst e
    rw [h.box] at ho
    injection ho with ho
    subst ho
    exact ⟨h.low, .inl rfl⟩)
  refine ⟨⟨hbox, h.low, ?_, h.code, hi, ?_, h.apart, keptP_bel h.bel hk2, hok, by rw [hm]; exact h.lenm, by rw [ho]; exact h.leno⟩, hk2⟩
  · rw [hm]
    exact ⟨hk.block bm _ h.mem.box n1, hk.block g _ h.mem.row n2, h.mem.low, h.mem.lowg⟩
  · rw [ho]
    refine row_kept h.out hk ?_
    rintro k c f hk rfl
    rcases h.out.2 with ⟨rfl, e⟩ | ⟨g, cap, cur, rfl, _, hg, _⟩
    · cases hk
    · injection hk with hk
      subst hk
      rw [h.box] at hg
      injection hg with hg
      injection hg with _ hg _
      exact absurd hg (by decide)
theorem kept_one (W : World) (b j : Nat) (u : Value) : Kept (fun k _ => k = b) W (W.setCell ⟨b, j, none⟩ u) := Kept.setCell _ _ ⟨b, j, none⟩ _ (fun o ho => rfl)
def IsQ (iv : Value) (A : World) (W : World) (b bm g : Nat) (cv : Value) (X : List Ins) (p : Pt) : Prop := ∃ ov, IsP A W b bm g cv iv ov X p
section
variable {A W W' : World} {b bm g : Nat} {cv iv : Value} {X : List Ins} {p : Pt}
theorem IsQ.stay (h : IsQ iv A W b bm g cv X p) (hb : Bel W W') : IsQ iv A W' b bm g cv X p := by
  obtain ⟨ov, h⟩ := h
  exact ⟨ov, h.stay hb⟩
theorem IsQ.ok (h : IsQ iv A W b bm g cv X p) : OkP p := by
  obtain ⟨ov, h⟩ := h
  exact h.ok
theorem IsQ.bel (h : IsQ iv A W b bm g cv X p) : Bel A W := by
  obtain ⟨ov, h⟩ := h
  exact h.bel
theorem IsQ.lt (h : IsQ iv A W b bm g cv X p) : b < W.heap.size := by
  obtain ⟨ov, h⟩ := h
  exact lt_of_heap h.box
theorem IsQ.isM (h : IsQ iv A W b bm g cv X p) : IsM A.heap.size W bm g p.st.mem := by
  obtain ⟨ov, h⟩ := h
  exact h.mem
theorem IsQ.regAt (h : IsQ iv A W b bm g cv X p) (k : Nat) (hk : k < 32) : W.cell? ⟨b, 2 + k, none⟩ = some (.int .i64 (p.st.regs[k]?.getD 0)) := by
  obtain ⟨ov, h⟩ := h
  rw [cell_of h.box]; exact boxP_reg h.ok.ok.len k hk
theorem IsQ.tailAt (h : IsQ iv A W b bm g cv X p) : W.cell? ⟨b, 34, none⟩ = some (.int .i64 p.lr) ∧ W.cell? ⟨b, 35, none⟩ = some (.int .i64 p.lv) ∧ W.cell? ⟨b, 36, none⟩ = some (.int .i64 p.st.place) ∧ W.cell? ⟨b, 37, none⟩ = some (.int .i64 p.next) := by
  obtain ⟨ov, h⟩ := h
  rw [cell_of h.box, cell_of h.box, cell_of h.box, cell_of h.box]
  exact ⟨boxP_at h.ok.ok.len 0, boxP_at h.ok.ok.len 1, boxP_at h.ok.ok.len 2, boxP_at h.ok.ok.len 3⟩
theorem IsQ.codeAt (h : IsQ iv A W b bm g cv X p) : W.cell? ⟨b, 0, none⟩ = some cv ∧ W.cell? ⟨b, 1, none⟩ = some (.pointer (some ⟨bm, 0, none⟩)) := by
  obtain ⟨ov, h⟩ := h
  rw [cell_of h.box, cell_of h.box]; exact ⟨rfl, rfl⟩
theorem IsQ.fz (h : IsQ iv A W b bm g cv X p) (o : Nat) : W.frozen? ⟨b, o, none⟩ = false := by
  obtain ⟨ov, h⟩ := h
  exact frozen_of h.box o
theorem IsQ.setNext (h : IsQ iv A W b bm g cv X p) (n : Int) (hn : Wd n) : IsQ iv A (W.setCell ⟨b, 37, none⟩ (.int .i64 n)) b bm g cv X { p with next := n } ∧ Kept (MutP A.heap.size) W (W.setCell ⟨b, 37, none⟩ (.int .i64 n)) := by
  obtain ⟨ov, h⟩ := h
  obtain ⟨r1, r2⟩ := h.put (p' := { p with next := n }) ((heap_set_same h.box).trans (by rw [boxP, boxP_set _ h.ok.ok.len 3]; rfl)) (kept_one _ _ _ _) rfl rfl h.inp (ok_nextP h.ok n hn)
  exact ⟨⟨ov, r1⟩, r2⟩
theorem IsQ.setLate (h : IsQ iv A W b bm g cv X p) (r v : Int) (hr : 0 ≤ r ∧ r ≤ 31) (hv : Wd v) : IsQ iv A ((W.setCell ⟨b, 34, none⟩ (.int .i64 r)).setCell ⟨b, 35, none⟩ (.int .i64 v)) b bm g cv X { p with lr := r, lv := v } ∧ Kept (MutP A.heap.size) W ((W.setCell ⟨b, 34, none⟩ (.int .i64 r)).setCell ⟨b, 35, none⟩ (.int .i64 v)) := by
  obtain ⟨ov, h⟩ := h
  obtain ⟨r1, r2⟩ := h.put (p' := { p with lr := r, lv := v }) ((heap_set_same (heap_set_same h.box)).trans (by rw [boxP, boxP_set _ h.ok.ok.len 0, boxP_set _ h.ok.ok.len 1]; rfl)) ((kept_one _ _ _ _).trans (kept_one _ _ _ _)) rfl rfl h.inp (ok_lateP h.ok r v hr hv)
  exact ⟨⟨ov, r1⟩, r2⟩
theorem IsQ.setAhead (h : IsQ iv A W b bm g cv X p) (hn : Wd p.next) :
    (IsQ iv A ((W.setCell ⟨b, 36, none⟩ (.int .i64 p.next)).setCell ⟨b, 37, none⟩ (.int .i64 (p.next + 1))) b bm g cv X (aheadP p) ∧ Kept (MutP A.heap.size) W ((W.setCell ⟨b, 36, none⟩ (.int .i64 p.next)).setCell ⟨b, 37, none⟩ (.int .i64 (p.next + 1)))) ∧
    (IsQ iv A ((W.setCell ⟨b, 37, none⟩ (.int .i64 (p.next + 1))).setCell ⟨b, 36, none⟩ (.int .i64 p.next)) b bm g cv X (aheadP p) ∧ Kept (MutP A.heap.size) W ((W.setCell ⟨b, 37, none⟩ (.int .i64 (p.next + 1))).setCell ⟨b, 36, none⟩ (.int .i64 p.next))) := by
  obtain ⟨ov, h⟩ := h
  obtain ⟨r1, r2⟩ := h.put (p' := aheadP p) ((heap_set_same (heap_set_same (o := 36) (u := .int .i64 p.next) h.box)).trans (by rw [boxP, boxP_set _ h.ok.ok.len 2, boxP_set _ h.ok.ok.len 3]; rfl)) ((kept_one _ _ _ _).trans (kept_one _ _ _ _)) rfl rfl h.inp (ok_aheadP h.ok hn)
  obtain ⟨r3, r4⟩ := h.put (p' := aheadP p) ((heap_set_same (heap_set_same (o := 37) (u := .int .i64 (p.next + 1)) h.box)).trans (by rw [boxP, boxP_set _ h.ok.ok.len 3, boxP_set _ h.ok.ok.len 2]; rfl)) ((kept_one _ _ _ _).trans (kept_one _ _ _ _)) rfl rfl h.inp (ok_aheadP h.ok hn)
  exact ⟨⟨⟨ov, r1⟩, r2⟩, ⟨ov, r3⟩, r4⟩
theorem IsQ.setReg (h : IsQ iv A W b bm g cv X p) (k : Nat) (hk : k < 32) (h0 : k ≠ 0) (v : Int) (hv : Wd v) : IsQ iv A (W.setCell ⟨b, 2 + k, none⟩ (.int .i64 v)) b bm g cv X (setP k v p) ∧ Kept (MutP A.heap.size) W (W.setCell ⟨b, 2 + k, none⟩ (.int .i64 v)) := by
  obtain ⟨ov, h⟩ := h
  have e : setP k v p = { p with st := { p.st with regs := p.st.regs.set k v } } := by unfold setP setR; rw [if_neg (by omega), Int.toNat_natCast]
  obtain ⟨r1, r2⟩ := h.put (p' := setP k v p) (W' := W.setCell ⟨b, 2 + k, none⟩ (.int .i64 v)) ((heap_set_same h.box).trans (by rw [boxP_setR h.ok.ok.len k hk, e])) (kept_one _ _ _ _) rfl rfl h.inp (ok_setP h.ok _ _ (by omega) hv)
  exact ⟨⟨ov, r1⟩, r2⟩
end
end Go.Proofs.Ythkhlkcdhalkfaa
