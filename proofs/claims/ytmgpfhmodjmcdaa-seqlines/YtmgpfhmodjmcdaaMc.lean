/-
  The machine as it lies in the heap; what its small calls do.
-/
import Derived.Test.YtmgpfhmodjmcdaaSq
import Derived.Test.YtmgpfhmodjmcdaaDv
namespace Go.Proofs.Ytmgpfhmodjmcdaa
set_option maxRecDepth 20000
set_option linter.unusedVariables false
open Go.ChangeShapes Go.WideShapes Go.ChangeAt Go.RowKit

theorem Bel.drewN (w : World) (n : Nat) : Bel w (w.drewN n) := by
  induction n with
  | zero => exact Bel.refl w
  | succ n ih => exact ih.drew
theorem hidm {p : Prop} (h : p) : Hid p := h
/-- The slice v, of room enough, holds the numbers X. -/
def IntsC (W : World) (v : Value) (X : List Int) : Prop :=
  ∃ ao cap, v = .slice ao X.length cap ∧ X.length ≤ cap ∧ (0 < X.length → ∃ b o, ao = some ⟨b, o, none⟩ ∧ b < W.heap.size ∧ ∀ j, j < X.length → W.cell? ⟨b, o + j, none⟩ = some (.int .i64 (X[j]?.getD 0)))
theorem IntsC.ints {W : World} {v : Value} {X : List Int} (h : IntsC W v X) : Ints .i64 W v X := by
  obtain ⟨ao, cap, e, _, r⟩ := h
  exact ⟨ao, cap, e, r⟩
theorem IntsC.bel {W W' : World} {v : Value} {X : List Int} (h : IntsC W v X) (hb : Bel W W') : IntsC W' v X := by
  obtain ⟨ao, cap, rfl, hc, r⟩ := h
  refine ⟨ao, cap, rfl, hc, fun hn => ?_⟩
  obtain ⟨b, o, rfl, hlt, hc⟩ := r hn
  exact ⟨b, o, rfl, Nat.lt_of_lt_of_le hlt hb.size, fun j hj => ((bcell hb).1 b (o + j) hlt).trans (hc j hj)⟩
theorem intsC_nil (W : World) : IntsC W (.slice none 0 0) [] := ⟨none, 0, rfl, Nat.le_refl _, fun h => absurd h (by simp)⟩
/-- A machine's cells. -/
def boxL (c m : Value) (R : List Int) (p : Int) (i o : Value) : List Value := c :: m :: (R.map (Value.int .i64) ++ [.int .i64 p, i, o])
theorem box_reg {c m i o : Value} {R : List Int} {p : Int} (hR : R.length = 32) (k : Nat) (hk : k < 32) : (boxL c m R p i o).toArray[2 + k]? = some (.int .i64 (R[k]?.getD 0)) := by
  have e : 2 + k = k + 1 + 1 := by omega
  rw [List.getElem?_toArray, e]
  simp only [boxL, List.getElem?_cons_succ]
  rw [List.getElem?_append_left (by simp; omega), List.getElem?_map, List.getElem?_eq_getElem (by omega)]
  rfl
theorem box_at {c m i o : Value} {R : List Int} {p : Int} (hR : R.length = 32) : (boxL c m R p i o).toArray[34]? = some (.int .i64 p) ∧ (boxL c m R p i o).toArray[35]? = some i ∧ (boxL c m R p i o).toArray[36]? = some o := by
  have h : ∀ j, (boxL c m R p i o).toArray[34 + j]? = [Value.int .i64 p, i, o][j]? := by
    intro j
    rw [List.getElem?_toArray, show 34 + j = 32 + j + 1 + 1 by omega]
    simp only [boxL, List.getElem?_cons_succ]
    rw [List.getElem?_append_right (by simp; omega)]
    simp [hR]
  exact ⟨h 0, h 1, h 2⟩
theorem box_setR {c m i o : Value} {R : List Int} {p : Int} (hR : R.length = 32) (k : Nat) (hk : k < 32) (v : Int) : (boxL c m R p i o).toArray.setIfInBounds (2 + k) (.int .i64 v) = (boxL c m (R.set k v) p i o).toArray := by
  rw [List.setIfInBounds_toArray, show 2 + k = k + 1 + 1 by omega]
  simp only [boxL, List.set_cons_succ]
  rw [List.set_append_left _ _ (by simp; omega), List.map_set]
theorem box_set {c m i o : Value} {R : List Int} {p : Int} (hR : R.length = 32) (j : Nat) (v : Value) : (boxL c m R p i o).toArray.setIfInBounds (34 + j) v = (c :: m :: (R.map (Value.int .i64) ++ [Value.int .i64 p, i, o].set j v)).toArray := by
  rw [List.setIfInBounds_toArray, show 34 + j = 32 + j + 1 + 1 by omega]
  simp only [boxL, List.set_cons_succ]
  rw [List.set_append_right _ _ (by simp; omega)]
  simp [hR]
/-- What the machine's calls may turn. -/
def Mut (n₀ : Nat) (k : Nat) (o : Obj) : Prop := n₀ ≤ k ∧ (tag o = some 55 ∨ tag o = some 3)
structure IsC (A : World) (W : World) (b bm g : Nat) (cv iv ov : Value) (X : List Ins) (s : St) : Prop where
  box : W.heap[b]? = some (.cells (boxL cv (.pointer (some ⟨bm, 0, none⟩)) s.regs s.place iv ov).toArray 55 (0, 0))
  low : A.heap.size ≤ b
  mem : IsM A.heap.size W bm g s.mem
  code : Code A cv X
  inp : IntsC A iv s.inp
  out : W.ownsRow A.heap.size 3 1 ov s.out.length (s.out.map (Value.int .i64))
  apart : ov.ownBlock ≠ some g
  bel : Bel A W
  ok : Ok s
  lenm : s.mem.length ≤ 32000
  leno : s.out.length ≤ 10000
theorem IsC.stay {A W W' : World} {b bm g : Nat} {cv iv ov : Value} {X : List Ins} {s : St} (h : IsC A W b bm g cv iv ov X s) (hb : Bel W W') : IsC A W' b bm g cv iv ov X s :=
  ⟨(hb.out.block b (lt_of_heap h.box)).trans h.box, h.low, h.mem.bel hb, h.code, h.inp, row_bel h.out hb, h.apart, btrans h.bel hb, h.ok, h.lenm, h.leno⟩
theorem IsC.mut {A W : World} {b bm g : Nat} {cv iv ov : Value} {X : List Ins} {s : St} (h : IsC A W b bm g cv iv ov X s) : ∀ o, W.heap[b]? = some o → Mut A.heap.size b o := by
  intro o ho
  rw [h.box] at ho
  injection ho with ho
  subst ho
  exact ⟨h.low, .inl rfl⟩
theorem mut_row {n₀ : Nat} {W : World} {k : Nat} {c : Array Value} {f : Nat × Nat} (h : W.heap[k]? = some (.cells c 3 f)) (hk : n₀ ≤ k) : ∀ o, W.heap[k]? = some o → Mut n₀ k o := by
  intro o ho
  rw [h] at ho
  injection ho with ho
  subst ho
  exact ⟨hk, .inr rfl⟩
theorem kept_bel {A W W' : World} (h : Bel A W) (hk : Kept (Mut A.heap.size) W W') : Bel A W' :=
  h.out.trans (hk.below h.size (fun k o _ e => e.1))
/-- A box of a type that no call of the machine turns. -/
theorem kept_box {n₀ : Nat} {W W' : World} {k : Nat} {c : Array Value} {t : TypeId} {f : Nat × Nat} (hk : Kept (Mut n₀) W W') (h : W.heap[k]? = some (.cells c t f)) (h1 : t ≠ 55) (h2 : t ≠ 3) : W'.heap[k]? = some (.cells c t f) :=
  hk.block k _ h (fun e => by rcases e.2 with e | e <;> (injection e with e; first | exact h1 e | exact h2 e))
theorem IsC.bne {A W : World} {b bm g : Nat} {cv iv ov : Value} {X : List Ins} {s : St} (h : IsC A W b bm g cv iv ov X s) : bm ≠ b ∧ g ≠ b := by
  constructor
  · intro e
    have h1 := h.box
    have h2 := h.mem.box
    subst e
    rw [h1] at h2
    injection h2 with h2
    injection h2 with _ h2 _
    exact absurd h2 (by decide)
  · intro e
    have h1 := h.box
    have h2 := h.mem.row
    subst e
    rw [h1] at h2
    injection h2 with h2
    injection h2 with _ h2 _
    exact absurd h2 (by decide)
/-- A store in the machine's own box. -/
theorem IsC.store {A W : World} {b bm g : Nat} {cv iv ov iv' : Value} {X : List Ins} {s s' : St} (h : IsC A W b bm g cv iv ov X s) (j : Nat) (u : Value)
    (hbox : (boxL cv (.pointer (some ⟨bm, 0, none⟩)) s.regs s.place iv ov).toArray.setIfInBounds j u = (boxL cv (.pointer (some ⟨bm, 0, none⟩)) s'.regs s'.place iv' ov).toArray)
    (hm : s'.mem = s.mem) (ho : s'.out = s.out) (hi : IntsC A iv' s'.inp) (hok : Ok s') : IsC A (W.setCell ⟨b, j, none⟩ u) b bm g cv iv' ov X s' := by
  obtain ⟨n1, n2⟩ := h.bne
  refine ⟨(heap_set_same h.box).trans (by rw [hbox]), h.low, ?_, h.code, hi, ?_, h.apart, ?_, hok, by rw [hm]; exact h.lenm, by rw [ho]; exact h.leno⟩
  · rw [hm]
    exact ⟨(heap_set_other n1).trans h.mem.box, (heap_set_other n2).trans h.mem.row, h.mem.low, h.mem.lowg⟩
  · rw [ho]
    refine row_kept h.out (Kept.setCell (fun k o => k = b ∧ W.heap[b]? = some o) W ⟨b, j, none⟩ u (fun o ho => ⟨rfl, ho⟩)) ?_
    rintro k c f hk ⟨rfl, e⟩
    rw [h.box] at e
    injection e with e
    injection e with _ e _
    exact absurd e (by decide)
  · exact h.bel.setCell h.low u
theorem IsC.keptStore {A W : World} {b bm g : Nat} {cv iv ov : Value} {X : List Ins} {s : St} (h : IsC A W b bm g cv iv ov X s) (j : Nat) (u : Value) : Kept (Mut A.heap.size) W (W.setCell ⟨b, j, none⟩ u) :=
  Kept.setCell _ _ ⟨b, j, none⟩ _ h.mut
theorem ok_set0 {s : St} (h : Ok s) (k : Nat) (v : Int) (hk : k ≠ 0) (hv : Wd v) : Ok { s with regs := s.regs.set k v } := by
  have := ok_set h k v (by omega) hv
  unfold setR at this
  rw [if_neg (by omega), Int.toNat_natCast] at this
  exact this
def IsMc (A : World) (W : World) (b bm g : Nat) (cv : Value) (X : List Ins) (s : St) : Prop := ∃ iv ov, IsC A W b bm g cv iv ov X s
theorem IsMc.stay {A W W' : World} {b bm g : Nat} {cv : Value} {X : List Ins} {s : St} (h : IsMc A W b bm g cv X s) (hb : Bel W W') : IsMc A W' b bm g cv X s := by
  obtain ⟨iv, ov, h⟩ := h
  exact ⟨iv, ov, h.stay hb⟩
theorem IsMc.ok {A W : World} {b bm g : Nat} {cv : Value} {X : List Ins} {s : St} (h : IsMc A W b bm g cv X s) : Ok s := by
  obtain ⟨iv, ov, h⟩ := h
  exact h.ok
theorem IsMc.bel {A W : World} {b bm g : Nat} {cv : Value} {X : List Ins} {s : St} (h : IsMc A W b bm g cv X s) : Bel A W := by
  obtain ⟨iv, ov, h⟩ := h
  exact h.bel
theorem IsMc.regAt {A W : World} {b bm g : Nat} {cv : Value} {X : List Ins} {s : St} (h : IsMc A W b bm g cv X s) (k : Nat) (hk : k < 32) : W.cell? ⟨b, 2 + k, none⟩ = some (.int .i64 (s.regs[k]?.getD 0)) := by
  obtain ⟨iv, ov, h⟩ := h
  rw [cell_of h.box]; exact box_reg h.ok.len k hk
theorem IsMc.placeAt {A W : World} {b bm g : Nat} {cv : Value} {X : List Ins} {s : St} (h : IsMc A W b bm g cv X s) : W.cell? ⟨b, 34, none⟩ = some (.int .i64 s.place) := by
  obtain ⟨iv, ov, h⟩ := h
  rw [cell_of h.box]; exact (box_at h.ok.len).1
theorem IsMc.codeAt {A W : World} {b bm g : Nat} {cv : Value} {X : List Ins} {s : St} (h : IsMc A W b bm g cv X s) : W.cell? ⟨b, 0, none⟩ = some cv ∧ W.cell? ⟨b, 1, none⟩ = some (.pointer (some ⟨bm, 0, none⟩)) := by
  obtain ⟨iv, ov, h⟩ := h
  rw [cell_of h.box, cell_of h.box]; exact ⟨rfl, rfl⟩
theorem IsMc.fz {A W : World} {b bm g : Nat} {cv : Value} {X : List Ins} {s : St} (h : IsMc A W b bm g cv X s) (o : Nat) : W.frozen? ⟨b, o, none⟩ = false := by
  obtain ⟨iv, ov, h⟩ := h
  exact frozen_of h.box o
theorem IsMc.setPlace {A W : World} {b bm g : Nat} {cv : Value} {X : List Ins} {s : St} (h : IsMc A W b bm g cv X s) (p : Int) : IsMc A (W.setCell ⟨b, 34, none⟩ (.int .i64 p)) b bm g cv X { s with place := p } ∧ Kept (Mut A.heap.size) W (W.setCell ⟨b, 34, none⟩ (.int .i64 p)) := by
  obtain ⟨iv, ov, h⟩ := h
  exact ⟨⟨iv, ov, h.store 34 _ (box_set h.ok.len 0 _) rfl rfl h.inp (ok_place h.ok p)⟩, h.keptStore _ _⟩
theorem IsMc.setReg {A W : World} {b bm g : Nat} {cv : Value} {X : List Ins} {s : St} (h : IsMc A W b bm g cv X s) (k : Nat) (hk : k < 32) (h0 : k ≠ 0) (v : Int) (hv : Wd v) : IsMc A (W.setCell ⟨b, 2 + k, none⟩ (.int .i64 v)) b bm g cv X { s with regs := s.regs.set k v } ∧ Kept (Mut A.heap.size) W (W.setCell ⟨b, 2 + k, none⟩ (.int .i64 v)) := by
  obtain ⟨iv, ov, h⟩ := h
  exact ⟨⟨iv, ov, h.store (2 + k) _ (box_setR h.ok.len k hk v) rfl rfl h.inp (ok_set0 h.ok k v h0 hv)⟩, h.keptStore _ _⟩

theorem set_c {A W : World} {b bm g : Nat} {cv iv ov : Value} {X : List Ins} {s : St} (h : IsC A W b bm g cv iv ov X s) (z v : Int) (hz : 0 ≤ z ∧ z ≤ 31) (hv : Wd v) :
    Calls Try.prog 50 #[.pointer (some ⟨b, 0, none⟩), .int .i64 z, .int .i64 v] W fun e W' => e = .returned (.tuple #[]) ∧ IsC A W' b bm g cv iv ov X { s with regs := setR s.regs z v } ∧ Kept (Mut A.heap.size) W W' := by
  obtain ⟨k, rfl⟩ : ∃ k : Nat, z = k := ⟨z.toNat, by omega⟩
  by_cases h0 : k = 0
  · subst h0
    go_enter Try.func50, Try.ntmps50
    go_wp2
    go_end0
    exact ⟨rfl, h, Kept.refl _ _⟩
  · have c1 : W.cell? ⟨b, 2 + k, none⟩ = some (.int .i64 (s.regs[k]?.getD 0)) := by rw [cell_of h.box]; exact box_reg h.ok.len k (by omega)
    have f1 := frozen_of h.box (2 + k)
    have h0' : ((k : Int) == 0) = false := by simp; omega
    have hk : (k : Int) < 32 := by omega
    have hk' : k < 32 := by omega
    have r1 : IsC A (W.setCell ⟨b, 2 + k, none⟩ (.int .i64 v)) b bm g cv iv ov X { s with regs := s.regs.set k v } := h.store (2 + k) _ (box_setR h.ok.len k hk' v) rfl rfl h.inp (ok_set0 h.ok k v h0 hv)
    have r2 := h.keptStore (2 + k) (.int .i64 v)
    have e : setR s.regs k v = s.regs.set k v := by unfold setR; rw [if_neg (by omega), Int.toNat_natCast]
    rw [e]
    clear e
    go_enter Try.func50, Try.ntmps50
    go_wp2
    go_end0
    exact ⟨rfl, r1, r2⟩
theorem set_any {A W : World} {b bm g : Nat} {cv : Value} {X : List Ins} {s : St} (h : IsMc A W b bm g cv X s) (z v : Int) (hz : 0 ≤ z ∧ z ≤ 31) (hv : Wd v) :
    Calls Try.prog 50 #[.pointer (some ⟨b, 0, none⟩), .int .i64 z, .int .i64 v] W fun e W' => e = .returned (.tuple #[]) ∧ IsMc A W' b bm g cv X { s with regs := setR s.regs z v } ∧ Kept (Mut A.heap.size) W W' := by
  obtain ⟨iv, ov, h⟩ := h
  exact (set_c h z v hz hv).mono fun e W' ⟨q1, q2, q3⟩ => ⟨q1, ⟨iv, ov, q2⟩, q3⟩
theorem branch_any {A W : World} {b bm g : Nat} {cv : Value} {X : List Ins} {s : St} (h : IsMc A W b bm g cv X s) (t : Bool) (z : Int) (h1 : -1000000 ≤ z ∧ z ≤ 1000000) (h2 : -1000000 ≤ s.place ∧ s.place ≤ 1000000) :
    Calls Try.prog 54 #[.pointer (some ⟨b, 0, none⟩), .bool t, .int .i64 z] W fun e W' => e = .returned (.tuple #[]) ∧ IsMc A W' b bm g cv X (goM t z s) ∧ Kept (Mut A.heap.size) W W' := by
  cases t
  · go_enter Try.func54, Try.ntmps54
    go_wp2
    go_end0
    exact ⟨rfl, h, Kept.refl _ _⟩
  · have c1 := h.placeAt
    have f1 := h.fz 34
    obtain ⟨r1, r2⟩ := h.setPlace (s.place + z)
    go_enter Try.func54, Try.ntmps54
    go_wp2
    go_end0
    exact ⟨rfl, r1, r2⟩
theorem check_any (v e t : Int) (W : World) :
    Calls Try.prog 53 #[.int .i64 v, .int .i64 e, .int .i64 t] W fun e' W' => e' = .returned (.int .i64 (chkT v e t)) ∧ W' = W := by
  go_enter Try.func53, Try.ntmps53
  go_wp2
  all_goals
    go_ret
    refine ⟨ret_int ?_, rfl⟩
    unfold chkT
    try simp only [beq_iff_eq, beq_eq_false_iff_ne, ne_eq] at *
    repeat' split
    all_goals omega
end Go.Proofs.Ytmgpfhmodjmcdaa
