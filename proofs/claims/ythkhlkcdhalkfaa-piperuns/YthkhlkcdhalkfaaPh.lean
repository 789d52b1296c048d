/-
  The machine of five stages as it lies in the heap; what its small calls do.
  The machine of five stages: set, arrive, write, read, check, target, leave, finish.
  The machine of five stages: target, leave, finish; layer 7's Reckon.
  The machine of five stages: load, store, take, tell, system.
  The machine of five stages: tell, system, act.
  The machine of five stages: act.
-/
import Derived.Test.YthkhlkcdhalkfaaPq
import Derived.Test.YthkhlkcdhalkfaaEff8
import Derived.Test.YthkhlkcdhalkfaaMc4
import Derived.Deep.Fields
import Derived.Deep.MidRow
import Derived.RegionTactic
import Derived.StillTailTactics
import Derived.Deep.RegionHeld3
import Derived.Deep.AppendLies
import Derived.Deep.RegionLaw
namespace Go.Proofs.Ythkhlkcdhalkfaa
set_option maxRecDepth 20000
set_option linter.unusedVariables false
open Go.ChangeShapes Go.WideShapes Go.ChangeAt Go.RowKit

/-- The cells behind the registers. -/
def tailP (p : Pt) (i o : Value) : List Value := [.int .i64 p.lr, .int .i64 p.lv, .int .i64 p.st.place, .int .i64 p.next, i, o]
/-- A machine's cells. -/
def boxP (c m : Value) (p : Pt) (i o : Value) : List Value := c :: m :: (p.st.regs.map (Value.int .i64) ++ tailP p i o)
theorem boxP_reg {c m i o : Value} {p : Pt} (hR : p.st.regs.length = 32) (k : Nat) (hk : k < 32) : (boxP c m p i o).toArray[2 + k]? = some (.int .i64 (p.st.regs[k]?.getD 0)) := by
  have e : 2 + k = k + 1 + 1 := by omega
  rw [List.getElem?_toArray, e]
  simp only [boxP, List.getElem?_cons_succ]
  rw [List.getElem?_append_left (by simp; omega), List.getElem?_map, List.getElem?_eq_getElem (by omega)]
  rfl
theorem boxP_at {c m i o : Value} {p : Pt} (hR : p.st.regs.length = 32) (j : Nat) : (boxP c m p i o).toArray[34 + j]? = (tailP p i o)[j]? := by
  rw [List.getElem?_toArray, show 34 + j = 32 + j + 1 + 1 by omega]
  simp only [boxP, List.getElem?_cons_succ]
  rw [List.getElem?_append_right (by simp; omega)]
  simp [hR]
theorem boxP_setR {c m i o : Value} {p : Pt} (hR : p.st.regs.length = 32) (k : Nat) (hk : k < 32) (v : Int) : (boxP c m p i o).toArray.setIfInBounds (2 + k) (.int .i64 v) = (boxP c m { p with st := { p.st with regs := p.st.regs.set k v } } i o).toArray := by
  rw [List.setIfInBounds_toArray, show 2 + k = k + 1 + 1 by omega]
  simp only [boxP, List.set_cons_succ]
  rw [List.set_append_left _ _ (by simp; omega), List.map_set]
  rfl
theorem boxP_set {c m : Value} {R : List Int} (T : List Value) (hR : R.length = 32) (j : Nat) (v : Value) : (c :: m :: (R.map (Value.int .i64) ++ T)).toArray.setIfInBounds (34 + j) v = (c :: m :: (R.map (Value.int .i64) ++ T.set j v)).toArray := by
  rw [List.setIfInBounds_toArray, show 34 + j = 32 + j + 1 + 1 by omega]
  simp only [List.set_cons_succ]
  rw [List.set_append_right _ _ (by simp; omega)]
  simp [hR]
/-- What the machine's calls may turn. -/
def MutP (n₀ : Nat) (k : Nat) (o : Obj) : Prop := n₀ ≤ k ∧ (tag o = some 47 ∨ tag o = some 3)
structure IsP (A : World) (W : World) (b bm g : Nat) (cv iv ov : Value) (X : List Ins) (p : Pt) : Prop where
  box : W.heap[b]? = some (.cells (boxP cv (.pointer (some ⟨bm, 0, none⟩)) p iv ov).toArray 47 (0, 0))
  low : A.heap.size ≤ b
  mem : IsM A.heap.size W bm g p.st.mem
  code : Code A cv X
  inp : IntsC A iv p.st.inp
  out : W.ownsRow A.heap.size 3 1 ov p.st.out.length (p.st.out.map (Value.int .i64))
  apart : ov.ownBlock ≠ some g
  bel : Bel A W
  ok : OkP p
  lenm : p.st.mem.length ≤ 32000
  leno : p.st.out.length ≤ 10000
theorem IsP.stay {A W W' : World} {b bm g : Nat} {cv iv ov : Value} {X : List Ins} {p : Pt} (h : IsP A W b bm g cv iv ov X p) (hb : Bel W W') : IsP A W' b bm g cv iv ov X p :=
  ⟨(hb.out.block b (lt_of_heap h.box)).trans h.box, h.low, h.mem.bel hb, h.code, h.inp, row_bel h.out hb, h.apart, btrans h.bel hb, h.ok, h.lenm, h.leno⟩
theorem mutP_row {n₀ : Nat} {W : World} {k : Nat} {c : Array Value} {f : Nat × Nat} (h : W.heap[k]? = some (.cells c 3 f)) (hk : n₀ ≤ k) : ∀ o, W.heap[k]? = some o → MutP n₀ k o := by
  intro o ho
  rw [h] at ho
  injection ho with ho
  subst ho
  exact ⟨hk, .inr rfl⟩
theorem keptP_bel {A W W' : World} (h : Bel A W) (hk : Kept (MutP A.heap.size) W W') : Bel A W' :=
  h.out.trans (hk.below h.size (fun k o _ e => e.1))
/-- A box of a type that no call of the machine turns. -/
theorem keptP_box {n₀ : Nat} {W W' : World} {k : Nat} {c : Array Value} {t : TypeId} {f : Nat × Nat} (hk : Kept (MutP n₀) W W') (h : W.heap[k]? = some (.cells c t f)) (h1 : t ≠ 47) (h2 : t ≠ 3) : W'.heap[k]? = some (.cells c t f) :=
  hk.block k _ h (fun e => by rcases e.2 with e | e <;> (injection e with e; first | exact h1 e | exact h2 e))
theorem insP_kept {n₀ : Nat} {W W' : World} {k : Nat} {o a b c i : Int} (hk : Kept (MutP n₀) W W') (h : W.heap[k]? = some (insB o a b c i)) : W'.heap[k]? = some (insB o a b c i) := keptP_box hk h (by decide) (by decide)
theorem IsP.bne {A W : World} {b bm g : Nat} {cv iv ov : Value} {X : List Ins} {p : Pt} (h : IsP A W b bm g cv iv ov X p) : bm ≠ b ∧ g ≠ b := by
  constructor
  · intro e
    have h1 := h.box
    have h2 := h.mem.box
    subst e
    rw [h1] at h2
    injection h2 with h2
    injection h2 with _ h2 _
    exact absurd h2 (by decide)
  · intro e
    have h1 := h.box
    have h2 := h.mem.row
    subst e
    rw [h1] at h2
    injection h2 with h2
    injection h2 with _ h2 _
    exact absurd h2 (by decide)
/-- The machine's own box is another one. -/
theorem IsP.put {A W W' : World} {b bm g : Nat} {cv iv ov iv' : Value} {X : List Ins} {p p' : Pt} (h : IsP A W b bm g cv iv ov X p)
    (hbox : W'.heap[b]? = some (.cells (boxP cv (.pointer (some ⟨bm, 0, none⟩)) p' iv' ov).toArray 47 (0, 0))) (hk : Kept (fun k _ => k = b) W W')
    (hm : p'.st.mem = p.st.mem) (ho : p'.st.out = p.st.out) (hi : IntsC A iv' p'.st.inp) (hok : OkP p') : IsP A W' b bm g cv iv' ov X p' ∧ Kept (MutP A.heap.size) W W' := by
  obtain ⟨n1, n2⟩ := h.bne
  have hk2 : Kept (MutP A.heap.size) W W' := hk.mono (fun k o ho e => by
    subst e
    rw [h.box] at ho
    injection ho with ho
    subst ho
    exact ⟨h.low, .inl rfl⟩)
  refine ⟨⟨hbox, h.low, ?_, h.code, hi, ?_, h.apart, keptP_bel h.bel hk2, hok, by rw [hm]; exact h.lenm, by rw [ho]; exact h.leno⟩, hk2⟩
  · rw [hm]
    exact ⟨hk.block bm _ h.mem.box n1, hk.block g _ h.mem.row n2, h.mem.low, h.mem.lowg⟩
  · rw [ho]
    refine row_kept h.out hk ?_
    rintro k c f hk rfl
    rcases h.out.2 with ⟨rfl, e⟩ | ⟨g, cap, cur, rfl, _, hg, _⟩
    · cases hk
    · injection hk with hk
      subst hk
      rw [h.box] at hg
      injection hg with hg
      injection hg with _ hg _
      exact absurd hg (by decide)
theorem kept_one (W : World) (b j : Nat) (u : Value) : Kept (fun k _ => k = b) W (W.setCell ⟨b, j, none⟩ u) := Kept.setCell _ _ ⟨b, j, none⟩ _ (fun o ho => rfl)
def IsQ (iv : Value) (A : World) (W : World) (b bm g : Nat) (cv : Value) (X : List Ins) (p : Pt) : Prop := ∃ ov, IsP A W b bm g cv iv ov X p
section
variable {A W W' : World} {b bm g : Nat} {cv iv : Value} {X : List Ins} {p : Pt}
theorem IsQ.stay (h : IsQ iv A W b bm g cv X p) (hb : Bel W W') : IsQ iv A W' b bm g cv X p := by
  obtain ⟨ov, h⟩ := h
  exact ⟨ov, h.stay hb⟩
theorem IsQ.ok (h : IsQ iv A W b bm g cv X p) : OkP p := by
  obtain ⟨ov, h⟩ := h
  exact h.ok
theorem IsQ.bel (h : IsQ iv A W b bm g cv X p) : Bel A W := by
  obtain ⟨ov, h⟩ := h
  exact h.bel
theorem IsQ.lt (h : IsQ iv A W b bm g cv X p) : b < W.heap.size := by
  obtain ⟨ov, h⟩ := h
  exact lt_of_heap h.box
theorem IsQ.isM (h : IsQ iv A W b bm g cv X p) : IsM A.heap.size W bm g p.st.mem := by
  obtain ⟨ov, h⟩ := h
  exact h.mem
theorem IsQ.regAt (h : IsQ iv A W b bm g cv X p) (k : Nat) (hk : k < 32) : W.cell? ⟨b, 2 + k, none⟩ = some (.int .i64 (p.st.regs[k]?.getD 0)) := by
  obtain ⟨ov, h⟩ := h
  rw [cell_of h.box]; exact boxP_reg h.ok.ok.len k hk
theorem IsQ.tailAt (h : IsQ iv A W b bm g cv X p) : W.cell? ⟨b, 34, none⟩ = some (.int .i64 p.lr) ∧ W.cell? ⟨b, 35, none⟩ = some (.int .i64 p.lv) ∧ W.cell? ⟨b, 36, none⟩ = some (.int .i64 p.st.place) ∧ W.cell? ⟨b, 37, none⟩ = some (.int .i64 p.next) := by
  obtain ⟨ov, h⟩ := h
  rw [cell_of h.box, cell_of h.box, cell_of h.box, cell_of h.box]
  exact ⟨boxP_at h.ok.ok.len 0, boxP_at h.ok.ok.len 1, boxP_at h.ok.ok.len 2, boxP_at h.ok.ok.len 3⟩
theorem IsQ.codeAt (h : IsQ iv A W b bm g cv X p) : W.cell? ⟨b, 0, none⟩ = some cv ∧ W.cell? ⟨b, 1, none⟩ = some (.pointer (some ⟨bm, 0, none⟩)) := by
  obtain ⟨ov, h⟩ := h
  rw [cell_of h.box, cell_of h.box]; exact ⟨rfl, rfl⟩
theorem IsQ.fz (h : IsQ iv A W b bm g cv X p) (o : Nat) : W.frozen? ⟨b, o, none⟩ = false := by
  obtain ⟨ov, h⟩ := h
  exact frozen_of h.box o
theorem IsQ.setNext (h : IsQ iv A W b bm g cv X p) (n : Int) (hn : Wd n) : IsQ iv A (W.setCell ⟨b, 37, none⟩ (.int .i64 n)) b bm g cv X { p with next := n } ∧ Kept (MutP A.heap.size) W (W.setCell ⟨b, 37, none⟩ (.int .i64 n)) := by
  obtain ⟨ov, h⟩ := h
  obtain ⟨r1, r2⟩ := h.put (p' := { p with next := n }) ((heap_set_same h.box).trans (by rw [boxP, boxP_set _ h.ok.ok.len 3]; rfl)) (kept_one _ _ _ _) rfl rfl h.inp (ok_nextP h.ok n hn)
  exact ⟨⟨ov, r1⟩, r2⟩
theorem IsQ.setLate (h : IsQ iv A W b bm g cv X p) (r v : Int) (hr : 0 ≤ r ∧ r ≤ 31) (hv : Wd v) : IsQ iv A ((W.setCell ⟨b, 34, none⟩ (.int .i64 r)).setCell ⟨b, 35, none⟩ (.int .i64 v)) b bm g cv X { p with lr := r, lv := v } ∧ Kept (MutP A.heap.size) W ((W.setCell ⟨b, 34, none⟩ (.int .i64 r)).setCell ⟨b, 35, none⟩ (.int .i64 v)) := by
  obtain ⟨ov, h⟩ := h
  obtain ⟨r1, r2⟩ := h.put (p' := { p with lr := r, lv := v }) ((heap_set_same (heap_set_same h.box)).trans (by rw [boxP, boxP_set _ h.ok.ok.len 0, boxP_set _ h.ok.ok.len 1]; rfl)) ((kept_one _ _ _ _).trans (kept_one _ _ _ _)) rfl rfl h.inp (ok_lateP h.ok r v hr hv)
  exact ⟨⟨ov, r1⟩, r2⟩
theorem IsQ.setAhead (h : IsQ iv A W b bm g cv X p) (hn : Wd p.next) :
    (IsQ iv A ((W.setCell ⟨b, 36, none⟩ (.int .i64 p.next)).setCell ⟨b, 37, none⟩ (.int .i64 (p.next + 1))) b bm g cv X (aheadP p) ∧ Kept (MutP A.heap.size) W ((W.setCell ⟨b, 36, none⟩ (.int .i64 p.next)).setCell ⟨b, 37, none⟩ (.int .i64 (p.next + 1)))) ∧
    (IsQ iv A ((W.setCell ⟨b, 37, none⟩ (.int .i64 (p.next + 1))).setCell ⟨b, 36, none⟩ (.int .i64 p.next)) b bm g cv X (aheadP p) ∧ Kept (MutP A.heap.size) W ((W.setCell ⟨b, 37, none⟩ (.int .i64 (p.next + 1))).setCell ⟨b, 36, none⟩ (.int .i64 p.next))) := by
  obtain ⟨ov, h⟩ := h
  obtain ⟨r1, r2⟩ := h.put (p' := aheadP p) ((heap_set_same (heap_set_same (o := 36) (u := .int .i64 p.next) h.box)).trans (by rw [boxP, boxP_set _ h.ok.ok.len 2, boxP_set _ h.ok.ok.len 3]; rfl)) ((kept_one _ _ _ _).trans (kept_one _ _ _ _)) rfl rfl h.inp (ok_aheadP h.ok hn)
  obtain ⟨r3, r4⟩ := h.put (p' := aheadP p) ((heap_set_same (heap_set_same (o := 37) (u := .int .i64 (p.next + 1)) h.box)).trans (by rw [boxP, boxP_set _ h.ok.ok.len 3, boxP_set _ h.ok.ok.len 2]; rfl)) ((kept_one _ _ _ _).trans (kept_one _ _ _ _)) rfl rfl h.inp (ok_aheadP h.ok hn)
  exact ⟨⟨⟨ov, r1⟩, r2⟩, ⟨ov, r3⟩, r4⟩
theorem IsQ.setReg (h : IsQ iv A W b bm g cv X p) (k : Nat) (hk : k < 32) (h0 : k ≠ 0) (v : Int) (hv : Wd v) : IsQ iv A (W.setCell ⟨b, 2 + k, none⟩ (.int .i64 v)) b bm g cv X (setP k v p) ∧ Kept (MutP A.heap.size) W (W.setCell ⟨b, 2 + k, none⟩ (.int .i64 v)) := by
  obtain ⟨ov, h⟩ := h
  have e : setP k v p = { p with st := { p.st with regs := p.st.regs.set k v } } := by unfold setP setR; rw [if_neg (by omega), Int.toNat_natCast]
  obtain ⟨r1, r2⟩ := h.put (p' := setP k v p) (W' := W.setCell ⟨b, 2 + k, none⟩ (.int .i64 v)) ((heap_set_same h.box).trans (by rw [boxP_setR h.ok.ok.len k hk, e])) (kept_one _ _ _ _) rfl rfl h.inp (ok_setP h.ok _ _ (by omega) hv)
  exact ⟨⟨ov, r1⟩, r2⟩
end
end Go.Proofs.Ythkhlkcdhalkfaa
namespace Go.Proofs.Ythkhlkcdhalkfaa
set_option maxRecDepth 20000
set_option linter.unusedVariables false
open Go.ChangeShapes Go.WideShapes Go.ChangeAt Go.RowKit

section
variable {A W W' : World} {b bm g : Nat} {cv iv : Value} {X : List Ins} {p : Pt}
set_option maxHeartbeats 1000000 in
theorem pset_any (h : IsQ iv A W b bm g cv X p) (z v : Int) (hz : 0 ≤ z ∧ z ≤ 31) (hv : Wd v) :
    Calls Try.prog 46 #[.pointer (some ⟨b, 0, none⟩), .agg #[.int .i64 z, .int .i64 v]] W fun e W' => e = .returned (.tuple #[]) ∧ IsQ iv A W' b bm g cv X (setP z v p) ∧ Kept (MutP A.heap.size) W W' := by
  obtain ⟨k, rfl⟩ : ∃ k : Nat, z = k := ⟨z.toNat, by omega⟩
  have hB : Bel W (W.alloc (.cells #[.int .i64 (k : Int), .int .i64 v] 45)) := (Bel.refl W).alloc _
  have h1 := h.stay hB
  by_cases h0 : k = 0
  · subst h0
    have e : setP ((0 : Nat) : Int) v p = p := by simp [setP, setR]
    rw [e]
    have H1 := hidm h1
    clear e h h1 hB
    go_enter Try.func46, Try.ntmps46
    go_wp2
    go_end0
    exact ⟨rfl, Hid.out H1, Kept.alloc _ _ _⟩
  · have c1 := h1.regAt k (by omega)
    have f1 := h1.fz (2 + k)
    have h0' : ((k : Int) == 0) = false := by simp; omega
    have hk : (k : Int) < 32 := by omega
    have hk' : k < 32 := by omega
    have R1 := hidm (h.setReg k hk' h0 v hv)
    have hlt := h.lt
    clear h h1 hB
    go_enter Try.func46, Try.ntmps46
    go_wp2
    go_region
    go_wp2
    go_end0
    exact ⟨rfl, (Hid.out R1).1.stay (((Bel.refl _).alloc _).drew), (Hid.out R1).2.trans ((Kept.alloc _ _ _).trans (Kept.drew _ _))⟩
theorem pcheck_any (v e t : Int) (W : World) :
    Calls Try.prog 54 #[.int .i64 v, .int .i64 e, .int .i64 t] W fun e' W' => e' = .returned (.int .i64 (chkT v e t)) ∧ W' = W := by
  go_enter Try.func54, Try.ntmps54
  go_wp2
  all_goals
    go_ret
    refine ⟨ret_int ?_, rfl⟩
    unfold chkT
    try simp only [beq_iff_eq, beq_eq_false_iff_ne, ne_eq] at *
    repeat' split
    all_goals omega
theorem late2 (h : IsQ iv A W b bm g cv X p) : W.cell? ⟨b, 34, none⟩ = some (.int .i64 p.lr) ∧ W.cell? ⟨b, 35, none⟩ = some (.int .i64 p.lv) := ⟨h.tailAt.1, h.tailAt.2.1⟩
set_option maxHeartbeats 1000000 in
theorem arrive_any (h : IsQ iv A W b bm g cv X p) :
    Calls Try.prog 27 #[.pointer (some ⟨b, 0, none⟩)] W fun e W' => e = .returned (.tuple #[]) ∧ IsQ iv A W' b bm g cv X (arriveP p) ∧ Kept (MutP A.heap.size) W W' := by
  obtain ⟨c1, c2⟩ := late2 h
  have HS := hidm (pset_any h p.lr p.lv h.ok.lr h.ok.lv)
  clear h
  go_enter Try.func27, Try.ntmps27
  go_wp2_with (first
    | (go_at_call 46; refine (Hid.out HS).mono ?_; rintro e w2 ⟨rfl, q1, q2⟩; obtain ⟨d1, d2⟩ := late2 q1; have f1 := q1.fz 34; have f2 := q1.fz 35))
  go_end0
  have R := q1.setLate 0 0 (by omega) wd_zero
  exact ⟨rfl, R.1, q2.trans R.2⟩
/-- What was late, in a box. -/
def wrtB (r v : Int) : Obj := .cells #[.int .i64 r, .int .i64 v] 45
theorem wrtB_cells {W : World} {k : Nat} {r v : Int} (h : W.heap[k]? = some (wrtB r v)) : W.cell? ⟨k, 0, none⟩ = some (.int .i64 r) ∧ W.cell? ⟨k, 1, none⟩ = some (.int .i64 v) := ⟨cell_of h 0, cell_of h 1⟩
set_option maxHeartbeats 1000000 in
theorem pwrite_any (h : IsQ iv A W b bm g cv X p) (x : Ins) (v : Int) (hv : Wd v) :
    Calls Try.prog 47 #[.pointer (some ⟨b, 0, none⟩), .agg #[.int .i64 x.o, .int .i64 x.a, .int .i64 x.b, .int .i64 x.c, .int .i64 x.i], .int .i64 v] W fun e W' => e = .returned (.tuple #[]) ∧ IsQ iv A W' b bm g cv X (writeP x v p) ∧ Kept (MutP A.heap.size) W W' := by
  have hw := wr_bd x
  have HW := hidm (fun w => writes_any x.o x.a x.b x.c x.i w)
  have HL := hidm (fun w => late_any x.o x.a x.b x.c x.i w)
  have e1 : wr1 x.o x.a x.b x.c x.i = x.wr := rfl
  have e2 : lateB x.o x.a x.b x.c x.i = x.late := rfl
  rw [e1] at HW
  rw [e2] at HL
  unfold writeP
  generalize x.wr = r at *
  have HS := hidm (fun w (q : IsQ iv A w b bm g cv X p) => pset_any q r v hw hv)
  have H := hidm h
  have hlt := h.lt
  clear h e1 e2
  have HK : Hid (∀ w1 w2 u, Bel (W.alloc (insB x.o x.a x.b x.c x.i)) w1 → Bel (w1.alloc u) w2 → Bel W w2) := hidm (fun w1 w2 u h1 h2 => btrans (btrans ((Bel.refl W).alloc _) h1) (btrans ((Bel.refl w1).alloc u) h2))
  cases hl : x.late
  · rw [hl] at HL
    rw [if_neg (by decide)]
    clear hl
    go_enter Try.func47, Try.ntmps47
    go_wp2_with (first
      | (go_at_call 68; refine (Hid.out HW _).mono ?_; rintro e w1 ⟨rfl, hB1⟩; have hx1 : w1.heap[W.heap.size]? = some (insB x.o x.a x.b x.c x.i) := (hB1.out.block _ (by simp)).trans (heap_new W _); obtain ⟨d0, d1, d2, d3, d4⟩ := insB_cells hx1; have hz1 := lt_of_heap hx1; have HB1 := hidm hB1; clear hx1 hB1)
      | (go_at_call 69; refine (Hid.out HL _).mono ?_; rintro e w2 ⟨rfl, hB2⟩; obtain ⟨k0, k1⟩ := wrtB_cells ((hB2.out.block _ (by simp)).trans (heap_new w1 (wrtB r v))); have HQ := hidm ((Hid.out H).stay (Hid.out HK _ _ _ (Hid.out HB1) hB2)); have HB2 := hidm hB2; clear hB2)
      | (go_at_call 46; refine (Hid.out HS _ (Hid.out HQ)).mono ?_; rintro e w3 ⟨rfl, q1, q2⟩))
    go_end0
    exact ⟨rfl, q1, (Kept.of_bel (Hid.out HK _ _ _ (Hid.out HB1) (Hid.out HB2))).trans q2⟩
  · rw [hl] at HL
    rw [if_pos rfl]
    clear hl
    go_enter Try.func47, Try.ntmps47
    go_wp2_with (first
      | (go_at_call 68; refine (Hid.out HW _).mono ?_; rintro e w1 ⟨rfl, hB1⟩; have hx1 : w1.heap[W.heap.size]? = some (insB x.o x.a x.b x.c x.i) := (hB1.out.block _ (by simp)).trans (heap_new W _); obtain ⟨d0, d1, d2, d3, d4⟩ := insB_cells hx1; have hz1 := lt_of_heap hx1; have HB1 := hidm hB1; clear hx1 hB1)
      | (go_at_call 69; refine (Hid.out HL _).mono ?_; rintro e w2 ⟨rfl, hB2⟩; obtain ⟨k0, k1⟩ := wrtB_cells ((hB2.out.block _ (by simp)).trans (heap_new w1 (wrtB r v))); have HQ := hidm ((Hid.out H).stay (Hid.out HK _ _ _ (Hid.out HB1) hB2)); obtain ⟨l1, l2⟩ := late2 (Hid.out HQ); have f1 := (Hid.out HQ).fz 34; have f2 := (Hid.out HQ).fz 35; have HB2 := hidm hB2; clear hB2))
    go_end0
    have R := (Hid.out HQ).setLate r v hw hv
    exact ⟨rfl, R.1, (Kept.of_bel (Hid.out HK _ _ _ (Hid.out HB1) (Hid.out HB2))).trans R.2⟩
/-- What an instruction read, in a box. -/
def opsB (a b c d : Int) : Obj := .cells #[.int .i64 a, .int .i64 b, .int .i64 c, .int .i64 d] 65
theorem opsB_cells {W : World} {k : Nat} {a b c d : Int} (h : W.heap[k]? = some (opsB a b c d)) : W.cell? ⟨k, 0, none⟩ = some (.int .i64 a) ∧ W.cell? ⟨k, 1, none⟩ = some (.int .i64 b) ∧ W.cell? ⟨k, 2, none⟩ = some (.int .i64 c) ∧ W.cell? ⟨k, 3, none⟩ = some (.int .i64 d) := ⟨cell_of h 0, cell_of h 1, cell_of h 2, cell_of h 3⟩
theorem opsB_fz {W : World} {k : Nat} {a b c d : Int} (h : W.heap[k]? = some (opsB a b c d)) (j : Nat) : W.frozen? ⟨k, j, none⟩ = false := frozen_of h j
set_option maxHeartbeats 1000000 in
theorem pread_any (h : IsQ iv A W b bm g cv X p) (x : Ins) (hr : x.right = true) :
    Calls Try.prog 26 #[.pointer (some ⟨b, 0, none⟩), .agg #[.int .i64 x.o, .int .i64 x.a, .int .i64 x.b, .int .i64 x.c, .int .i64 x.i]] W fun e W' => e = .returned (.agg #[.int .i64 (reg p.st.regs x.a), .int .i64 (reg p.st.regs x.b), .int .i64 (reg p.st.regs x.c), .int .i64 (reg p.st.regs 4)]) ∧ Bel W W' := by
  obtain ⟨b1, b2, b3, b4, b5, b6, b7, b8, b9, b10⟩ := right_bd hr
  obtain ⟨o, xa, xb, xc, i⟩ := x
  dsimp only at *
  obtain ⟨ka, rfl⟩ := nat_of b3
  obtain ⟨kb, rfl⟩ := nat_of b5
  obtain ⟨kc, rfl⟩ := nat_of b7
  rw [reg_nat, reg_nat, reg_nat, show reg p.st.regs 4 = p.st.regs[4]?.getD 0 from rfl]
  have e1 : (W.alloc (insB o ka kb kc i)).heap.size = W.heap.size + 1 := by simp
  have hx := heap_old (o := opsB 0 0 0 0) (heap_new W (insB o ka kb kc i))
  have hy := heap_new (W.alloc (insB o ka kb kc i)) (opsB 0 0 0 0)
  rw [e1] at hy
  have hB : Bel W ((W.alloc (insB o ka kb kc i)).alloc (opsB 0 0 0 0)) := ((Bel.refl W).alloc _).alloc _
  have h2 := h.stay hB
  have r1 := h2.regAt ka (by omega)
  have r2 := h2.regAt kb (by omega)
  have r3 := h2.regAt kc (by omega)
  have r4 : ((W.alloc (insB o ka kb kc i)).alloc (opsB 0 0 0 0)).cell? ⟨b, 6, none⟩ = some (.int .i64 (p.st.regs[4]?.getD 0)) := h2.regAt 4 (by omega)
  have lb := h.lt
  obtain ⟨d0, d1, d2, d3, d4⟩ := insB_cells hx
  obtain ⟨k0, k1, k2, k3⟩ := opsB_cells hy
  have f0 := opsB_fz hy 0
  have f1 := opsB_fz hy 1
  have f2 := opsB_fz hy 2
  have f3 := opsB_fz hy 3
  have ha : (ka : Int) < 32 := by omega
  have hb : (kb : Int) < 32 := by omega
  have hc : (kc : Int) < 32 := by omega
  generalize p.st.regs[ka]?.getD 0 = va at *
  generalize p.st.regs[kb]?.getD 0 = vb at *
  generalize p.st.regs[kc]?.getD 0 = vc at *
  generalize p.st.regs[4]?.getD 0 = vd at *
  clear h h2 hx hy e1
  go_enter Try.func26, Try.ntmps26
  go_wp2
  change Code.wp _ _ _ _ ((W.alloc (insB o ka kb kc i)).alloc (opsB 0 0 0 0))
  generalize (W.alloc (insB o ka kb kc i)).alloc (opsB 0 0 0 0) = Y at *
  go_still_tail 27, (by kernel_rfl)
  go_wp2
  refine bodyPost_ret (v := .agg #[.int .i64 va, .int .i64 vb, .int .i64 vc, .int .i64 vd]) (by simp [results, Try.results26, go_sem, k0, k1, k2, k3]) rfl ⟨rfl, ?_⟩
  exact ((((hB.setCell (p := ⟨W.heap.size + 1, 0, none⟩) (by show W.heap.size ≤ W.heap.size + 1; omega) _).setCell (p := ⟨W.heap.size + 1, 1, none⟩) (by show W.heap.size ≤ W.heap.size + 1; omega) _).setCell (p := ⟨W.heap.size + 1, 2, none⟩) (by show W.heap.size ≤ W.heap.size + 1; omega) _).setCell (p := ⟨W.heap.size + 1, 3, none⟩) (by show W.heap.size ≤ W.heap.size + 1; omega) _).drew
end
end Go.Proofs.Ythkhlkcdhalkfaa
namespace Go.Proofs.Ythkhlkcdhalkfaa
set_option maxRecDepth 20000
set_option linter.unusedVariables false
open Go.ChangeShapes Go.WideShapes Go.ChangeAt Go.RowKit

theorem ret_ib {a a' : Int} {t t' : Bool} (h1 : a = a') (h2 : t = t') : Ending.returned (.tuple #[.int .i64 a, .bool t]) = .returned (.tuple #[.int .i64 a', .bool t']) := by rw [h1, h2]
set_option maxHeartbeats 2000000 in
theorem target_any (x : Ins) (here a b c d : Int) (W : World) (hh : 0 ≤ here ∧ here ≤ 100000) (hi : -32768 ≤ x.i ∧ x.i ≤ 32767) :
    Calls Try.prog 48 #[.agg #[.int .i64 x.o, .int .i64 x.a, .int .i64 x.b, .int .i64 x.c, .int .i64 x.i], .int .i64 here, .agg #[.int .i64 a, .int .i64 b, .int .i64 c, .int .i64 d]] W fun e W' => e = .returned (.tuple #[.int .i64 (toP x here a b), .bool (takenP x a b)]) ∧ Bel W W' := by
  obtain ⟨o, xa, xb, xc, i⟩ := x
  dsimp only at *
  have hB : Bel W ((W.alloc (insB o xa xb xc i)).alloc (opsB a b c d)) := ((Bel.refl W).alloc _).alloc _
  by_cases h15 : o = 15
  · subst h15
    go_enter Try.func48, Try.ntmps48
    go_wp2
    go_region
    go_wp2
    go_ret2
    exact ⟨ret_ib (by simp [toP]) (by simp [takenP]), hB.drew⟩
  by_cases h16 : o = 16
  · subst h16
    go_enter Try.func48, Try.ntmps48
    go_wp2
    go_region
    go_wp2
    go_ret2
    exact ⟨ret_ib (by simp [toP]) (by simp [takenP]), hB.drew⟩
  have h15' : (o == 15) = false := by simpa using h15
  have h16' : (o == 16) = false := by simpa using h16
  by_cases h19 : o = 19
  · subst h19
    go_enter Try.func48, Try.ntmps48
    go_wp2
    go_ret2
    exact ⟨ret_ib (by simp [toP]) (by simp [takenP]), hB⟩
  have h19' : (o == 19) = false := by simpa using h19
  go_enter Try.func48, Try.ntmps48
  go_wp2
  go_ret2
  exact ⟨ret_ib (by simp [toP, h15, h16, h19]) (by simp [takenP, h15, h16]), hB⟩
section
variable {A W W' : World} {b bm g : Nat} {cv iv : Value} {X : List Ins} {p : Pt}
theorem finish_any (h : IsQ iv A W b bm g cv X p) (x : Ins) (v t : Int) (hv : Wd v) :
    Calls Try.prog 31 #[.pointer (some ⟨b, 0, none⟩), .agg #[.int .i64 x.o, .int .i64 x.a, .int .i64 x.b, .int .i64 x.c, .int .i64 x.i], .int .i64 v, .int .i64 t] W fun e W' => e = .returned (.int .i64 t) ∧ IsQ iv A W' b bm g cv X (finishP x v t p) ∧ Kept (MutP A.heap.size) W W' := by
  have hB : Bel W (W.alloc (insB x.o x.a x.b x.c x.i)) := (Bel.refl W).alloc _
  have HW := hidm (pwrite_any (h.stay hB) x v hv)
  have H1 := hidm (h.stay hB)
  unfold finishP
  by_cases ht : t = 0
  · rw [if_pos ht]
    subst ht
    go_enter Try.func31, Try.ntmps31
    go_wp2_with (first
      | (go_at_call 47; refine (Hid.out HW).mono ?_; rintro e w2 ⟨rfl, q1, q2⟩))
    go_ret
    exact ⟨rfl, q1, (Kept.alloc _ _ _).trans q2⟩
  · rw [if_neg ht]
    have ht' : (t == 0) = false := by simpa using ht
    go_enter Try.func31, Try.ntmps31
    go_wp2
    go_ret
    exact ⟨rfl, Hid.out H1, Kept.alloc _ _ _⟩
theorem Kept.belP {n₀ : Nat} {W W' : World} (h : Bel W W') : Kept (MutP n₀) W W' := Kept.of_bel h
theorem opsB_kept {n₀ : Nat} {W W' : World} {k : Nat} {a b c d : Int} (hk : Kept (MutP n₀) W W') (h : W.heap[k]? = some (opsB a b c d)) : W'.heap[k]? = some (opsB a b c d) := keptP_box hk h (by decide) (by decide)
set_option maxHeartbeats 2000000 in
theorem leave_any (h : IsQ iv A W b bm g cv X p) (x : Ins) (here a bb c d : Int) (hh : 0 ≤ here ∧ here ≤ 100000) (hi : -32768 ≤ x.i ∧ x.i ≤ 32767) (ha : Wd a) :
    Calls Try.prog 29 #[.pointer (some ⟨b, 0, none⟩), .agg #[.int .i64 x.o, .int .i64 x.a, .int .i64 x.b, .int .i64 x.c, .int .i64 x.i], .int .i64 here, .agg #[.int .i64 a, .int .i64 bb, .int .i64 c, .int .i64 d]] W fun e W' => e = .returned (.tuple #[]) ∧ IsQ iv A W' b bm g cv X (leaveP x here a bb p) ∧ Kept (MutP A.heap.size) W W' := by
  obtain ⟨o, xa, xb, xc, i⟩ := x
  dsimp only at *
  have e1 : (W.alloc (insB o xa xb xc i)).heap.size = W.heap.size + 1 := by simp
  have hB : Bel W ((W.alloc (insB o xa xb xc i)).alloc (opsB a bb c d)) := ((Bel.refl W).alloc _).alloc _
  have HX := hidm (heap_old (o := opsB a bb c d) (heap_new W (insB o xa xb xc i)))
  have hy := heap_new (W.alloc (insB o xa xb xc i)) (opsB a bb c d)
  rw [e1] at hy
  have HY := hidm hy
  have h2 := h.stay hB
  have HT := hidm (fun w => target_any ⟨o, xa, xb, xc, i⟩ here a bb c d w hh hi)
  have hto : Wd (toP ⟨o, xa, xb, xc, i⟩ here a bb) := by
    unfold toP
    dsimp only
    split
    · unfold Wd; omega
    · split
      · exact ha
      · unfold Wd; omega
  unfold leaveP
  dsimp only at HT
  generalize toP ⟨o, xa, xb, xc, i⟩ here a bb = to at *
  generalize takenP ⟨o, xa, xb, xc, i⟩ a bb = tk at *
  unfold linkP
  have H2 := hidm h2
  have HB := hidm hB
  dsimp only
  by_cases h18 : o = 18
  · rw [if_pos h18]
    subst h18
    have HW := hidm (pwrite_any h2 ⟨18, xa, xb, xc, i⟩ (here + 2) (by unfold Wd; omega))
    dsimp only at HW
    clear h h2 hB e1 hy
    cases tk
    · rw [if_neg (by decide)]
      go_enter Try.func29, Try.ntmps29
      go_wp2_with (first
        | (go_at_call 47; refine (Hid.out HW).mono ?_; rintro e w2 ⟨rfl, q1, q2⟩; have hx2 := insP_kept q2 (Hid.out HX); have hy2 := opsB_kept q2 (Hid.out HY); obtain ⟨d0, d1, d2, d3, d4⟩ := insB_cells hx2; obtain ⟨k0, k1, k2, k3⟩ := opsB_cells hy2; have HX2 := hidm hx2; have HY2 := hidm hy2; clear hx2 hy2)
        | (go_at_call 48; refine (Hid.out HT _).mono ?_; rintro e w3 ⟨rfl, hB3⟩))
      go_end0
      exact ⟨rfl, q1.stay hB3, ((Kept.of_bel (Hid.out HB)).trans q2).trans (Kept.of_bel hB3)⟩
    · rw [if_pos rfl]
      go_enter Try.func29, Try.ntmps29
      go_wp2_with (first
        | (go_at_call 47; refine (Hid.out HW).mono ?_; rintro e w2 ⟨rfl, q1, q2⟩; have hx2 := insP_kept q2 (Hid.out HX); have hy2 := opsB_kept q2 (Hid.out HY); obtain ⟨d0, d1, d2, d3, d4⟩ := insB_cells hx2; obtain ⟨k0, k1, k2, k3⟩ := opsB_cells hy2; have HX2 := hidm hx2; have HY2 := hidm hy2; clear hx2 hy2)
        | (go_at_call 48; refine (Hid.out HT _).mono ?_; rintro e w3 ⟨rfl, hB3⟩; have q3 := q1.stay hB3; have t1 := q3.tailAt.2.2.2; have f1 := q3.fz 37; have HS := hidm (q3.setNext to hto); clear q3))
      go_end0
      exact ⟨rfl, (Hid.out HS).1, (((Kept.of_bel (Hid.out HB)).trans q2).trans (Kept.of_bel hB3)).trans (Hid.out HS).2⟩
  · rw [if_neg h18]
    have h18' : (o == 18) = false := by simpa using h18
    clear h h2 hB e1 hy h18
    cases tk
    · rw [if_neg (by decide)]
      go_enter Try.func29, Try.ntmps29
      go_wp2_with (first
        | (go_at_call 48; refine (Hid.out HT _).mono ?_; rintro e w3 ⟨rfl, hB3⟩))
      go_end0
      exact ⟨rfl, (Hid.out H2).stay hB3, (Kept.of_bel (Hid.out HB)).trans (Kept.of_bel hB3)⟩
    · rw [if_pos rfl]
      go_enter Try.func29, Try.ntmps29
      go_wp2_with (first
        | (go_at_call 48; refine (Hid.out HT _).mono ?_; rintro e w3 ⟨rfl, hB3⟩; have q3 := (Hid.out H2).stay hB3; have t1 := q3.tailAt.2.2.2; have f1 := q3.fz 37; have HS := hidm (q3.setNext to hto); clear q3))
      go_end0
      exact ⟨rfl, (Hid.out HS).1, ((Kept.of_bel (Hid.out HB)).trans (Kept.of_bel hB3)).trans (Hid.out HS).2⟩
end
end Go.Proofs.Ythkhlkcdhalkfaa
namespace Go.Proofs.Ythkhlkcdhalkfaa
set_option maxRecDepth 20000
set_option linter.unusedVariables false
open Go.ChangeShapes Go.WideShapes Go.ChangeAt Go.RowKit

section
variable {A W W' : World} {b bm g : Nat} {cv iv : Value} {X : List Ins} {p : Pt}
theorem pload_any (h : IsQ iv A W b bm g cv X p) (x : Ins) (z : Int) :
    Calls Try.prog 51 #[.pointer (some ⟨b, 0, none⟩), .agg #[.int .i64 x.o, .int .i64 x.a, .int .i64 x.b, .int .i64 x.c, .int .i64 x.i], .int .i64 z] W fun e W' => e = .returned (.int .i64 (loadP x z p).1) ∧ IsQ iv A W' b bm g cv X (loadP x z p).2 ∧ Kept (MutP A.heap.size) W W' := by
  have hB : Bel W (W.alloc (insB x.o x.a x.b x.c x.i)) := (Bel.refl W).alloc _
  have h1 := h.stay hB
  have c1 := h.codeAt.2
  have lb := h.lt
  have hl := load_gen h1.isM z
  unfold insB at hl
  have HW := hidm (pwrite_any h1 x (getM p.st.mem z) (get_wd h1.ok.ok.cells z))
  have H1 := hidm h1
  unfold loadP
  by_cases hz : inM p.st.mem z = true
  · rw [if_pos hz]
    rw [hz] at hl
    have HL := hidm hl
    clear hl hz h1 h hB
    go_enter Try.func51, Try.ntmps51
    go_wp2_with (first
      | (go_at_call 74; refine (Hid.out HL).mono ?_; rintro e w' ⟨rfl, rfl⟩)
      | (go_at_call 47; refine (Hid.out HW).mono ?_; rintro e w' ⟨rfl, q1, q2⟩))
    go_ret
    exact ⟨rfl, q1, (Kept.alloc _ _ _).trans q2⟩
  · rw [if_neg hz]
    rw [show inM p.st.mem z = false by simpa using hz] at hl
    have HL := hidm hl
    clear hl hz h1 h hB
    go_enter Try.func51, Try.ntmps51
    go_wp2_with (first
      | (go_at_call 74; refine (Hid.out HL).mono ?_; rintro e w' ⟨rfl, rfl⟩))
    go_ret
    exact ⟨rfl, Hid.out H1, Kept.alloc _ _ _⟩
theorem IsQ.stored (h : IsQ iv A W b bm g cv X p) (z v : Int) (hm : IsM A.heap.size W' bm g (putM p.st.mem z v)) (hk : Kept (fun j _ => j = g) W W') :
    IsQ iv A W' b bm g cv X { p with st := { p.st with mem := putM p.st.mem z v } } ∧ Kept (MutP A.heap.size) W W' := by
  obtain ⟨ov, h⟩ := h
  obtain ⟨n1, n2⟩ := h.bne
  have hk2 : Kept (MutP A.heap.size) W W' := hk.mono (fun k o ho e => by subst e; exact mutP_row h.mem.row h.mem.lowg o ho)
  refine ⟨⟨ov, hk.block b _ h.box n2.symm, h.low, hm, h.code, h.inp, row_kept h.out hk (fun k c f e1 e2 => h.apart (by rw [e1, e2])), h.apart, keptP_bel h.bel hk2, ok_memP h.ok z v, ?_, h.leno⟩, hk2⟩
  show (putM p.st.mem z v).length ≤ 32000
  rw [put_len]; exact h.lenm
theorem pstore_any (h : IsQ iv A W b bm g cv X p) (z v : Int) :
    Calls Try.prog 53 #[.pointer (some ⟨b, 0, none⟩), .int .i64 z, .int .i64 v] W fun e W' => e = .returned (.int .i64 (storeP z v p).1) ∧ IsQ iv A W' b bm g cv X (storeP z v p).2 ∧ Kept (MutP A.heap.size) W W' := by
  have c1 := h.codeAt.2
  have hl := store_gen h.isM z v
  unfold storeP
  by_cases hz : inM p.st.mem z = true
  · rw [if_pos hz]
    rw [hz] at hl
    have HL := hidm hl
    clear hl hz
    go_enter Try.func53, Try.ntmps53
    go_wp2_with (first
      | (go_at_call 75; refine (Hid.out HL).mono ?_; rintro e w' ⟨rfl, q1, q2⟩))
    go_ret
    obtain ⟨r1, r2⟩ := h.stored z v q1 q2
    exact ⟨rfl, r1, r2⟩
  · rw [if_neg hz]
    have hz' : inM p.st.mem z = false := by simpa using hz
    have hp : putM p.st.mem z v = p.st.mem := by unfold putM; rw [if_neg hz]
    rw [hz'] at hl
    have HL := hidm hl
    clear hl hz hz'
    have HP := hidm hp
    clear hp
    go_enter Try.func53, Try.ntmps53
    go_wp2_with (first
      | (go_at_call 75; refine (Hid.out HL).mono ?_; rintro e w' ⟨rfl, q1, q2⟩))
    go_ret
    obtain ⟨r1, r2⟩ := h.stored z v q1 q2
    rw [Hid.out HP] at r1
    exact ⟨rfl, r1, r2⟩
theorem take_nil (h : IsQ iv A W b bm g cv X p) (x : Ins) (hi : p.st.inp = []) :
    Calls Try.prog 76 #[.pointer (some ⟨b, 0, none⟩), .agg #[.int .i64 x.o, .int .i64 x.a, .int .i64 x.b, .int .i64 x.c, .int .i64 x.i]] W fun e W' => e = .returned (.int .i64 6) ∧ Bel W W' := by
  have lb := h.lt
  obtain ⟨ov, h⟩ := h
  obtain ⟨ao, cap, rfl, hc, hr⟩ := h.inp
  have c1 : W.cell? ⟨b, 38, none⟩ = some (.slice ao p.st.inp.length cap) := by rw [cell_of h.box]; exact boxP_at h.ok.ok.len 4
  rw [hi] at c1
  clear h
  go_enter Try.func76, Try.ntmps76
  go_wp2
  go_ret
  exact ⟨rfl, (Bel.refl W).alloc _⟩
theorem IsP.putInp {A W : World} {b bm g : Nat} {cv iv ov iv' : Value} {X : List Ins} {p : Pt} {r : List Int} (h : IsP A W b bm g cv iv ov X p) (hi : IntsC A iv' r) : IsP A (W.setCell ⟨b, 38, none⟩ iv') b bm g cv iv' ov X { p with st := { p.st with inp := r } } ∧ Kept (MutP A.heap.size) W (W.setCell ⟨b, 38, none⟩ iv') :=
  h.put (p' := { p with st := { p.st with inp := r } }) ((heap_set_same h.box).trans (by rw [boxP, boxP_set _ h.ok.ok.len 4]; rfl)) (kept_one _ _ _ _) rfl rfl hi (ok_inpP h.ok r)
theorem writeP_inp (x : Ins) (v : Int) (p : Pt) : (writeP x v p).st.inp = p.st.inp := by unfold writeP setP; split <;> rfl
set_option maxHeartbeats 1000000 in
theorem take_cons (h : IsQ iv A W b bm g cv X p) (x : Ins) (n : Int) (r : List Int) (hi : p.st.inp = n :: r) :
    Calls Try.prog 76 #[.pointer (some ⟨b, 0, none⟩), .agg #[.int .i64 x.o, .int .i64 x.a, .int .i64 x.b, .int .i64 x.c, .int .i64 x.i]] W fun e W' => e = .returned (.int .i64 0) ∧ (∃ iv', IsQ iv' A W' b bm g cv X { writeP x (wrap32 n) p with st := { (writeP x (wrap32 n) p).st with inp := r } }) ∧ Kept (MutP A.heap.size) W W' := by
  have hB : Bel W (W.alloc (insB x.o x.a x.b x.c x.i)) := (Bel.refl W).alloc _
  have hx := heap_new W (insB x.o x.a x.b x.c x.i)
  have h1 := h.stay hB
  have HW := hidm (pwrite_any (h1.stay ((Bel.refl _).drew)) x (wrap32 n) (wd_wrap n))
  have hwi := writeP_inp x (wrap32 n) p
  rw [hi] at hwi
  have HWI := hidm hwi
  have HK : Hid (Kept (MutP A.heap.size) W (W.alloc (insB x.o x.a x.b x.c x.i))) := hidm (Kept.alloc _ _ _)
  have HA := hidm h1.bel
  have HX := hidm hx
  have lb := h.lt
  obtain ⟨ov, h0⟩ := h
  obtain ⟨ao, cap, rfl, hc, hr⟩ := h0.inp
  have c1 : W.cell? ⟨b, 38, none⟩ = some (.slice ao p.st.inp.length cap) := by rw [cell_of h0.box]; exact boxP_at h0.ok.ok.len 4
  obtain ⟨b0, o0, rfl, hb0, hcell⟩ := hr (by rw [hi]; simp)
  have e1 := hcell 0 (by rw [hi]; simp)
  have HC := hidm hcell
  rw [hi] at HC hc
  rw [hi] at e1
  simp only [List.getElem?_cons_zero, Option.getD_some, Nat.add_zero] at e1
  have HE := hidm e1
  rw [← (bcell h0.bel).1 _ _ hb0] at e1
  have hb1 : b0 < W.heap.size := Nat.lt_of_lt_of_le hb0 h0.bel.size
  rw [hi] at c1
  simp only [List.length_cons] at c1 hc
  have HI := hidm hi
  clear hr hcell h1 h0 hi hwi hB hx
  go_enter Try.func76, Try.ntmps76
  go_wp2_with fail
  go_region_held3 (fun w' => w'.cell? ⟨W.heap.size, 0, none⟩ = some (.int .i64 x.o) ∧ w'.cell? ⟨W.heap.size, 1, none⟩ = some (.int .i64 x.a) ∧ w'.cell? ⟨W.heap.size, 2, none⟩ = some (.int .i64 x.b) ∧ w'.cell? ⟨W.heap.size, 3, none⟩ = some (.int .i64 x.c) ∧ w'.cell? ⟨W.heap.size, 4, none⟩ = some (.int .i64 x.i) ∧ w'.cell? ⟨b, 38, none⟩ = some (.slice (some ⟨b0, o0, none⟩) (r.length + 1) cap) ∧ w'.cell? ⟨b0, o0, none⟩ = some (.int .i64 n)) (go_keep) (first
    | (go_at_call 50; refine (wrap_any _ _).mono ?_; rintro e w' ⟨rfl, rfl⟩)
    | (go_at_call 47; refine (Hid.out HW).mono ?_; rintro e w2 ⟨rfl, q1, q2⟩; obtain ⟨d0, d1, d2, d3, d4⟩ := insB_cells (insP_kept ((Kept.drew _ _).trans q2) (Hid.out HX)); have hb2 : b0 < (W.alloc (insB x.o x.a x.b x.c x.i)).heap.size := (by simp; omega); have c2 : w2.cell? ⟨b, 38, none⟩ = some (.slice (some ⟨b0, o0, none⟩) (r.length + 1) cap) := (by obtain ⟨ov2, q⟩ := q1; rw [cell_of q.box]; exact (boxP_at q.ok.ok.len 4).trans (by rw [Hid.out HI]; rfl)); have e2 := (((bcell (keptP_bel (Hid.out HA) ((Kept.drew _ _).trans q2))).1 b0 o0 hb0).trans (Hid.out HE)); have f2 := q1.fz 38))
  go_wp2
  all_goals
    go_ret
    obtain ⟨ov2, q⟩ := q1
    refine ⟨rfl, ⟨_, ov2, (q.putInp ?_).1⟩, ((Hid.out HK).trans ((Kept.drew _ _).trans q2)).trans (q.putInp (r := r) ?_).2⟩
    all_goals exact IntsC.tail (Hid.out HC) hb0 _ (by omega) _ (fun hn => by first | rfl | (exfalso; omega))
end
end Go.Proofs.Ythkhlkcdhalkfaa
namespace Go.Proofs.Ythkhlkcdhalkfaa
set_option maxRecDepth 20000
set_option linter.unusedVariables false
open Go.ChangeShapes Go.WideShapes Go.ChangeAt Go.RowKit

section
variable {A W W' : World} {b bm g : Nat} {cv iv : Value} {X : List Ins} {p : Pt}
theorem tell_full (h : IsQ iv A W b bm g cv X p) (x : Int) (hf : 10000 ≤ p.st.out.length) :
    Calls Try.prog 77 #[.pointer (some ⟨b, 0, none⟩), .int .i64 x] W fun e W' => e = .returned (.int .i64 9) ∧ W' = W := by
  obtain ⟨ov, h⟩ := h
  obtain ⟨ao, cap, e, hc, hr⟩ : ∃ ao cap, ov = .slice ao p.st.out.length cap ∧ True ∧ True := by
    rcases h.out.2 with ⟨rfl, e⟩ | ⟨g, cap, cur, rfl, _⟩
    · exact ⟨none, 0, by rw [e], trivial, trivial⟩
    · exact ⟨_, _, rfl, trivial, trivial⟩
  have c1 : W.cell? ⟨b, 39, none⟩ = some ov := by rw [cell_of h.box]; exact boxP_at h.ok.ok.len 5
  rw [e] at c1
  have hf' : (10000 : Int) ≤ p.st.out.length := by omega
  go_enter Try.func77, Try.ntmps77
  go_wp2
  go_ret
  exact ⟨rfl, rfl⟩
theorem IsP.told {A W W' : World} {b bm g : Nat} {cv iv ov : Value} {X : List Ins} {p : Pt} (h : IsP A W b bm g cv iv ov X p) (x : Int) (u : Obj) (g' cap H : Nat) (hH : H = W.heap.size + 1)
    (hown : W'.ownsRow A.heap.size 3 1 (.slice (some ⟨g', 0, none⟩) (p.st.out.length + 1) cap) (p.st.out.length + 1) (p.st.out.map (Value.int .i64) ++ [.int .i64 x])) (hg : (W.alloc u).grownBy W' ov.ownBlock) (hat : ov.ownBlock = some g' ∨ g' = H) (hl : p.st.out.length < 10000) :
    IsP A (W'.setCell ⟨b, 39, none⟩ (.slice (some ⟨g', 0, none⟩) (p.st.out.length + 1) cap)) b bm g cv iv (.slice (some ⟨g', 0, none⟩) (p.st.out.length + 1) cap) X { p with st := { p.st with out := p.st.out ++ [x] } } ∧ Kept (MutP A.heap.size) W (W'.setCell ⟨b, 39, none⟩ (.slice (some ⟨g', 0, none⟩) (p.st.out.length + 1) cap)) := by
  have hrow : ∀ k, ov.ownBlock = some k → (A.heap.size ≤ k ∧ k < W.heap.size) ∧ ∃ c f, W.heap[k]? = some (.cells c 3 f) := by
    intro k hk
    refine ⟨⟨(h.out.lt k hk).1, (h.out.lt k hk).2⟩, ?_⟩
    rcases h.out.2 with ⟨rfl, e⟩ | ⟨g, cap, cur, rfl, _, hg, _⟩
    · cases hk
    · injection hk with hk
      subst hk
      exact ⟨_, _, hg⟩
  have hkeep : ∀ k o, W.heap[k]? = some o → ov.ownBlock ≠ some k → W'.heap[k]? = some o := fun k o hk hn =>
    (hg.block k (by have := lt_of_heap hk; simp; omega) (fun e => hn e.symm)).trans (heap_old hk)
  have hbne : ov.ownBlock ≠ some b := by
    intro e
    obtain ⟨_, c, f, e2⟩ := hrow b e
    rw [h.box] at e2
    injection e2 with e2
    injection e2 with _ e2 _
    exact absurd e2 (by decide)
  have hbmne : ov.ownBlock ≠ some bm := by
    intro e
    obtain ⟨_, c, f, e2⟩ := hrow bm e
    rw [h.mem.box] at e2
    injection e2 with e2
    injection e2 with _ e2 _
    exact absurd e2 (by decide)
  obtain ⟨n1, n2⟩ := h.bne
  have lb := lt_of_heap h.box
  have lg := lt_of_heap h.mem.row
  have hb' := hkeep b _ h.box hbne
  have hgne : g' ≠ g := by
    rcases hat with e | e
    · intro e2; rw [e2] at e; exact h.apart e
    · omega
  have hgb : g' ≠ b := by
    rcases hat with e | e
    · intro e2; rw [e2] at e; exact hbne e
    · omega
  have hK : Kept (MutP A.heap.size) W W' := (Kept.alloc _ _ u).trans (Kept.grown hg (fun k o hk ho => by
    obtain ⟨⟨a1, a2⟩, c, f, e⟩ := hrow k hk
    exact mutP_row (heap_old e) a1 o ho))
  have hK2 : Kept (MutP A.heap.size) W (W'.setCell ⟨b, 39, none⟩ (.slice (some ⟨g', 0, none⟩) (p.st.out.length + 1) cap)) := hK.trans (Kept.setCell _ _ ⟨b, 39, none⟩ _ (fun o ho => by
    rw [hb'] at ho
    injection ho with ho
    subst ho
    exact ⟨h.low, .inl rfl⟩))
  refine ⟨⟨(heap_set_same hb').trans (by rw [boxP, boxP_set _ h.ok.ok.len 5]; rfl), h.low, ⟨?_, ?_, h.mem.low, h.mem.lowg⟩, h.code, h.inp, ?_, ?_, keptP_bel h.bel hK2, ok_outP h.ok _, h.lenm, ?_⟩, hK2⟩
  · rw [heap_set_other n1]; exact hkeep bm _ h.mem.box hbmne
  · rw [heap_set_other n2]; exact hkeep g _ h.mem.row h.apart
  · have e1 : (p.st.out ++ [x]).length = p.st.out.length + 1 := by simp
    have e2 : (p.st.out ++ [x]).map (Value.int .i64) = p.st.out.map (Value.int .i64) ++ [.int .i64 x] := by simp
    show World.ownsRow _ _ _ _ _ (p.st.out ++ [x]).length ((p.st.out ++ [x]).map (Value.int .i64))
    rw [e1, e2]
    refine row_kept hown (Kept.setCell (fun k o => k = b) W' ⟨b, 39, none⟩ _ (fun o ho => rfl)) ?_
    rintro k c f hk e
    injection hk with hk
    rw [e] at hk
    exact hgb hk
  · intro e
    injection e with e
    exact hgne e
  · show (p.st.out ++ [x]).length ≤ 10000
    simp
    omega
set_option maxRecDepth 100000 in
set_option maxHeartbeats 2000000 in
theorem tell_any (h : IsQ iv A W b bm g cv X p) (x : Int) (hl : p.st.out.length < 10000) :
    Calls Try.prog 77 #[.pointer (some ⟨b, 0, none⟩), .int .i64 x] W fun e W' => e = .returned (.int .i64 0) ∧ IsQ iv A W' b bm g cv X { p with st := { p.st with out := p.st.out ++ [x] } } ∧ Kept (MutP A.heap.size) W W' := by
  obtain ⟨ov, h⟩ := h
  obtain ⟨i0, hi0, hz0, hz1, hz2⟩ := info_parts intInfo
  have c1 : W.cell? ⟨b, 39, none⟩ = some ov := by rw [cell_of h.box]; exact boxP_at h.ok.ok.len 5
  have f1 := frozen_of h.box 39
  obtain ⟨ao, cap, e⟩ : ∃ ao cap, ov = .slice ao p.st.out.length cap := by
    rcases h.out.2 with ⟨rfl, e⟩ | ⟨g, cap, cur, rfl, _⟩
    · exact ⟨none, 0, by rw [e]⟩
    · exact ⟨_, _, rfl⟩
  have hown := h.out
  have hbs := h.bel.size
  have hbne : ov.ownBlock ≠ some b := by
    intro e
    rcases h.out.2 with ⟨rfl, _⟩ | ⟨g, cap, cur, rfl, _, hg, _⟩
    · cases e
    · injection e with e
      subst e
      rw [h.box] at hg
      injection hg with hg
      injection hg with _ hg _
      exact absurd hg (by decide)
  have lb := lt_of_heap h.box
  have nn := World.new_ne W ⟨b, 39, none⟩ c1
  have hlen := hl
  subst e
  have H := hidm h
  clear h
  have hl' : (p.st.out.length : Int) < 10000 := by omega
  go_enter Try.func77, Try.ntmps77
  go_wp2_with (first
    | (at_builtin; refine wpList_append_lies _ (by rfl) _ _ _ (by rfl) A.heap.size 3 i0 _ 1 8 Try.underlying23 hi0 hz0 hz1 hz2 rfl (by omega) _ _ _ (by rfl) (hown.alloc _)
        ⟨W.heap.size, 0, none⟩ 1 1 [.int .i64 x] (by rfl) (by rfl) (World.news_of_block (cs := #[.int .i64 x]) (t := 3) (fr := (0, 0)) (heap_alloc_new W _)) (by simp [Value.oneCell'])
        (by omega) (by unfold maxLen; omega) (by omega) (by simp; omega) (W.heap.size + 1) (by simp) ?_; intro gg cap1 w1 hown1 hgrow hat hlt; have hb1 := (hgrow.block b (by simp; omega) (Ne.symm hbne)).trans (heap_old (Hid.out H).box); have f2 := frozen_of hb1 39; have c2 := (cell_of hb1 39).trans (boxP_at (Hid.out H).ok.ok.len 5); clear hb1))
  all_goals
    go_ret
    obtain ⟨r1, r2⟩ := (Hid.out H).told x _ gg cap1 _ rfl hown1 hgrow hat hlen
    exact ⟨rfl, ⟨_, r1⟩, r2⟩
theorem psystem_any (h : IsQ iv A W b bm g cv X p) (x : Ins) (v : Int) :
    Calls Try.prog 55 #[.pointer (some ⟨b, 0, none⟩), .agg #[.int .i64 x.o, .int .i64 x.a, .int .i64 x.b, .int .i64 x.c, .int .i64 x.i], .int .i64 v] W fun e W' => e = .returned (.int .i64 (sysP x v p).1) ∧ (∃ iv', IsQ iv' A W' b bm g cv X (sysP x v p).2) ∧ Kept (MutP A.heap.size) W W' := by
  obtain ⟨o, xa, xb, xc, i⟩ := x
  have hB : Bel W (W.alloc (insB o xa xb xc i)) := (Bel.refl W).alloc _
  have h1 := h.stay hB
  unfold sysP takeP tellP
  dsimp only
  by_cases e1 : i = 1
  · subst e1
    rw [if_pos rfl]
    cases hi : p.st.inp with
    | nil =>
      have hr := hidm (take_nil h1 ⟨o, xa, xb, xc, 1⟩ hi)
      have H1 := hidm h1
      clear h h1 hi hB
      go_enter Try.func55, Try.ntmps55
      go_wp2_with (go_at_call 76; refine (Hid.out hr).mono ?_; rintro e w' ⟨rfl, hB'⟩)
      go_ret
      exact ⟨rfl, ⟨iv, (Hid.out H1).stay hB'⟩, (Kept.alloc _ _ _).trans (Kept.of_bel hB')⟩
    | cons n r =>
      have hr := hidm (take_cons h1 ⟨o, xa, xb, xc, 1⟩ n r hi)
      clear h h1 hi hB
      go_enter Try.func55, Try.ntmps55
      go_wp2_with (go_at_call 76; refine (Hid.out hr).mono ?_; rintro e w' ⟨rfl, q1, q2⟩)
      go_ret
      exact ⟨rfl, q1, (Kept.alloc _ _ _).trans q2⟩
  · rw [if_neg e1]
    have e1' : (i == 1) = false := by simpa using e1
    by_cases e2 : i = 2
    · subst e2
      rw [if_pos rfl]
      by_cases hf : 10000 ≤ p.st.out.length
      · rw [if_pos hf]
        have hr := tell_full h1 v hf
        unfold insB at hr
        have HR := hidm hr
        have H1 := hidm h1
        clear h h1 hB hr hf
        go_enter Try.func55, Try.ntmps55
        go_wp2_with (go_at_call 77; refine (Hid.out HR).mono ?_; rintro e w' ⟨rfl, rfl⟩)
        go_ret
        exact ⟨rfl, ⟨iv, Hid.out H1⟩, Kept.alloc _ _ _⟩
      · rw [if_neg hf]
        have HR := hidm (tell_any h1 v (by omega))
        clear h h1 hB hf
        go_enter Try.func55, Try.ntmps55
        go_wp2_with (go_at_call 77; refine (Hid.out HR).mono ?_; rintro e w' ⟨rfl, q1, q2⟩)
        go_ret
        exact ⟨rfl, ⟨iv, q1⟩, (Kept.alloc _ _ _).trans q2⟩
    · rw [if_neg e2]
      have e2' : (i == 2) = false := by simpa using e2
      have H1 := hidm h1
      clear h h1 hB e1 e2
      go_enter Try.func55, Try.ntmps55
      go_wp2
      go_ret
      exact ⟨rfl, ⟨iv, Hid.out H1⟩, Kept.alloc _ _ _⟩
end
end Go.Proofs.Ythkhlkcdhalkfaa
namespace Go.Proofs.Ythkhlkcdhalkfaa
set_option maxRecDepth 20000
set_option linter.unusedVariables false
open Go.ChangeShapes Go.WideShapes Go.ChangeAt Go.RowKit

section
variable {A W W' : World} {b bm g : Nat} {cv iv : Value} {X : List Ins} {p : Pt}
set_option maxRecDepth 20000 in
set_option maxHeartbeats 4000000 in
theorem act_any (h : IsQ iv A W b bm g cv X p) (x : Ins) (va vb vc vd : Int) :
    Calls Try.prog 32 #[.pointer (some ⟨b, 0, none⟩), .agg #[.int .i64 x.o, .int .i64 x.a, .int .i64 x.b, .int .i64 x.c, .int .i64 x.i], .agg #[.int .i64 va, .int .i64 vb, .int .i64 vc, .int .i64 vd]] W fun e W' => e = .returned (.int .i64 (actP x va vb vd p).1) ∧ (∃ iv', IsQ iv' A W' b bm g cv X (actP x va vb vd p).2) ∧ Kept (MutP A.heap.size) W W' := by
  obtain ⟨o, a, xb, xc, i⟩ := x
  dsimp only
  have e1 : (W.alloc (insB o a xb xc i)).heap.size = W.heap.size + 1 := by simp
  have hB : Bel W ((W.alloc (insB o a xb xc i)).alloc (opsB va vb vc vd)) := ((Bel.refl W).alloc _).alloc _
  have HK : Hid (Kept (MutP A.heap.size) W ((W.alloc (insB o a xb xc i)).alloc (opsB va vb vc vd))) := hidm (Kept.of_bel hB)
  have HX := hidm (heap_old (o := opsB va vb vc vd) (heap_new W (insB o a xb xc i)))
  have hy := heap_new (W.alloc (insB o a xb xc i)) (opsB va vb vc vd)
  rw [e1] at hy
  have HY := hidm hy
  have h1 := h.stay hB
  clear e1 hy h hB
  by_cases e12 : o = 12
  · subst e12
    rw [show actP ⟨12, a, xb, xc, i⟩ va vb vd p = loadP ⟨12, a, xb, xc, i⟩ (wrap32 (vb + i)) p from by simp [actP]]
    have hL := hidm (pload_any (h1.stay ((Bel.refl _).drew)) ⟨12, a, xb, xc, i⟩ (wrap32 (vb + i)))
    clear h1
    go_enter Try.func32, Try.ntmps32
    go_wp2_with fail
    go_region_held3 (fun w' => w'.cell? ⟨W.heap.size, 0, none⟩ = some (.int .i64 12) ∧ w'.cell? ⟨W.heap.size, 1, none⟩ = some (.int .i64 a) ∧ w'.cell? ⟨W.heap.size, 2, none⟩ = some (.int .i64 xb) ∧ w'.cell? ⟨W.heap.size, 3, none⟩ = some (.int .i64 xc) ∧ w'.cell? ⟨W.heap.size, 4, none⟩ = some (.int .i64 i) ∧ w'.cell? ⟨W.heap.size + 1, 1, none⟩ = some (.int .i64 vb)) (go_keep) (first
      | (go_at_call 52; refine (add_any _ _ _).mono ?_; rintro e w' ⟨rfl, rfl⟩)
      | (go_at_call 51; refine (Hid.out hL).mono ?_; rintro e w2 ⟨rfl, q1, q2⟩; obtain ⟨d0, d1, d2, d3, d4⟩ := insB_cells (insP_kept q2 (Hid.out HX)); obtain ⟨k0, k1, k2, k3⟩ := opsB_cells (opsB_kept q2 (Hid.out HY))))
    go_wp2
    go_ret
    exact ⟨rfl, ⟨iv, q1⟩, ((Hid.out HK).trans (Kept.drew _ _)).trans q2⟩
  by_cases e13 : o = 13
  · subst e13
    rw [show actP ⟨13, a, xb, xc, i⟩ va vb vd p = storeP (wrap32 (vb + i)) va p from by simp [actP]]
    have hL := hidm (pstore_any (h1.stay ((Bel.refl _).drew)) (wrap32 (vb + i)) va)
    clear h1
    go_enter Try.func32, Try.ntmps32
    go_wp2_with fail
    go_region_held3 (fun w' => w'.cell? ⟨W.heap.size, 4, none⟩ = some (.int .i64 i) ∧ w'.cell? ⟨W.heap.size + 1, 0, none⟩ = some (.int .i64 va) ∧ w'.cell? ⟨W.heap.size + 1, 1, none⟩ = some (.int .i64 vb)) (go_keep) (first
      | (go_at_call 52; refine (add_any _ _ _).mono ?_; rintro e w' ⟨rfl, rfl⟩)
      | (go_at_call 53; refine (Hid.out hL).mono ?_; rintro e w2 ⟨rfl, q1, q2⟩; obtain ⟨d0, d1, d2, d3, d4⟩ := insB_cells (insP_kept q2 (Hid.out HX)); obtain ⟨k0, k1, k2, k3⟩ := opsB_cells (opsB_kept q2 (Hid.out HY))))
    go_wp2
    go_ret
    exact ⟨rfl, ⟨iv, q1⟩, ((Hid.out HK).trans (Kept.drew _ _)).trans q2⟩
  by_cases e14 : o = 14
  · subst e14
    rw [show actP ⟨14, a, xb, xc, i⟩ va vb vd p = (chkT va i xb, p) from by simp [actP]]
    have H1 := hidm h1
    clear h1
    go_enter Try.func32, Try.ntmps32
    go_wp2_with (first
      | (go_at_call 54; refine (pcheck_any _ _ _ _).mono ?_; rintro e w' ⟨rfl, rfl⟩))
    go_ret
    exact ⟨rfl, ⟨iv, Hid.out H1⟩, Hid.out HK⟩
  by_cases e20 : o = 20
  · subst e20
    rw [show actP ⟨20, a, xb, xc, i⟩ va vb vd p = sysP ⟨20, a, xb, xc, i⟩ vd p from by simp [actP]]
    have hL := hidm (psystem_any h1 ⟨20, a, xb, xc, i⟩ vd)
    clear h1
    go_enter Try.func32, Try.ntmps32
    go_wp2_with (first
      | (go_at_call 55; refine (Hid.out hL).mono ?_; rintro e w2 ⟨rfl, q1, q2⟩))
    go_ret
    exact ⟨rfl, q1, (Hid.out HK).trans q2⟩
  rw [show actP ⟨o, a, xb, xc, i⟩ va vb vd p = (0, p) from by simp [actP, e12, e13, e14, e20]]
  have e12' : (o == 12) = false := by simpa using e12
  have e13' : (o == 13) = false := by simpa using e13
  have e14' : (o == 14) = false := by simpa using e14
  have e20' : (o == 20) = false := by simpa using e20
  have H1 := hidm h1
  clear h1 e12 e13 e14 e20
  go_enter Try.func32, Try.ntmps32
  go_wp2
  go_ret
  exact ⟨rfl, ⟨iv, Hid.out H1⟩, Hid.out HK⟩
end
end Go.Proofs.Ythkhlkcdhalkfaa
