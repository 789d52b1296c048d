/-
  The reference of layer 8: what its Step leaves; Writes, Goes; out of the code, wrong.
-/
import Derived.Test.YthkhlkcdhalkfaaRe3
import Derived.Test.YthkhlkcdhalkfaaPq
import Derived.Deep.RegionHeld3
namespace Go.Proofs.Ythkhlkcdhalkfaa
set_option maxRecDepth 20000
set_option linter.unusedVariables false
open Go.ChangeShapes Go.WideShapes Go.ChangeAt Go.RowKit

theorem insR_kept {n₀ : Nat} {W W' : World} {k : Nat} {o a b c i : Int} (hk : Kept (MutR n₀) W W') (h : W.heap[k]? = some (insB o a b c i)) : W'.heap[k]? = some (insB o a b c i) := keptR_box hk h (by decide) (by decide)
/-- A state's box. -/
def stB (b : Nat) (nx rg lt : Int) : Obj := .cells #[.pointer (some ⟨b, 0, none⟩), .int .i64 nx, .int .i64 rg, .int .i64 lt] 53
theorem stB_cells {W : World} {k b : Nat} {nx rg lt : Int} (h : W.heap[k]? = some (stB b nx rg lt)) : W.cell? ⟨k, 0, none⟩ = some (.pointer (some ⟨b, 0, none⟩)) ∧ W.cell? ⟨k, 1, none⟩ = some (.int .i64 nx) ∧ W.cell? ⟨k, 2, none⟩ = some (.int .i64 rg) ∧ W.cell? ⟨k, 3, none⟩ = some (.int .i64 lt) := ⟨cell_of h 0, cell_of h 1, cell_of h 2, cell_of h 3⟩
theorem stB_fz {W : World} {k b : Nat} {nx rg lt : Int} (h : W.heap[k]? = some (stB b nx rg lt)) (j : Nat) : W.frozen? ⟨k, j, none⟩ = false := frozen_of h j
theorem stB_kept {n₀ : Nat} {W W' : World} {k b : Nat} {nx rg lt : Int} (hk : Kept (MutR n₀) W W') (h : W.heap[k]? = some (stB b nx rg lt)) : W'.heap[k]? = some (stB b nx rg lt) := keptR_box hk h (by decide) (by decide)
/-- The zero state's box: what a result is ahead of its return. -/
def stZ : Obj := .cells #[.pointer none, .int .i64 0, .int .i64 0, .int .i64 0] 53
/-- What a step leaves. -/
def AfterQ (A W W' : World) (b gr gm : Nat) (I : List Int) (r : Int × Pt) (rd : Nat) (nx rg lt : Int) : Prop :=
  (∃ ov' rd', IsR A W' b gr gm ov' I r.2.st rd' r.1 ∧ rd' ≤ rd + 1) ∧ (r.1 = 0 → nx = r.2.next ∧ rg = r.2.lr ∧ (r.2.lr ≠ 0 → lt = r.2.lv)) ∧ Kept (MutR A.heap.size) W W'
set_option maxHeartbeats 1000000 in
theorem refWrites_any (op a b c imm : Int) (w : World) :
    Calls Try.prog 36 #[.agg #[.int .i64 op, .int .i64 a, .int .i64 b, .int .i64 c, .int .i64 imm]] w fun e w' => e = .returned (.int .i64 (wr1 op a b c imm)) ∧ Bel w w' := by
  cases hr : rightB op a b c imm
  · rw [show wr1 op a b c imm = 0 from by simp [wr1, hr]]
    go_enter Try.func36, Try.ntmps36
    go_wp2_with (go_at_call 35; refine (refRight_any _ _ _ _ _ _).mono ?_; rintro e w1 ⟨rfl, hg1⟩)
    go_ret
    exact ⟨rfl, btrans ((Bel.refl w).alloc _) hg1⟩
  · rw [show wr1 op a b c imm = wA op a imm from by simp [wr1, hr]]
    go_enter Try.func36, Try.ntmps36
    go_wp2_with (go_at_call 35; refine (refRight_any _ _ _ _ _ _).mono ?_; rintro e w1 ⟨rfl, hg1⟩; obtain ⟨hc, hf⟩ := bcell hg1; have hz : w.heap.size < w1.heap.size := (by have := hg1.size; simp at this; omega))
    all_goals
      go_ret
      refine ⟨ret_int ?_, btrans ((Bel.refl w).alloc _) hg1⟩
      (try simp only [beq_iff_eq, beq_eq_false_iff_ne, ne_eq] at *)
      unfold wA sW
      omega
set_option maxHeartbeats 1000000 in
theorem refGoes_any (op a b c imm : Int) (w : World) :
    Calls Try.prog 37 #[.agg #[.int .i64 op, .int .i64 a, .int .i64 b, .int .i64 c, .int .i64 imm]] w fun e w' => e = .returned (.bool (goesB op a b c imm)) ∧ Bel w w' := by
  cases hr : rightB op a b c imm
  all_goals
    go_enter Try.func37, Try.ntmps37
    go_wp2_with (go_at_call 35; refine (refRight_any _ _ _ _ _ _).mono ?_; rintro e w1 ⟨rfl, hg1⟩; obtain ⟨hc, hf⟩ := bcell hg1; have hz : w.heap.size < w1.heap.size := (by have := hg1.size; simp at this; omega))
    all_goals
      go_ret
      refine ⟨ret_bool ?_, btrans ((Bel.refl w).alloc _) hg1⟩
      unfold goesB
      rw [Bool.eq_iff_iff]; simp_all <;> omega
/-- A store in a state's box. -/
theorem IsR.far {A W : World} {b gr gm : Nat} {ov : Value} {I : List Int} {s : St} {rd : Nat} {t : Int} (h : IsR A W b gr gm ov I s rd t) {k : Nat} {c : Array Value} (hk : W.heap[k]? = some (.cells c 53 (0, 0))) (hA : A.heap.size ≤ k) (j : Nat) (u : Value) : IsR A (W.setCell ⟨k, j, none⟩ u) b gr gm ov I s rd t ∧ (W.setCell ⟨k, j, none⟩ u).heap[k]? = some (.cells (c.setIfInBounds j u) 53 (0, 0)) := by
  have ne : ∀ {k' : Nat} {c' : Array Value} {e : TypeId} {f : Nat × Nat}, W.heap[k']? = some (.cells c' e f) → e ≠ 53 → k' ≠ k := by
    intro k' c' e f hk' he heq
    subst heq
    rw [hk] at hk'
    injection hk' with hk'
    injection hk' with _ hk' _
    exact he hk'.symm
  refine ⟨⟨(heap_set_other (ne h.box (by decide))).trans h.box, (heap_set_other (ne h.rr (by decide))).trans h.rr, (heap_set_other (ne h.rm (by decide))).trans h.rm, h.low, h.lowr, h.lowm, h.ne, row_own h.out ?_ j u, h.apr, h.apm, h.bel.setCell hA u, h.ok, h.lenm, h.leno, h.inp⟩, heap_set_same hk⟩
  intro e
  rcases h.out.2 with ⟨e1, _⟩ | ⟨g', cap, cur, e1, _, hg, _⟩
  · rw [e1] at e; cases e
  · rw [e1] at e
    injection e with e
    exact ne hg (by decide) e
theorem keptR_new {S : Nat → Obj → Prop} {W w : World} (h : Kept S W w) {k : Nat} (hk : W.heap.size ≤ k) (j : Nat) (u : Value) : Kept S W (w.setCell ⟨k, j, none⟩ u) := by
  have hs := Kept.setCell (fun k' _ => k' = k) w ⟨k, j, none⟩ u (fun _ _ => rfl)
  refine ⟨hs.os.trans h.os, hs.tape.trans h.tape, hs.output.trans h.output, Nat.le_trans h.size hs.size, fun k' o ho hn => ?_⟩
  have hl := lt_of_heap ho
  exact (heap_set_other (by omega)).trans (h.block k' o ho hn)
/-- The result is laid into its box. -/
theorem qend {A W w : World} {b gr gm kz : Nat} {ov : Value} {I : List Int} {r : Int × Pt} {rd rd' : Nat} {nx rg lt : Int} {c : Array Value} (h : IsR A w b gr gm ov I r.2.st rd' r.1) (hz : w.heap[kz]? = some (.cells c 53 (0, 0))) (hA : A.heap.size ≤ W.heap.size) (hkz : W.heap.size ≤ kz) (hK : Kept (MutR A.heap.size) W w) (hrd : rd' ≤ rd + 1) (hx : r.1 = 0 → nx = r.2.next ∧ rg = r.2.lr ∧ (r.2.lr ≠ 0 → lt = r.2.lv)) (u0 u1 u2 u3 : Value) :
    AfterQ A W ((((w.setCell ⟨kz, 0, none⟩ u0).setCell ⟨kz, 1, none⟩ u1).setCell ⟨kz, 2, none⟩ u2).setCell ⟨kz, 3, none⟩ u3) b gr gm I r rd nx rg lt := by
  obtain ⟨h1, z1⟩ := h.far hz (by omega) 0 u0
  obtain ⟨h2, z2⟩ := h1.far z1 (by omega) 1 u1
  obtain ⟨h3, z3⟩ := h2.far z2 (by omega) 2 u2
  obtain ⟨h4, z4⟩ := h3.far z3 (by omega) 3 u3
  exact ⟨⟨ov, rd', h4, hrd⟩, hx, keptR_new (keptR_new (keptR_new (keptR_new hK hkz 0 u0) hkz 1 u1) hkz 2 u2) hkz 3 u3⟩
section
variable {A W : World} {b gr gm : Nat} {ov : Value} {I : List Int} {p : Pt} {rd : Nat} {nx rg lt : Int}
set_option maxHeartbeats 2000000 in
theorem qstep_out (h : IsR A W b gr gm ov I p.st rd 0) (X : List Ins) (ao : Option Addr) (c : Nat) (iv : Value) (hp : p.st.place < 0 ∨ X.length ≤ p.st.place) :
    Calls Try.prog 22 #[.agg #[.pointer (some ⟨b, 0, none⟩), .int .i64 nx, .int .i64 rg, .int .i64 lt], .slice ao X.length c, iv] W fun e W' => ∃ nx' rg' lt', e = .returned (.agg #[.pointer (some ⟨b, 0, none⟩), .int .i64 nx', .int .i64 rg', .int .i64 lt']) ∧ AfterQ A W W' b gr gm I (stepP X p) rd nx' rg' lt' := by
  have hst : stepP X p = (2, p) := by unfold stepP; rw [if_pos hp]
  rw [hst]
  obtain ⟨c0, c1, c2, c3, c4, c5⟩ := refB_cells h.box
  have f5 := frozen_of h.box 5
  have lb := lt_of_heap h.box
  have HS := hidm (h.setBox 5 (.int .i64 2) p.st.place rd 2 p.st.inp h.inp rfl)
  clear hst c0 c1 c3 c4
  have hcase : p.st.place < 0 ∨ (0 ≤ p.st.place ∧ (X.length : Int) ≤ p.st.place) := by omega
  clear h hp
  rcases hcase with q | ⟨q, q2⟩
  all_goals
    go_enter Try.func22, Try.ntmps22
    go_wp2
    refine bodyPost_ret (v := .agg #[.pointer (some ⟨b, 0, none⟩), .int .i64 nx, .int .i64 rg, .int .i64 lt]) (by simp [results, Try.results22, go_sem]) rfl ⟨_, _, _, rfl, ⟨ov, rd, ?_, Nat.le_succ _⟩, fun h => absurd h (show ¬ ((2 : Int) = 0) by decide), ?_⟩
    · exact (Hid.out HS).1.stay (((Bel.refl _).alloc _).alloc _)
    · exact (Hid.out HS).2.trans (Kept.of_bel (((Bel.refl _).alloc _).alloc _))
end
end Go.Proofs.Ythkhlkcdhalkfaa
