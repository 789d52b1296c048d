/-
  A run of the machine of five stages.
-/
import Derived.Test.YthkhlkcdhalkfaaPl
import Derived.Test.YthkhlkcdhalkfaaRn
namespace Go.Proofs.Ythkhlkcdhalkfaa
set_option maxRecDepth 20000
set_option linter.unusedVariables false
open Go.ChangeShapes Go.WideShapes Go.ChangeAt Go.RowKit

def IsR8 (A : World) (W : World) (b bm g : Nat) (cv : Value) (X : List Ins) (p : Pt) : Prop := ∃ iv, IsQ iv A W b bm g cv X p
theorem IsR8.stay {A W W' : World} {b bm g : Nat} {cv : Value} {X : List Ins} {p : Pt} (h : IsR8 A W b bm g cv X p) (hb : Bel W W') : IsR8 A W' b bm g cv X p := by
  obtain ⟨iv, h⟩ := h
  exact ⟨iv, h.stay hb⟩
theorem IsR8.bel {A W : World} {b bm g : Nat} {cv : Value} {X : List Ins} {p : Pt} (h : IsR8 A W b bm g cv X p) : Bel A W := by
  obtain ⟨iv, h⟩ := h
  exact h.bel
theorem pstep_any {A W : World} {b bm g : Nat} {cv : Value} {X : List Ins} {p : Pt} (h : IsR8 A W b bm g cv X p) (hX : X.length ≤ 4096) :
    Calls Try.prog 19 #[.pointer (some ⟨b, 0, none⟩)] W fun e W' => e = .returned (.int .i64 (stepP X p).1) ∧ IsR8 A W' b bm g cv X (stepP X p).2 ∧ Kept (MutP A.heap.size) W W' := by
  obtain ⟨iv, h⟩ := h
  by_cases hp : p.st.place < 0 ∨ X.length ≤ p.st.place
  · refine (pstep_out h hp).mono ?_
    rintro e W' ⟨rfl, hB⟩
    unfold stepP
    rw [if_pos hp]
    exact ⟨rfl, ⟨iv, h.stay hB⟩, Kept.of_bel hB⟩
  · by_cases hr : (X.getD p.st.place.toNat Ins.zero).right = true
    · by_cases hg : 15 ≤ (X.getD p.st.place.toNat Ins.zero).o ∧ (X.getD p.st.place.toNat Ins.zero).o ≤ 19
      · exact pstep_goes h p.st.place.toNat (by omega) (by omega) hX hr hg
      · by_cases ho : 1 ≤ (X.getD p.st.place.toNat Ins.zero).o ∧ (X.getD p.st.place.toNat Ins.zero).o ≤ 11
        · exact pstep_reckons h p.st.place.toNat (by omega) (by omega) hX hr ho
        · exact pstep_acts h p.st.place.toNat (by omega) (by omega) hX hr hg ho
    · refine (pstep_wrong h p.st.place.toNat (by omega) (by omega) hr).mono ?_
      rintro e W' ⟨rfl, hB⟩
      unfold stepP
      rw [if_neg hp, if_neg hr]
      exact ⟨rfl, ⟨iv, h.stay hB⟩, Kept.of_bel hB⟩
theorem resP_kept {n₀ : Nat} {W W' : World} {k : Nat} {t n : Int} {o m : Value} (hk : Kept (MutP n₀) W W') (h : W.heap[k]? = some (resB t n o m)) : W'.heap[k]? = some (resB t n o m) := keptP_box hk h (by decide) (by decide)
theorem prun_badmem (X : List Ins) (v iv : Value) (z f : Int) (W : World) (hz : z < 0 ∨ 32000 < z) :
    Calls Try.prog 14 #[v, .int .i64 z, iv, .int .i64 f] W fun e W' => e = .returned (.agg #[.int .i64 0, .int .i64 0, .slice none 0 0, .slice none 0 0]) ∧ Bel W W' := by
  go_enter Try.func14, Try.ntmps14
  go_wp2_with (go_at_call 18; refine (new_none _ _ hz).mono ?_; rintro e w' ⟨rfl, rfl⟩)
  refine bodyPost_ret (v := .agg #[.int .i64 0, .int .i64 0, .slice none 0 0, .slice none 0 0]) (by simp [results, Try.results14, go_sem]) rfl ⟨rfl, ?_⟩
  repeat (first | exact Bel.refl _ | apply Bel.alloc | (refine Bel.setCell ?_ (by simp) _))
/-- A store in a box that is none of the machine's. -/
theorem IsR8.other {A W : World} {b bm g : Nat} {cv : Value} {X : List Ins} {p : Pt} (h : IsR8 A W b bm g cv X p) {k : Nat} {t n : Int} {o m : Value} (hk : W.heap[k]? = some (resB t n o m)) (hA : A.heap.size ≤ k) (j : Nat) (u : Value) : IsR8 A (W.setCell ⟨k, j, none⟩ u) b bm g cv X p := by
  obtain ⟨iv, ov, h⟩ := h
  have ne : ∀ {k' : Nat} {c : Array Value} {e : TypeId} {f : Nat × Nat}, W.heap[k']? = some (.cells c e f) → e ≠ 29 → k' ≠ k := by
    intro k' c e f hk' he heq
    subst heq
    rw [hk] at hk'
    injection hk' with hk'
    injection hk' with _ hk' _
    exact he hk'.symm
  refine ⟨iv, ov, (heap_set_other (ne h.box (by decide))).trans h.box, h.low, ⟨(heap_set_other (ne h.mem.box (by decide))).trans h.mem.box, (heap_set_other (ne h.mem.row (by decide))).trans h.mem.row, h.mem.low, h.mem.lowg⟩, h.code, h.inp, row_res h.out hk j u, h.apart, h.bel.setCell hA u, h.ok, h.lenm, h.leno⟩
theorem infoP : (Try.prog.info? 47).map (·.size) = some 40 := by kernel_rfl
/-- A new machine's cells. -/
def pcB (c m i : Value) (n : Int) : Array Value := (boxP c m ⟨⟨List.replicate 32 0, [], 0, [], []⟩, n, 0, 0⟩ i (.slice none 0 0)).toArray
def pcZ : Array Value := pcB (.slice none 0 0) (.pointer none) (.slice none 0 0) 0
theorem build_pc (ao : Option Addr) (n c : Nat) (p : Nat) (ai : Option Addr) (m ci : Nat) (w : World) : (Instr.build 47 #[(0, .slice ao n c), (1, .pointer (some ⟨p, 0, none⟩)), (6, .slice ai m ci), (5, .int .i64 1)]).run Try.prog w = .ok (.agg (pcB (.slice ao n c) (.pointer (some ⟨p, 0, none⟩)) (.slice ai m ci) 1)) w := by kernel_rfl
theorem alloc_pc (w : World) : (Instr.alloc 47 true (.tuple #[])).run Try.prog w = .ok (.pointer (some ⟨w.heap.size, 0, none⟩)) (w.alloc (.cells pcZ 47)) := by kernel_rfl
theorem pcB_one (ao : Option Addr) (n c : Nat) (p : Option Addr) (ai : Option Addr) (m ci : Nat) (x : Int) : (pcB (.slice ao n c) (.pointer p) (.slice ai m ci) x).all (·.oneCell') = true := by
  unfold pcB
  refine all_oneCell_toArray ?_
  intro v hv
  simp only [boxP, tailP, List.map_replicate, List.mem_cons, List.mem_append, List.mem_replicate, List.not_mem_nil, or_false] at hv
  rcases hv with rfl | rfl | ⟨_, rfl⟩ | rfl | rfl | rfl | rfl | rfl | rfl <;> rfl
theorem store_pc (ao : Option Addr) (n c : Nat) (p : Nat) (ai : Option Addr) (m ci : Nat) (w : World) : ∃ w2, (Instr.storeAt 47 (.pointer (some ⟨w.heap.size, 0, none⟩)) (.agg (pcB (.slice ao n c) (.pointer (some ⟨p, 0, none⟩)) (.slice ai m ci) 1))).run Try.prog (w.alloc (.cells pcZ 47)) = .ok () w2 ∧
    w2.heap[w.heap.size]? = some (.cells (pcB (.slice ao n c) (.pointer (some ⟨p, 0, none⟩)) (.slice ai m ci) 1) 47 (0, 0)) ∧ Bel w w2 ∧ w2.heap.size = w.heap.size + 1 := by
  have hn := heap_new w (.cells pcZ 47)
  refine ⟨_, run_storeAt_mid _ _ _ _ _ (there_all hn _ rfl) infoP (pcB_one _ _ _ _ _ _ _ _), ?_, ?_, ?_⟩
  · have := setCells_heap (b := w.heap.size) (e := 47) (f := (0, 0)) (pcB (.slice ao n c) (.pointer (some ⟨p, 0, none⟩)) (.slice ai m ci) 1).toList 0 (w.alloc (.cells pcZ 47)) pcZ.toList (by simpa using hn) (Nat.le_refl 40)
    rw [this]
    rfl
  · exact setCells_bel (Nat.le_refl _) _ _ _ ((Bel.refl w).alloc _)
  · rw [setCells_size]; simp
section
variable {ops : Array Oper} {rest : List Oper} {op : Oper} {a : Act} {w : World} {Q : Exit → Act → World → Prop}
theorem wpList_build_pc (hgd : op.guard = none) (x y z u : Operand) (ho : op.op = .build 47 #[(0, x), (1, y), (6, z), (5, u)]) (ao : Option Addr) (n c : Nat) (p : Nat) (ai : Option Addr) (m ci : Nat)
    (hx : a.eval x = .slice ao n c) (hy : a.eval y = .pointer (some ⟨p, 0, none⟩)) (hz : a.eval z = .slice ai m ci) (hu : a.eval u = .int .i64 1)
    (h : wpList Try.prog ops Q rest (a.put op.dst (.agg (pcB (.slice ao n c) (.pointer (some ⟨p, 0, none⟩)) (.slice ai m ci) 1))) w) : wpList Try.prog ops Q (op :: rest) a w :=
  wpList_plain hgd fun _ hK => by
    unfold Oper.wp execOp
    have e := build_pc ao n c p ai m ci w
    have e2 : (#[(0, x), (1, y), (6, z), (5, u)] : Array (Nat × Operand)).map (fun q => (q.1, a.eval q.2)) = #[(0, .slice ao n c), (1, .pointer (some ⟨p, 0, none⟩)), (6, .slice ai m ci), (5, .int .i64 1)] := by
      simp [hx, hy, hz, hu]
    simp only [ho, e2, e, Sem.run_bind, Sem.run_pure, Result.andThen_ok]
    exact hK _ _ h
theorem wpList_alloc_pc (hgd : op.guard = none) (ho : op.op = .alloc 47)
    (h : wpList Try.prog ops Q rest (a.put op.dst (.pointer (some ⟨w.heap.size, 0, none⟩))) (w.alloc (.cells pcZ 47))) : wpList Try.prog ops Q (op :: rest) a w :=
  wpList_plain hgd fun _ hK => by
    unfold Oper.wp execOp
    simp only [ho, alloc_pc w, Sem.run_bind, Sem.run_pure, Result.andThen_ok]
    exact hK _ _ h
theorem wpList_store_pc (hgd : op.guard = none) (x y : Operand) (ho : op.op = .store 47 x y) (ad : Value) (C : Array Value) (hx : a.eval x = ad) (hy : a.eval y = .agg C) (w2 : World)
    (hr : (Instr.storeAt 47 ad (.agg C)).run Try.prog w = .ok () w2) (h : wpList Try.prog ops Q rest (a.put op.dst undef) w2) : wpList Try.prog ops Q (op :: rest) a w :=
  wpList_plain hgd fun _ hK => by
    unfold Oper.wp execOp
    simp only [ho, hx, hy, hr, Sem.run_bind, Sem.run_pure, Result.andThen_ok]
    exact hK _ _ h
end
theorem runP_succ {X : List Ins} {s : Pt} {k : Nat} (h : (runP X s k).1 = 0) : runP X s (k + 1) = stepP X (runP X s k).2 := by
  show (if (runP X s k).1 = 0 then _ else _) = _
  rw [if_pos h]
end Go.Proofs.Ythkhlkcdhalkfaa
