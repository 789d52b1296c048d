/-
  A run of the machine.
-/
import Derived.Test.YthkhlkcdhalkfaaMc6
import Derived.Deep.MidRow
namespace Go.Proofs.Ythkhlkcdhalkfaa
set_option maxRecDepth 20000
set_option linter.unusedVariables false
open Go.ChangeShapes Go.WideShapes Go.ChangeAt Go.RowKit

theorem step_any {A W : World} {b bm g : Nat} {cv : Value} {X : List Ins} {s : St} (h : IsMc A W b bm g cv X s) (hX : X.length ≤ 4096) :
    Calls Try.prog 24 #[.pointer (some ⟨b, 0, none⟩)] W fun e W' => e = .returned (.int .i64 (stepM X s).1) ∧ IsMc A W' b bm g cv X (stepM X s).2 ∧ Kept (Mut A.heap.size) W W' := by
  by_cases hp : s.place < 0 ∨ X.length ≤ s.place
  · refine (step_out h hp).mono ?_
    rintro e W' ⟨rfl, hB⟩
    unfold stepM
    rw [if_pos hp]
    exact ⟨rfl, h.stay hB, Kept.of_bel hB⟩
  · exact step_in h s.place.toNat (by omega) (by omega) hX
/-- Behind how many words all are 0. -/
def endK : List Int → Nat
  | [] => 0
  | x :: l => if endK l = 0 then (if x = 0 then 0 else 1) else endK l + 1
theorem end_of (L : List Int) : EndAt L (endK L) := by
  induction L with
  | nil => exact ⟨Nat.le_refl _, fun j _ h => absurd h (by simp), .inl rfl⟩
  | cons x l ih =>
    unfold endK
    obtain ⟨h1, h2, h3⟩ := ih
    generalize endK l = k at h1 h2 h3
    rcases Nat.eq_zero_or_pos k with h0 | h0
    · subst h0
      rw [if_pos rfl]
      by_cases hx : x = 0
      · rw [if_pos hx]
        refine ⟨Nat.zero_le _, fun j _ hj => ?_, .inl rfl⟩
        cases j with
        | zero => simpa using hx
        | succ j => simpa using h2 j (Nat.zero_le _) (by simpa using hj)
      · rw [if_neg hx]
        refine ⟨by simp, fun j hj1 hj => ?_, .inr (by simpa using hx)⟩
        cases j with
        | zero => omega
        | succ j => simpa using h2 j (Nat.zero_le _) (by simpa using hj)
    · rw [if_neg (by omega)]
      refine ⟨by simp; omega, fun j hj1 hj => ?_, .inr ?_⟩
      · cases j with
        | zero => omega
        | succ j => simpa using h2 j (by omega) (by simpa using hj)
      · rcases h3 with h3 | h3
        · omega
        · simpa [show k + 1 - 1 = k - 1 + 1 by omega] using h3
/-- The words of a memory, as far as they are used. -/
def usedL (L : List Int) : List Int := L.take (endK L)
theorem used_of {L : List Int} {k : Nat} (h : EndAt L k) : L.take k = usedL L := by
  unfold usedL
  rw [endAt_one h (end_of L)]
/-- What a run tells: the box of a result. -/
def resB (t n : Int) (o m : Value) : Obj := .cells #[.int .i64 t, .int .i64 n, o, m] 29
theorem resB_cells {W : World} {k : Nat} {t n : Int} {o m : Value} (h : W.heap[k]? = some (resB t n o m)) : W.cell? ⟨k, 0, none⟩ = some (.int .i64 t) ∧ W.cell? ⟨k, 1, none⟩ = some (.int .i64 n) ∧ W.cell? ⟨k, 2, none⟩ = some o ∧ W.cell? ⟨k, 3, none⟩ = some m :=
  ⟨cell_of h 0, cell_of h 1, cell_of h 2, cell_of h 3⟩
theorem resB_kept {n₀ : Nat} {W W' : World} {k : Nat} {t n : Int} {o m : Value} (hk : Kept (Mut n₀) W W') (h : W.heap[k]? = some (resB t n o m)) : W'.heap[k]? = some (resB t n o m) := kept_box hk h (by decide) (by decide)
theorem resB_fz {W : World} {k : Nat} {t n : Int} {o m : Value} (h : W.heap[k]? = some (resB t n o m)) (j : Nat) : W.frozen? ⟨k, j, none⟩ = false := frozen_of h j

theorem run_badmem (X : List Ins) (v iv : Value) (z f : Int) (W : World) (hz : z < 0 ∨ 32000 < z) :
    Calls Try.prog 16 #[v, .int .i64 z, iv, .int .i64 f] W fun e W' => e = .returned (.agg #[.int .i64 0, .int .i64 0, .slice none 0 0, .slice none 0 0]) ∧ Bel W W' := by
  go_enter Try.func16, Try.ntmps16
  go_wp2_with (go_at_call 18; refine (new_none _ _ hz).mono ?_; rintro e w' ⟨rfl, rfl⟩)
  refine bodyPost_ret (v := .agg #[.int .i64 0, .int .i64 0, .slice none 0 0, .slice none 0 0]) (by simp [results, Try.results16, go_sem]) rfl ⟨rfl, ?_⟩
  repeat (first | exact Bel.refl _ | apply Bel.alloc | (refine Bel.setCell ?_ (by simp) _))
theorem run_badcode (X : List Ins) (ao : Option Addr) (n c : Nat) (iv : Value) (z f : Int) (W : World) (hz : 0 ≤ z ∧ z ≤ 32000) (hn : 4096 < n) :
    Calls Try.prog 16 #[.slice ao n c, .int .i64 z, iv, .int .i64 f] W fun e W' => e = .returned (.agg #[.int .i64 0, .int .i64 0, .slice none 0 0, .slice none 0 0]) ∧ Bel W W' := by
  obtain ⟨k, rfl⟩ := nat_of hz.1
  have hn' : (4096 : Int) < n := by omega
  go_enter Try.func16, Try.ntmps16
  go_wp2_with (go_at_call 18; refine (new_any _ k rfl (by omega) _).mono ?_; rintro e w' ⟨rfl, hm, hB⟩; have hx : w'.heap[W.heap.size]? = some (resB 0 0 (.slice none 0 0) (.slice none 0 0)) := (hB.out.block _ (by simp)).trans (heap_new W _); obtain ⟨d0, d1, d2, d3⟩ := resB_cells hx; have g0 := resB_fz hx)
  refine bodyPost_ret (v := .agg #[.int .i64 0, .int .i64 0, .slice none 0 0, .slice none 0 0]) (by simp [results, Try.results16, go_sem, d0, d1, d2, d3]) rfl ⟨rfl, ?_⟩
  have hW := btrans ((Bel.refl W).alloc _) hB
  repeat (first | exact hW | (refine Bel.setCell ?_ (by simp) _))
theorem set4 {W : World} {k : Nat} {t n t' n' : Int} {o m o' m' : Value} (h : W.heap[k]? = some (resB t n o m)) :
    ((((W.setCell ⟨k, 0, none⟩ (.int .i64 t')).setCell ⟨k, 1, none⟩ (.int .i64 n')).setCell ⟨k, 2, none⟩ o').setCell ⟨k, 3, none⟩ m').heap[k]? = some (resB t' n' o' m') :=
  heap_set_same (o := 3) (u := m') (heap_set_same (o := 2) (u := o') (heap_set_same (o := 1) (u := .int .i64 n') (heap_set_same (o := 0) (u := .int .i64 t') h)))
theorem resB_set {W : World} {k : Nat} {t n : Int} {o m : Value} (h : W.heap[k]? = some (resB t n o m)) :
    (∀ t' : Int, (W.setCell ⟨k, 0, none⟩ (.int .i64 t')).heap[k]? = some (resB t' n o m)) ∧ (∀ n' : Int, (W.setCell ⟨k, 1, none⟩ (.int .i64 n')).heap[k]? = some (resB t n' o m)) ∧ (∀ o', (W.setCell ⟨k, 2, none⟩ o').heap[k]? = some (resB t n o' m)) ∧ (∀ m', (W.setCell ⟨k, 3, none⟩ m').heap[k]? = some (resB t n o m')) :=
  ⟨fun t' => heap_set_same h, fun n' => heap_set_same h, fun o' => heap_set_same h, fun m' => heap_set_same h⟩
/-- A store in a box that is none of the machine's. -/
theorem IsMc.other {A W : World} {b bm g : Nat} {cv : Value} {X : List Ins} {s : St} (h : IsMc A W b bm g cv X s) {k : Nat} {t n : Int} {o m : Value} (hk : W.heap[k]? = some (resB t n o m)) (hA : A.heap.size ≤ k) (j : Nat) (u : Value) : IsMc A (W.setCell ⟨k, j, none⟩ u) b bm g cv X s := by
  obtain ⟨iv, ov, h⟩ := h
  have ne : ∀ {k' : Nat} {c : Array Value} {e : TypeId} {f : Nat × Nat}, W.heap[k']? = some (.cells c e f) → e ≠ 29 → k' ≠ k := by
    intro k' c e f hk' he heq
    subst heq
    rw [hk] at hk'
    injection hk' with hk'
    injection hk' with _ hk' _
    exact he hk'.symm
  refine ⟨iv, ov, (heap_set_other (ne h.box (by decide))).trans h.box, h.low, ⟨(heap_set_other (ne h.mem.box (by decide))).trans h.mem.box, (heap_set_other (ne h.mem.row (by decide))).trans h.mem.row, h.mem.low, h.mem.lowg⟩, h.code, h.inp, ?_, h.apart, h.bel.setCell hA u, h.ok, h.lenm, h.leno⟩
  refine row_kept h.out (Kept.setCell (fun k' o => k' = k) W ⟨k, j, none⟩ u (fun _ _ => rfl)) ?_
  rintro k' c f hk' rfl
  rcases h.out.2 with ⟨e, _⟩ | ⟨g', cap, cur, e, _, hg, _⟩
  · rw [e] at hk'; cases hk'
  · rw [e] at hk'
    injection hk' with hk'
    exact ne hg (by decide) hk'
theorem row_res {W : World} {n₀ n k : Nat} {v : Value} {xs : List Value} {t m : Int} {o q : Value} (h : W.ownsRow n₀ 3 1 v n xs) (hk : W.heap[k]? = some (resB t m o q)) (j : Nat) (u : Value) : (W.setCell ⟨k, j, none⟩ u).ownsRow n₀ 3 1 v n xs := by
  refine row_kept h (Kept.setCell (fun k' o => k' = k) W ⟨k, j, none⟩ u (fun _ _ => rfl)) ?_
  rintro k' c f hk' rfl
  rcases h.2 with ⟨e, _⟩ | ⟨g', cap, cur, e, _, hg, _⟩
  · rw [e] at hk'; cases hk'
  · rw [e] at hk'
    injection hk' with hk'
    subst hk'
    rw [hk] at hg
    injection hg with hg
    injection hg with _ hg _
    exact absurd hg (by decide)
theorem row_base {n₀ n₁ : Nat} {e : TypeId} {W : World} {v : Value} {n : Nat} {xs : List Value} (h : W.ownsRow n₁ e 1 v n xs) (hn : n₀ ≤ n₁) : W.ownsRow n₀ e 1 v n xs := by
  refine ⟨h.1, ?_⟩
  rcases h.2 with hz | ⟨g, cap, cur, e1, hb, rest⟩
  · exact .inl hz
  · exact .inr ⟨g, cap, cur, e1, Nat.le_trans hn hb, rest⟩
theorem row_slice {W : World} {n₀ n : Nat} {v : Value} {xs : List Value} {e : TypeId} (h : W.ownsRow n₀ e 1 v n xs) : ∃ ao cap, v = .slice ao n cap := by
  rcases h.2 with ⟨rfl, e⟩ | ⟨g, cap, cur, rfl, _⟩
  · exact ⟨none, 0, by rw [e]⟩
  · exact ⟨_, _, rfl⟩
theorem there_all {w : World} {b : Nat} {c : Array Value} {e : TypeId} (h : w.heap[b]? = some (.cells c e (0, 0))) (n : Nat) (hn : n = c.size) : w.there b 0 n := by
  subst hn
  intro j hj
  rw [Nat.zero_add, cell_of h, frozen_of h]
  simp [hj]
theorem setCells_heap {b : Nat} {e : TypeId} {f : Nat × Nat} : ∀ (cs : List Value) (o : Nat) (w : World) (c : List Value), w.heap[b]? = some (.cells c.toArray e f) → o + cs.length ≤ c.length →
    (w.setCells b o cs).heap[b]? = some (.cells (c.take o ++ cs ++ c.drop (o + cs.length)).toArray e f)
  | [], o, w, c, h, hl => by
    simp only [World.setCells, List.append_nil, List.length_nil, Nat.add_zero, List.take_append_drop]
    exact h
  | x :: cs, o, w, c, h, hl => by
    have h1 := heap_set_same (o := o) (u := x) h
    rw [List.setIfInBounds_toArray] at h1
    have h2 := setCells_heap cs (o + 1) (w.setCell ⟨b, o, none⟩ x) (c.set o x) h1 (by simp at hl ⊢; omega)
    have hol : o < c.length := by simp at hl; omega
    simp only [World.setCells]
    rw [h2]
    congr 2
    apply congrArg
    have e1 : (c.set o x).take (o + 1) = c.take o ++ [x] := by
      rw [List.take_succ_eq_append_getElem (by simpa using hol), List.take_set_of_le (Nat.le_refl _)]
      simp
    have e2 : (c.set o x).drop (o + 1 + cs.length) = c.drop (o + (x :: cs).length) := by
      rw [List.drop_set_of_lt (by omega)]
      simp only [List.length_cons]
      congr 1
      omega
    rw [e1, e2]
    simp
theorem setCells_other {b k : Nat} (hk : k ≠ b) : ∀ (cs : List Value) (o : Nat) (w : World), (w.setCells b o cs).heap[k]? = w.heap[k]?
  | [], _, _ => rfl
  | x :: cs, o, w => by simp only [World.setCells]; rw [setCells_other hk cs, heap_set_other hk]
theorem setCells_size {b : Nat} : ∀ (cs : List Value) (o : Nat) (w : World), (w.setCells b o cs).heap.size = w.heap.size
  | [], _, _ => rfl
  | x :: cs, o, w => by simp only [World.setCells]; rw [setCells_size cs, size_set]
theorem setCells_bel {A : World} {b : Nat} (hb : A.heap.size ≤ b) : ∀ (cs : List Value) (o : Nat) (w : World), Bel A w → Bel A (w.setCells b o cs)
  | [], _, _, h => h
  | x :: cs, o, w, h => by simp only [World.setCells]; exact setCells_bel hb cs (o + 1) _ (h.setCell hb x)
theorem infoM : (Try.prog.info? 59).map (·.size) = some 37 := by kernel_rfl
/-- A new machine's cells. -/
def mcB (c m i : Value) : Array Value := (boxL c m (List.replicate 32 0) 0 i (.slice none 0 0)).toArray
def mcZ : Array Value := mcB (.slice none 0 0) (.pointer none) (.slice none 0 0)
theorem build_mc (ao : Option Addr) (n c : Nat) (p : Nat) (ai : Option Addr) (m ci : Nat) (w : World) : (Instr.build 59 #[(0, .slice ao n c), (1, .pointer (some ⟨p, 0, none⟩)), (4, .slice ai m ci)]).run Try.prog w = .ok (.agg (mcB (.slice ao n c) (.pointer (some ⟨p, 0, none⟩)) (.slice ai m ci))) w := by kernel_rfl
theorem alloc_mc (w : World) : (Instr.alloc 59 true (.tuple #[])).run Try.prog w = .ok (.pointer (some ⟨w.heap.size, 0, none⟩)) (w.alloc (.cells mcZ 59)) := by kernel_rfl
theorem mcB_one (ao : Option Addr) (n c : Nat) (p : Option Addr) (ai : Option Addr) (m ci : Nat) : (mcB (.slice ao n c) (.pointer p) (.slice ai m ci)).all (·.oneCell') = true := by
  unfold mcB
  refine all_oneCell_toArray ?_
  intro v hv
  simp only [boxL, List.map_replicate, List.mem_cons, List.mem_append, List.mem_replicate, List.not_mem_nil, or_false] at hv
  rcases hv with rfl | rfl | ⟨_, rfl⟩ | rfl | rfl | rfl <;> rfl
theorem store_mc (ao : Option Addr) (n c : Nat) (p : Nat) (ai : Option Addr) (m ci : Nat) (w : World) : ∃ w2, (Instr.storeAt 59 (.pointer (some ⟨w.heap.size, 0, none⟩)) (.agg (mcB (.slice ao n c) (.pointer (some ⟨p, 0, none⟩)) (.slice ai m ci)))).run Try.prog (w.alloc (.cells mcZ 59)) = .ok () w2 ∧
    w2.heap[w.heap.size]? = some (.cells (mcB (.slice ao n c) (.pointer (some ⟨p, 0, none⟩)) (.slice ai m ci)) 59 (0, 0)) ∧ Bel w w2 ∧ w2.heap.size = w.heap.size + 1 := by
  have hn := heap_new w (.cells mcZ 59)
  refine ⟨_, run_storeAt_mid _ _ _ _ _ (there_all hn _ rfl) infoM (mcB_one _ _ _ _ _ _ _), ?_, ?_, ?_⟩
  · have := setCells_heap (b := w.heap.size) (e := 59) (f := (0, 0)) (mcB (.slice ao n c) (.pointer (some ⟨p, 0, none⟩)) (.slice ai m ci)).toList 0 (w.alloc (.cells mcZ 59)) mcZ.toList (by simpa using hn) (Nat.le_refl 37)
    rw [this]
    rfl
  · exact setCells_bel (Nat.le_refl _) _ _ _ ((Bel.refl w).alloc _)
  · rw [setCells_size]; simp
section
variable {ops : Array Oper} {rest : List Oper} {op : Oper} {a : Act} {w : World} {Q : Exit → Act → World → Prop}
theorem wpList_build_mc (hgd : op.guard = none) (x y z : Operand) (ho : op.op = .build 59 #[(0, x), (1, y), (4, z)]) (ao : Option Addr) (n c : Nat) (p : Nat) (ai : Option Addr) (m ci : Nat)
    (hx : a.eval x = .slice ao n c) (hy : a.eval y = .pointer (some ⟨p, 0, none⟩)) (hz : a.eval z = .slice ai m ci)
    (h : wpList Try.prog ops Q rest (a.put op.dst (.agg (mcB (.slice ao n c) (.pointer (some ⟨p, 0, none⟩)) (.slice ai m ci)))) w) : wpList Try.prog ops Q (op :: rest) a w :=
  wpList_plain hgd fun _ hK => by
    unfold Oper.wp execOp
    have e := build_mc ao n c p ai m ci w
    have e2 : (#[(0, x), (1, y), (4, z)] : Array (Nat × Operand)).map (fun q => (q.1, a.eval q.2)) = #[(0, .slice ao n c), (1, .pointer (some ⟨p, 0, none⟩)), (4, .slice ai m ci)] := by
      simp [hx, hy, hz]
    simp only [ho, e2, e, Sem.run_bind, Sem.run_pure, Result.andThen_ok]
    exact hK _ _ h
theorem wpList_alloc_mc (hgd : op.guard = none) (ho : op.op = .alloc 59)
    (h : wpList Try.prog ops Q rest (a.put op.dst (.pointer (some ⟨w.heap.size, 0, none⟩))) (w.alloc (.cells mcZ 59))) : wpList Try.prog ops Q (op :: rest) a w :=
  wpList_plain hgd fun _ hK => by
    unfold Oper.wp execOp
    simp only [ho, alloc_mc w, Sem.run_bind, Sem.run_pure, Result.andThen_ok]
    exact hK _ _ h
theorem wpList_store_mc (hgd : op.guard = none) (x y : Operand) (ho : op.op = .store 59 x y) (ad : Value) (C : Array Value) (hx : a.eval x = ad) (hy : a.eval y = .agg C) (w2 : World)
    (hr : (Instr.storeAt 59 ad (.agg C)).run Try.prog w = .ok () w2) (h : wpList Try.prog ops Q rest (a.put op.dst undef) w2) : wpList Try.prog ops Q (op :: rest) a w :=
  wpList_plain hgd fun _ hK => by
    unfold Oper.wp execOp
    simp only [ho, hx, hy, hr, Sem.run_bind, Sem.run_pure, Result.andThen_ok]
    exact hK _ _ h
end
theorem runK_succ {X : List Ins} {s : St} {k : Nat} (h : (runK X s k).1 = 0) : runK X s (k + 1) = stepM X (runK X s k).2 := by
  show (if (runK X s k).1 = 0 then _ else _) = _
  rw [if_pos h]
set_option maxRecDepth 20000 in
set_option maxHeartbeats 4000000 in
theorem run_any (X : List Ins) (v iv : Value) (z f : Int) (I : List Int) (W : World) (hv : Code W v X) (hi : IntsC W iv I) (hX : X.length ≤ 4096) (hz : 0 ≤ z ∧ z ≤ 32000) (hf : f ≤ 1000000) :
    Calls Try.prog 16 #[v, .int .i64 z, iv, .int .i64 f] W fun e W' => ∃ (k : Nat) (ov mv : Value), Ends X (start z.toNat I) f.toNat k ∧ e = .returned (.agg #[.int .i64 (runK X (start z.toNat I) k).1, .int .i64 (k : Int), ov, mv]) ∧
      Ints .i64 W' ov (runK X (start z.toNat I) k).2.out ∧ Ints .i64 W' mv (usedL (runK X (start z.toNat I) k).2.mem) ∧ Bel W W' ∧ (runK X (start z.toNat I) k).2.out.length ≤ 10000 ∧ (runK X (start z.toNat I) k).2.mem.length ≤ 32000 := by
  obtain ⟨kz, rfl⟩ := nat_of hz.1
  rw [Int.toNat_natCast]
  obtain ⟨ao, cap, rfl, hcells⟩ := id hv
  obtain ⟨ai, ci, rfl, _⟩ := id hi
  have hn' : ¬ ((4096 : Int) < X.length) := by omega
  have HV := hidm hv
  have HI := hidm hi
  clear hv hi hcells
  generalize hs0 : start kz I = s0
  have HS0 := hidm hs0
  clear hs0
  go_enter Try.func16, Try.ntmps16
  go_wp2_with (first
    | (go_at_call 18; refine (new_any _ kz rfl (by omega) _).mono ?_; rintro e w1 ⟨rfl, hm, hB⟩; obtain ⟨w2, hst, hbx, hb2, hsz⟩ := store_mc ao X.length cap (W.heap.size + 1 + 1) ai I.length ci w1; have HX := hidm ((hb2.out.block _ (by have := hB.size; simp at this; omega)).trans ((hB.out.block W.heap.size (by simp)).trans (heap_new W _))); have HM := hidm (hm.bel hb2); have HB := hidm (btrans (btrans ((Bel.refl W).alloc _) hB) hb2); have HBX := hidm hbx; have hsw : W.heap.size < w1.heap.size := (by have := hB.size; simp at this; omega); clear hB hm hbx hb2; have HST := hidm hst; clear hst)
    | (refine wpList_build_mc (by rfl) (.tmp 22) (.tmp 23) (.tmp 24) (by rfl) _ _ _ _ _ _ _ (by rfl) (by rfl) (by rfl) ?_)
    | (refine wpList_alloc_mc (by rfl) (by rfl) ?_)
    | (refine wpList_store_mc (by rfl) (.tmp 10) (.tmp 25) (by rfl) _ _ (by rfl) (by rfl) w2 (Hid.out HST) ?_))
  have hs0 := Hid.out HS0
  have h0 : IsMc W w2 w1.heap.size (W.heap.size + 1 + 1) (W.heap.size + 1) (.slice ao X.length cap) X s0 := by
    rw [← hs0]
    have hm : IsM (W.heap.size + 1) w2 (W.heap.size + 1 + 1) (W.heap.size + 1) (List.replicate kz 0) := by
      have e : ∀ o, (W.alloc o).heap.size = W.heap.size + 1 := fun o => by simp
      have := Hid.out HM
      rw [e] at this
      exact this
    exact ⟨_, _, Hid.out HBX, Nat.le_of_lt hsw, ⟨hm.box, hm.row, by omega, by omega⟩, Hid.out HV, Hid.out HI, World.ownsRow_nil _ _ _ _, (by intro e; cases e), Hid.out HB, start_ok _ _, (by simp [start]; omega), (by simp [start])⟩
  clear hs0 HBX HM HI HV HST
  have h1 := h0.stay ((Bel.refl w2).alloc (resB 0 0 (.slice none 0 0) (.slice none 0 0)))
  have hr1 := heap_new w2 (resB 0 0 (.slice none 0 0) (.slice none 0 0))
  have hx1 := heap_old (o := resB 0 0 (.slice none 0 0) (.slice none 0 0)) (Hid.out HX)
  rw [hsz] at hr1
  clear h0 HX HB
  go_loopw [36] (fun m wr => ∃ k : Nat, IsMc W wr w1.heap.size (W.heap.size + 1 + 1) (W.heap.size + 1) (.slice ao X.length cap) X (runK X s0 k).2 ∧ wr.heap[w1.heap.size + 1]? = some (resB (runK X s0 k).1 k (.slice none 0 0) (.slice none 0 0)) ∧
    wr.heap[W.heap.size]? = some (resB 0 0 (.slice none 0 0) (.slice none 0 0)) ∧ (∀ j, j < k → (runK X s0 j).1 = 0) ∧ k ≤ f.toNat) (fun _ wr => f.toNat - (intOf ((wr.cell? ⟨w1.heap.size + 1, 1, none⟩).getD undef)).toNat)
  case atStart => exact ⟨0, h1, hr1, hx1, fun j hj => absurd hj (Nat.not_lt_zero j), Nat.zero_le _⟩
  case round =>
    obtain ⟨k, hM, hR, hW0, hall, hk⟩ := hrel
    rename World => wr
    clear h1 hr1 hx1
    have hW1 := hM.bel.size
    by_cases hgo : (runK X s0 k).1 = 0 ∧ (k : Int) < f
    · obtain ⟨ht, hkf⟩ := hgo
      have hall2 : ∀ j, j < k + 1 → (runK X s0 j).1 = 0 := fun j hj => by
        rcases Nat.lt_or_ge j k with h | h
        · exact hall j h
        · obtain rfl : j = k := by omega
          exact ht
      have hsucc := runK_succ ht
      rw [ht] at hR
      obtain ⟨d0, d1, d2, d3⟩ := resB_cells hR
      have HSt := hidm (step_any hM hX)
      have HM := hidm hM
      have HR := hidm hR
      have HW0 := hidm hW0
      have HA := hidm hall2
      have HSu := hidm hsucc
      clear hall hall2 hsucc hM hR hW0 ht
      go_wp2_with (first
        | (go_at_call 24; refine (Hid.out HSt).mono ?_; rintro e w3 ⟨rfl, q1, q2⟩; have hR3 := resB_kept q2 (Hid.out HR); have hW3 := resB_kept q2 (Hid.out HW0); obtain ⟨e0, e1, e2, e3⟩ := resB_cells hR3; have g0 := resB_fz hR3 0; have g1 := resB_fz hR3 1; have HR3 := hidm hR3; have HW3 := hidm hW3; clear hR3 hW3))
      have j1 := q1.other (Hid.out HR3) (by omega) 0 (.int .i64 (stepM X (runK X s0 k).2).1)
      have r1 := (resB_set (Hid.out HR3)).1 (stepM X (runK X s0 k).2).1
      have j2 := j1.other r1 (by omega) 1 (.int .i64 ((k : Int) + 1))
      have r2 := (resB_set r1).2.1 ((k : Int) + 1)
      have x2 := (heap_set_other (w := w3.setCell ⟨w1.heap.size + 1, 0, none⟩ (.int .i64 (stepM X (runK X s0 k).2).1)) (b := w1.heap.size + 1) (o := 1) (k := W.heap.size) (u := .int .i64 ((k : Int) + 1)) (by omega)).trans ((heap_set_other (w := w3) (b := w1.heap.size + 1) (o := 0) (k := W.heap.size) (u := .int .i64 (stepM X (runK X s0 k).2).1) (by omega)).trans (Hid.out HW3))
      have hsu := Hid.out HSu
      go_roundw
      case rel =>
        refine ⟨k + 1, ?_, ?_, x2, Hid.out HA, by omega⟩
        · rw [hsu]; exact j2
        · rw [hsu]; exact r2
      case measure =>
        rw [cell_of r2 1]
        simp [intOf, d1]
        omega
    · have HE : Hid (Ends X s0 f.toNat k) := hidm ⟨hk, hall, by
        rcases Int.lt_or_le (k : Int) f with h | h
        · exact .inl (fun e => hgo ⟨e, h⟩)
        · exact .inr (by omega)⟩
      obtain ⟨⟨t, st⟩, hrk⟩ : ∃ q, runK X s0 k = q := ⟨_, rfl⟩
      rw [hrk] at hM hR hgo
      have HRk := hidm hrk
      dsimp only at hM hR hgo
      clear hall hrk
      obtain ⟨d0, d1, d2, d3⟩ := resB_cells hR
      obtain ⟨iv, ov, hC⟩ := hM
      have c36 : wr.cell? ⟨w1.heap.size, 36, none⟩ = some ov := by rw [cell_of hC.box]; exact (box_at hC.ok.len).2.2
      obtain ⟨ao2, cap2, rfl⟩ := row_slice hC.out
      have HU := hidm (used_any (hC.mem.bel ((Bel.refl wr).drew)) hC.lenm)
      have HC := hidm hC
      have HR := hidm hR
      have HW0 := hidm hW0
      clear hC hR hW0
      have hcase : (t = 0 ∧ f ≤ k) ∨ ¬ t = 0 := by
        by_cases h : t = 0
        · exact .inl ⟨h, by omega⟩
        · exact .inr h
      clear hgo
      rcases hcase with ⟨ht, hkf⟩ | ht
      all_goals
        first
        | (have ht' : (t == 0) = true := by simpa using ht)
        | (have ht' : (t == 0) = false := by simpa using ht)
        clear ht
        go_wp2_with fail
        go_region_held3 (fun w' => w'.cell? ⟨w1.heap.size, 36, none⟩ = some (.slice ao2 st.out.length cap2)) (go_keep) (first
          | (go_at_call 20; refine (Hid.out HU).mono ?_; rintro e w3 ⟨ku, mv, hE, rfl, hrow, hB3⟩; rw [used_of hE] at hrow; obtain ⟨am, cm, rfl⟩ := row_slice hrow; have hB3' := btrans ((Bel.refl wr).drew) hB3; have c3 : w3.cell? ⟨w1.heap.size, 36, none⟩ = some (.slice ao2 st.out.length cap2) := ((bcell hB3').1 _ _ (lt_of_heap (Hid.out HC).box)).trans c36; have hR3 := (hB3'.out.block _ (lt_of_heap (Hid.out HR))).trans (Hid.out HR); have hW3 := (hB3'.out.block _ (lt_of_heap (Hid.out HW0))).trans (Hid.out HW0); obtain ⟨e0, e1, e2, e3⟩ := resB_cells hR3; obtain ⟨i0, i1, i2, i3⟩ := resB_cells hW3; have g0 := resB_fz hR3; have g1 := resB_fz hW3; have HR3 := hidm hR3; have HW3 := hidm hW3; have HROW := hidm hrow; have HB3 := hidm hB3'; clear hR3 hW3 hrow hB3 hB3' hE))
        go_wp2_with fail
        have hR3 := Hid.out HR3
        have hW3 := Hid.out HW3
        have ro3 := row_bel (Hid.out HC).out (Hid.out HB3)
        have rm3 := row_base (Hid.out HROW) (n₀ := W.heap.size) (by have := hW1; simpa using this)
        have B3 := btrans (Hid.out HC).bel (Hid.out HB3)
        have rb1 := (resB_set hR3).2.2.1 (.slice ao2 st.out.length cap2)
        have ro4 := row_res ro3 hR3 2 (.slice ao2 st.out.length cap2)
        have rm4 := row_res rm3 hR3 2 (.slice ao2 st.out.length cap2)
        have w4 := (heap_set_other (w := w3) (b := w1.heap.size + 1) (o := 2) (k := W.heap.size) (u := .slice ao2 st.out.length cap2) (by omega)).trans hW3
        have ro5 := row_res ro4 rb1 3 (.slice am (usedL st.mem).length cm)
        have rm5 := row_res rm4 rb1 3 (.slice am (usedL st.mem).length cm)
        have w5 := (heap_set_other (w := w3.setCell ⟨w1.heap.size + 1, 2, none⟩ (.slice ao2 st.out.length cap2)) (b := w1.heap.size + 1) (o := 3) (k := W.heap.size) (u := .slice am (usedL st.mem).length cm) (by omega)).trans w4
        have ro6 := row_res ro5 w5 0 (.int .i64 t)
        have rm6 := row_res rm5 w5 0 (.int .i64 t)
        have w6 := (resB_set w5).1 t
        have ro7 := row_res ro6 w6 1 (.int .i64 (k : Int))
        have rm7 := row_res rm6 w6 1 (.int .i64 (k : Int))
        have w7 := (resB_set w6).2.1 (k : Int)
        have ro8 := row_res ro7 w7 2 (.slice ao2 st.out.length cap2)
        have rm8 := row_res rm7 w7 2 (.slice ao2 st.out.length cap2)
        have w8 := (resB_set w7).2.2.1 (.slice ao2 st.out.length cap2)
        have ro9 := row_res ro8 w8 3 (.slice am (usedL st.mem).length cm)
        have rm9 := row_res rm8 w8 3 (.slice am (usedL st.mem).length cm)
        have B9 := ((((((B3.setCell (p := ⟨w1.heap.size + 1, 2, none⟩) (by show W.heap.size ≤ w1.heap.size + 1; omega) (.slice ao2 st.out.length cap2)).setCell (p := ⟨w1.heap.size + 1, 3, none⟩) (by show W.heap.size ≤ w1.heap.size + 1; omega) (.slice am (usedL st.mem).length cm)).setCell (p := ⟨W.heap.size, 0, none⟩) (Nat.le_refl _) (.int .i64 t)).setCell (p := ⟨W.heap.size, 1, none⟩) (Nat.le_refl _) (.int .i64 (k : Int))).setCell (p := ⟨W.heap.size, 2, none⟩) (Nat.le_refl _) (.slice ao2 st.out.length cap2)).setCell (p := ⟨W.heap.size, 3, none⟩) (Nat.le_refl _) (.slice am (usedL st.mem).length cm))
        obtain ⟨z0, z1, z2, z3⟩ := resB_cells ((resB_set w8).2.2.2 (.slice am (usedL st.mem).length cm))
        clear ro3 ro4 ro5 ro6 ro7 ro8 rm3 rm4 rm5 rm6 rm7 rm8 w4 w5 w6 w7 w8 B3 rb1
        refine bodyPost_ret (v := .agg #[.int .i64 t, .int .i64 (k : Int), .slice ao2 st.out.length cap2, .slice am (usedL st.mem).length cm]) (by simp [results, Try.results16, go_sem, i0, i1, i2, i3]) rfl ⟨k, .slice ao2 st.out.length cap2, .slice am (usedL st.mem).length cm, Hid.out HE, ?_, ?_, ?_, ?_, ?_, ?_⟩
        · rw [Hid.out HRk]
        · rw [Hid.out HRk]; exact ints_of_row ro9
        · rw [Hid.out HRk]; exact ints_of_row rm9
        · exact B9
        · rw [Hid.out HRk]; exact (Hid.out HC).leno
        · rw [Hid.out HRk]; exact (Hid.out HC).lenm
end Go.Proofs.Ythkhlkcdhalkfaa
