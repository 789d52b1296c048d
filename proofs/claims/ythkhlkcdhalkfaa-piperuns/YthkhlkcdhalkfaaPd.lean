/-
  The machine of five stages: set, arrive, write, read, check, target, leave, finish.
-/
import Derived.Test.YthkhlkcdhalkfaaPc
import Derived.RegionTactic
import Derived.StillTailTactics
namespace Go.Proofs.Ythkhlkcdhalkfaa
set_option maxRecDepth 20000
set_option linter.unusedVariables false
open Go.ChangeShapes Go.WideShapes Go.ChangeAt Go.RowKit

section
variable {A W W' : World} {b bm g : Nat} {cv iv : Value} {X : List Ins} {p : Pt}
set_option maxHeartbeats 1000000 in
theorem pset_any (h : IsQ iv A W b bm g cv X p) (z v : Int) (hz : 0 ≤ z ∧ z ≤ 31) (hv : Wd v) :
    Calls Try.prog 46 #[.pointer (some ⟨b, 0, none⟩), .agg #[.int .i64 z, .int .i64 v]] W fun e W' => e = .returned (.tuple #[]) ∧ IsQ iv A W' b bm g cv X (setP z v p) ∧ Kept (MutP A.heap.size) W W' := by
  obtain ⟨k, rfl⟩ : ∃ k : Nat, z = k := ⟨z.toNat, by omega⟩
  have hB : Bel W (W.alloc (.cells #[.int .i64 (k : Int), .int .i64 v] 45)) := (Bel.refl W).alloc _
  have h1 := h.stay hB
  by_cases h0 : k = 0
  · subst h0
    have e : setP ((0 : Nat) : Int) v p = p := by simp [setP, setR]
    rw [e]
    have H1 := hidm h1
    clear e h h1 hB
    go_enter Try.func46, Try.ntmps46
    go_wp2
    go_end0
    exact ⟨rfl, Hid.out H1, Kept.alloc _ _ _⟩
  · have c1 := h1.regAt k (by omega)
    have f1 := h1.fz (2 + k)
    have h0' : ((k : Int) == 0) = false := by simp; omega
    have hk : (k : Int) < 32 := by omega
    have hk' : k < 32 := by omega
    have R1 := hidm (h.setReg k hk' h0 v hv)
    have hlt := h.lt
    clear h h1 hB
    go_enter Try.func46, Try.ntmps46
    go_wp2
    go_region
    go_wp2
    go_end0
    exact ⟨rfl, (Hid.out R1).1.stay (((Bel.refl _).alloc _).drew), (Hid.out R1).2.trans ((Kept.alloc _ _ _).trans (Kept.drew _ _))⟩
theorem pcheck_any (v e t : Int) (W : World) :
    Calls Try.prog 54 #[.int .i64 v, .int .i64 e, .int .i64 t] W fun e' W' => e' = .returned (.int .i64 (chkT v e t)) ∧ W' = W := by
  go_enter Try.func54, Try.ntmps54
  go_wp2
  all_goals
    go_ret
    refine ⟨ret_int ?_, rfl⟩
    unfold chkT
    try simp only [beq_iff_eq, beq_eq_false_iff_ne, ne_eq] at *
    repeat' split
    all_goals omega
theorem late2 (h : IsQ iv A W b bm g cv X p) : W.cell? ⟨b, 34, none⟩ = some (.int .i64 p.lr) ∧ W.cell? ⟨b, 35, none⟩ = some (.int .i64 p.lv) := ⟨h.tailAt.1, h.tailAt.2.1⟩
set_option maxHeartbeats 1000000 in
theorem arrive_any (h : IsQ iv A W b bm g cv X p) :
    Calls Try.prog 27 #[.pointer (some ⟨b, 0, none⟩)] W fun e W' => e = .returned (.tuple #[]) ∧ IsQ iv A W' b bm g cv X (arriveP p) ∧ Kept (MutP A.heap.size) W W' := by
  obtain ⟨c1, c2⟩ := late2 h
  have HS := hidm (pset_any h p.lr p.lv h.ok.lr h.ok.lv)
  clear h
  go_enter Try.func27, Try.ntmps27
  go_wp2_with (first
    | (go_at_call 46; refine (Hid.out HS).mono ?_; rintro e w2 ⟨rfl, q1, q2⟩; obtain ⟨d1, d2⟩ := late2 q1; have f1 := q1.fz 34; have f2 := q1.fz 35))
  go_end0
  have R := q1.setLate 0 0 (by omega) wd_zero
  exact ⟨rfl, R.1, q2.trans R.2⟩
/-- What was late, in a box. -/
def wrtB (r v : Int) : Obj := .cells #[.int .i64 r, .int .i64 v] 45
theorem wrtB_cells {W : World} {k : Nat} {r v : Int} (h : W.heap[k]? = some (wrtB r v)) : W.cell? ⟨k, 0, none⟩ = some (.int .i64 r) ∧ W.cell? ⟨k, 1, none⟩ = some (.int .i64 v) := ⟨cell_of h 0, cell_of h 1⟩
set_option maxHeartbeats 1000000 in
theorem pwrite_any (h : IsQ iv A W b bm g cv X p) (x : Ins) (v : Int) (hv : Wd v) :
    Calls Try.prog 47 #[.pointer (some ⟨b, 0, none⟩), .agg #[.int .i64 x.o, .int .i64 x.a, .int .i64 x.b, .int .i64 x.c, .int .i64 x.i], .int .i64 v] W fun e W' => e = .returned (.tuple #[]) ∧ IsQ iv A W' b bm g cv X (writeP x v p) ∧ Kept (MutP A.heap.size) W W' := by
  have hw := wr_bd x
  have HW := hidm (fun w => writes_any x.o x.a x.b x.c x.i w)
  have HL := hidm (fun w => late_any x.o x.a x.b x.c x.i w)
  have e1 : wr1 x.o x.a x.b x.c x.i = x.wr := rfl
  have e2 : lateB x.o x.a x.b x.c x.i = x.late := rfl
  rw [e1] at HW
  rw [e2] at HL
  unfold writeP
  generalize x.wr = r at *
  have HS := hidm (fun w (q : IsQ iv A w b bm g cv X p) => pset_any q r v hw hv)
  have H := hidm h
  have hlt := h.lt
  clear h e1 e2
  have HK : Hid (∀ w1 w2 u, Bel (W.alloc (insB x.o x.a x.b x.c x.i)) w1 → Bel (w1.alloc u) w2 → Bel W w2) := hidm (fun w1 w2 u h1 h2 => btrans (btrans ((Bel.refl W).alloc _) h1) (btrans ((Bel.refl w1).alloc u) h2))
  cases hl : x.late
  · rw [hl] at HL
    rw [if_neg (by decide)]
    clear hl
    go_enter Try.func47, Try.ntmps47
    go_wp2_with (first
      | (go_at_call 68; refine (Hid.out HW _).mono ?_; rintro e w1 ⟨rfl, hB1⟩; have hx1 : w1.heap[W.heap.size]? = some (insB x.o x.a x.b x.c x.i) := (hB1.out.block _ (by simp)).trans (heap_new W _); obtain ⟨d0, d1, d2, d3, d4⟩ := insB_cells hx1; have hz1 := lt_of_heap hx1; have HB1 := hidm hB1; clear hx1 hB1)
      | (go_at_call 69; refine (Hid.out HL _).mono ?_; rintro e w2 ⟨rfl, hB2⟩; obtain ⟨k0, k1⟩ := wrtB_cells ((hB2.out.block _ (by simp)).trans (heap_new w1 (wrtB r v))); have HQ := hidm ((Hid.out H).stay (Hid.out HK _ _ _ (Hid.out HB1) hB2)); have HB2 := hidm hB2; clear hB2)
      | (go_at_call 46; refine (Hid.out HS _ (Hid.out HQ)).mono ?_; rintro e w3 ⟨rfl, q1, q2⟩))
    go_end0
    exact ⟨rfl, q1, (Kept.of_bel (Hid.out HK _ _ _ (Hid.out HB1) (Hid.out HB2))).trans q2⟩
  · rw [hl] at HL
    rw [if_pos rfl]
    clear hl
    go_enter Try.func47, Try.ntmps47
    go_wp2_with (first
      | (go_at_call 68; refine (Hid.out HW _).mono ?_; rintro e w1 ⟨rfl, hB1⟩; have hx1 : w1.heap[W.heap.size]? = some (insB x.o x.a x.b x.c x.i) := (hB1.out.block _ (by simp)).trans (heap_new W _); obtain ⟨d0, d1, d2, d3, d4⟩ := insB_cells hx1; have hz1 := lt_of_heap hx1; have HB1 := hidm hB1; clear hx1 hB1)
      | (go_at_call 69; refine (Hid.out HL _).mono ?_; rintro e w2 ⟨rfl, hB2⟩; obtain ⟨k0, k1⟩ := wrtB_cells ((hB2.out.block _ (by simp)).trans (heap_new w1 (wrtB r v))); have HQ := hidm ((Hid.out H).stay (Hid.out HK _ _ _ (Hid.out HB1) hB2)); obtain ⟨l1, l2⟩ := late2 (Hid.out HQ); have f1 := (Hid.out HQ).fz 34; have f2 := (Hid.out HQ).fz 35; have HB2 := hidm hB2; clear hB2))
    go_end0
    have R := (Hid.out HQ).setLate r v hw hv
    exact ⟨rfl, R.1, (Kept.of_bel (Hid.out HK _ _ _ (Hid.out HB1) (Hid.out HB2))).trans R.2⟩
/-- What an instruction read, in a box. -/
def opsB (a b c d : Int) : Obj := .cells #[.int .i64 a, .int .i64 b, .int .i64 c, .int .i64 d] 65
theorem opsB_cells {W : World} {k : Nat} {a b c d : Int} (h : W.heap[k]? = some (opsB a b c d)) : W.cell? ⟨k, 0, none⟩ = some (.int .i64 a) ∧ W.cell? ⟨k, 1, none⟩ = some (.int .i64 b) ∧ W.cell? ⟨k, 2, none⟩ = some (.int .i64 c) ∧ W.cell? ⟨k, 3, none⟩ = some (.int .i64 d) := ⟨cell_of h 0, cell_of h 1, cell_of h 2, cell_of h 3⟩
theorem opsB_fz {W : World} {k : Nat} {a b c d : Int} (h : W.heap[k]? = some (opsB a b c d)) (j : Nat) : W.frozen? ⟨k, j, none⟩ = false := frozen_of h j
set_option maxHeartbeats 1000000 in
theorem pread_any (h : IsQ iv A W b bm g cv X p) (x : Ins) (hr : x.right = true) :
    Calls Try.prog 26 #[.pointer (some ⟨b, 0, none⟩), .agg #[.int .i64 x.o, .int .i64 x.a, .int .i64 x.b, .int .i64 x.c, .int .i64 x.i]] W fun e W' => e = .returned (.agg #[.int .i64 (reg p.st.regs x.a), .int .i64 (reg p.st.regs x.b), .int .i64 (reg p.st.regs x.c), .int .i64 (reg p.st.regs 4)]) ∧ Bel W W' := by
  obtain ⟨b1, b2, b3, b4, b5, b6, b7, b8, b9, b10⟩ := right_bd hr
  obtain ⟨o, xa, xb, xc, i⟩ := x
  dsimp only at *
  obtain ⟨ka, rfl⟩ := nat_of b3
  obtain ⟨kb, rfl⟩ := nat_of b5
  obtain ⟨kc, rfl⟩ := nat_of b7
  rw [reg_nat, reg_nat, reg_nat, show reg p.st.regs 4 = p.st.regs[4]?.getD 0 from rfl]
  have e1 : (W.alloc (insB o ka kb kc i)).heap.size = W.heap.size + 1 := by simp
  have hx := heap_old (o := opsB 0 0 0 0) (heap_new W (insB o ka kb kc i))
  have hy := heap_new (W.alloc (insB o ka kb kc i)) (opsB 0 0 0 0)
  rw [e1] at hy
  have hB : Bel W ((W.alloc (insB o ka kb kc i)).alloc (opsB 0 0 0 0)) := ((Bel.refl W).alloc _).alloc _
  have h2 := h.stay hB
  have r1 := h2.regAt ka (by omega)
  have r2 := h2.regAt kb (by omega)
  have r3 := h2.regAt kc (by omega)
  have r4 : ((W.alloc (insB o ka kb kc i)).alloc (opsB 0 0 0 0)).cell? ⟨b, 6, none⟩ = some (.int .i64 (p.st.regs[4]?.getD 0)) := h2.regAt 4 (by omega)
  have lb := h.lt
  obtain ⟨d0, d1, d2, d3, d4⟩ := insB_cells hx
  obtain ⟨k0, k1, k2, k3⟩ := opsB_cells hy
  have f0 := opsB_fz hy 0
  have f1 := opsB_fz hy 1
  have f2 := opsB_fz hy 2
  have f3 := opsB_fz hy 3
  have ha : (ka : Int) < 32 := by omega
  have hb : (kb : Int) < 32 := by omega
  have hc : (kc : Int) < 32 := by omega
  generalize p.st.regs[ka]?.getD 0 = va at *
  generalize p.st.regs[kb]?.getD 0 = vb at *
  generalize p.st.regs[kc]?.getD 0 = vc at *
  generalize p.st.regs[4]?.getD 0 = vd at *
  clear h h2 hx hy e1
  go_enter Try.func26, Try.ntmps26
  go_wp2
  change Code.wp _ _ _ _ ((W.alloc (insB o ka kb kc i)).alloc (opsB 0 0 0 0))
  generalize (W.alloc (insB o ka kb kc i)).alloc (opsB 0 0 0 0) = Y at *
  go_still_tail 27, (by kernel_rfl)
  go_wp2
  refine bodyPost_ret (v := .agg #[.int .i64 va, .int .i64 vb, .int .i64 vc, .int .i64 vd]) (by simp [results, Try.results26, go_sem, k0, k1, k2, k3]) rfl ⟨rfl, ?_⟩
  exact ((((hB.setCell (p := ⟨W.heap.size + 1, 0, none⟩) (by show W.heap.size ≤ W.heap.size + 1; omega) _).setCell (p := ⟨W.heap.size + 1, 1, none⟩) (by show W.heap.size ≤ W.heap.size + 1; omega) _).setCell (p := ⟨W.heap.size + 1, 2, none⟩) (by show W.heap.size ≤ W.heap.size + 1; omega) _).setCell (p := ⟨W.heap.size + 1, 3, none⟩) (by show W.heap.size ≤ W.heap.size + 1; omega) _).drew
end
end Go.Proofs.Ythkhlkcdhalkfaa
