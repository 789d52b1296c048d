/-
  A step of the machine of five stages.
  A step of the machine of five stages: an instruction that goes.
  A step of the machine of five stages: an instruction that reckons.
  A step of the machine of five stages: an instruction that does neither.
-/
import Derived.Test.YthkhlkcdhalkfaaPh
import Derived.Test.YthkhlkcdhalkfaaRv2
namespace Go.Proofs.Ythkhlkcdhalkfaa
set_option maxRecDepth 20000
section
set_option linter.unusedVariables false
open Go.ChangeShapes Go.WideShapes Go.ChangeAt Go.RowKit

section
variable {A W W' : World} {b bm g : Nat} {cv iv : Value} {X : List Ins} {p : Pt}
theorem pstep_out (h : IsQ iv A W b bm g cv X p) (hp : p.st.place < 0 ∨ X.length ≤ p.st.place) :
    Calls Try.prog 19 #[.pointer (some ⟨b, 0, none⟩)] W fun e W' => e = .returned (.int .i64 2) ∧ Bel W W' := by
  have c0 := h.codeAt.1
  have c1 := h.tailAt.2.2.1
  obtain ⟨ov, h⟩ := h
  obtain ⟨ao, cap, rfl, _⟩ := h.code
  clear h
  rcases Int.lt_or_le p.st.place 0 with h0 | h0
  · go_enter Try.func19, Try.ntmps19
    go_wp2
    go_ret
    exact ⟨rfl, Bel.refl _⟩
  · have hd : decide (p.st.place < 0) = false := by simpa using h0
    have h1 : (X.length : Int) ≤ p.st.place := by omega
    go_enter Try.func19, Try.ntmps19
    go_wp2
    go_ret
    exact ⟨rfl, Bel.refl _⟩
/-- The code's cells, in a later world. -/
theorem IsQ.ins (h : IsQ iv A W b bm g cv X p) (k : Nat) (hk : k < X.length) : ∃ bc oc cap, cv = .slice (some ⟨bc, oc, none⟩) X.length cap ∧ bc < A.heap.size ∧
    ∀ V, Bel A V → V.cell? ⟨bc, oc + k * 5, none⟩ = some (.int .i64 (X.getD k Ins.zero).o) ∧ V.cell? ⟨bc, oc + k * 5 + 1, none⟩ = some (.int .i64 (X.getD k Ins.zero).a) ∧ V.cell? ⟨bc, oc + k * 5 + 2, none⟩ = some (.int .i64 (X.getD k Ins.zero).b) ∧
    V.cell? ⟨bc, oc + k * 5 + 3, none⟩ = some (.int .i64 (X.getD k Ins.zero).c) ∧ V.cell? ⟨bc, oc + k * 5 + 4, none⟩ = some (.int .i64 (X.getD k Ins.zero).i) := by
  obtain ⟨ov, h⟩ := h
  obtain ⟨ao, cap, rfl, hc⟩ := h.code
  obtain ⟨bc, oc, rfl, hb, hca⟩ := hc (by omega)
  exact ⟨bc, oc, cap, rfl, hb, fun V hV => (hca.stay hb hV) k hk⟩
theorem pstep_wrong (h : IsQ iv A W b bm g cv X p) (k : Nat) (hp : p.st.place = k) (hk : k < X.length) (hr : ¬ (X.getD k Ins.zero).right = true) :
    Calls Try.prog 19 #[.pointer (some ⟨b, 0, none⟩)] W fun e W' => e = .returned (.int .i64 8) ∧ Bel W W' := by
  have c0 := h.codeAt.1
  have c1 := h.tailAt.2.2.1
  rw [hp] at c1
  obtain ⟨bc, oc, cap, rfl, hbc, hcells⟩ := h.ins k hk
  obtain ⟨a0, a1, a2, a3, a4⟩ := hcells W h.bel
  have hk1 : (k : Int) < X.length := by omega
  have hk0 : (0 : Int) ≤ (k : Int) := by omega
  have hd : decide ((k : Int) < 0) = false := by simp
  clear hcells h
  generalize X.getD k Ins.zero = x at *
  have HR : Hid (∀ w, Calls Try.prog 25 #[.agg #[.int .i64 x.o, .int .i64 x.a, .int .i64 x.b, .int .i64 x.c, .int .i64 x.i]] w fun e w' => e = .returned (.bool false) ∧ Bel w w') := hidm (fun w => by
    have := right_any x.o x.a x.b x.c x.i w
    rw [show rightB x.o x.a x.b x.c x.i = false from by simpa [Ins.right] using hr] at this
    exact this)
  go_enter Try.func19, Try.ntmps19
  go_wp2_with (go_at_call 25; refine (Hid.out HR _).mono ?_; rintro e w2 ⟨rfl, B2⟩)
  go_ret
  exact ⟨rfl, btrans ((Bel.refl W).alloc _) B2⟩
end
end
section
set_option linter.unusedVariables false
open Go.ChangeShapes Go.WideShapes Go.ChangeAt Go.RowKit

section
variable {A W W' : World} {b bm g : Nat} {cv iv : Value} {X : List Ins} {p : Pt}
set_option maxHeartbeats 4000000 in
theorem pstep_goes (h : IsQ iv A W b bm g cv X p) (k : Nat) (hp : p.st.place = k) (hk : k < X.length) (hX : X.length ≤ 4096) (hr : (X.getD k Ins.zero).right = true) (hg : 15 ≤ (X.getD k Ins.zero).o ∧ (X.getD k Ins.zero).o ≤ 19) :
    Calls Try.prog 19 #[.pointer (some ⟨b, 0, none⟩)] W fun e W' => e = .returned (.int .i64 (stepP X p).1) ∧ (∃ iv', IsQ iv' A W' b bm g cv X (stepP X p).2) ∧ Kept (MutP A.heap.size) W W' := by
  have c0 := h.codeAt.1
  have c1 := h.tailAt.2.2.1
  rw [hp] at c1
  obtain ⟨bc, oc, cap, rfl, hbc, hcells⟩ := h.ins k hk
  obtain ⟨a0, a1, a2, a3, a4⟩ := hcells W h.bel
  have hk1 : (k : Int) < X.length := by omega
  have hk0 : (0 : Int) ≤ (k : Int) := by omega
  have hd : decide ((k : Int) < 0) = false := by simp
  have hstep : stepP X p = (0, leaveP (X.getD k Ins.zero) k (reg p.st.regs (X.getD k Ins.zero).a) (reg p.st.regs (X.getD k Ins.zero).b) (arriveP (aheadP p))) := by
    unfold stepP
    rw [if_neg (by omega), hp, Int.toNat_natCast, if_pos hr]
    unfold doP
    rw [if_pos hg]
  have hn : Wd p.next := by
    rcases h.ok.next with q | q
    · exact q
    · rw [q, hp]; unfold Wd; omega
  rw [hstep]
  clear hcells hstep
  generalize X.getD k Ins.zero = x at *
  have hbd := right_bd hr
  have HR : Hid (∀ w, Calls Try.prog 25 #[.agg #[.int .i64 x.o, .int .i64 x.a, .int .i64 x.b, .int .i64 x.c, .int .i64 x.i]] w fun e w' => e = .returned (.bool true) ∧ Bel w w') := hidm (fun w => by
    have := right_any x.o x.a x.b x.c x.i w
    rw [show rightB x.o x.a x.b x.c x.i = true from hr] at this
    exact this)
  have HG : Hid (∀ w, Calls Try.prog 28 #[.agg #[.int .i64 x.o, .int .i64 x.a, .int .i64 x.b, .int .i64 x.c, .int .i64 x.i]] w fun e w' => e = .returned (.bool true) ∧ Bel w w') := hidm (fun w => by
    have := goes_any x.o x.a x.b x.c x.i w
    rw [show goesB x.o x.a x.b x.c x.i = true from by unfold goesB; rw [show rightB x.o x.a x.b x.c x.i = true from hr, decide_eq_true hg]; rfl] at this
    exact this)
  have wa := reg_wd h.ok.ok x.a
  have wb := reg_wd h.ok.ok x.b
  have wc := reg_wd h.ok.ok x.c
  have HRd : Hid (∀ w, IsQ iv A w b bm g (.slice (some ⟨bc, oc, none⟩) X.length cap) X (aheadP p) → Calls Try.prog 26 #[.pointer (some ⟨b, 0, none⟩), .agg #[.int .i64 x.o, .int .i64 x.a, .int .i64 x.b, .int .i64 x.c, .int .i64 x.i]] w fun e w' => e = .returned (.agg #[.int .i64 (reg p.st.regs x.a), .int .i64 (reg p.st.regs x.b), .int .i64 (reg p.st.regs x.c), .int .i64 (reg p.st.regs 4)]) ∧ Bel w w') := hidm (fun w hw => pread_any hw x hr)
  generalize reg p.st.regs x.a = va at *
  generalize reg p.st.regs x.b = vb at *
  generalize reg p.st.regs x.c = vc at *
  generalize reg p.st.regs 4 = vd at *
  have H := hidm h
  have HN := hidm hn
  clear h hp
  unfold Wd at hn
  go_enter Try.func19, Try.ntmps19
  go_wp2_with (go_at_call 25; refine (Hid.out HR _).mono ?_; rintro e w2 ⟨rfl, B2⟩; have hB2 : Bel W w2 := btrans ((Bel.refl W).alloc _) B2; have hx2 : w2.heap[W.heap.size]? = some (insB x.o x.a x.b x.c x.i) := (B2.out.block _ (by simp)).trans (heap_new W _); have h2 := (Hid.out H).stay hB2; have t36 := h2.tailAt.2.2.1; have t37 := h2.tailAt.2.2.2; have f36 := h2.fz 36; have f37 := h2.fz 37; have H2 := hidm h2; have HX2 := hidm hx2; have HB2 := hidm hB2; clear B2 h2 hx2 hB2)
  clear c0 c1 a0 a1 a2 a3 a4
  go_region
  have hS := ((Hid.out H2).setAhead (Hid.out HN)).1
  have hx3 := insP_kept (hS.2.trans (Kept.drew _ _)) (Hid.out HX2)
  have HQ := hidm (hS.1.stay ((Bel.refl _).drew))
  have HK := hidm ((Kept.of_bel (Hid.out HB2)).trans (hS.2.trans (Kept.drew _ _)))
  clear t36 t37 f36 f37 HX2 H2 HB2 hS H
  generalize ((w2.setCell ⟨b, 36, none⟩ (.int .i64 p.next)).setCell ⟨b, 37, none⟩ (.int .i64 (p.next + 1))).drew = Y at *
  obtain ⟨d0, d1, d2, d3, d4⟩ := insB_cells hx3
  have HX3 := hidm hx3
  clear hx3
  go_wp2_with (first
    | (go_at_call 29; refine (leave_any (Hid.out HQ5) x k va vb vc vd (by omega) (by omega) wa).mono ?_; rintro e w6 ⟨rfl, r1, r2⟩)
    | (go_at_call 28; refine (Hid.out HG _).mono ?_; rintro e w5 ⟨rfl, B5⟩; have hx5 := (B5.out.block _ (lt_of_heap (Hid.out HX4))).trans (Hid.out HX4); have hy5 := (B5.out.block _ (lt_of_heap (Hid.out HY4))).trans (Hid.out HY4); obtain ⟨p0, p1, p2, p3, p4⟩ := insB_cells hx5; obtain ⟨o0, o1, o2, o3⟩ := opsB_cells hy5; have HQ5 := hidm (q1.stay B5); have HX5 := hidm hx5; have HY5 := hidm hy5; have HB5 := hidm B5; clear hx5 hy5 B5)
    | (go_at_call 27; refine (arrive_any (Hid.out HQ4)).mono ?_; rintro e w4 ⟨rfl, q1, q2⟩; have hx4 := insP_kept q2 (Hid.out HX3'); have hy4 := opsB_kept q2 (Hid.out HY3); obtain ⟨m0, m1, m2, m3, m4⟩ := insB_cells hx4; obtain ⟨n0, n1, n2, n3⟩ := opsB_cells hy4; have HX4 := hidm hx4; have HY4 := hidm hy4; clear hx4 hy4)
    | (go_at_call 26; refine (Hid.out HRd _ (Hid.out HQ)).mono ?_; rintro e w3 ⟨rfl, B3⟩; have hx4 := (B3.out.block _ (lt_of_heap (Hid.out HX3))).trans (Hid.out HX3); have hz3 := lt_of_heap hx4; obtain ⟨e0, e1, e2, e3, e4⟩ := insB_cells hx4; have HY3 := hidm (heap_new w3 (opsB va vb vc vd)); have HX3' := hidm (heap_old (o := opsB va vb vc vd) hx4); have HB4 : Hid (Bel Y (w3.alloc (opsB va vb vc vd))) := hidm (btrans B3 ((Bel.refl w3).alloc _)); have HQ4 := hidm ((Hid.out HQ).stay (Hid.out HB4)); clear hx4 B3))
  go_ret
  exact ⟨rfl, ⟨iv, r1⟩, ((((Hid.out HK).trans (Kept.of_bel (Hid.out HB4))).trans q2).trans (Kept.of_bel (Hid.out HB5))).trans r2⟩
end
end
section
set_option linter.unusedVariables false
open Go.ChangeShapes Go.WideShapes Go.ChangeAt Go.RowKit

section
variable {A W W' : World} {b bm g : Nat} {cv iv : Value} {X : List Ins} {p : Pt}
set_option maxHeartbeats 4000000 in
theorem pstep_reckons (h : IsQ iv A W b bm g cv X p) (k : Nat) (hp : p.st.place = k) (hk : k < X.length) (hX : X.length ≤ 4096) (hr : (X.getD k Ins.zero).right = true) (ho : 1 ≤ (X.getD k Ins.zero).o ∧ (X.getD k Ins.zero).o ≤ 11) :
    Calls Try.prog 19 #[.pointer (some ⟨b, 0, none⟩)] W fun e W' => e = .returned (.int .i64 (stepP X p).1) ∧ (∃ iv', IsQ iv' A W' b bm g cv X (stepP X p).2) ∧ Kept (MutP A.heap.size) W W' := by
  have c0 := h.codeAt.1
  have c1 := h.tailAt.2.2.1
  rw [hp] at c1
  obtain ⟨bc, oc, cap, rfl, hbc, hcells⟩ := h.ins k hk
  obtain ⟨a0, a1, a2, a3, a4⟩ := hcells W h.bel
  have hk1 : (k : Int) < X.length := by omega
  have hk0 : (0 : Int) ≤ (k : Int) := by omega
  have hd : decide ((k : Int) < 0) = false := by simp
  have hstep : stepP X p = (recT (X.getD k Ins.zero).o (reg p.st.regs (X.getD k Ins.zero).c), finishP (X.getD k Ins.zero) (recV (X.getD k Ins.zero).o (X.getD k Ins.zero).i (reg p.st.regs (X.getD k Ins.zero).b) (reg p.st.regs (X.getD k Ins.zero).c)) (recT (X.getD k Ins.zero).o (reg p.st.regs (X.getD k Ins.zero).c)) (arriveP (aheadP p))) := by
    unfold stepP
    rw [if_neg (by omega), hp, Int.toNat_natCast, if_pos hr]
    unfold doP
    rw [if_neg (by omega), if_pos (by simpa [reckonsB] using ho)]
  have hn : Wd p.next := by
    rcases h.ok.next with q | q
    · exact q
    · rw [q, hp]; unfold Wd; omega
  rw [hstep]
  clear hcells hstep
  generalize X.getD k Ins.zero = x at *
  have hbd := right_bd hr
  have hg : ¬ (15 ≤ x.o ∧ x.o ≤ 19) := by omega
  have HR : Hid (∀ w, Calls Try.prog 25 #[.agg #[.int .i64 x.o, .int .i64 x.a, .int .i64 x.b, .int .i64 x.c, .int .i64 x.i]] w fun e w' => e = .returned (.bool true) ∧ Bel w w') := hidm (fun w => by
    have := right_any x.o x.a x.b x.c x.i w
    rw [show rightB x.o x.a x.b x.c x.i = true from hr] at this
    exact this)
  have HG : Hid (∀ w, Calls Try.prog 28 #[.agg #[.int .i64 x.o, .int .i64 x.a, .int .i64 x.b, .int .i64 x.c, .int .i64 x.i]] w fun e w' => e = .returned (.bool false) ∧ Bel w w') := hidm (fun w => by
    have := goes_any x.o x.a x.b x.c x.i w
    rw [show goesB x.o x.a x.b x.c x.i = false from by unfold goesB; rw [show rightB x.o x.a x.b x.c x.i = true from hr, decide_eq_false hg]; rfl] at this
    exact this)
  have wa := reg_wd h.ok.ok x.a
  have wb := reg_wd h.ok.ok x.b
  have wc := reg_wd h.ok.ok x.c
  have HRd : Hid (∀ w, IsQ iv A w b bm g (.slice (some ⟨bc, oc, none⟩) X.length cap) X (aheadP p) → Calls Try.prog 26 #[.pointer (some ⟨b, 0, none⟩), .agg #[.int .i64 x.o, .int .i64 x.a, .int .i64 x.b, .int .i64 x.c, .int .i64 x.i]] w fun e w' => e = .returned (.agg #[.int .i64 (reg p.st.regs x.a), .int .i64 (reg p.st.regs x.b), .int .i64 (reg p.st.regs x.c), .int .i64 (reg p.st.regs 4)]) ∧ Bel w w') := hidm (fun w hw => pread_any hw x hr)
  generalize reg p.st.regs x.a = va at *
  generalize reg p.st.regs x.b = vb at *
  generalize reg p.st.regs x.c = vc at *
  generalize reg p.st.regs 4 = vd at *
  have H := hidm h
  have HN := hidm hn
  clear h hp
  have hv := rec_wd (o := x.o) (i := x.i) wb wc
  have HRe : Hid (∀ w, Calls Try.prog 30 #[.agg #[.int .i64 x.o, .int .i64 x.a, .int .i64 x.b, .int .i64 x.c, .int .i64 x.i], .int .i64 vb, .int .i64 vc] w fun e w' => e = .returned (.tuple #[.int .i64 (recV x.o x.i vb vc), .int .i64 (recT x.o vc), .bool true]) ∧ Bel w w') := hidm (fun w => by
    have := reckonX x.o x.a x.b x.c x.i vb vc w hr (by simpa [reckonsB] using ho)
    rw [wd_wrap_id wb, wd_wrap_id wc] at this
    exact this)
  generalize recV x.o x.i vb vc = rv at *
  generalize recT x.o vc = rt at *
  unfold Wd at hn
  go_enter Try.func19, Try.ntmps19
  go_wp2_with (go_at_call 25; refine (Hid.out HR _).mono ?_; rintro e w2 ⟨rfl, B2⟩; have hB2 : Bel W w2 := btrans ((Bel.refl W).alloc _) B2; have hx2 : w2.heap[W.heap.size]? = some (insB x.o x.a x.b x.c x.i) := (B2.out.block _ (by simp)).trans (heap_new W _); have h2 := (Hid.out H).stay hB2; have t36 := h2.tailAt.2.2.1; have t37 := h2.tailAt.2.2.2; have f36 := h2.fz 36; have f37 := h2.fz 37; have H2 := hidm h2; have HX2 := hidm hx2; have HB2 := hidm hB2; clear B2 h2 hx2 hB2)
  clear c0 c1 a0 a1 a2 a3 a4
  go_region
  have hS := ((Hid.out H2).setAhead (Hid.out HN)).1
  have hx3 := insP_kept (hS.2.trans (Kept.drew _ _)) (Hid.out HX2)
  have HQ := hidm (hS.1.stay ((Bel.refl _).drew))
  have HK := hidm ((Kept.of_bel (Hid.out HB2)).trans (hS.2.trans (Kept.drew _ _)))
  clear t36 t37 f36 f37 HX2 H2 HB2 hS H
  generalize ((w2.setCell ⟨b, 36, none⟩ (.int .i64 p.next)).setCell ⟨b, 37, none⟩ (.int .i64 (p.next + 1))).drew = Y at *
  obtain ⟨d0, d1, d2, d3, d4⟩ := insB_cells hx3
  have HX3 := hidm hx3
  clear hx3
  go_wp2_with (first
    | (go_at_call 31; refine (finish_any (Hid.out HQ6) x rv rt hv).mono ?_; rintro e w7 ⟨rfl, r1, r2⟩)
    | (go_at_call 30; refine (Hid.out HRe _).mono ?_; rintro e w6 ⟨rfl, B6⟩; have hx6 := (B6.out.block _ (lt_of_heap (Hid.out HX5))).trans (Hid.out HX5); obtain ⟨u0, u1, u2, u3, u4⟩ := insB_cells hx6; have HQ6 := hidm ((Hid.out HQ5).stay B6); have HB6 := hidm B6; clear hx6 B6)
    | (go_at_call 28; refine (Hid.out HG _).mono ?_; rintro e w5 ⟨rfl, B5⟩; have hx5 := (B5.out.block _ (lt_of_heap (Hid.out HX4))).trans (Hid.out HX4); have hy5 := (B5.out.block _ (lt_of_heap (Hid.out HY4))).trans (Hid.out HY4); obtain ⟨p0, p1, p2, p3, p4⟩ := insB_cells hx5; obtain ⟨o0, o1, o2, o3⟩ := opsB_cells hy5; have HQ5 := hidm (q1.stay B5); have HX5 := hidm hx5; have HY5 := hidm hy5; have HB5 := hidm B5; clear hx5 hy5 B5)
    | (go_at_call 27; refine (arrive_any (Hid.out HQ4)).mono ?_; rintro e w4 ⟨rfl, q1, q2⟩; have hx4 := insP_kept q2 (Hid.out HX3'); have hy4 := opsB_kept q2 (Hid.out HY3); obtain ⟨m0, m1, m2, m3, m4⟩ := insB_cells hx4; obtain ⟨n0, n1, n2, n3⟩ := opsB_cells hy4; have HX4 := hidm hx4; have HY4 := hidm hy4; clear hx4 hy4)
    | (go_at_call 26; refine (Hid.out HRd _ (Hid.out HQ)).mono ?_; rintro e w3 ⟨rfl, B3⟩; have hx4 := (B3.out.block _ (lt_of_heap (Hid.out HX3))).trans (Hid.out HX3); have hz3 := lt_of_heap hx4; obtain ⟨e0, e1, e2, e3, e4⟩ := insB_cells hx4; have HY3 := hidm (heap_new w3 (opsB va vb vc vd)); have HX3' := hidm (heap_old (o := opsB va vb vc vd) hx4); have HB4 : Hid (Bel Y (w3.alloc (opsB va vb vc vd))) := hidm (btrans B3 ((Bel.refl w3).alloc _)); have HQ4 := hidm ((Hid.out HQ).stay (Hid.out HB4)); clear hx4 B3))
  go_ret
  exact ⟨rfl, ⟨iv, r1⟩, (((((Hid.out HK).trans (Kept.of_bel (Hid.out HB4))).trans q2).trans (Kept.of_bel (Hid.out HB5))).trans (Kept.of_bel (Hid.out HB6))).trans r2⟩
end
end
section
set_option linter.unusedVariables false
open Go.ChangeShapes Go.WideShapes Go.ChangeAt Go.RowKit

section
variable {A W W' : World} {b bm g : Nat} {cv iv : Value} {X : List Ins} {p : Pt}
set_option maxHeartbeats 4000000 in
theorem pstep_acts (h : IsQ iv A W b bm g cv X p) (k : Nat) (hp : p.st.place = k) (hk : k < X.length) (hX : X.length ≤ 4096) (hr : (X.getD k Ins.zero).right = true) (hg0 : ¬ (15 ≤ (X.getD k Ins.zero).o ∧ (X.getD k Ins.zero).o ≤ 19)) (ho : ¬ (1 ≤ (X.getD k Ins.zero).o ∧ (X.getD k Ins.zero).o ≤ 11)) :
    Calls Try.prog 19 #[.pointer (some ⟨b, 0, none⟩)] W fun e W' => e = .returned (.int .i64 (stepP X p).1) ∧ (∃ iv', IsQ iv' A W' b bm g cv X (stepP X p).2) ∧ Kept (MutP A.heap.size) W W' := by
  have c0 := h.codeAt.1
  have c1 := h.tailAt.2.2.1
  rw [hp] at c1
  obtain ⟨bc, oc, cap, rfl, hbc, hcells⟩ := h.ins k hk
  obtain ⟨a0, a1, a2, a3, a4⟩ := hcells W h.bel
  have hk1 : (k : Int) < X.length := by omega
  have hk0 : (0 : Int) ≤ (k : Int) := by omega
  have hd : decide ((k : Int) < 0) = false := by simp
  have hstep : stepP X p = actP (X.getD k Ins.zero) (reg p.st.regs (X.getD k Ins.zero).a) (reg p.st.regs (X.getD k Ins.zero).b) (reg p.st.regs 4) (arriveP (aheadP p)) := by
    unfold stepP
    rw [if_neg (by omega), hp, Int.toNat_natCast, if_pos hr]
    unfold doP
    rw [if_neg hg0, if_neg (by simpa [reckonsB] using ho)]
  have hn : Wd p.next := by
    rcases h.ok.next with q | q
    · exact q
    · rw [q, hp]; unfold Wd; omega
  rw [hstep]
  clear hcells hstep
  generalize X.getD k Ins.zero = x at *
  have hbd := right_bd hr
  have hg := hg0
  have HR : Hid (∀ w, Calls Try.prog 25 #[.agg #[.int .i64 x.o, .int .i64 x.a, .int .i64 x.b, .int .i64 x.c, .int .i64 x.i]] w fun e w' => e = .returned (.bool true) ∧ Bel w w') := hidm (fun w => by
    have := right_any x.o x.a x.b x.c x.i w
    rw [show rightB x.o x.a x.b x.c x.i = true from hr] at this
    exact this)
  have HG : Hid (∀ w, Calls Try.prog 28 #[.agg #[.int .i64 x.o, .int .i64 x.a, .int .i64 x.b, .int .i64 x.c, .int .i64 x.i]] w fun e w' => e = .returned (.bool false) ∧ Bel w w') := hidm (fun w => by
    have := goes_any x.o x.a x.b x.c x.i w
    rw [show goesB x.o x.a x.b x.c x.i = false from by unfold goesB; rw [show rightB x.o x.a x.b x.c x.i = true from hr, decide_eq_false hg]; rfl] at this
    exact this)
  have wa := reg_wd h.ok.ok x.a
  have wb := reg_wd h.ok.ok x.b
  have wc := reg_wd h.ok.ok x.c
  have HRd : Hid (∀ w, IsQ iv A w b bm g (.slice (some ⟨bc, oc, none⟩) X.length cap) X (aheadP p) → Calls Try.prog 26 #[.pointer (some ⟨b, 0, none⟩), .agg #[.int .i64 x.o, .int .i64 x.a, .int .i64 x.b, .int .i64 x.c, .int .i64 x.i]] w fun e w' => e = .returned (.agg #[.int .i64 (reg p.st.regs x.a), .int .i64 (reg p.st.regs x.b), .int .i64 (reg p.st.regs x.c), .int .i64 (reg p.st.regs 4)]) ∧ Bel w w') := hidm (fun w hw => pread_any hw x hr)
  generalize reg p.st.regs x.a = va at *
  generalize reg p.st.regs x.b = vb at *
  generalize reg p.st.regs x.c = vc at *
  generalize reg p.st.regs 4 = vd at *
  have H := hidm h
  have HN := hidm hn
  clear h hp
  have HRe : Hid (∀ w, Calls Try.prog 30 #[.agg #[.int .i64 x.o, .int .i64 x.a, .int .i64 x.b, .int .i64 x.c, .int .i64 x.i], .int .i64 vb, .int .i64 vc] w fun e w' => e = .returned (.tuple #[.int .i64 0, .int .i64 0, .bool false]) ∧ Bel w w') := hidm (fun w => reckon_no x.o x.a x.b x.c x.i vb vc w (.inr (by unfold reckonsB; exact decide_eq_false ho)))
  unfold Wd at hn
  go_enter Try.func19, Try.ntmps19
  go_wp2_with (go_at_call 25; refine (Hid.out HR _).mono ?_; rintro e w2 ⟨rfl, B2⟩; have hB2 : Bel W w2 := btrans ((Bel.refl W).alloc _) B2; have hx2 : w2.heap[W.heap.size]? = some (insB x.o x.a x.b x.c x.i) := (B2.out.block _ (by simp)).trans (heap_new W _); have h2 := (Hid.out H).stay hB2; have t36 := h2.tailAt.2.2.1; have t37 := h2.tailAt.2.2.2; have f36 := h2.fz 36; have f37 := h2.fz 37; have H2 := hidm h2; have HX2 := hidm hx2; have HB2 := hidm hB2; clear B2 h2 hx2 hB2)
  clear c0 c1 a0 a1 a2 a3 a4
  go_region
  have hS := ((Hid.out H2).setAhead (Hid.out HN)).1
  have hx3 := insP_kept (hS.2.trans (Kept.drew _ _)) (Hid.out HX2)
  have HQ := hidm (hS.1.stay ((Bel.refl _).drew))
  have HK := hidm ((Kept.of_bel (Hid.out HB2)).trans (hS.2.trans (Kept.drew _ _)))
  clear t36 t37 f36 f37 HX2 H2 HB2 hS H
  generalize ((w2.setCell ⟨b, 36, none⟩ (.int .i64 p.next)).setCell ⟨b, 37, none⟩ (.int .i64 (p.next + 1))).drew = Y at *
  obtain ⟨d0, d1, d2, d3, d4⟩ := insB_cells hx3
  have HX3 := hidm hx3
  clear hx3
  go_wp2_with (first
    | (go_at_call 32; refine (act_any (Hid.out HQ6) x va vb vc vd).mono ?_; rintro e w7 ⟨rfl, r1, r2⟩)
    | (go_at_call 30; refine (Hid.out HRe _).mono ?_; rintro e w6 ⟨rfl, B6⟩; have hx6 := (B6.out.block _ (lt_of_heap (Hid.out HX5))).trans (Hid.out HX5); have hy6 := (B6.out.block _ (lt_of_heap (Hid.out HY5))).trans (Hid.out HY5); obtain ⟨u0, u1, u2, u3, u4⟩ := insB_cells hx6; obtain ⟨v0, v1, v2, v3⟩ := opsB_cells hy6; have HQ6 := hidm ((Hid.out HQ5).stay B6); have HB6 := hidm B6; clear hx6 hy6 B6)
    | (go_at_call 28; refine (Hid.out HG _).mono ?_; rintro e w5 ⟨rfl, B5⟩; have hx5 := (B5.out.block _ (lt_of_heap (Hid.out HX4))).trans (Hid.out HX4); have hy5 := (B5.out.block _ (lt_of_heap (Hid.out HY4))).trans (Hid.out HY4); obtain ⟨p0, p1, p2, p3, p4⟩ := insB_cells hx5; obtain ⟨o0, o1, o2, o3⟩ := opsB_cells hy5; have HQ5 := hidm (q1.stay B5); have HX5 := hidm hx5; have HY5 := hidm hy5; have HB5 := hidm B5; clear hx5 hy5 B5)
    | (go_at_call 27; refine (arrive_any (Hid.out HQ4)).mono ?_; rintro e w4 ⟨rfl, q1, q2⟩; have hx4 := insP_kept q2 (Hid.out HX3'); have hy4 := opsB_kept q2 (Hid.out HY3); obtain ⟨m0, m1, m2, m3, m4⟩ := insB_cells hx4; obtain ⟨n0, n1, n2, n3⟩ := opsB_cells hy4; have HX4 := hidm hx4; have HY4 := hidm hy4; clear hx4 hy4)
    | (go_at_call 26; refine (Hid.out HRd _ (Hid.out HQ)).mono ?_; rintro e w3 ⟨rfl, B3⟩; have hx4 := (B3.out.block _ (lt_of_heap (Hid.out HX3))).trans (Hid.out HX3); have hz3 := lt_of_heap hx4; obtain ⟨e0, e1, e2, e3, e4⟩ := insB_cells hx4; have HY3 := hidm (heap_new w3 (opsB va vb vc vd)); have HX3' := hidm (heap_old (o := opsB va vb vc vd) hx4); have HB4 : Hid (Bel Y (w3.alloc (opsB va vb vc vd))) := hidm (btrans B3 ((Bel.refl w3).alloc _)); have HQ4 := hidm ((Hid.out HQ).stay (Hid.out HB4)); clear hx4 B3))
  go_ret
  exact ⟨rfl, r1, (((((Hid.out HK).trans (Kept.of_bel (Hid.out HB4))).trans q2).trans (Kept.of_bel (Hid.out HB5))).trans (Kept.of_bel (Hid.out HB6))).trans r2⟩
end
end
end Go.Proofs.Ythkhlkcdhalkfaa
