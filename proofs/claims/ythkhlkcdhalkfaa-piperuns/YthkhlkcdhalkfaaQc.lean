/-
  A step of the reference of layer 8: an instruction that is not right.
  A step of the reference of layer 8: an instruction that goes.
-/
import Derived.Test.YthkhlkcdhalkfaaQb
import Derived.Test.YthkhlkcdhalkfaaPz
import Derived.RegionTactic
namespace Go.Proofs.Ythkhlkcdhalkfaa
set_option maxRecDepth 20000
section
set_option linter.unusedVariables false
open Go.ChangeShapes Go.WideShapes Go.ChangeAt Go.RowKit

section
variable {A W : World} {b gr gm : Nat} {ov : Value} {I : List Int} {p : Pt} {rd : Nat} {nx rg lt : Int}
set_option maxHeartbeats 4000000 in
theorem qstep_wrong (h : IsR A W b gr gm ov I p.st rd 0) (X : List Ins) (cv iv : Value) (hv : Code A cv X) (k : Nat) (hp : p.st.place = k) (hk : k < X.length) (hr : ¬ (X.getD k Ins.zero).right = true) :
    Calls Try.prog 22 #[.agg #[.pointer (some ⟨b, 0, none⟩), .int .i64 nx, .int .i64 rg, .int .i64 lt], cv, iv] W fun e W' => ∃ nx' rg' lt', e = .returned (.agg #[.pointer (some ⟨b, 0, none⟩), .int .i64 nx', .int .i64 rg', .int .i64 lt']) ∧ AfterQ A W W' b gr gm I (stepP X p) rd nx' rg' lt' := by
  obtain ⟨ao, cap, rfl, hc⟩ := id hv
  obtain ⟨bc, oc, rfl, hbc, hca⟩ := hc (by omega)
  obtain ⟨a0, a1, a2, a3, a4⟩ := (hca.stay hbc h.bel) k hk
  obtain ⟨c0, c1, c2, c3, c4, c5⟩ := refB_cells h.box
  rw [hp] at c2
  have lb := lt_of_heap h.box
  have hbs := h.bel.size
  have hbcW : bc < W.heap.size := by omega
  have hk1 : (k : Int) < X.length := by omega
  have hk0 : (0 : Int) ≤ (k : Int) := by omega
  have hd : decide ((k : Int) < 0) = false := by simp
  have hst : stepP X p = (8, p) := by
    unfold stepP
    rw [if_neg (by omega), hp, Int.toNat_natCast, if_neg hr]
  rw [hst]
  clear hst hc hca
  generalize X.getD k Ins.zero = x at *
  have HR : Hid (∀ w, Calls Try.prog 35 #[.agg #[.int .i64 x.o, .int .i64 x.a, .int .i64 x.b, .int .i64 x.c, .int .i64 x.i]] w fun e w' => e = .returned (.bool false) ∧ Bel w w') := hidm (fun w => by
    have := refRight_any x.o x.a x.b x.c x.i w
    rw [show rightB x.o x.a x.b x.c x.i = false from by simpa [Ins.right] using hr] at this
    exact this)
  have HH := hidm h
  clear h hv hr
  go_enter Try.func22, Try.ntmps22
  go_wp2_with (first
    | (go_at_call 35; refine (Hid.out HR _).mono ?_; rintro e w2 ⟨rfl, B2⟩; refine Hid.out ?_)
    | fail)
  have B02 : Bel W w2 := btrans ((((Bel.refl W).alloc _).alloc _).alloc _) B2
  have hs2 : w2.heap[W.heap.size]? = some (stB b nx rg lt) := (B2.out.block _ (by simp <;> omega)).trans (heap_old (heap_old (heap_new W _)))
  have hz2 : w2.heap[W.heap.size + 1]? = some stZ := (B2.out.block _ (by simp <;> omega)).trans (heap_old (heap_at2 W _ _))
  have h2 := (Hid.out HH).stay B02
  obtain ⟨s0, s1, s2, s3⟩ := stB_cells hs2
  have y0 : w2.cell? ⟨W.heap.size + 1, 0, none⟩ = some (.pointer none) := cell_of hz2 0
  have y1 : w2.cell? ⟨W.heap.size + 1, 1, none⟩ = some (.int .i64 0) := cell_of hz2 1
  have y2 : w2.cell? ⟨W.heap.size + 1, 2, none⟩ = some (.int .i64 0) := cell_of hz2 2
  have y3 : w2.cell? ⟨W.heap.size + 1, 3, none⟩ = some (.int .i64 0) := cell_of hz2 3
  have g0 : ∀ j, w2.frozen? ⟨W.heap.size + 1, j, none⟩ = false := fun j => frozen_of hz2 j
  have m5 := (refB_cells h2.box).2.2.2.2.2
  have f5 := frozen_of h2.box 5
  have nbz : b ≠ W.heap.size + 1 := by omega
  have nbz' := nbz.symm
  have nbs : b ≠ W.heap.size := by omega
  have nbs' := nbs.symm
  obtain ⟨h3, K3⟩ := h2.setBox 5 (.int .i64 8) p.st.place rd 8 p.st.inp h2.inp rfl
  have hz3 := keptR_box K3 hz2 (by decide) (by decide)
  have x0 := cell_of hz3 0
  have x1 := cell_of hz3 1
  have x2 := cell_of hz3 2
  have x3 := cell_of hz3 3
  have H3 := hidm h3
  have HZ3 := hidm hz3
  have HK3 := hidm ((Kept.of_bel B02).trans K3)
  clear h2 h3 hs2 hz2 hz3 K3 B2 B02 a0 a1 a2 a3 a4 c0 c1 c2 c3 c4 c5 HH
  refine hidm ?_
  go_wp2
  refine bodyPost_ret (v := .agg #[.pointer (some ⟨b, 0, none⟩), .int .i64 nx, .int .i64 rg, .int .i64 lt]) (by simp [results, Try.results22, go_sem, x0, x1, x2, x3]) rfl ⟨_, _, _, rfl, ?_⟩
  exact qend (r := (8, p)) (Hid.out H3) (Hid.out HZ3) hbs (Nat.le_succ _) (Hid.out HK3) (Nat.le_succ _) (fun q => absurd q (show ¬ ((8 : Int) = 0) by decide)) _ _ _ _
end
end
section
set_option linter.unusedVariables false
open Go.ChangeShapes Go.WideShapes Go.ChangeAt Go.RowKit

theorem do_jal {x : Ins} {h a b c v : Int} {p : Pt} (hr : x.right = true) (ho : x.o = 18) : doP x h a b c v p = (0, { setP 31 (h + 2) p with next := x.i }) := by
  unfold doP
  rw [if_pos (by omega)]
  have e1 : linkP x h p = setP 31 (h + 2) p := by
    unfold linkP writeP
    rw [if_pos ho, late_of hr, if_neg (by simp; omega), wr_of hr]
    unfold wA
    rw [if_neg (by omega), if_pos ho]
  have e2 : toP x h a b = x.i := by unfold toP; rw [if_neg (by omega), if_neg (by omega)]
  have e3 : takenP x a b = true := by unfold takenP; rw [if_neg (by omega), if_neg (by omega)]
  unfold leaveP
  rw [e1, e2, e3, if_pos rfl]
theorem do_jr {x : Ins} {h a b c v : Int} {p : Pt} (ho : x.o = 19) : doP x h a b c v p = (0, { p with next := a }) := by
  unfold doP
  rw [if_pos (by omega)]
  have e1 : linkP x h p = p := by unfold linkP; rw [if_neg (by omega)]
  have e2 : toP x h a b = a := by unfold toP; rw [if_neg (by omega), if_pos ho]
  have e3 : takenP x a b = true := by unfold takenP; rw [if_neg (by omega), if_neg (by omega)]
  unfold leaveP
  rw [e1, e2, e3, if_pos rfl]
theorem IsR.rrNe {A W : World} {b gr gm : Nat} {ov : Value} {I : List Int} {s : St} {rd : Nat} {t : Int} (h : IsR A W b gr gm ov I s rd t) {k b' : Nat} {nx rg lt : Int} (hk : W.heap[k]? = some (stB b' nx rg lt)) : gr ≠ k := by
  intro e
  have h1 := h.rr
  rw [e, hk] at h1
  injection h1 with h1
  injection h1 with _ h1 _
  exact absurd h1 (by decide)
section
variable {A W : World} {b gr gm : Nat} {ov : Value} {I : List Int} {p : Pt} {rd : Nat} {nx rg lt : Int}
set_option maxHeartbeats 8000000 in
theorem qstep_goes (h : IsR A W b gr gm ov I p.st rd 0) (hok : OkP p) (hnx : nx = p.next) (hrg : rg = p.lr) (hlt : p.lr ≠ 0 → lt = p.lv) (X : List Ins) (cv : Value) (ai : Option Addr) (ci : Nat) (hv : Code A cv X) (hi : IntsC A (.slice ai I.length ci) I) (hI : ∀ x ∈ I, (Lit.int .i64 x).wf = true) (hrd : rd ≤ 1000000) (k : Nat) (hp : p.st.place = k) (hk : k < X.length) (hX : X.length ≤ 4096) (hr : (X.getD k Ins.zero).right = true) (hg : 15 ≤ (X.getD k Ins.zero).o ∧ (X.getD k Ins.zero).o ≤ 19) :
    Calls Try.prog 22 #[.agg #[.pointer (some ⟨b, 0, none⟩), .int .i64 nx, .int .i64 rg, .int .i64 lt], cv, .slice ai I.length ci] W fun e W' => ∃ nx' rg' lt', e = .returned (.agg #[.pointer (some ⟨b, 0, none⟩), .int .i64 nx', .int .i64 rg', .int .i64 lt']) ∧ AfterQ A W W' b gr gm I (stepP X p) rd nx' rg' lt' := by
  obtain ⟨ao, cap, rfl, hc⟩ := id hv
  obtain ⟨bc, oc, rfl, hbc, hca⟩ := hc (by omega)
  obtain ⟨a0, a1, a2, a3, a4⟩ := (hca.stay hbc h.bel) k hk
  obtain ⟨c0, c1, c2, c3, c4, c5⟩ := refB_cells h.box
  rw [hp] at c2
  have lb := lt_of_heap h.box
  have hbs := h.bel.size
  have hbcW : bc < W.heap.size := by omega
  have hk1 : (k : Int) < X.length := by omega
  have hk0 : (0 : Int) ≤ (k : Int) := by omega
  have hd : decide ((k : Int) < 0) = false := by simp
  have HStep := hidm (step_at hp hk rfl hr)
  have hn : Wd p.next := by
    rcases hok.next with q | q
    · exact q
    · rw [q, hp]; unfold Wd; omega
  have hnb : -2147483648 ≤ nx ∧ nx ≤ 2147483647 := by rw [hnx]; exact hn
  have hrb : 0 ≤ rg ∧ rg ≤ 31 := by rw [hrg]; exact hok.lr
  have HLt := hidm hlt
  have HLv := hidm hok.lv
  have HNX := hidm hnx
  have HRG := hidm hrg
  clear hc hca hn hnx hrg hlt
  generalize X.getD k Ins.zero = x at *
  have hbd := right_bd hr
  have HR : Hid (∀ w, Calls Try.prog 35 #[.agg #[.int .i64 x.o, .int .i64 x.a, .int .i64 x.b, .int .i64 x.c, .int .i64 x.i]] w fun e w' => e = .returned (.bool true) ∧ Bel w w') := hidm (fun w => by
    have := refRight_any x.o x.a x.b x.c x.i w
    rw [show rightB x.o x.a x.b x.c x.i = true from hr] at this
    exact this)
  have HWr : Hid (∀ w, Calls Try.prog 36 #[.agg #[.int .i64 x.o, .int .i64 x.a, .int .i64 x.b, .int .i64 x.c, .int .i64 x.i]] w fun e w' => e = .returned (.int .i64 x.wr) ∧ Bel w w') := hidm (fun w => refWrites_any x.o x.a x.b x.c x.i w)
  have HGo : Hid (∀ w, Calls Try.prog 37 #[.agg #[.int .i64 x.o, .int .i64 x.a, .int .i64 x.b, .int .i64 x.c, .int .i64 x.i]] w fun e w' => e = .returned (.bool true) ∧ Bel w w') := hidm (fun w => by
    have := refGoes_any x.o x.a x.b x.c x.i w
    rw [show goesB x.o x.a x.b x.c x.i = true from by unfold goesB; rw [show rightB x.o x.a x.b x.c x.i = true from hr, decide_eq_true hg]; rfl] at this
    exact this)
  obtain ⟨ka, hka⟩ := nat_of hbd.2.2.1
  obtain ⟨kb, hkb⟩ := nat_of hbd.2.2.2.2.1
  obtain ⟨kc, hkc⟩ := nat_of hbd.2.2.2.2.2.2.1
  have la : (ka : Int) < 32 := by omega
  have lb2 : (kb : Int) < 32 := by omega
  have lc : (kc : Int) < 32 := by omega
  have HKA := hidm hka
  have HKB := hidm hkb
  have HKC := hidm hkc
  have HH := hidm h
  clear hka hkb hkc h hv
  have HG0 := hidm hg
  have HR0x := hidm hr
  clear hg
  go_enter Try.func22, Try.ntmps22
  go_wp2_with (first
    | (go_at_call 35; refine (Hid.out HR _).mono ?_; rintro e w2 ⟨rfl, B2⟩; refine Hid.out ?_)
    | fail)
  have B02 : Bel W w2 := btrans ((((Bel.refl W).alloc _).alloc _).alloc _) B2
  have hs2 : w2.heap[W.heap.size]? = some (stB b nx rg lt) := (B2.out.block _ (by simp <;> omega)).trans (heap_old (heap_old (heap_new W _)))
  have hz2 : w2.heap[W.heap.size + 1]? = some stZ := (B2.out.block _ (by simp <;> omega)).trans (heap_old (heap_at2 W _ _))
  have hx2 : w2.heap[W.heap.size + 1 + 1]? = some (insB x.o x.a x.b x.c x.i) := (B2.out.block _ (by simp)).trans (heap_at3 W _ _ _)
  clear B2
  refine hidm ?_
  have h2 := (Hid.out HH).stay B02
  obtain ⟨d0, d1, d2, d3, d4⟩ := insB_cells hx2
  obtain ⟨p0, p1, p2, p3, p4, p5⟩ := refB_cells h2.box
  rw [Hid.out HKA] at d1
  rw [Hid.out HKB] at d2
  rw [Hid.out HKC] at d3
  have r1 := h2.regAt ka (by omega)
  have r2 := h2.regAt kb (by omega)
  have r3 := h2.regAt kc (by omega)
  have r4 := h2.regAt 4 (by omega)
  have wa := reg_wd h2.ok ka
  have wb := reg_wd h2.ok kb
  have wc := reg_wd h2.ok kc
  have hstep := Hid.out HStep
  rw [Hid.out HKA, Hid.out HKB, Hid.out HKC, reg_nat, reg_nat, reg_nat, show reg p.st.regs 4 = p.st.regs[4]?.getD 0 from rfl] at hstep
  rw [reg_nat] at wa wb wc
  generalize p.st.regs[ka]?.getD 0 = va at *
  generalize p.st.regs[kb]?.getD 0 = vb at *
  generalize p.st.regs[kc]?.getD 0 = vc at *
  generalize p.st.regs[4]?.getD 0 = vd at *
  have HE := hidm hstep
  clear hstep HStep a0 a1 a2 a3 a4 c0 c1 c2 c3 c4 c5
  go_wp2_with fail
  go_quiet (fail)
  have h3 := h2.stay (Bel.drewN w2 nq)
  have hs3 : (w2.drewN nq).heap[W.heap.size]? = some (stB b nx rg lt) := ((Bel.drewN w2 nq).out.block _ (lt_of_heap hs2)).trans hs2
  have hz3 : (w2.drewN nq).heap[W.heap.size + 1]? = some stZ := ((Bel.drewN w2 nq).out.block _ (lt_of_heap hz2)).trans hz2
  have hx3 : (w2.drewN nq).heap[W.heap.size + 1 + 1]? = some (insB x.o x.a x.b x.c x.i) := ((Bel.drewN w2 nq).out.block _ (lt_of_heap hx2)).trans hx2
  have HK3 : Hid (Kept (MutR A.heap.size) W (w2.drewN nq)) := hidm (Kept.of_bel (btrans B02 (Bel.drewN w2 nq)))
  clear h2 hs2 hz2 hx2 B02 d0 d1 d2 d3 d4 p0 p1 p2 p3 p4 p5 r1 r2 r3 r4 HH
  generalize w2.drewN nq = V at *
  obtain ⟨s0, s1, s2, s3⟩ := stB_cells hs3
  have H3 := hidm h3
  have HS3 := hidm hs3
  have HZ3 := hidm hz3
  have HX3 := hidm hx3
  have hcase : rg = 0 ∨ ∃ kr : Nat, rg = kr ∧ 0 < kr ∧ kr < 32 := by
    rcases Int.lt_or_le 0 rg with q | q
    · exact .inr ⟨rg.toNat, by omega, by omega, by omega⟩
    · exact .inl (by omega)
  clear hs3 hz3 hx3
  rcases hcase with hr0 | ⟨kr, hkr, hkr0, hkr1⟩
  case' inr =>
    have g0 := (refB_cells h3.box).1
    have g1 := h3.regAt kr hkr1
    have g2 := frozen_of h3.rr kr
    have hkr2 : (kr : Int) < 32 := by omega
    have hkr3 : ((kr : Int) == 0) = false := by simp; omega
    have HKR := hidm hkr
    rw [hkr] at s2
    have hlv : lt = p.lv := Hid.out HLt (by rw [← Hid.out HRG, hkr]; omega)
    have hwl : Wd lt := by rw [hlv]; exact Hid.out HLv
    have HSR := hidm (h3.setReg kr hkr1 (by omega) lt hwl)
    have HLV := hidm hlv
    have hre : setR p.st.regs p.lr p.lv = p.st.regs.set kr lt := by unfold setR; rw [← Hid.out HRG, hkr, if_neg (by omega), Int.toNat_natCast, ← hlv]
    have HRE := hidm hre
    have nbg : b ≠ gr := fun e => h3.bne.1 e.symm
    clear h3 hkr hre hlv
    go_wp2_with fail
    go_region
    have h4 := (Hid.out HSR).1.stay ((Bel.refl _).drew)
    rw [← Hid.out HRE] at h4
    have hkk : Kept (MutR A.heap.size) V (V.setCell ⟨gr, kr, none⟩ (.int .i64 lt)).drew := (Hid.out HSR).2.trans (Kept.drew _ _)
    have hs4 := stB_kept hkk (Hid.out HS3)
    have hz4 := keptR_box hkk (Hid.out HZ3) (by decide) (by decide)
    have hx4 := insR_kept hkk (Hid.out HX3)
    have HK4 := hidm ((Hid.out HK3).trans hkk)
    clear s0 s1 s2 s3 g0 g1 g2 HSR hkk HS3 HZ3 HX3 H3 HK3
    generalize (V.setCell ⟨gr, kr, none⟩ (.int .i64 lt)).drew = V4 at *
  case' inl =>
    have hre : setR p.st.regs p.lr p.lv = p.st.regs := by unfold setR; rw [← Hid.out HRG, if_pos hr0]
    have h4 : IsR A V b gr gm ov I { p.st with regs := setR p.st.regs p.lr p.lv } rd 0 := by rw [hre]; exact Hid.out H3
    have hs4 := Hid.out HS3
    have hz4 := Hid.out HZ3
    have hx4 := Hid.out HX3
    have HK4 := HK3
    clear h3 hre s0 s1 s2 s3 H3 HS3 HZ3 HX3 HK3
    have HR0 := hidm hr0
    clear hr0
    obtain ⟨s0, s1, s2, s3⟩ := stB_cells hs4
    rw [Hid.out HR0] at s2
    clear s0 s1 s3
    generalize V = V4 at *
  all_goals
    have lV := lt_of_heap h4.box
    have lX := lt_of_heap hx4
    have lS := lt_of_heap hs4
    have nS : W.heap.size ≠ b := by omega
    have nI : W.heap.size + 1 + 1 ≠ b := by omega
    have sc := stB_cells hs4
    have s0' := sc.1
    have s1' := sc.2.1
    clear sc
    obtain ⟨e0, e1, e2, e3, e4⟩ := insB_cells hx4
    obtain ⟨q0, q1, q2, q3, q4, q5⟩ := refB_cells h4.box
    have f2 := frozen_of h4.box 2
    dsimp only at q2
    rw [hp] at q2
    have HSB := hidm (h4.setBox 2 (.int .i64 nx) nx rd 0 p.st.inp h4.inp rfl)
    have HS4 := hidm hs4
    have HZ4 := hidm hz4
    have HX4 := hidm hx4
    clear h4 hs4 hz4 hx4
    go_wp2_with (first
      | (go_at_call 36; refine (Hid.out HWr _).mono ?_; rintro e w5 ⟨rfl, B5⟩; refine Hid.out ?_)
      | fail)
    have K5 : Kept (MutR A.heap.size) V4 w5 := (Hid.out HSB).2.trans (Kept.of_bel (btrans ((Bel.refl _).alloc _) B5))
    have h5 := (Hid.out HSB).1.stay (btrans ((Bel.refl _).alloc _) B5)
    have hs5 := stB_kept K5 (Hid.out HS4)
    have hz5 := keptR_box K5 (Hid.out HZ4) (by decide) (by decide)
    have hx5 := insR_kept K5 (Hid.out HX4)
    have ho5 : w5.heap[V4.heap.size]? = some (stB b (nx + 1) 0 0) := (B5.out.block _ (by simp)).trans (by rw [← size_set V4 ⟨b, 2, none⟩ (.int .i64 nx)]; exact heap_new _ _)
    have HK5 := hidm ((Hid.out HK4).trans K5)
    have lV5 := lt_of_heap ho5
    clear s0' s1' e0 e1 e2 e3 e4 q0 q1 q2 q3 q4 q5 f2 K5 B5 HSB HS4 HZ4 HX4 HK4
    try clear s2
    have hnp : ({ p.st with regs := setR p.st.regs p.lr p.lv, place := nx } : St) = (arriveP (aheadP p)).st := by rw [Hid.out HNX]; rfl
    have h5' : IsR A w5 b gr gm ov I (arriveP (aheadP p)).st rd 0 := by rw [← hnp]; exact h5
    clear h5 hnp
    have nbX : W.heap.size + 1 + 1 ≠ V4.heap.size := by omega
    have nbX' := nbX.symm
    have lZ5 := lt_of_heap hz5
    have nbZ : W.heap.size + 1 ≠ V4.heap.size := by omega
    obtain ⟨e0, e1, e2, e3, e4⟩ := insB_cells hx5
    have HX5 := hidm hx5
    have HZ5 := hidm hz5
    have HO5 := hidm ho5
    have H5 := hidm h5'
    clear hs5 hz5 hx5 ho5 h5'
    refine hidm ?_
    go_wp2_with (first
      | (go_at_call 37; refine (Hid.out HGo _).mono ?_; rintro e w6 ⟨rfl, B6⟩; refine Hid.out ?_)
      | fail)
    have h6 := (Hid.out H5).stay B6
    have hz6 := (B6.out.block _ (lt_of_heap (Hid.out HZ5))).trans (Hid.out HZ5)
    have hx6 := (B6.out.block _ (lt_of_heap (Hid.out HX5))).trans (Hid.out HX5)
    have ho6 := (B6.out.block _ (lt_of_heap (Hid.out HO5))).trans (Hid.out HO5)
    have HK6 := hidm ((Hid.out HK5).trans (Kept.of_bel B6))
    have l6 := lt_of_heap ho6
    clear e0 e1 e2 e3 e4 HX5 HZ5 HO5 H5 HK5 B6
    generalize V4.heap.size = ko at *
    refine hidm ?_
    obtain ⟨e0, e1, e2, e3, e4⟩ := insB_cells hx6
    obtain ⟨z0, z1, z2, z3⟩ := stB_cells ho6
    have zf : ∀ j, w6.frozen? ⟨ko, j, none⟩ = false := fun j => frozen_of ho6 j
    have y0 : w6.cell? ⟨W.heap.size + 1, 0, none⟩ = some (.pointer none) := cell_of hz6 0
    have y1 : w6.cell? ⟨W.heap.size + 1, 1, none⟩ = some (.int .i64 0) := cell_of hz6 1
    have y2 : w6.cell? ⟨W.heap.size + 1, 2, none⟩ = some (.int .i64 0) := cell_of hz6 2
    have y3 : w6.cell? ⟨W.heap.size + 1, 3, none⟩ = some (.int .i64 0) := cell_of hz6 3
    have g0 : ∀ j, w6.frozen? ⟨W.heap.size + 1, j, none⟩ = false := fun j => frozen_of hz6 j
    have nbZ' := nbZ.symm
    have lko := lt_of_heap ho6
    have hAk : A.heap.size ≤ ko := by omega
    have hWk : W.heap.size ≤ ko := by omega
    have H6 := hidm h6
    have HZ6 := hidm hz6
    have HO6 := hidm ho6
    clear h6 hz6 ho6 hx6
    have hcase : x.o = 15 ∨ x.o = 16 ∨ x.o = 17 ∨ x.o = 18 ∨ x.o = 19 := by have := Hid.out HG0; omega
    rcases hcase with q | q | q | q | q
    · rw [q] at e0
      have HQ := hidm q
      clear q
      cases hb : va == vb
      · have HB := hidm hb
        go_wp2
        have he := Hid.out HE
        rw [do_br (.inl (Hid.out HQ)), show takenP x va vb = false from by unfold takenP; rw [if_pos (Hid.out HQ)]; exact Hid.out HB, if_neg (by decide)] at he
        refine bodyPost_ret (v := .agg #[.pointer (some ⟨b, 0, none⟩), .int .i64 (nx + 1), .int .i64 0, .int .i64 0]) (by simp [results, Try.results22, go_sem, y0, y1, y2, y3]) rfl ⟨_, _, _, rfl, ?_⟩
        rw [he]
        exact qend (Hid.out H6) (Hid.out HZ6) hbs (Nat.le_succ _) (Hid.out HK6) (Nat.le_succ _) (fun _ => ⟨by rw [Hid.out HNX]; rfl, rfl, fun q => absurd rfl q⟩) _ _ _ _
      · have HB := hidm hb
        go_wp2
        have he := Hid.out HE
        rw [do_br (.inl (Hid.out HQ)), show takenP x va vb = true from by unfold takenP; rw [if_pos (Hid.out HQ)]; exact Hid.out HB, if_pos rfl] at he
        refine bodyPost_ret (v := .agg #[.pointer (some ⟨b, 0, none⟩), .int .i64 ((k : Int) + 1 + x.i), .int .i64 0, .int .i64 0]) (by simp [results, Try.results22, go_sem, y0, y1, y2, y3]) rfl ⟨_, _, _, rfl, ?_⟩
        rw [he]
        obtain ⟨h7, o7⟩ := (Hid.out H6).far (Hid.out HO6) hAk 1 (.int .i64 ((k : Int) + 1 + x.i))
        exact qend h7 ((heap_set_other nbZ).trans (Hid.out HZ6)) hbs (Nat.le_succ _) (keptR_new (Hid.out HK6) hWk 1 _) (Nat.le_succ _) (fun _ => ⟨rfl, rfl, fun q => absurd rfl q⟩) _ _ _ _
    · rw [q] at e0
      have HQ := hidm q
      clear q
      cases hb : va != vb
      · have HB := hidm hb
        go_wp2
        have he := Hid.out HE
        rw [do_br (.inr (Hid.out HQ)), show takenP x va vb = false from by unfold takenP; rw [if_neg (by rw [Hid.out HQ]; decide), if_pos (Hid.out HQ)]; exact Hid.out HB, if_neg (by decide)] at he
        refine bodyPost_ret (v := .agg #[.pointer (some ⟨b, 0, none⟩), .int .i64 (nx + 1), .int .i64 0, .int .i64 0]) (by simp [results, Try.results22, go_sem, y0, y1, y2, y3]) rfl ⟨_, _, _, rfl, ?_⟩
        rw [he]
        exact qend (Hid.out H6) (Hid.out HZ6) hbs (Nat.le_succ _) (Hid.out HK6) (Nat.le_succ _) (fun _ => ⟨by rw [Hid.out HNX]; rfl, rfl, fun q => absurd rfl q⟩) _ _ _ _
      · have HB := hidm hb
        go_wp2
        have he := Hid.out HE
        rw [do_br (.inr (Hid.out HQ)), show takenP x va vb = true from by unfold takenP; rw [if_neg (by rw [Hid.out HQ]; decide), if_pos (Hid.out HQ)]; exact Hid.out HB, if_pos rfl] at he
        refine bodyPost_ret (v := .agg #[.pointer (some ⟨b, 0, none⟩), .int .i64 ((k : Int) + 1 + x.i), .int .i64 0, .int .i64 0]) (by simp [results, Try.results22, go_sem, y0, y1, y2, y3]) rfl ⟨_, _, _, rfl, ?_⟩
        rw [he]
        obtain ⟨h7, o7⟩ := (Hid.out H6).far (Hid.out HO6) hAk 1 (.int .i64 ((k : Int) + 1 + x.i))
        exact qend h7 ((heap_set_other nbZ).trans (Hid.out HZ6)) hbs (Nat.le_succ _) (keptR_new (Hid.out HK6) hWk 1 _) (Nat.le_succ _) (fun _ => ⟨rfl, rfl, fun q => absurd rfl q⟩) _ _ _ _
    · rw [q] at e0
      have HQ := hidm q
      clear q
      go_wp2
      have he := Hid.out HE
      rw [do_jmp (Hid.out HQ)] at he
      refine bodyPost_ret (v := .agg #[.pointer (some ⟨b, 0, none⟩), .int .i64 (x.i), .int .i64 0, .int .i64 0]) (by simp [results, Try.results22, go_sem, y0, y1, y2, y3]) rfl ⟨_, _, _, rfl, ?_⟩
      rw [he]
      obtain ⟨h7, o7⟩ := (Hid.out H6).far (Hid.out HO6) hAk 1 (.int .i64 (x.i))
      exact qend h7 ((heap_set_other nbZ).trans (Hid.out HZ6)) hbs (Nat.le_succ _) (keptR_new (Hid.out HK6) hWk 1 _) (Nat.le_succ _) (fun _ => ⟨rfl, rfl, fun q => absurd rfl q⟩) _ _ _ _
    · rw [q] at e0
      have HQ := hidm q
      clear q
      have j0 := (refB_cells (Hid.out H6).box).1
      have j1 := (Hid.out H6).regAt 31 (by omega)
      have j2 := frozen_of (Hid.out H6).rr 31
      have nbo : b ≠ ko := by omega
      have nro : gr ≠ ko := (Hid.out H6).rrNe (Hid.out HO6)
      have nbo' := nbo.symm
      have nro' := nro.symm
      go_wp2
      have he := Hid.out HE
      rw [do_jal (Hid.out HR0x) (Hid.out HQ)] at he
      refine bodyPost_ret (v := .agg #[.pointer (some ⟨b, 0, none⟩), .int .i64 (x.i), .int .i64 0, .int .i64 0]) (by simp [results, Try.results22, go_sem, y0, y1, y2, y3]) rfl ⟨_, _, _, rfl, ?_⟩
      rw [he]
      obtain ⟨h7, o7⟩ := (Hid.out H6).far (Hid.out HO6) hAk 1 (.int .i64 (x.i))
      have h8 := h7.setReg 31 (by omega) (by omega) ((k : Int) + 2) (by unfold Wd; omega)
      have hz8 := keptR_box h8.2 ((heap_set_other nbZ).trans (Hid.out HZ6)) (by decide) (by decide)
      exact qend h8.1 hz8 hbs (Nat.le_succ _) ((keptR_new (Hid.out HK6) hWk 1 _).trans h8.2) (Nat.le_succ _) (fun _ => ⟨rfl, rfl, fun q => absurd rfl q⟩) _ _ _ _
    · rw [q] at e0
      have HQ := hidm q
      clear q
      go_wp2
      have he := Hid.out HE
      rw [do_jr (Hid.out HQ)] at he
      refine bodyPost_ret (v := .agg #[.pointer (some ⟨b, 0, none⟩), .int .i64 (va), .int .i64 0, .int .i64 0]) (by simp [results, Try.results22, go_sem, y0, y1, y2, y3]) rfl ⟨_, _, _, rfl, ?_⟩
      rw [he]
      obtain ⟨h7, o7⟩ := (Hid.out H6).far (Hid.out HO6) hAk 1 (.int .i64 (va))
      exact qend h7 ((heap_set_other nbZ).trans (Hid.out HZ6)) hbs (Nat.le_succ _) (keptR_new (Hid.out HK6) hWk 1 _) (Nat.le_succ _) (fun _ => ⟨rfl, rfl, fun q => absurd rfl q⟩) _ _ _ _
end
end
end Go.Proofs.Ythkhlkcdhalkfaa
