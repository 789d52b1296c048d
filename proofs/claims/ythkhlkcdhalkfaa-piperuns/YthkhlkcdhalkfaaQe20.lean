/-
  A step of the reference of layer 8: an instruction that acts (12).
  A step of the reference of layer 8: an instruction that acts (13).
  A step of the reference of layer 8: an instruction that acts (14).
  A step of the reference of layer 8: an instruction that acts (20).
-/
import Derived.Test.YthkhlkcdhalkfaaQb
import Derived.Test.YthkhlkcdhalkfaaQd
import Derived.Test.YthkhlkcdhalkfaaPz
import Derived.RegionTactic
namespace Go.Proofs.Ythkhlkcdhalkfaa
set_option maxRecDepth 20000
section
set_option linter.unusedVariables false
open Go.ChangeShapes Go.WideShapes Go.ChangeAt Go.RowKit

section
variable {A W : World} {b gr gm : Nat} {ov : Value} {I : List Int} {p : Pt} {rd : Nat} {nx rg lt : Int}
set_option maxHeartbeats 8000000 in
theorem qstep_12 (h : IsR A W b gr gm ov I p.st rd 0) (hok : OkP p) (hnx : nx = p.next) (hrg : rg = p.lr) (hlt : p.lr ≠ 0 → lt = p.lv) (X : List Ins) (cv : Value) (ai : Option Addr) (ci : Nat) (hv : Code A cv X) (hi : IntsC A (.slice ai I.length ci) I) (hI : ∀ x ∈ I, (Lit.int .i64 x).wf = true) (hrd : rd ≤ 1000000) (k : Nat) (hp : p.st.place = k) (hk : k < X.length) (hX : X.length ≤ 4096) (hr : (X.getD k Ins.zero).right = true) (ho : (X.getD k Ins.zero).o = 12) (hg : ¬ (15 ≤ (X.getD k Ins.zero).o ∧ (X.getD k Ins.zero).o ≤ 19)) :
    Calls Try.prog 22 #[.agg #[.pointer (some ⟨b, 0, none⟩), .int .i64 nx, .int .i64 rg, .int .i64 lt], cv, .slice ai I.length ci] W fun e W' => ∃ nx' rg' lt', e = .returned (.agg #[.pointer (some ⟨b, 0, none⟩), .int .i64 nx', .int .i64 rg', .int .i64 lt']) ∧ AfterQ A W W' b gr gm I (stepP X p) rd nx' rg' lt' := by
  obtain ⟨ao, cap, rfl, hc⟩ := id hv
  obtain ⟨bc, oc, rfl, hbc, hca⟩ := hc (by omega)
  obtain ⟨a0, a1, a2, a3, a4⟩ := (hca.stay hbc h.bel) k hk
  obtain ⟨c0, c1, c2, c3, c4, c5⟩ := refB_cells h.box
  rw [hp] at c2
  have lb := lt_of_heap h.box
  have hbs := h.bel.size
  have hbcW : bc < W.heap.size := by omega
  have hk1 : (k : Int) < X.length := by omega
  have hk0 : (0 : Int) ≤ (k : Int) := by omega
  have hd : decide ((k : Int) < 0) = false := by simp
  have HStep := hidm (step_at hp hk rfl hr)
  have hn : Wd p.next := by
    rcases hok.next with q | q
    · exact q
    · rw [q, hp]; unfold Wd; omega
  have hnb : -2147483648 ≤ nx ∧ nx ≤ 2147483647 := by rw [hnx]; exact hn
  have hrb : 0 ≤ rg ∧ rg ≤ 31 := by rw [hrg]; exact hok.lr
  have HLt := hidm hlt
  have HLv := hidm hok.lv
  have HNX := hidm hnx
  have HRG := hidm hrg
  clear hc hca hn hnx hrg hlt
  generalize X.getD k Ins.zero = x at *
  have hbd := right_bd hr
  have HR : Hid (∀ w, Calls Try.prog 35 #[.agg #[.int .i64 x.o, .int .i64 x.a, .int .i64 x.b, .int .i64 x.c, .int .i64 x.i]] w fun e w' => e = .returned (.bool true) ∧ Bel w w') := hidm (fun w => by
    have := refRight_any x.o x.a x.b x.c x.i w
    rw [show rightB x.o x.a x.b x.c x.i = true from hr] at this
    exact this)
  have HWr : Hid (∀ w, Calls Try.prog 36 #[.agg #[.int .i64 x.o, .int .i64 x.a, .int .i64 x.b, .int .i64 x.c, .int .i64 x.i]] w fun e w' => e = .returned (.int .i64 x.wr) ∧ Bel w w') := hidm (fun w => refWrites_any x.o x.a x.b x.c x.i w)
  have HGo : Hid (∀ w, Calls Try.prog 37 #[.agg #[.int .i64 x.o, .int .i64 x.a, .int .i64 x.b, .int .i64 x.c, .int .i64 x.i]] w fun e w' => e = .returned (.bool false) ∧ Bel w w') := hidm (fun w => by
    have := refGoes_any x.o x.a x.b x.c x.i w
    rw [show goesB x.o x.a x.b x.c x.i = false from by unfold goesB; rw [show rightB x.o x.a x.b x.c x.i = true from hr, decide_eq_false hg]; rfl] at this
    exact this)
  obtain ⟨ka, hka⟩ := nat_of hbd.2.2.1
  obtain ⟨kb, hkb⟩ := nat_of hbd.2.2.2.2.1
  obtain ⟨kc, hkc⟩ := nat_of hbd.2.2.2.2.2.2.1
  have la : (ka : Int) < 32 := by omega
  have lb2 : (kb : Int) < 32 := by omega
  have lc : (kc : Int) < 32 := by omega
  have HKA := hidm hka
  have HKB := hidm hkb
  have HKC := hidm hkc
  have HH := hidm h
  clear hka hkb hkc h hv
  have HOo := hidm ho
  have HR0x := hidm hr
  clear ho hg
  go_enter Try.func22, Try.ntmps22
  go_wp2_with (first
    | (go_at_call 35; refine (Hid.out HR _).mono ?_; rintro e w2 ⟨rfl, B2⟩; refine Hid.out ?_)
    | fail)
  have B02 : Bel W w2 := btrans ((((Bel.refl W).alloc _).alloc _).alloc _) B2
  have hs2 : w2.heap[W.heap.size]? = some (stB b nx rg lt) := (B2.out.block _ (by simp <;> omega)).trans (heap_old (heap_old (heap_new W _)))
  have hz2 : w2.heap[W.heap.size + 1]? = some stZ := (B2.out.block _ (by simp <;> omega)).trans (heap_old (heap_at2 W _ _))
  have hx2 : w2.heap[W.heap.size + 1 + 1]? = some (insB x.o x.a x.b x.c x.i) := (B2.out.block _ (by simp)).trans (heap_at3 W _ _ _)
  clear B2
  refine hidm ?_
  have h2 := (Hid.out HH).stay B02
  obtain ⟨d0, d1, d2, d3, d4⟩ := insB_cells hx2
  obtain ⟨p0, p1, p2, p3, p4, p5⟩ := refB_cells h2.box
  rw [Hid.out HKA] at d1
  rw [Hid.out HKB] at d2
  rw [Hid.out HKC] at d3
  have r1 := h2.regAt ka (by omega)
  have r2 := h2.regAt kb (by omega)
  have r3 := h2.regAt kc (by omega)
  have r4 := h2.regAt 4 (by omega)
  have wa := reg_wd h2.ok ka
  have wb := reg_wd h2.ok kb
  have wc := reg_wd h2.ok kc
  have hstep := Hid.out HStep
  rw [Hid.out HKA, Hid.out HKB, Hid.out HKC, reg_nat, reg_nat, reg_nat, show reg p.st.regs 4 = p.st.regs[4]?.getD 0 from rfl] at hstep
  rw [reg_nat] at wa wb wc
  generalize p.st.regs[ka]?.getD 0 = va at *
  generalize p.st.regs[kb]?.getD 0 = vb at *
  generalize p.st.regs[kc]?.getD 0 = vc at *
  generalize p.st.regs[4]?.getD 0 = vd at *
  have HE := hidm hstep
  clear hstep HStep a0 a1 a2 a3 a4 c0 c1 c2 c3 c4 c5
  go_wp2_with fail
  go_quiet (fail)
  have h3 := h2.stay (Bel.drewN w2 nq)
  have hs3 : (w2.drewN nq).heap[W.heap.size]? = some (stB b nx rg lt) := ((Bel.drewN w2 nq).out.block _ (lt_of_heap hs2)).trans hs2
  have hz3 : (w2.drewN nq).heap[W.heap.size + 1]? = some stZ := ((Bel.drewN w2 nq).out.block _ (lt_of_heap hz2)).trans hz2
  have hx3 : (w2.drewN nq).heap[W.heap.size + 1 + 1]? = some (insB x.o x.a x.b x.c x.i) := ((Bel.drewN w2 nq).out.block _ (lt_of_heap hx2)).trans hx2
  have HK3 : Hid (Kept (MutR A.heap.size) W (w2.drewN nq)) := hidm (Kept.of_bel (btrans B02 (Bel.drewN w2 nq)))
  clear h2 hs2 hz2 hx2 B02 d0 d1 d2 d3 d4 p0 p1 p2 p3 p4 p5 r1 r2 r3 r4 HH
  generalize w2.drewN nq = V at *
  obtain ⟨s0, s1, s2, s3⟩ := stB_cells hs3
  have H3 := hidm h3
  have HS3 := hidm hs3
  have HZ3 := hidm hz3
  have HX3 := hidm hx3
  have hcase : rg = 0 ∨ ∃ kr : Nat, rg = kr ∧ 0 < kr ∧ kr < 32 := by
    rcases Int.lt_or_le 0 rg with q | q
    · exact .inr ⟨rg.toNat, by omega, by omega, by omega⟩
    · exact .inl (by omega)
  clear hs3 hz3 hx3
  rcases hcase with hr0 | ⟨kr, hkr, hkr0, hkr1⟩
  case' inr =>
    have g0 := (refB_cells h3.box).1
    have g1 := h3.regAt kr hkr1
    have g2 := frozen_of h3.rr kr
    have hkr2 : (kr : Int) < 32 := by omega
    have hkr3 : ((kr : Int) == 0) = false := by simp; omega
    have HKR := hidm hkr
    rw [hkr] at s2
    have hlv : lt = p.lv := Hid.out HLt (by rw [← Hid.out HRG, hkr]; omega)
    have hwl : Wd lt := by rw [hlv]; exact Hid.out HLv
    have HSR := hidm (h3.setReg kr hkr1 (by omega) lt hwl)
    have HLV := hidm hlv
    have hre : setR p.st.regs p.lr p.lv = p.st.regs.set kr lt := by unfold setR; rw [← Hid.out HRG, hkr, if_neg (by omega), Int.toNat_natCast, ← hlv]
    have HRE := hidm hre
    have nbg : b ≠ gr := fun e => h3.bne.1 e.symm
    clear h3 hkr hre hlv
    go_wp2_with fail
    go_region
    have h4 := (Hid.out HSR).1.stay ((Bel.refl _).drew)
    rw [← Hid.out HRE] at h4
    have hkk : Kept (MutR A.heap.size) V (V.setCell ⟨gr, kr, none⟩ (.int .i64 lt)).drew := (Hid.out HSR).2.trans (Kept.drew _ _)
    have hs4 := stB_kept hkk (Hid.out HS3)
    have hz4 := keptR_box hkk (Hid.out HZ3) (by decide) (by decide)
    have hx4 := insR_kept hkk (Hid.out HX3)
    have HK4 := hidm ((Hid.out HK3).trans hkk)
    clear s0 s1 s2 s3 g0 g1 g2 HSR hkk HS3 HZ3 HX3 H3 HK3
    generalize (V.setCell ⟨gr, kr, none⟩ (.int .i64 lt)).drew = V4 at *
  case' inl =>
    have hre : setR p.st.regs p.lr p.lv = p.st.regs := by unfold setR; rw [← Hid.out HRG, if_pos hr0]
    have h4 : IsR A V b gr gm ov I { p.st with regs := setR p.st.regs p.lr p.lv } rd 0 := by rw [hre]; exact Hid.out H3
    have hs4 := Hid.out HS3
    have hz4 := Hid.out HZ3
    have hx4 := Hid.out HX3
    have HK4 := HK3
    clear h3 hre s0 s1 s2 s3 H3 HS3 HZ3 HX3 HK3
    have HR0 := hidm hr0
    clear hr0
    obtain ⟨s0, s1, s2, s3⟩ := stB_cells hs4
    rw [Hid.out HR0] at s2
    clear s0 s1 s3
    generalize V = V4 at *
  all_goals
    have lV := lt_of_heap h4.box
    have lX := lt_of_heap hx4
    have lS := lt_of_heap hs4
    have nS : W.heap.size ≠ b := by omega
    have nI : W.heap.size + 1 + 1 ≠ b := by omega
    have sc := stB_cells hs4
    have s0' := sc.1
    have s1' := sc.2.1
    clear sc
    obtain ⟨e0, e1, e2, e3, e4⟩ := insB_cells hx4
    obtain ⟨q0, q1, q2, q3, q4, q5⟩ := refB_cells h4.box
    have f2 := frozen_of h4.box 2
    dsimp only at q2
    rw [hp] at q2
    have HSB := hidm (h4.setBox 2 (.int .i64 nx) nx rd 0 p.st.inp h4.inp rfl)
    have HS4 := hidm hs4
    have HZ4 := hidm hz4
    have HX4 := hidm hx4
    clear h4 hs4 hz4 hx4
    go_wp2_with (first
      | (go_at_call 36; refine (Hid.out HWr _).mono ?_; rintro e w5 ⟨rfl, B5⟩; refine Hid.out ?_)
      | fail)
    have K5 : Kept (MutR A.heap.size) V4 w5 := (Hid.out HSB).2.trans (Kept.of_bel (btrans ((Bel.refl _).alloc _) B5))
    have h5 := (Hid.out HSB).1.stay (btrans ((Bel.refl _).alloc _) B5)
    have hs5 := stB_kept K5 (Hid.out HS4)
    have hz5 := keptR_box K5 (Hid.out HZ4) (by decide) (by decide)
    have hx5 := insR_kept K5 (Hid.out HX4)
    have ho5 : w5.heap[V4.heap.size]? = some (stB b (nx + 1) 0 0) := (B5.out.block _ (by simp)).trans (by rw [← size_set V4 ⟨b, 2, none⟩ (.int .i64 nx)]; exact heap_new _ _)
    have HK5 := hidm ((Hid.out HK4).trans K5)
    have lV5 := lt_of_heap ho5
    clear s0' s1' e0 e1 e2 e3 e4 q0 q1 q2 q3 q4 q5 f2 K5 B5 HSB HS4 HZ4 HX4 HK4
    try clear s2
    have hnp : ({ p.st with regs := setR p.st.regs p.lr p.lv, place := nx } : St) = (arriveP (aheadP p)).st := by rw [Hid.out HNX]; rfl
    have h5' : IsR A w5 b gr gm ov I (arriveP (aheadP p)).st rd 0 := by rw [← hnp]; exact h5
    clear h5 hnp
    have nbX : W.heap.size + 1 + 1 ≠ V4.heap.size := by omega
    have nbX' := nbX.symm
    have lZ5 := lt_of_heap hz5
    have nbZ : W.heap.size + 1 ≠ V4.heap.size := by omega
    obtain ⟨e0, e1, e2, e3, e4⟩ := insB_cells hx5
    have HX5 := hidm hx5
    have HZ5 := hidm hz5
    have HO5 := hidm ho5
    have H5 := hidm h5'
    clear hs5 hz5 hx5 ho5 h5'
    refine hidm ?_
    go_wp2_with (first
      | (go_at_call 37; refine (Hid.out HGo _).mono ?_; rintro e w6 ⟨rfl, B6⟩; refine Hid.out ?_)
      | fail)
    have h6 := (Hid.out H5).stay B6
    have hz6 := (B6.out.block _ (lt_of_heap (Hid.out HZ5))).trans (Hid.out HZ5)
    have hx6 := (B6.out.block _ (lt_of_heap (Hid.out HX5))).trans (Hid.out HX5)
    have ho6 := (B6.out.block _ (lt_of_heap (Hid.out HO5))).trans (Hid.out HO5)
    have HK6 := hidm ((Hid.out HK5).trans (Kept.of_bel B6))
    have l6 := lt_of_heap ho6
    clear e0 e1 e2 e3 e4 HX5 HZ5 HO5 H5 HK5 B6
    generalize V4.heap.size = ko at *
    refine hidm ?_
    obtain ⟨e0, e1, e2, e3, e4⟩ := insB_cells hx6
    obtain ⟨z0, z1, z2, z3⟩ := stB_cells ho6
    have zf : ∀ j, w6.frozen? ⟨ko, j, none⟩ = false := fun j => frozen_of ho6 j
    have y0 : w6.cell? ⟨W.heap.size + 1, 0, none⟩ = some (.pointer none) := cell_of hz6 0
    have y1 : w6.cell? ⟨W.heap.size + 1, 1, none⟩ = some (.int .i64 0) := cell_of hz6 1
    have y2 : w6.cell? ⟨W.heap.size + 1, 2, none⟩ = some (.int .i64 0) := cell_of hz6 2
    have y3 : w6.cell? ⟨W.heap.size + 1, 3, none⟩ = some (.int .i64 0) := cell_of hz6 3
    have g0 : ∀ j, w6.frozen? ⟨W.heap.size + 1, j, none⟩ = false := fun j => frozen_of hz6 j
    have nbZ' := nbZ.symm
    have lko := lt_of_heap ho6
    have hAk : A.heap.size ≤ ko := by omega
    have hWk : W.heap.size ≤ ko := by omega
    have HZ6 := hidm hz6
    have HO6 := hidm ho6
    clear hz6 ho6
    have HEf0 := hidm (effQ h6 rfl x (Hid.out HR0x) (.inl (Hid.out HOo)) k vc va vb vd ai ci hi hI hrd wa wb)
    have HX6 := hidm hx6
    have lb6 := lt_of_heap h6.box
    have hwr := wr_bd x
    clear h6 hx6
    generalize doP x k va vb vc vd (arriveP (aheadP p)) = r at *
    generalize x.wr = wr at *
    all_goals
      rw [Hid.out HOo] at e0 HEf0
      go_wp2_with (first
        | (go_at_call 38; refine (Hid.out HEf0).mono ?_; rintro e w7 ⟨t, v, rfl, ht, hI7, hK7, hnx7, hlr7⟩; refine Hid.out ?_)
        | fail)
      obtain ⟨ov7, rd7, h7, hrd7⟩ := hI7
      have hz7 := keptR_box hK7 (Hid.out HZ6) (by decide) (by decide)
      have ho7 := stB_kept hK7 (Hid.out HO6)
      have K7 := (Hid.out HK6).trans hK7
      obtain ⟨z0, z1, z2, z3⟩ := stB_cells ho7
      have zf : ∀ j, w7.frozen? ⟨ko, j, none⟩ = false := fun j => frozen_of ho7 j
      have y0 : w7.cell? ⟨W.heap.size + 1, 0, none⟩ = some (.pointer none) := cell_of hz7 0
      have y1 : w7.cell? ⟨W.heap.size + 1, 1, none⟩ = some (.int .i64 0) := cell_of hz7 1
      have y2 : w7.cell? ⟨W.heap.size + 1, 2, none⟩ = some (.int .i64 0) := cell_of hz7 2
      have y3 : w7.cell? ⟨W.heap.size + 1, 3, none⟩ = some (.int .i64 0) := cell_of hz7 3
      have g0 : ∀ j, w7.frozen? ⟨W.heap.size + 1, j, none⟩ = false := fun j => frozen_of hz7 j
      have m5 := (refB_cells h7.box).2.2.2.2.2
      have f5 := frozen_of h7.box 5
      have nbo : b ≠ ko := by omega
      have nbo' := nbo.symm
      have nbz : b ≠ W.heap.size + 1 := by omega
      have nbz' := nbz.symm
      obtain ⟨h8, K8⟩ := h7.setBox 5 (.int .i64 t) r.2.st.place rd7 t r.2.st.inp h7.inp rfl
      have hz8 := keptR_box K8 hz7 (by decide) (by decide)
      have ho8 := stB_kept K8 ho7
      have hnxe : nx + 1 = r.2.next := by rw [Hid.out hnx7, Hid.out HNX]; rfl
      have HNE := hidm hnxe
      have H8 := hidm h8
      have HK8 := hidm (K7.trans K8)
      have HZ8 := hidm hz8
      have HO8 := hidm ho8
      have HT := ht
      have HLR := hidm hlr7
      clear h7 h8 hz7 ho7 hz8 ho8 K7 K8 hnx7 hnxe ht hlr7 hK7 e0 e1 e2 e3 e4
      clear HEf0 HWr HR HKA HKB HKC HLt HLv HRG HX6 HZ6 HO6 HK6 HOo HR0x hi hI wa wb wc hok hbd hnb hrb hk1 hk0 hd hX
      have x0 := cell_of (Hid.out HZ8) 0
      have x1 := cell_of (Hid.out HZ8) 1
      have x2 := cell_of (Hid.out HZ8) 2
      have x3 := cell_of (Hid.out HZ8) 3
      refine hidm ?_
      by_cases t0 : t = 0
      · subst t0
        by_cases w0 : wr = 0
        · subst w0
          go_wp2
          refine bodyPost_ret (v := .agg #[.pointer (some ⟨b, 0, none⟩), .int .i64 (nx + 1), .int .i64 0, .int .i64 0]) (by simp [results, Try.results22, go_sem, x0, x1, x2, x3]) rfl ⟨_, _, _, rfl, ?_⟩
          rw [Hid.out HE]
          refine qend (r := r) (by rw [← Hid.out HT]; exact Hid.out H8) (Hid.out HZ8) hbs (Nat.le_succ _) (Hid.out HK8) hrd7 (fun _ => ⟨Hid.out HNE, ?_, fun q => ?_⟩) _ _ _ _
          · rw [(Hid.out HLR (by first | rfl | trivial)).1]
          · exact absurd (Hid.out HLR (by first | rfl | trivial)).1 q
        · have w0' : (wr == 0) = false := by simpa using w0
          have w1' : (wr != 0) = true := by simpa using w0
          go_wp2
          refine bodyPost_ret (v := .agg #[.pointer (some ⟨b, 0, none⟩), .int .i64 (nx + 1), .int .i64 wr, .int .i64 v]) (by simp [results, Try.results22, go_sem, x0, x1, x2, x3]) rfl ⟨_, _, _, rfl, ?_⟩
          rw [Hid.out HE]
          obtain ⟨h9, o9⟩ := (Hid.out H8).far (Hid.out HO8) hAk 2 (.int .i64 wr)
          obtain ⟨h10, o10⟩ := h9.far o9 hAk 3 (.int .i64 v)
          refine qend (r := r) (by rw [← Hid.out HT]; exact h10) ((heap_set_other nbZ).trans ((heap_set_other nbZ).trans (Hid.out HZ8))) hbs (Nat.le_succ _) (keptR_new (keptR_new (Hid.out HK8) hWk 2 _) hWk 3 _) hrd7 (fun _ => ⟨Hid.out HNE, ?_, fun q => ?_⟩) _ _ _ _
          · rw [(Hid.out HLR (by first | rfl | trivial)).1]
          · rw [(Hid.out HLR (by first | rfl | trivial)).2 w0]
      · have t0' : (t == 0) = false := by simpa using t0
        go_wp2
        refine bodyPost_ret (v := .agg #[.pointer (some ⟨b, 0, none⟩), .int .i64 (nx + 1), .int .i64 0, .int .i64 0]) (by simp [results, Try.results22, go_sem, x0, x1, x2, x3]) rfl ⟨_, _, _, rfl, ?_⟩
        rw [Hid.out HE]
        exact qend (r := r) (by rw [← Hid.out HT]; exact Hid.out H8) (Hid.out HZ8) hbs (Nat.le_succ _) (Hid.out HK8) hrd7 (fun q => absurd ((Hid.out HT).trans q) t0) _ _ _ _
end
end
section
set_option linter.unusedVariables false
open Go.ChangeShapes Go.WideShapes Go.ChangeAt Go.RowKit

section
variable {A W : World} {b gr gm : Nat} {ov : Value} {I : List Int} {p : Pt} {rd : Nat} {nx rg lt : Int}
set_option maxHeartbeats 8000000 in
theorem qstep_13 (h : IsR A W b gr gm ov I p.st rd 0) (hok : OkP p) (hnx : nx = p.next) (hrg : rg = p.lr) (hlt : p.lr ≠ 0 → lt = p.lv) (X : List Ins) (cv : Value) (ai : Option Addr) (ci : Nat) (hv : Code A cv X) (hi : IntsC A (.slice ai I.length ci) I) (hI : ∀ x ∈ I, (Lit.int .i64 x).wf = true) (hrd : rd ≤ 1000000) (k : Nat) (hp : p.st.place = k) (hk : k < X.length) (hX : X.length ≤ 4096) (hr : (X.getD k Ins.zero).right = true) (ho : (X.getD k Ins.zero).o = 13) (hg : ¬ (15 ≤ (X.getD k Ins.zero).o ∧ (X.getD k Ins.zero).o ≤ 19)) :
    Calls Try.prog 22 #[.agg #[.pointer (some ⟨b, 0, none⟩), .int .i64 nx, .int .i64 rg, .int .i64 lt], cv, .slice ai I.length ci] W fun e W' => ∃ nx' rg' lt', e = .returned (.agg #[.pointer (some ⟨b, 0, none⟩), .int .i64 nx', .int .i64 rg', .int .i64 lt']) ∧ AfterQ A W W' b gr gm I (stepP X p) rd nx' rg' lt' := by
  obtain ⟨ao, cap, rfl, hc⟩ := id hv
  obtain ⟨bc, oc, rfl, hbc, hca⟩ := hc (by omega)
  obtain ⟨a0, a1, a2, a3, a4⟩ := (hca.stay hbc h.bel) k hk
  obtain ⟨c0, c1, c2, c3, c4, c5⟩ := refB_cells h.box
  rw [hp] at c2
  have lb := lt_of_heap h.box
  have hbs := h.bel.size
  have hbcW : bc < W.heap.size := by omega
  have hk1 : (k : Int) < X.length := by omega
  have hk0 : (0 : Int) ≤ (k : Int) := by omega
  have hd : decide ((k : Int) < 0) = false := by simp
  have HStep := hidm (step_at hp hk rfl hr)
  have hn : Wd p.next := by
    rcases hok.next with q | q
    · exact q
    · rw [q, hp]; unfold Wd; omega
  have hnb : -2147483648 ≤ nx ∧ nx ≤ 2147483647 := by rw [hnx]; exact hn
  have hrb : 0 ≤ rg ∧ rg ≤ 31 := by rw [hrg]; exact hok.lr
  have HLt := hidm hlt
  have HLv := hidm hok.lv
  have HNX := hidm hnx
  have HRG := hidm hrg
  clear hc hca hn hnx hrg hlt
  generalize X.getD k Ins.zero = x at *
  have hbd := right_bd hr
  have HR : Hid (∀ w, Calls Try.prog 35 #[.agg #[.int .i64 x.o, .int .i64 x.a, .int .i64 x.b, .int .i64 x.c, .int .i64 x.i]] w fun e w' => e = .returned (.bool true) ∧ Bel w w') := hidm (fun w => by
    have := refRight_any x.o x.a x.b x.c x.i w
    rw [show rightB x.o x.a x.b x.c x.i = true from hr] at this
    exact this)
  have HWr : Hid (∀ w, Calls Try.prog 36 #[.agg #[.int .i64 x.o, .int .i64 x.a, .int .i64 x.b, .int .i64 x.c, .int .i64 x.i]] w fun e w' => e = .returned (.int .i64 x.wr) ∧ Bel w w') := hidm (fun w => refWrites_any x.o x.a x.b x.c x.i w)
  have HGo : Hid (∀ w, Calls Try.prog 37 #[.agg #[.int .i64 x.o, .int .i64 x.a, .int .i64 x.b, .int .i64 x.c, .int .i64 x.i]] w fun e w' => e = .returned (.bool false) ∧ Bel w w') := hidm (fun w => by
    have := refGoes_any x.o x.a x.b x.c x.i w
    rw [show goesB x.o x.a x.b x.c x.i = false from by unfold goesB; rw [show rightB x.o x.a x.b x.c x.i = true from hr, decide_eq_false hg]; rfl] at this
    exact this)
  obtain ⟨ka, hka⟩ := nat_of hbd.2.2.1
  obtain ⟨kb, hkb⟩ := nat_of hbd.2.2.2.2.1
  obtain ⟨kc, hkc⟩ := nat_of hbd.2.2.2.2.2.2.1
  have la : (ka : Int) < 32 := by omega
  have lb2 : (kb : Int) < 32 := by omega
  have lc : (kc : Int) < 32 := by omega
  have HKA := hidm hka
  have HKB := hidm hkb
  have HKC := hidm hkc
  have HH := hidm h
  clear hka hkb hkc h hv
  have HOo := hidm ho
  have HR0x := hidm hr
  clear ho hg
  go_enter Try.func22, Try.ntmps22
  go_wp2_with (first
    | (go_at_call 35; refine (Hid.out HR _).mono ?_; rintro e w2 ⟨rfl, B2⟩; refine Hid.out ?_)
    | fail)
  have B02 : Bel W w2 := btrans ((((Bel.refl W).alloc _).alloc _).alloc _) B2
  have hs2 : w2.heap[W.heap.size]? = some (stB b nx rg lt) := (B2.out.block _ (by simp <;> omega)).trans (heap_old (heap_old (heap_new W _)))
  have hz2 : w2.heap[W.heap.size + 1]? = some stZ := (B2.out.block _ (by simp <;> omega)).trans (heap_old (heap_at2 W _ _))
  have hx2 : w2.heap[W.heap.size + 1 + 1]? = some (insB x.o x.a x.b x.c x.i) := (B2.out.block _ (by simp)).trans (heap_at3 W _ _ _)
  clear B2
  refine hidm ?_
  have h2 := (Hid.out HH).stay B02
  obtain ⟨d0, d1, d2, d3, d4⟩ := insB_cells hx2
  obtain ⟨p0, p1, p2, p3, p4, p5⟩ := refB_cells h2.box
  rw [Hid.out HKA] at d1
  rw [Hid.out HKB] at d2
  rw [Hid.out HKC] at d3
  have r1 := h2.regAt ka (by omega)
  have r2 := h2.regAt kb (by omega)
  have r3 := h2.regAt kc (by omega)
  have r4 := h2.regAt 4 (by omega)
  have wa := reg_wd h2.ok ka
  have wb := reg_wd h2.ok kb
  have wc := reg_wd h2.ok kc
  have hstep := Hid.out HStep
  rw [Hid.out HKA, Hid.out HKB, Hid.out HKC, reg_nat, reg_nat, reg_nat, show reg p.st.regs 4 = p.st.regs[4]?.getD 0 from rfl] at hstep
  rw [reg_nat] at wa wb wc
  generalize p.st.regs[ka]?.getD 0 = va at *
  generalize p.st.regs[kb]?.getD 0 = vb at *
  generalize p.st.regs[kc]?.getD 0 = vc at *
  generalize p.st.regs[4]?.getD 0 = vd at *
  have HE := hidm hstep
  clear hstep HStep a0 a1 a2 a3 a4 c0 c1 c2 c3 c4 c5
  go_wp2_with fail
  go_quiet (fail)
  have h3 := h2.stay (Bel.drewN w2 nq)
  have hs3 : (w2.drewN nq).heap[W.heap.size]? = some (stB b nx rg lt) := ((Bel.drewN w2 nq).out.block _ (lt_of_heap hs2)).trans hs2
  have hz3 : (w2.drewN nq).heap[W.heap.size + 1]? = some stZ := ((Bel.drewN w2 nq).out.block _ (lt_of_heap hz2)).trans hz2
  have hx3 : (w2.drewN nq).heap[W.heap.size + 1 + 1]? = some (insB x.o x.a x.b x.c x.i) := ((Bel.drewN w2 nq).out.block _ (lt_of_heap hx2)).trans hx2
  have HK3 : Hid (Kept (MutR A.heap.size) W (w2.drewN nq)) := hidm (Kept.of_bel (btrans B02 (Bel.drewN w2 nq)))
  clear h2 hs2 hz2 hx2 B02 d0 d1 d2 d3 d4 p0 p1 p2 p3 p4 p5 r1 r2 r3 r4 HH
  generalize w2.drewN nq = V at *
  obtain ⟨s0, s1, s2, s3⟩ := stB_cells hs3
  have H3 := hidm h3
  have HS3 := hidm hs3
  have HZ3 := hidm hz3
  have HX3 := hidm hx3
  have hcase : rg = 0 ∨ ∃ kr : Nat, rg = kr ∧ 0 < kr ∧ kr < 32 := by
    rcases Int.lt_or_le 0 rg with q | q
    · exact .inr ⟨rg.toNat, by omega, by omega, by omega⟩
    · exact .inl (by omega)
  clear hs3 hz3 hx3
  rcases hcase with hr0 | ⟨kr, hkr, hkr0, hkr1⟩
  case' inr =>
    have g0 := (refB_cells h3.box).1
    have g1 := h3.regAt kr hkr1
    have g2 := frozen_of h3.rr kr
    have hkr2 : (kr : Int) < 32 := by omega
    have hkr3 : ((kr : Int) == 0) = false := by simp; omega
    have HKR := hidm hkr
    rw [hkr] at s2
    have hlv : lt = p.lv := Hid.out HLt (by rw [← Hid.out HRG, hkr]; omega)
    have hwl : Wd lt := by rw [hlv]; exact Hid.out HLv
    have HSR := hidm (h3.setReg kr hkr1 (by omega) lt hwl)
    have HLV := hidm hlv
    have hre : setR p.st.regs p.lr p.lv = p.st.regs.set kr lt := by unfold setR; rw [← Hid.out HRG, hkr, if_neg (by omega), Int.toNat_natCast, ← hlv]
    have HRE := hidm hre
    have nbg : b ≠ gr := fun e => h3.bne.1 e.symm
    clear h3 hkr hre hlv
    go_wp2_with fail
    go_region
    have h4 := (Hid.out HSR).1.stay ((Bel.refl _).drew)
    rw [← Hid.out HRE] at h4
    have hkk : Kept (MutR A.heap.size) V (V.setCell ⟨gr, kr, none⟩ (.int .i64 lt)).drew := (Hid.out HSR).2.trans (Kept.drew _ _)
    have hs4 := stB_kept hkk (Hid.out HS3)
    have hz4 := keptR_box hkk (Hid.out HZ3) (by decide) (by decide)
    have hx4 := insR_kept hkk (Hid.out HX3)
    have HK4 := hidm ((Hid.out HK3).trans hkk)
    clear s0 s1 s2 s3 g0 g1 g2 HSR hkk HS3 HZ3 HX3 H3 HK3
    generalize (V.setCell ⟨gr, kr, none⟩ (.int .i64 lt)).drew = V4 at *
  case' inl =>
    have hre : setR p.st.regs p.lr p.lv = p.st.regs := by unfold setR; rw [← Hid.out HRG, if_pos hr0]
    have h4 : IsR A V b gr gm ov I { p.st with regs := setR p.st.regs p.lr p.lv } rd 0 := by rw [hre]; exact Hid.out H3
    have hs4 := Hid.out HS3
    have hz4 := Hid.out HZ3
    have hx4 := Hid.out HX3
    have HK4 := HK3
    clear h3 hre s0 s1 s2 s3 H3 HS3 HZ3 HX3 HK3
    have HR0 := hidm hr0
    clear hr0
    obtain ⟨s0, s1, s2, s3⟩ := stB_cells hs4
    rw [Hid.out HR0] at s2
    clear s0 s1 s3
    generalize V = V4 at *
  all_goals
    have lV := lt_of_heap h4.box
    have lX := lt_of_heap hx4
    have lS := lt_of_heap hs4
    have nS : W.heap.size ≠ b := by omega
    have nI : W.heap.size + 1 + 1 ≠ b := by omega
    have sc := stB_cells hs4
    have s0' := sc.1
    have s1' := sc.2.1
    clear sc
    obtain ⟨e0, e1, e2, e3, e4⟩ := insB_cells hx4
    obtain ⟨q0, q1, q2, q3, q4, q5⟩ := refB_cells h4.box
    have f2 := frozen_of h4.box 2
    dsimp only at q2
    rw [hp] at q2
    have HSB := hidm (h4.setBox 2 (.int .i64 nx) nx rd 0 p.st.inp h4.inp rfl)
    have HS4 := hidm hs4
    have HZ4 := hidm hz4
    have HX4 := hidm hx4
    clear h4 hs4 hz4 hx4
    go_wp2_with (first
      | (go_at_call 36; refine (Hid.out HWr _).mono ?_; rintro e w5 ⟨rfl, B5⟩; refine Hid.out ?_)
      | fail)
    have K5 : Kept (MutR A.heap.size) V4 w5 := (Hid.out HSB).2.trans (Kept.of_bel (btrans ((Bel.refl _).alloc _) B5))
    have h5 := (Hid.out HSB).1.stay (btrans ((Bel.refl _).alloc _) B5)
    have hs5 := stB_kept K5 (Hid.out HS4)
    have hz5 := keptR_box K5 (Hid.out HZ4) (by decide) (by decide)
    have hx5 := insR_kept K5 (Hid.out HX4)
    have ho5 : w5.heap[V4.heap.size]? = some (stB b (nx + 1) 0 0) := (B5.out.block _ (by simp)).trans (by rw [← size_set V4 ⟨b, 2, none⟩ (.int .i64 nx)]; exact heap_new _ _)
    have HK5 := hidm ((Hid.out HK4).trans K5)
    have lV5 := lt_of_heap ho5
    clear s0' s1' e0 e1 e2 e3 e4 q0 q1 q2 q3 q4 q5 f2 K5 B5 HSB HS4 HZ4 HX4 HK4
    try clear s2
    have hnp : ({ p.st with regs := setR p.st.regs p.lr p.lv, place := nx } : St) = (arriveP (aheadP p)).st := by rw [Hid.out HNX]; rfl
    have h5' : IsR A w5 b gr gm ov I (arriveP (aheadP p)).st rd 0 := by rw [← hnp]; exact h5
    clear h5 hnp
    have nbX : W.heap.size + 1 + 1 ≠ V4.heap.size := by omega
    have nbX' := nbX.symm
    have lZ5 := lt_of_heap hz5
    have nbZ : W.heap.size + 1 ≠ V4.heap.size := by omega
    obtain ⟨e0, e1, e2, e3, e4⟩ := insB_cells hx5
    have HX5 := hidm hx5
    have HZ5 := hidm hz5
    have HO5 := hidm ho5
    have H5 := hidm h5'
    clear hs5 hz5 hx5 ho5 h5'
    refine hidm ?_
    go_wp2_with (first
      | (go_at_call 37; refine (Hid.out HGo _).mono ?_; rintro e w6 ⟨rfl, B6⟩; refine Hid.out ?_)
      | fail)
    have h6 := (Hid.out H5).stay B6
    have hz6 := (B6.out.block _ (lt_of_heap (Hid.out HZ5))).trans (Hid.out HZ5)
    have hx6 := (B6.out.block _ (lt_of_heap (Hid.out HX5))).trans (Hid.out HX5)
    have ho6 := (B6.out.block _ (lt_of_heap (Hid.out HO5))).trans (Hid.out HO5)
    have HK6 := hidm ((Hid.out HK5).trans (Kept.of_bel B6))
    have l6 := lt_of_heap ho6
    clear e0 e1 e2 e3 e4 HX5 HZ5 HO5 H5 HK5 B6
    generalize V4.heap.size = ko at *
    refine hidm ?_
    obtain ⟨e0, e1, e2, e3, e4⟩ := insB_cells hx6
    obtain ⟨z0, z1, z2, z3⟩ := stB_cells ho6
    have zf : ∀ j, w6.frozen? ⟨ko, j, none⟩ = false := fun j => frozen_of ho6 j
    have y0 : w6.cell? ⟨W.heap.size + 1, 0, none⟩ = some (.pointer none) := cell_of hz6 0
    have y1 : w6.cell? ⟨W.heap.size + 1, 1, none⟩ = some (.int .i64 0) := cell_of hz6 1
    have y2 : w6.cell? ⟨W.heap.size + 1, 2, none⟩ = some (.int .i64 0) := cell_of hz6 2
    have y3 : w6.cell? ⟨W.heap.size + 1, 3, none⟩ = some (.int .i64 0) := cell_of hz6 3
    have g0 : ∀ j, w6.frozen? ⟨W.heap.size + 1, j, none⟩ = false := fun j => frozen_of hz6 j
    have nbZ' := nbZ.symm
    have lko := lt_of_heap ho6
    have hAk : A.heap.size ≤ ko := by omega
    have hWk : W.heap.size ≤ ko := by omega
    have HZ6 := hidm hz6
    have HO6 := hidm ho6
    clear hz6 ho6
    have HEf0 := hidm (effQ h6 rfl x (Hid.out HR0x) (.inr (.inl (Hid.out HOo))) k vc va vb vd ai ci hi hI hrd wa wb)
    have HX6 := hidm hx6
    have lb6 := lt_of_heap h6.box
    have hwr := wr_bd x
    clear h6 hx6
    generalize doP x k va vb vc vd (arriveP (aheadP p)) = r at *
    generalize x.wr = wr at *
    all_goals
      rw [Hid.out HOo] at e0 HEf0
      go_wp2_with (first
        | (go_at_call 38; refine (Hid.out HEf0).mono ?_; rintro e w7 ⟨t, v, rfl, ht, hI7, hK7, hnx7, hlr7⟩; refine Hid.out ?_)
        | fail)
      obtain ⟨ov7, rd7, h7, hrd7⟩ := hI7
      have hz7 := keptR_box hK7 (Hid.out HZ6) (by decide) (by decide)
      have ho7 := stB_kept hK7 (Hid.out HO6)
      have K7 := (Hid.out HK6).trans hK7
      obtain ⟨z0, z1, z2, z3⟩ := stB_cells ho7
      have zf : ∀ j, w7.frozen? ⟨ko, j, none⟩ = false := fun j => frozen_of ho7 j
      have y0 : w7.cell? ⟨W.heap.size + 1, 0, none⟩ = some (.pointer none) := cell_of hz7 0
      have y1 : w7.cell? ⟨W.heap.size + 1, 1, none⟩ = some (.int .i64 0) := cell_of hz7 1
      have y2 : w7.cell? ⟨W.heap.size + 1, 2, none⟩ = some (.int .i64 0) := cell_of hz7 2
      have y3 : w7.cell? ⟨W.heap.size + 1, 3, none⟩ = some (.int .i64 0) := cell_of hz7 3
      have g0 : ∀ j, w7.frozen? ⟨W.heap.size + 1, j, none⟩ = false := fun j => frozen_of hz7 j
      have m5 := (refB_cells h7.box).2.2.2.2.2
      have f5 := frozen_of h7.box 5
      have nbo : b ≠ ko := by omega
      have nbo' := nbo.symm
      have nbz : b ≠ W.heap.size + 1 := by omega
      have nbz' := nbz.symm
      obtain ⟨h8, K8⟩ := h7.setBox 5 (.int .i64 t) r.2.st.place rd7 t r.2.st.inp h7.inp rfl
      have hz8 := keptR_box K8 hz7 (by decide) (by decide)
      have ho8 := stB_kept K8 ho7
      have hnxe : nx + 1 = r.2.next := by rw [Hid.out hnx7, Hid.out HNX]; rfl
      have HNE := hidm hnxe
      have H8 := hidm h8
      have HK8 := hidm (K7.trans K8)
      have HZ8 := hidm hz8
      have HO8 := hidm ho8
      have HT := ht
      have HLR := hidm hlr7
      clear h7 h8 hz7 ho7 hz8 ho8 K7 K8 hnx7 hnxe ht hlr7 hK7 e0 e1 e2 e3 e4
      clear HEf0 HWr HR HKA HKB HKC HLt HLv HRG HX6 HZ6 HO6 HK6 HOo HR0x hi hI wa wb wc hok hbd hnb hrb hk1 hk0 hd hX
      have x0 := cell_of (Hid.out HZ8) 0
      have x1 := cell_of (Hid.out HZ8) 1
      have x2 := cell_of (Hid.out HZ8) 2
      have x3 := cell_of (Hid.out HZ8) 3
      refine hidm ?_
      by_cases t0 : t = 0
      · subst t0
        by_cases w0 : wr = 0
        · subst w0
          go_wp2
          refine bodyPost_ret (v := .agg #[.pointer (some ⟨b, 0, none⟩), .int .i64 (nx + 1), .int .i64 0, .int .i64 0]) (by simp [results, Try.results22, go_sem, x0, x1, x2, x3]) rfl ⟨_, _, _, rfl, ?_⟩
          rw [Hid.out HE]
          refine qend (r := r) (by rw [← Hid.out HT]; exact Hid.out H8) (Hid.out HZ8) hbs (Nat.le_succ _) (Hid.out HK8) hrd7 (fun _ => ⟨Hid.out HNE, ?_, fun q => ?_⟩) _ _ _ _
          · rw [(Hid.out HLR (by first | rfl | trivial)).1]
          · exact absurd (Hid.out HLR (by first | rfl | trivial)).1 q
        · have w0' : (wr == 0) = false := by simpa using w0
          have w1' : (wr != 0) = true := by simpa using w0
          go_wp2
          refine bodyPost_ret (v := .agg #[.pointer (some ⟨b, 0, none⟩), .int .i64 (nx + 1), .int .i64 wr, .int .i64 v]) (by simp [results, Try.results22, go_sem, x0, x1, x2, x3]) rfl ⟨_, _, _, rfl, ?_⟩
          rw [Hid.out HE]
          obtain ⟨h9, o9⟩ := (Hid.out H8).far (Hid.out HO8) hAk 2 (.int .i64 wr)
          obtain ⟨h10, o10⟩ := h9.far o9 hAk 3 (.int .i64 v)
          refine qend (r := r) (by rw [← Hid.out HT]; exact h10) ((heap_set_other nbZ).trans ((heap_set_other nbZ).trans (Hid.out HZ8))) hbs (Nat.le_succ _) (keptR_new (keptR_new (Hid.out HK8) hWk 2 _) hWk 3 _) hrd7 (fun _ => ⟨Hid.out HNE, ?_, fun q => ?_⟩) _ _ _ _
          · rw [(Hid.out HLR (by first | rfl | trivial)).1]
          · rw [(Hid.out HLR (by first | rfl | trivial)).2 w0]
      · have t0' : (t == 0) = false := by simpa using t0
        go_wp2
        refine bodyPost_ret (v := .agg #[.pointer (some ⟨b, 0, none⟩), .int .i64 (nx + 1), .int .i64 0, .int .i64 0]) (by simp [results, Try.results22, go_sem, x0, x1, x2, x3]) rfl ⟨_, _, _, rfl, ?_⟩
        rw [Hid.out HE]
        exact qend (r := r) (by rw [← Hid.out HT]; exact Hid.out H8) (Hid.out HZ8) hbs (Nat.le_succ _) (Hid.out HK8) hrd7 (fun q => absurd ((Hid.out HT).trans q) t0) _ _ _ _
end
end
section
set_option linter.unusedVariables false
open Go.ChangeShapes Go.WideShapes Go.ChangeAt Go.RowKit

section
variable {A W : World} {b gr gm : Nat} {ov : Value} {I : List Int} {p : Pt} {rd : Nat} {nx rg lt : Int}
set_option maxHeartbeats 8000000 in
theorem qstep_14 (h : IsR A W b gr gm ov I p.st rd 0) (hok : OkP p) (hnx : nx = p.next) (hrg : rg = p.lr) (hlt : p.lr ≠ 0 → lt = p.lv) (X : List Ins) (cv : Value) (ai : Option Addr) (ci : Nat) (hv : Code A cv X) (hi : IntsC A (.slice ai I.length ci) I) (hI : ∀ x ∈ I, (Lit.int .i64 x).wf = true) (hrd : rd ≤ 1000000) (k : Nat) (hp : p.st.place = k) (hk : k < X.length) (hX : X.length ≤ 4096) (hr : (X.getD k Ins.zero).right = true) (ho : (X.getD k Ins.zero).o = 14) (hg : ¬ (15 ≤ (X.getD k Ins.zero).o ∧ (X.getD k Ins.zero).o ≤ 19)) :
    Calls Try.prog 22 #[.agg #[.pointer (some ⟨b, 0, none⟩), .int .i64 nx, .int .i64 rg, .int .i64 lt], cv, .slice ai I.length ci] W fun e W' => ∃ nx' rg' lt', e = .returned (.agg #[.pointer (some ⟨b, 0, none⟩), .int .i64 nx', .int .i64 rg', .int .i64 lt']) ∧ AfterQ A W W' b gr gm I (stepP X p) rd nx' rg' lt' := by
  obtain ⟨ao, cap, rfl, hc⟩ := id hv
  obtain ⟨bc, oc, rfl, hbc, hca⟩ := hc (by omega)
  obtain ⟨a0, a1, a2, a3, a4⟩ := (hca.stay hbc h.bel) k hk
  obtain ⟨c0, c1, c2, c3, c4, c5⟩ := refB_cells h.box
  rw [hp] at c2
  have lb := lt_of_heap h.box
  have hbs := h.bel.size
  have hbcW : bc < W.heap.size := by omega
  have hk1 : (k : Int) < X.length := by omega
  have hk0 : (0 : Int) ≤ (k : Int) := by omega
  have hd : decide ((k : Int) < 0) = false := by simp
  have HStep := hidm (step_at hp hk rfl hr)
  have hn : Wd p.next := by
    rcases hok.next with q | q
    · exact q
    · rw [q, hp]; unfold Wd; omega
  have hnb : -2147483648 ≤ nx ∧ nx ≤ 2147483647 := by rw [hnx]; exact hn
  have hrb : 0 ≤ rg ∧ rg ≤ 31 := by rw [hrg]; exact hok.lr
  have HLt := hidm hlt
  have HLv := hidm hok.lv
  have HNX := hidm hnx
  have HRG := hidm hrg
  clear hc hca hn hnx hrg hlt
  generalize X.getD k Ins.zero = x at *
  have hbd := right_bd hr
  have HR : Hid (∀ w, Calls Try.prog 35 #[.agg #[.int .i64 x.o, .int .i64 x.a, .int .i64 x.b, .int .i64 x.c, .int .i64 x.i]] w fun e w' => e = .returned (.bool true) ∧ Bel w w') := hidm (fun w => by
    have := refRight_any x.o x.a x.b x.c x.i w
    rw [show rightB x.o x.a x.b x.c x.i = true from hr] at this
    exact this)
  have HWr : Hid (∀ w, Calls Try.prog 36 #[.agg #[.int .i64 x.o, .int .i64 x.a, .int .i64 x.b, .int .i64 x.c, .int .i64 x.i]] w fun e w' => e = .returned (.int .i64 x.wr) ∧ Bel w w') := hidm (fun w => refWrites_any x.o x.a x.b x.c x.i w)
  have HGo : Hid (∀ w, Calls Try.prog 37 #[.agg #[.int .i64 x.o, .int .i64 x.a, .int .i64 x.b, .int .i64 x.c, .int .i64 x.i]] w fun e w' => e = .returned (.bool false) ∧ Bel w w') := hidm (fun w => by
    have := refGoes_any x.o x.a x.b x.c x.i w
    rw [show goesB x.o x.a x.b x.c x.i = false from by unfold goesB; rw [show rightB x.o x.a x.b x.c x.i = true from hr, decide_eq_false hg]; rfl] at this
    exact this)
  obtain ⟨ka, hka⟩ := nat_of hbd.2.2.1
  obtain ⟨kb, hkb⟩ := nat_of hbd.2.2.2.2.1
  obtain ⟨kc, hkc⟩ := nat_of hbd.2.2.2.2.2.2.1
  have la : (ka : Int) < 32 := by omega
  have lb2 : (kb : Int) < 32 := by omega
  have lc : (kc : Int) < 32 := by omega
  have HKA := hidm hka
  have HKB := hidm hkb
  have HKC := hidm hkc
  have HH := hidm h
  clear hka hkb hkc h hv
  have HOo := hidm ho
  have HR0x := hidm hr
  clear ho hg
  go_enter Try.func22, Try.ntmps22
  go_wp2_with (first
    | (go_at_call 35; refine (Hid.out HR _).mono ?_; rintro e w2 ⟨rfl, B2⟩; refine Hid.out ?_)
    | fail)
  have B02 : Bel W w2 := btrans ((((Bel.refl W).alloc _).alloc _).alloc _) B2
  have hs2 : w2.heap[W.heap.size]? = some (stB b nx rg lt) := (B2.out.block _ (by simp <;> omega)).trans (heap_old (heap_old (heap_new W _)))
  have hz2 : w2.heap[W.heap.size + 1]? = some stZ := (B2.out.block _ (by simp <;> omega)).trans (heap_old (heap_at2 W _ _))
  have hx2 : w2.heap[W.heap.size + 1 + 1]? = some (insB x.o x.a x.b x.c x.i) := (B2.out.block _ (by simp)).trans (heap_at3 W _ _ _)
  clear B2
  refine hidm ?_
  have h2 := (Hid.out HH).stay B02
  obtain ⟨d0, d1, d2, d3, d4⟩ := insB_cells hx2
  obtain ⟨p0, p1, p2, p3, p4, p5⟩ := refB_cells h2.box
  rw [Hid.out HKA] at d1
  rw [Hid.out HKB] at d2
  rw [Hid.out HKC] at d3
  have r1 := h2.regAt ka (by omega)
  have r2 := h2.regAt kb (by omega)
  have r3 := h2.regAt kc (by omega)
  have r4 := h2.regAt 4 (by omega)
  have wa := reg_wd h2.ok ka
  have wb := reg_wd h2.ok kb
  have wc := reg_wd h2.ok kc
  have hstep := Hid.out HStep
  rw [Hid.out HKA, Hid.out HKB, Hid.out HKC, reg_nat, reg_nat, reg_nat, show reg p.st.regs 4 = p.st.regs[4]?.getD 0 from rfl] at hstep
  rw [reg_nat] at wa wb wc
  generalize p.st.regs[ka]?.getD 0 = va at *
  generalize p.st.regs[kb]?.getD 0 = vb at *
  generalize p.st.regs[kc]?.getD 0 = vc at *
  generalize p.st.regs[4]?.getD 0 = vd at *
  have HE := hidm hstep
  clear hstep HStep a0 a1 a2 a3 a4 c0 c1 c2 c3 c4 c5
  go_wp2_with fail
  go_quiet (fail)
  have h3 := h2.stay (Bel.drewN w2 nq)
  have hs3 : (w2.drewN nq).heap[W.heap.size]? = some (stB b nx rg lt) := ((Bel.drewN w2 nq).out.block _ (lt_of_heap hs2)).trans hs2
  have hz3 : (w2.drewN nq).heap[W.heap.size + 1]? = some stZ := ((Bel.drewN w2 nq).out.block _ (lt_of_heap hz2)).trans hz2
  have hx3 : (w2.drewN nq).heap[W.heap.size + 1 + 1]? = some (insB x.o x.a x.b x.c x.i) := ((Bel.drewN w2 nq).out.block _ (lt_of_heap hx2)).trans hx2
  have HK3 : Hid (Kept (MutR A.heap.size) W (w2.drewN nq)) := hidm (Kept.of_bel (btrans B02 (Bel.drewN w2 nq)))
  clear h2 hs2 hz2 hx2 B02 d0 d1 d2 d3 d4 p0 p1 p2 p3 p4 p5 r1 r2 r3 r4 HH
  generalize w2.drewN nq = V at *
  obtain ⟨s0, s1, s2, s3⟩ := stB_cells hs3
  have H3 := hidm h3
  have HS3 := hidm hs3
  have HZ3 := hidm hz3
  have HX3 := hidm hx3
  have hcase : rg = 0 ∨ ∃ kr : Nat, rg = kr ∧ 0 < kr ∧ kr < 32 := by
    rcases Int.lt_or_le 0 rg with q | q
    · exact .inr ⟨rg.toNat, by omega, by omega, by omega⟩
    · exact .inl (by omega)
  clear hs3 hz3 hx3
  rcases hcase with hr0 | ⟨kr, hkr, hkr0, hkr1⟩
  case' inr =>
    have g0 := (refB_cells h3.box).1
    have g1 := h3.regAt kr hkr1
    have g2 := frozen_of h3.rr kr
    have hkr2 : (kr : Int) < 32 := by omega
    have hkr3 : ((kr : Int) == 0) = false := by simp; omega
    have HKR := hidm hkr
    rw [hkr] at s2
    have hlv : lt = p.lv := Hid.out HLt (by rw [← Hid.out HRG, hkr]; omega)
    have hwl : Wd lt := by rw [hlv]; exact Hid.out HLv
    have HSR := hidm (h3.setReg kr hkr1 (by omega) lt hwl)
    have HLV := hidm hlv
    have hre : setR p.st.regs p.lr p.lv = p.st.regs.set kr lt := by unfold setR; rw [← Hid.out HRG, hkr, if_neg (by omega), Int.toNat_natCast, ← hlv]
    have HRE := hidm hre
    have nbg : b ≠ gr := fun e => h3.bne.1 e.symm
    clear h3 hkr hre hlv
    go_wp2_with fail
    go_region
    have h4 := (Hid.out HSR).1.stay ((Bel.refl _).drew)
    rw [← Hid.out HRE] at h4
    have hkk : Kept (MutR A.heap.size) V (V.setCell ⟨gr, kr, none⟩ (.int .i64 lt)).drew := (Hid.out HSR).2.trans (Kept.drew _ _)
    have hs4 := stB_kept hkk (Hid.out HS3)
    have hz4 := keptR_box hkk (Hid.out HZ3) (by decide) (by decide)
    have hx4 := insR_kept hkk (Hid.out HX3)
    have HK4 := hidm ((Hid.out HK3).trans hkk)
    clear s0 s1 s2 s3 g0 g1 g2 HSR hkk HS3 HZ3 HX3 H3 HK3
    generalize (V.setCell ⟨gr, kr, none⟩ (.int .i64 lt)).drew = V4 at *
  case' inl =>
    have hre : setR p.st.regs p.lr p.lv = p.st.regs := by unfold setR; rw [← Hid.out HRG, if_pos hr0]
    have h4 : IsR A V b gr gm ov I { p.st with regs := setR p.st.regs p.lr p.lv } rd 0 := by rw [hre]; exact Hid.out H3
    have hs4 := Hid.out HS3
    have hz4 := Hid.out HZ3
    have hx4 := Hid.out HX3
    have HK4 := HK3
    clear h3 hre s0 s1 s2 s3 H3 HS3 HZ3 HX3 HK3
    have HR0 := hidm hr0
    clear hr0
    obtain ⟨s0, s1, s2, s3⟩ := stB_cells hs4
    rw [Hid.out HR0] at s2
    clear s0 s1 s3
    generalize V = V4 at *
  all_goals
    have lV := lt_of_heap h4.box
    have lX := lt_of_heap hx4
    have lS := lt_of_heap hs4
    have nS : W.heap.size ≠ b := by omega
    have nI : W.heap.size + 1 + 1 ≠ b := by omega
    have sc := stB_cells hs4
    have s0' := sc.1
    have s1' := sc.2.1
    clear sc
    obtain ⟨e0, e1, e2, e3, e4⟩ := insB_cells hx4
    obtain ⟨q0, q1, q2, q3, q4, q5⟩ := refB_cells h4.box
    have f2 := frozen_of h4.box 2
    dsimp only at q2
    rw [hp] at q2
    have HSB := hidm (h4.setBox 2 (.int .i64 nx) nx rd 0 p.st.inp h4.inp rfl)
    have HS4 := hidm hs4
    have HZ4 := hidm hz4
    have HX4 := hidm hx4
    clear h4 hs4 hz4 hx4
    go_wp2_with (first
      | (go_at_call 36; refine (Hid.out HWr _).mono ?_; rintro e w5 ⟨rfl, B5⟩; refine Hid.out ?_)
      | fail)
    have K5 : Kept (MutR A.heap.size) V4 w5 := (Hid.out HSB).2.trans (Kept.of_bel (btrans ((Bel.refl _).alloc _) B5))
    have h5 := (Hid.out HSB).1.stay (btrans ((Bel.refl _).alloc _) B5)
    have hs5 := stB_kept K5 (Hid.out HS4)
    have hz5 := keptR_box K5 (Hid.out HZ4) (by decide) (by decide)
    have hx5 := insR_kept K5 (Hid.out HX4)
    have ho5 : w5.heap[V4.heap.size]? = some (stB b (nx + 1) 0 0) := (B5.out.block _ (by simp)).trans (by rw [← size_set V4 ⟨b, 2, none⟩ (.int .i64 nx)]; exact heap_new _ _)
    have HK5 := hidm ((Hid.out HK4).trans K5)
    have lV5 := lt_of_heap ho5
    clear s0' s1' e0 e1 e2 e3 e4 q0 q1 q2 q3 q4 q5 f2 K5 B5 HSB HS4 HZ4 HX4 HK4
    try clear s2
    have hnp : ({ p.st with regs := setR p.st.regs p.lr p.lv, place := nx } : St) = (arriveP (aheadP p)).st := by rw [Hid.out HNX]; rfl
    have h5' : IsR A w5 b gr gm ov I (arriveP (aheadP p)).st rd 0 := by rw [← hnp]; exact h5
    clear h5 hnp
    have nbX : W.heap.size + 1 + 1 ≠ V4.heap.size := by omega
    have nbX' := nbX.symm
    have lZ5 := lt_of_heap hz5
    have nbZ : W.heap.size + 1 ≠ V4.heap.size := by omega
    obtain ⟨e0, e1, e2, e3, e4⟩ := insB_cells hx5
    have HX5 := hidm hx5
    have HZ5 := hidm hz5
    have HO5 := hidm ho5
    have H5 := hidm h5'
    clear hs5 hz5 hx5 ho5 h5'
    refine hidm ?_
    go_wp2_with (first
      | (go_at_call 37; refine (Hid.out HGo _).mono ?_; rintro e w6 ⟨rfl, B6⟩; refine Hid.out ?_)
      | fail)
    have h6 := (Hid.out H5).stay B6
    have hz6 := (B6.out.block _ (lt_of_heap (Hid.out HZ5))).trans (Hid.out HZ5)
    have hx6 := (B6.out.block _ (lt_of_heap (Hid.out HX5))).trans (Hid.out HX5)
    have ho6 := (B6.out.block _ (lt_of_heap (Hid.out HO5))).trans (Hid.out HO5)
    have HK6 := hidm ((Hid.out HK5).trans (Kept.of_bel B6))
    have l6 := lt_of_heap ho6
    clear e0 e1 e2 e3 e4 HX5 HZ5 HO5 H5 HK5 B6
    generalize V4.heap.size = ko at *
    refine hidm ?_
    obtain ⟨e0, e1, e2, e3, e4⟩ := insB_cells hx6
    obtain ⟨z0, z1, z2, z3⟩ := stB_cells ho6
    have zf : ∀ j, w6.frozen? ⟨ko, j, none⟩ = false := fun j => frozen_of ho6 j
    have y0 : w6.cell? ⟨W.heap.size + 1, 0, none⟩ = some (.pointer none) := cell_of hz6 0
    have y1 : w6.cell? ⟨W.heap.size + 1, 1, none⟩ = some (.int .i64 0) := cell_of hz6 1
    have y2 : w6.cell? ⟨W.heap.size + 1, 2, none⟩ = some (.int .i64 0) := cell_of hz6 2
    have y3 : w6.cell? ⟨W.heap.size + 1, 3, none⟩ = some (.int .i64 0) := cell_of hz6 3
    have g0 : ∀ j, w6.frozen? ⟨W.heap.size + 1, j, none⟩ = false := fun j => frozen_of hz6 j
    have nbZ' := nbZ.symm
    have lko := lt_of_heap ho6
    have hAk : A.heap.size ≤ ko := by omega
    have hWk : W.heap.size ≤ ko := by omega
    have HZ6 := hidm hz6
    have HO6 := hidm ho6
    clear hz6 ho6
    have HEf0 := hidm (effQ h6 rfl x (Hid.out HR0x) (.inr (.inr (.inl (Hid.out HOo)))) k vc va vb vd ai ci hi hI hrd wa wb)
    have HX6 := hidm hx6
    have lb6 := lt_of_heap h6.box
    have hwr := wr_bd x
    clear h6 hx6
    generalize doP x k va vb vc vd (arriveP (aheadP p)) = r at *
    generalize x.wr = wr at *
    all_goals
      rw [Hid.out HOo] at e0 HEf0
      go_wp2_with (first
        | (go_at_call 38; refine (Hid.out HEf0).mono ?_; rintro e w7 ⟨t, v, rfl, ht, hI7, hK7, hnx7, hlr7⟩; refine Hid.out ?_)
        | fail)
      obtain ⟨ov7, rd7, h7, hrd7⟩ := hI7
      have hz7 := keptR_box hK7 (Hid.out HZ6) (by decide) (by decide)
      have ho7 := stB_kept hK7 (Hid.out HO6)
      have K7 := (Hid.out HK6).trans hK7
      obtain ⟨z0, z1, z2, z3⟩ := stB_cells ho7
      have zf : ∀ j, w7.frozen? ⟨ko, j, none⟩ = false := fun j => frozen_of ho7 j
      have y0 : w7.cell? ⟨W.heap.size + 1, 0, none⟩ = some (.pointer none) := cell_of hz7 0
      have y1 : w7.cell? ⟨W.heap.size + 1, 1, none⟩ = some (.int .i64 0) := cell_of hz7 1
      have y2 : w7.cell? ⟨W.heap.size + 1, 2, none⟩ = some (.int .i64 0) := cell_of hz7 2
      have y3 : w7.cell? ⟨W.heap.size + 1, 3, none⟩ = some (.int .i64 0) := cell_of hz7 3
      have g0 : ∀ j, w7.frozen? ⟨W.heap.size + 1, j, none⟩ = false := fun j => frozen_of hz7 j
      have m5 := (refB_cells h7.box).2.2.2.2.2
      have f5 := frozen_of h7.box 5
      have nbo : b ≠ ko := by omega
      have nbo' := nbo.symm
      have nbz : b ≠ W.heap.size + 1 := by omega
      have nbz' := nbz.symm
      obtain ⟨h8, K8⟩ := h7.setBox 5 (.int .i64 t) r.2.st.place rd7 t r.2.st.inp h7.inp rfl
      have hz8 := keptR_box K8 hz7 (by decide) (by decide)
      have ho8 := stB_kept K8 ho7
      have hnxe : nx + 1 = r.2.next := by rw [Hid.out hnx7, Hid.out HNX]; rfl
      have HNE := hidm hnxe
      have H8 := hidm h8
      have HK8 := hidm (K7.trans K8)
      have HZ8 := hidm hz8
      have HO8 := hidm ho8
      have HT := ht
      have HLR := hidm hlr7
      clear h7 h8 hz7 ho7 hz8 ho8 K7 K8 hnx7 hnxe ht hlr7 hK7 e0 e1 e2 e3 e4
      clear HEf0 HWr HR HKA HKB HKC HLt HLv HRG HX6 HZ6 HO6 HK6 HOo HR0x hi hI wa wb wc hok hbd hnb hrb hk1 hk0 hd hX
      have x0 := cell_of (Hid.out HZ8) 0
      have x1 := cell_of (Hid.out HZ8) 1
      have x2 := cell_of (Hid.out HZ8) 2
      have x3 := cell_of (Hid.out HZ8) 3
      refine hidm ?_
      by_cases t0 : t = 0
      · subst t0
        by_cases w0 : wr = 0
        · subst w0
          go_wp2
          refine bodyPost_ret (v := .agg #[.pointer (some ⟨b, 0, none⟩), .int .i64 (nx + 1), .int .i64 0, .int .i64 0]) (by simp [results, Try.results22, go_sem, x0, x1, x2, x3]) rfl ⟨_, _, _, rfl, ?_⟩
          rw [Hid.out HE]
          refine qend (r := r) (by rw [← Hid.out HT]; exact Hid.out H8) (Hid.out HZ8) hbs (Nat.le_succ _) (Hid.out HK8) hrd7 (fun _ => ⟨Hid.out HNE, ?_, fun q => ?_⟩) _ _ _ _
          · rw [(Hid.out HLR (by first | rfl | trivial)).1]
          · exact absurd (Hid.out HLR (by first | rfl | trivial)).1 q
        · have w0' : (wr == 0) = false := by simpa using w0
          have w1' : (wr != 0) = true := by simpa using w0
          go_wp2
          refine bodyPost_ret (v := .agg #[.pointer (some ⟨b, 0, none⟩), .int .i64 (nx + 1), .int .i64 wr, .int .i64 v]) (by simp [results, Try.results22, go_sem, x0, x1, x2, x3]) rfl ⟨_, _, _, rfl, ?_⟩
          rw [Hid.out HE]
          obtain ⟨h9, o9⟩ := (Hid.out H8).far (Hid.out HO8) hAk 2 (.int .i64 wr)
          obtain ⟨h10, o10⟩ := h9.far o9 hAk 3 (.int .i64 v)
          refine qend (r := r) (by rw [← Hid.out HT]; exact h10) ((heap_set_other nbZ).trans ((heap_set_other nbZ).trans (Hid.out HZ8))) hbs (Nat.le_succ _) (keptR_new (keptR_new (Hid.out HK8) hWk 2 _) hWk 3 _) hrd7 (fun _ => ⟨Hid.out HNE, ?_, fun q => ?_⟩) _ _ _ _
          · rw [(Hid.out HLR (by first | rfl | trivial)).1]
          · rw [(Hid.out HLR (by first | rfl | trivial)).2 w0]
      · have t0' : (t == 0) = false := by simpa using t0
        go_wp2
        refine bodyPost_ret (v := .agg #[.pointer (some ⟨b, 0, none⟩), .int .i64 (nx + 1), .int .i64 0, .int .i64 0]) (by simp [results, Try.results22, go_sem, x0, x1, x2, x3]) rfl ⟨_, _, _, rfl, ?_⟩
        rw [Hid.out HE]
        exact qend (r := r) (by rw [← Hid.out HT]; exact Hid.out H8) (Hid.out HZ8) hbs (Nat.le_succ _) (Hid.out HK8) hrd7 (fun q => absurd ((Hid.out HT).trans q) t0) _ _ _ _
end
end
section
set_option linter.unusedVariables false
open Go.ChangeShapes Go.WideShapes Go.ChangeAt Go.RowKit

section
variable {A W : World} {b gr gm : Nat} {ov : Value} {I : List Int} {p : Pt} {rd : Nat} {nx rg lt : Int}
set_option maxHeartbeats 8000000 in
theorem qstep_20 (h : IsR A W b gr gm ov I p.st rd 0) (hok : OkP p) (hnx : nx = p.next) (hrg : rg = p.lr) (hlt : p.lr ≠ 0 → lt = p.lv) (X : List Ins) (cv : Value) (ai : Option Addr) (ci : Nat) (hv : Code A cv X) (hi : IntsC A (.slice ai I.length ci) I) (hI : ∀ x ∈ I, (Lit.int .i64 x).wf = true) (hrd : rd ≤ 1000000) (k : Nat) (hp : p.st.place = k) (hk : k < X.length) (hX : X.length ≤ 4096) (hr : (X.getD k Ins.zero).right = true) (ho : (X.getD k Ins.zero).o = 20) (hg : ¬ (15 ≤ (X.getD k Ins.zero).o ∧ (X.getD k Ins.zero).o ≤ 19)) :
    Calls Try.prog 22 #[.agg #[.pointer (some ⟨b, 0, none⟩), .int .i64 nx, .int .i64 rg, .int .i64 lt], cv, .slice ai I.length ci] W fun e W' => ∃ nx' rg' lt', e = .returned (.agg #[.pointer (some ⟨b, 0, none⟩), .int .i64 nx', .int .i64 rg', .int .i64 lt']) ∧ AfterQ A W W' b gr gm I (stepP X p) rd nx' rg' lt' := by
  obtain ⟨ao, cap, rfl, hc⟩ := id hv
  obtain ⟨bc, oc, rfl, hbc, hca⟩ := hc (by omega)
  obtain ⟨a0, a1, a2, a3, a4⟩ := (hca.stay hbc h.bel) k hk
  obtain ⟨c0, c1, c2, c3, c4, c5⟩ := refB_cells h.box
  rw [hp] at c2
  have lb := lt_of_heap h.box
  have hbs := h.bel.size
  have hbcW : bc < W.heap.size := by omega
  have hk1 : (k : Int) < X.length := by omega
  have hk0 : (0 : Int) ≤ (k : Int) := by omega
  have hd : decide ((k : Int) < 0) = false := by simp
  have HStep := hidm (step_at hp hk rfl hr)
  have hn : Wd p.next := by
    rcases hok.next with q | q
    · exact q
    · rw [q, hp]; unfold Wd; omega
  have hnb : -2147483648 ≤ nx ∧ nx ≤ 2147483647 := by rw [hnx]; exact hn
  have hrb : 0 ≤ rg ∧ rg ≤ 31 := by rw [hrg]; exact hok.lr
  have HLt := hidm hlt
  have HLv := hidm hok.lv
  have HNX := hidm hnx
  have HRG := hidm hrg
  clear hc hca hn hnx hrg hlt
  generalize X.getD k Ins.zero = x at *
  have hbd := right_bd hr
  have HR : Hid (∀ w, Calls Try.prog 35 #[.agg #[.int .i64 x.o, .int .i64 x.a, .int .i64 x.b, .int .i64 x.c, .int .i64 x.i]] w fun e w' => e = .returned (.bool true) ∧ Bel w w') := hidm (fun w => by
    have := refRight_any x.o x.a x.b x.c x.i w
    rw [show rightB x.o x.a x.b x.c x.i = true from hr] at this
    exact this)
  have HWr : Hid (∀ w, Calls Try.prog 36 #[.agg #[.int .i64 x.o, .int .i64 x.a, .int .i64 x.b, .int .i64 x.c, .int .i64 x.i]] w fun e w' => e = .returned (.int .i64 x.wr) ∧ Bel w w') := hidm (fun w => refWrites_any x.o x.a x.b x.c x.i w)
  have HGo : Hid (∀ w, Calls Try.prog 37 #[.agg #[.int .i64 x.o, .int .i64 x.a, .int .i64 x.b, .int .i64 x.c, .int .i64 x.i]] w fun e w' => e = .returned (.bool false) ∧ Bel w w') := hidm (fun w => by
    have := refGoes_any x.o x.a x.b x.c x.i w
    rw [show goesB x.o x.a x.b x.c x.i = false from by unfold goesB; rw [show rightB x.o x.a x.b x.c x.i = true from hr, decide_eq_false hg]; rfl] at this
    exact this)
  obtain ⟨ka, hka⟩ := nat_of hbd.2.2.1
  obtain ⟨kb, hkb⟩ := nat_of hbd.2.2.2.2.1
  obtain ⟨kc, hkc⟩ := nat_of hbd.2.2.2.2.2.2.1
  have la : (ka : Int) < 32 := by omega
  have lb2 : (kb : Int) < 32 := by omega
  have lc : (kc : Int) < 32 := by omega
  have HKA := hidm hka
  have HKB := hidm hkb
  have HKC := hidm hkc
  have HH := hidm h
  clear hka hkb hkc h hv
  have HOo := hidm ho
  have HR0x := hidm hr
  clear ho hg
  go_enter Try.func22, Try.ntmps22
  go_wp2_with (first
    | (go_at_call 35; refine (Hid.out HR _).mono ?_; rintro e w2 ⟨rfl, B2⟩; refine Hid.out ?_)
    | fail)
  have B02 : Bel W w2 := btrans ((((Bel.refl W).alloc _).alloc _).alloc _) B2
  have hs2 : w2.heap[W.heap.size]? = some (stB b nx rg lt) := (B2.out.block _ (by simp <;> omega)).trans (heap_old (heap_old (heap_new W _)))
  have hz2 : w2.heap[W.heap.size + 1]? = some stZ := (B2.out.block _ (by simp <;> omega)).trans (heap_old (heap_at2 W _ _))
  have hx2 : w2.heap[W.heap.size + 1 + 1]? = some (insB x.o x.a x.b x.c x.i) := (B2.out.block _ (by simp)).trans (heap_at3 W _ _ _)
  clear B2
  refine hidm ?_
  have h2 := (Hid.out HH).stay B02
  obtain ⟨d0, d1, d2, d3, d4⟩ := insB_cells hx2
  obtain ⟨p0, p1, p2, p3, p4, p5⟩ := refB_cells h2.box
  rw [Hid.out HKA] at d1
  rw [Hid.out HKB] at d2
  rw [Hid.out HKC] at d3
  have r1 := h2.regAt ka (by omega)
  have r2 := h2.regAt kb (by omega)
  have r3 := h2.regAt kc (by omega)
  have r4 := h2.regAt 4 (by omega)
  have wa := reg_wd h2.ok ka
  have wb := reg_wd h2.ok kb
  have wc := reg_wd h2.ok kc
  have hstep := Hid.out HStep
  rw [Hid.out HKA, Hid.out HKB, Hid.out HKC, reg_nat, reg_nat, reg_nat, show reg p.st.regs 4 = p.st.regs[4]?.getD 0 from rfl] at hstep
  rw [reg_nat] at wa wb wc
  generalize p.st.regs[ka]?.getD 0 = va at *
  generalize p.st.regs[kb]?.getD 0 = vb at *
  generalize p.st.regs[kc]?.getD 0 = vc at *
  generalize p.st.regs[4]?.getD 0 = vd at *
  have HE := hidm hstep
  clear hstep HStep a0 a1 a2 a3 a4 c0 c1 c2 c3 c4 c5
  go_wp2_with fail
  go_quiet (fail)
  have h3 := h2.stay (Bel.drewN w2 nq)
  have hs3 : (w2.drewN nq).heap[W.heap.size]? = some (stB b nx rg lt) := ((Bel.drewN w2 nq).out.block _ (lt_of_heap hs2)).trans hs2
  have hz3 : (w2.drewN nq).heap[W.heap.size + 1]? = some stZ := ((Bel.drewN w2 nq).out.block _ (lt_of_heap hz2)).trans hz2
  have hx3 : (w2.drewN nq).heap[W.heap.size + 1 + 1]? = some (insB x.o x.a x.b x.c x.i) := ((Bel.drewN w2 nq).out.block _ (lt_of_heap hx2)).trans hx2
  have HK3 : Hid (Kept (MutR A.heap.size) W (w2.drewN nq)) := hidm (Kept.of_bel (btrans B02 (Bel.drewN w2 nq)))
  clear h2 hs2 hz2 hx2 B02 d0 d1 d2 d3 d4 p0 p1 p2 p3 p4 p5 r1 r2 r3 r4 HH
  generalize w2.drewN nq = V at *
  obtain ⟨s0, s1, s2, s3⟩ := stB_cells hs3
  have H3 := hidm h3
  have HS3 := hidm hs3
  have HZ3 := hidm hz3
  have HX3 := hidm hx3
  have hcase : rg = 0 ∨ ∃ kr : Nat, rg = kr ∧ 0 < kr ∧ kr < 32 := by
    rcases Int.lt_or_le 0 rg with q | q
    · exact .inr ⟨rg.toNat, by omega, by omega, by omega⟩
    · exact .inl (by omega)
  clear hs3 hz3 hx3
  rcases hcase with hr0 | ⟨kr, hkr, hkr0, hkr1⟩
  case' inr =>
    have g0 := (refB_cells h3.box).1
    have g1 := h3.regAt kr hkr1
    have g2 := frozen_of h3.rr kr
    have hkr2 : (kr : Int) < 32 := by omega
    have hkr3 : ((kr : Int) == 0) = false := by simp; omega
    have HKR := hidm hkr
    rw [hkr] at s2
    have hlv : lt = p.lv := Hid.out HLt (by rw [← Hid.out HRG, hkr]; omega)
    have hwl : Wd lt := by rw [hlv]; exact Hid.out HLv
    have HSR := hidm (h3.setReg kr hkr1 (by omega) lt hwl)
    have HLV := hidm hlv
    have hre : setR p.st.regs p.lr p.lv = p.st.regs.set kr lt := by unfold setR; rw [← Hid.out HRG, hkr, if_neg (by omega), Int.toNat_natCast, ← hlv]
    have HRE := hidm hre
    have nbg : b ≠ gr := fun e => h3.bne.1 e.symm
    clear h3 hkr hre hlv
    go_wp2_with fail
    go_region
    have h4 := (Hid.out HSR).1.stay ((Bel.refl _).drew)
    rw [← Hid.out HRE] at h4
    have hkk : Kept (MutR A.heap.size) V (V.setCell ⟨gr, kr, none⟩ (.int .i64 lt)).drew := (Hid.out HSR).2.trans (Kept.drew _ _)
    have hs4 := stB_kept hkk (Hid.out HS3)
    have hz4 := keptR_box hkk (Hid.out HZ3) (by decide) (by decide)
    have hx4 := insR_kept hkk (Hid.out HX3)
    have HK4 := hidm ((Hid.out HK3).trans hkk)
    clear s0 s1 s2 s3 g0 g1 g2 HSR hkk HS3 HZ3 HX3 H3 HK3
    generalize (V.setCell ⟨gr, kr, none⟩ (.int .i64 lt)).drew = V4 at *
  case' inl =>
    have hre : setR p.st.regs p.lr p.lv = p.st.regs := by unfold setR; rw [← Hid.out HRG, if_pos hr0]
    have h4 : IsR A V b gr gm ov I { p.st with regs := setR p.st.regs p.lr p.lv } rd 0 := by rw [hre]; exact Hid.out H3
    have hs4 := Hid.out HS3
    have hz4 := Hid.out HZ3
    have hx4 := Hid.out HX3
    have HK4 := HK3
    clear h3 hre s0 s1 s2 s3 H3 HS3 HZ3 HX3 HK3
    have HR0 := hidm hr0
    clear hr0
    obtain ⟨s0, s1, s2, s3⟩ := stB_cells hs4
    rw [Hid.out HR0] at s2
    clear s0 s1 s3
    generalize V = V4 at *
  all_goals
    have lV := lt_of_heap h4.box
    have lX := lt_of_heap hx4
    have lS := lt_of_heap hs4
    have nS : W.heap.size ≠ b := by omega
    have nI : W.heap.size + 1 + 1 ≠ b := by omega
    have sc := stB_cells hs4
    have s0' := sc.1
    have s1' := sc.2.1
    clear sc
    obtain ⟨e0, e1, e2, e3, e4⟩ := insB_cells hx4
    obtain ⟨q0, q1, q2, q3, q4, q5⟩ := refB_cells h4.box
    have f2 := frozen_of h4.box 2
    dsimp only at q2
    rw [hp] at q2
    have HSB := hidm (h4.setBox 2 (.int .i64 nx) nx rd 0 p.st.inp h4.inp rfl)
    have HS4 := hidm hs4
    have HZ4 := hidm hz4
    have HX4 := hidm hx4
    clear h4 hs4 hz4 hx4
    go_wp2_with (first
      | (go_at_call 36; refine (Hid.out HWr _).mono ?_; rintro e w5 ⟨rfl, B5⟩; refine Hid.out ?_)
      | fail)
    have K5 : Kept (MutR A.heap.size) V4 w5 := (Hid.out HSB).2.trans (Kept.of_bel (btrans ((Bel.refl _).alloc _) B5))
    have h5 := (Hid.out HSB).1.stay (btrans ((Bel.refl _).alloc _) B5)
    have hs5 := stB_kept K5 (Hid.out HS4)
    have hz5 := keptR_box K5 (Hid.out HZ4) (by decide) (by decide)
    have hx5 := insR_kept K5 (Hid.out HX4)
    have ho5 : w5.heap[V4.heap.size]? = some (stB b (nx + 1) 0 0) := (B5.out.block _ (by simp)).trans (by rw [← size_set V4 ⟨b, 2, none⟩ (.int .i64 nx)]; exact heap_new _ _)
    have HK5 := hidm ((Hid.out HK4).trans K5)
    have lV5 := lt_of_heap ho5
    clear s0' s1' e0 e1 e2 e3 e4 q0 q1 q2 q3 q4 q5 f2 K5 B5 HSB HS4 HZ4 HX4 HK4
    try clear s2
    have hnp : ({ p.st with regs := setR p.st.regs p.lr p.lv, place := nx } : St) = (arriveP (aheadP p)).st := by rw [Hid.out HNX]; rfl
    have h5' : IsR A w5 b gr gm ov I (arriveP (aheadP p)).st rd 0 := by rw [← hnp]; exact h5
    clear h5 hnp
    have nbX : W.heap.size + 1 + 1 ≠ V4.heap.size := by omega
    have nbX' := nbX.symm
    have lZ5 := lt_of_heap hz5
    have nbZ : W.heap.size + 1 ≠ V4.heap.size := by omega
    obtain ⟨e0, e1, e2, e3, e4⟩ := insB_cells hx5
    have HX5 := hidm hx5
    have HZ5 := hidm hz5
    have HO5 := hidm ho5
    have H5 := hidm h5'
    clear hs5 hz5 hx5 ho5 h5'
    refine hidm ?_
    go_wp2_with (first
      | (go_at_call 37; refine (Hid.out HGo _).mono ?_; rintro e w6 ⟨rfl, B6⟩; refine Hid.out ?_)
      | fail)
    have h6 := (Hid.out H5).stay B6
    have hz6 := (B6.out.block _ (lt_of_heap (Hid.out HZ5))).trans (Hid.out HZ5)
    have hx6 := (B6.out.block _ (lt_of_heap (Hid.out HX5))).trans (Hid.out HX5)
    have ho6 := (B6.out.block _ (lt_of_heap (Hid.out HO5))).trans (Hid.out HO5)
    have HK6 := hidm ((Hid.out HK5).trans (Kept.of_bel B6))
    have l6 := lt_of_heap ho6
    clear e0 e1 e2 e3 e4 HX5 HZ5 HO5 H5 HK5 B6
    generalize V4.heap.size = ko at *
    refine hidm ?_
    obtain ⟨e0, e1, e2, e3, e4⟩ := insB_cells hx6
    obtain ⟨z0, z1, z2, z3⟩ := stB_cells ho6
    have zf : ∀ j, w6.frozen? ⟨ko, j, none⟩ = false := fun j => frozen_of ho6 j
    have y0 : w6.cell? ⟨W.heap.size + 1, 0, none⟩ = some (.pointer none) := cell_of hz6 0
    have y1 : w6.cell? ⟨W.heap.size + 1, 1, none⟩ = some (.int .i64 0) := cell_of hz6 1
    have y2 : w6.cell? ⟨W.heap.size + 1, 2, none⟩ = some (.int .i64 0) := cell_of hz6 2
    have y3 : w6.cell? ⟨W.heap.size + 1, 3, none⟩ = some (.int .i64 0) := cell_of hz6 3
    have g0 : ∀ j, w6.frozen? ⟨W.heap.size + 1, j, none⟩ = false := fun j => frozen_of hz6 j
    have nbZ' := nbZ.symm
    have lko := lt_of_heap ho6
    have hAk : A.heap.size ≤ ko := by omega
    have hWk : W.heap.size ≤ ko := by omega
    have HZ6 := hidm hz6
    have HO6 := hidm ho6
    clear hz6 ho6
    have HEf0 := hidm (effQ h6 rfl x (Hid.out HR0x) (.inr (.inr (.inr (Hid.out HOo)))) k vc va vb vd ai ci hi hI hrd wa wb)
    have HX6 := hidm hx6
    have lb6 := lt_of_heap h6.box
    have hwr := wr_bd x
    clear h6 hx6
    generalize doP x k va vb vc vd (arriveP (aheadP p)) = r at *
    generalize x.wr = wr at *
    all_goals
      rw [Hid.out HOo] at e0 HEf0
      go_wp2_with (first
        | (go_at_call 38; refine (Hid.out HEf0).mono ?_; rintro e w7 ⟨t, v, rfl, ht, hI7, hK7, hnx7, hlr7⟩; refine Hid.out ?_)
        | fail)
      obtain ⟨ov7, rd7, h7, hrd7⟩ := hI7
      have hz7 := keptR_box hK7 (Hid.out HZ6) (by decide) (by decide)
      have ho7 := stB_kept hK7 (Hid.out HO6)
      have K7 := (Hid.out HK6).trans hK7
      obtain ⟨z0, z1, z2, z3⟩ := stB_cells ho7
      have zf : ∀ j, w7.frozen? ⟨ko, j, none⟩ = false := fun j => frozen_of ho7 j
      have y0 : w7.cell? ⟨W.heap.size + 1, 0, none⟩ = some (.pointer none) := cell_of hz7 0
      have y1 : w7.cell? ⟨W.heap.size + 1, 1, none⟩ = some (.int .i64 0) := cell_of hz7 1
      have y2 : w7.cell? ⟨W.heap.size + 1, 2, none⟩ = some (.int .i64 0) := cell_of hz7 2
      have y3 : w7.cell? ⟨W.heap.size + 1, 3, none⟩ = some (.int .i64 0) := cell_of hz7 3
      have g0 : ∀ j, w7.frozen? ⟨W.heap.size + 1, j, none⟩ = false := fun j => frozen_of hz7 j
      have m5 := (refB_cells h7.box).2.2.2.2.2
      have f5 := frozen_of h7.box 5
      have nbo : b ≠ ko := by omega
      have nbo' := nbo.symm
      have nbz : b ≠ W.heap.size + 1 := by omega
      have nbz' := nbz.symm
      obtain ⟨h8, K8⟩ := h7.setBox 5 (.int .i64 t) r.2.st.place rd7 t r.2.st.inp h7.inp rfl
      have hz8 := keptR_box K8 hz7 (by decide) (by decide)
      have ho8 := stB_kept K8 ho7
      have hnxe : nx + 1 = r.2.next := by rw [Hid.out hnx7, Hid.out HNX]; rfl
      have HNE := hidm hnxe
      have H8 := hidm h8
      have HK8 := hidm (K7.trans K8)
      have HZ8 := hidm hz8
      have HO8 := hidm ho8
      have HT := ht
      have HLR := hidm hlr7
      clear h7 h8 hz7 ho7 hz8 ho8 K7 K8 hnx7 hnxe ht hlr7 hK7 e0 e1 e2 e3 e4
      clear HEf0 HWr HR HKA HKB HKC HLt HLv HRG HX6 HZ6 HO6 HK6 HOo HR0x hi hI wa wb wc hok hbd hnb hrb hk1 hk0 hd hX
      have x0 := cell_of (Hid.out HZ8) 0
      have x1 := cell_of (Hid.out HZ8) 1
      have x2 := cell_of (Hid.out HZ8) 2
      have x3 := cell_of (Hid.out HZ8) 3
      refine hidm ?_
      by_cases t0 : t = 0
      · subst t0
        by_cases w0 : wr = 0
        · subst w0
          go_wp2
          refine bodyPost_ret (v := .agg #[.pointer (some ⟨b, 0, none⟩), .int .i64 (nx + 1), .int .i64 0, .int .i64 0]) (by simp [results, Try.results22, go_sem, x0, x1, x2, x3]) rfl ⟨_, _, _, rfl, ?_⟩
          rw [Hid.out HE]
          refine qend (r := r) (by rw [← Hid.out HT]; exact Hid.out H8) (Hid.out HZ8) hbs (Nat.le_succ _) (Hid.out HK8) hrd7 (fun _ => ⟨Hid.out HNE, ?_, fun q => ?_⟩) _ _ _ _
          · rw [(Hid.out HLR (by first | rfl | trivial)).1]
          · exact absurd (Hid.out HLR (by first | rfl | trivial)).1 q
        · have w0' : (wr == 0) = false := by simpa using w0
          have w1' : (wr != 0) = true := by simpa using w0
          go_wp2
          refine bodyPost_ret (v := .agg #[.pointer (some ⟨b, 0, none⟩), .int .i64 (nx + 1), .int .i64 wr, .int .i64 v]) (by simp [results, Try.results22, go_sem, x0, x1, x2, x3]) rfl ⟨_, _, _, rfl, ?_⟩
          rw [Hid.out HE]
          obtain ⟨h9, o9⟩ := (Hid.out H8).far (Hid.out HO8) hAk 2 (.int .i64 wr)
          obtain ⟨h10, o10⟩ := h9.far o9 hAk 3 (.int .i64 v)
          refine qend (r := r) (by rw [← Hid.out HT]; exact h10) ((heap_set_other nbZ).trans ((heap_set_other nbZ).trans (Hid.out HZ8))) hbs (Nat.le_succ _) (keptR_new (keptR_new (Hid.out HK8) hWk 2 _) hWk 3 _) hrd7 (fun _ => ⟨Hid.out HNE, ?_, fun q => ?_⟩) _ _ _ _
          · rw [(Hid.out HLR (by first | rfl | trivial)).1]
          · rw [(Hid.out HLR (by first | rfl | trivial)).2 w0]
      · have t0' : (t == 0) = false := by simpa using t0
        go_wp2
        refine bodyPost_ret (v := .agg #[.pointer (some ⟨b, 0, none⟩), .int .i64 (nx + 1), .int .i64 0, .int .i64 0]) (by simp [results, Try.results22, go_sem, x0, x1, x2, x3]) rfl ⟨_, _, _, rfl, ?_⟩
        rw [Hid.out HE]
        exact qend (r := r) (by rw [← Hid.out HT]; exact Hid.out H8) (Hid.out HZ8) hbs (Nat.le_succ _) (Hid.out HK8) hrd7 (fun q => absurd ((Hid.out HT).trans q) t0) _ _ _ _
end
end
end Go.Proofs.Ythkhlkcdhalkfaa
