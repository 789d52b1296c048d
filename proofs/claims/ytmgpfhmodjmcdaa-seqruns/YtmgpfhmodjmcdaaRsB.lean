/-
  A step of the reference's machine that reckons.
-/
import Derived.Test.YtmgpfhmodjmcdaaRsA
namespace Go.Proofs.Ytmgpfhmodjmcdaa
set_option maxRecDepth 20000
set_option linter.unusedVariables false
open Go.ChangeShapes Go.WideShapes Go.ChangeAt Go.RowKit

section
variable {A W : World} {b gr gm : Nat} {ov : Value} {I : List Int} {s : St} {rd : Nat}
set_option maxRecDepth 100000 in
set_option maxHeartbeats 4000000 in
theorem rstep_rec (h : IsR A W b gr gm ov I s rd 0) (X : List Ins) (cv : Value) (ai : Option Addr) (ci : Nat) (hv : Code A cv X) (hi : IntsC A (.slice ai I.length ci) I) (hI : ∀ x ∈ I, (Lit.int .i64 x).wf = true) (hrd : rd ≤ 1000000) (k : Nat) (hp : s.place = k) (hk : k < X.length) (hX : X.length ≤ 4096) (hr : (X.getD k Ins.zero).right = true) (hq : reckonsB (X.getD k Ins.zero).o = true) :
    Calls Try.prog 26 #[.pointer (some ⟨b, 0, none⟩), cv, .slice ai I.length ci] W fun e W' => e = .returned (.tuple #[]) ∧ After A W W' b gr gm I (stepM X s) rd := by
  obtain ⟨ao, cap, rfl, hc⟩ := id hv
  obtain ⟨bc, oc, rfl, hbc, hca⟩ := hc (by omega)
  obtain ⟨a0, a1, a2, a3, a4⟩ := (hca.stay hbc h.bel) k hk
  obtain ⟨c0, c1, c2, c3, c4, c5⟩ := refB_cells h.box
  rw [hp] at c2
  have hk1 : (k : Int) < X.length := by omega
  have hk0 : (0 : Int) ≤ (k : Int) := by omega
  have hd : decide ((k : Int) < 0) = false := by simp
  have hstep : stepM X s = if (X.getD k Ins.zero).right = true then actM (X.getD k Ins.zero) s else (8, s) := by
    unfold stepM
    rw [if_neg (by omega), hp, Int.toNat_natCast]
  have HStep := hidm hstep
  clear hstep hc hca
  generalize X.getD k Ins.zero = x at *
  have HV : Hid (Bel W (W.alloc (insB x.o x.a x.b x.c x.i))) := hidm ((Bel.refl W).alloc _)
  have HH := hidm h
  have HQ := hidm hq
  clear hq
  have he1 := Hid.out HStep
  rw [if_pos hr] at he1
  have hbd := right_bd hr
  have HR : Hid (∀ w, Calls Try.prog 19 #[.agg #[.int .i64 x.o, .int .i64 x.a, .int .i64 x.b, .int .i64 x.c, .int .i64 x.i]] w fun e w' => e = .returned (.bool true) ∧ Bel w w') := hidm (fun w => by
    have := refRight_any x.o x.a x.b x.c x.i w
    rw [show rightB x.o x.a x.b x.c x.i = true from hr] at this
    exact this)
  obtain ⟨ka, hka⟩ := nat_of hbd.2.2.1
  obtain ⟨kb, hkb⟩ := nat_of hbd.2.2.2.2.1
  obtain ⟨kc, hkc⟩ := nat_of hbd.2.2.2.2.2.2.1
  have HKA := hidm hka
  have HKB := hidm hkb
  have HKC := hidm hkc
  have HE := hidm he1
  have HBD := hidm hbd
  clear hka hkb hkc he1 hr HStep h hbd
  go_enter Try.func26, Try.ntmps26
  go_wp2_with (first
    | (go_at_call 19; refine (Hid.out HR _).mono ?_; rintro e w2 ⟨rfl, B2⟩; have B02 := btrans (Hid.out HV) B2; have hx2 : w2.heap[W.heap.size]? = some (insB x.o x.a x.b x.c x.i) := (B2.out.block _ (by simp)).trans (heap_new W _))
    | fail)
  have h2 := (Hid.out HH).stay B02
  obtain ⟨d0, d1, d2, d3, d4⟩ := insB_cells hx2
  obtain ⟨p0, p1, p2, p3, p4, p5⟩ := refB_cells h2.box
  have hbd := Hid.out HBD
  rw [Hid.out HKA] at d1
  rw [Hid.out HKB] at d2
  rw [Hid.out HKC] at d3
  have la : (ka : Int) < 32 := by have := Hid.out HKA; omega
  have lb : (kb : Int) < 32 := by have := Hid.out HKB; omega
  have lc : (kc : Int) < 32 := by have := Hid.out HKC; omega
  have r1 := h2.regAt ka (by omega)
  have r2 := h2.regAt kb (by omega)
  have r3 := h2.regAt kc (by omega)
  have wa := reg_wd h2.ok ka
  have wb := reg_wd h2.ok kb
  have wc := reg_wd h2.ok kc
  have he1 := Hid.out HE
  unfold actM at he1
  rw [reg_nat] at wa wb wc
  generalize hva : s.regs[ka]?.getD 0 = va at *
  generalize hvb : s.regs[kb]?.getD 0 = vb at *
  generalize hvc : s.regs[kc]?.getD 0 = vc at *
  have HC5 : Hid True := hidm trivial
  clear a0 a1 a2 a3 a4 c0 c1 c2 c3 c4 c5 B2
  go_region_held3 (fun w' => w'.cell? ⟨b, 0, none⟩ = some (.slice (some ⟨gr, 0, none⟩) 32 32) ∧ w'.cell? ⟨W.heap.size, 1, none⟩ = some (.int .i64 (ka : Int)) ∧ w'.cell? ⟨W.heap.size, 2, none⟩ = some (.int .i64 (kb : Int)) ∧ w'.cell? ⟨W.heap.size, 3, none⟩ = some (.int .i64 (kc : Int)) ∧ w'.cell? ⟨gr, ka, none⟩ = some (.int .i64 va) ∧ w'.cell? ⟨gr, kb, none⟩ = some (.int .i64 vb) ∧ w'.cell? ⟨gr, kc, none⟩ = some (.int .i64 vc)) (go_keep) (fail)
  have h3 := h2.stay ((Bel.refl w2).drew)
  have hx3 : w2.drew.heap[W.heap.size]? = some (insB x.o x.a x.b x.c x.i) := hx2
  have B03 := hidm (B02.drew)
  have hra : reg s.regs x.a = va := by rw [Hid.out HKA, reg_nat, hva]
  have hrb : reg s.regs x.b = vb := by rw [Hid.out HKB, reg_nat, hvb]
  have hrc : reg s.regs x.c = vc := by rw [Hid.out HKC, reg_nat, hvc]
  rw [hra, hrb] at he1
  have HE1 := hidm he1
  have HRC := hidm hrc
  have HRB := hidm hrb
  clear h2 hx2 B02 d0 d1 d2 d3 d4 p0 p1 p2 p3 p4 p5 r1 r2 r3 hva hvb hvc hra hrb hrc he1 HE HC5 HV HH
  generalize w2.drew = V at *
  obtain ⟨e0, e1, e2, e3, e4⟩ := insB_cells hx3
  obtain ⟨q0, q1, q2, q3, q4, q5⟩ := refB_cells h3.box
  have f2 := frozen_of h3.box 2
  have f5 := frozen_of h3.box 5
  rw [hp] at q2
  have hnb : W.heap.size ≠ b := by
    intro e
    have g1 := hx3
    have g2 := h3.box
    rw [e] at g1
    rw [g1] at g2
    injection g2 with g2
    injection g2 with _ g2 _
    exact absurd g2 (by decide)
  have hnb' := hnb.symm
  have H3 := hidm h3
  have HX3 := hidm hx3
  have HIV := hidm hi
  clear h3 hx3 hi hv
  have hk2 : (k : Int) + 1 ≤ 5000 := by omega
  have orec := Hid.out HQ
  have orec' : 1 ≤ x.o ∧ x.o ≤ 11 := by simpa [reckonsB] using orec
  have he := Hid.out HE1
  rw [orec, if_pos rfl] at he
  unfold resM at he
  dsimp only at he
  rw [Hid.out HRC, Hid.out HRB, hp, Hid.out HKA] at he
  have n12 : (x.o == 12) = false := by simp; omega
  have n13 : (x.o == 13) = false := by simp; omega
  have n14 : (x.o == 14) = false := by simp; omega
  have n20 : (x.o == 20) = false := by simp; omega
  have n15 : (x.o == 15) = false := by simp; omega
  have n16 : (x.o == 16) = false := by simp; omega
  have n17 : (x.o == 17) = false := by simp; omega
  have n18 : (x.o == 18) = false := by simp; omega
  have n19 : (x.o == 19) = false := by simp; omega
  have n0 : (x.o == 0) = false := by simp; omega
  rw [Hid.out HKA] at e1
  rw [Hid.out HKB] at e2
  rw [Hid.out HKC] at e3
  have hval := fun w => value_any x.o ka kb kc x.i vb vc w orec' wb wc (by omega)
  by_cases ht : recT x.o vc = 0
  · rw [ht, if_pos rfl] at he
    rw [ht] at hval
    obtain ⟨v1, v2⟩ := val_ok (i := x.i) orec' wb wc (by omega) ht
    have HVal := hidm hval
    have HE2 := hidm he
    have V1 := hidm v1
    have V2 := hidm v2
    clear he ht hval v1 v2
    generalize valU x.o x.i vb vc = vu at *
    go_wp2_with (first
      | (go_at_call 20; refine (Hid.out HVal _).mono ?_; rintro e w4 ⟨rfl, b4⟩; have h4 := (Hid.out H3).stay b4; have hx4 := (b4.out.block _ (lt_of_heap (Hid.out HX3))).trans (Hid.out HX3); obtain ⟨g0, g1, g2, g3, g4⟩ := insB_cells hx4; rw [Hid.out HKA] at g1; have HSet := hidm (rset_any h4 ka vu (by omega) (Hid.out V2)); have B4 := hidm b4; clear h4 hx4 b4)
      | (go_at_call 41; refine (Hid.out HSet).mono ?_; rintro e w5 ⟨rfl, m3, m5⟩; have c6 := (refB_cells m3.box).2.2.1; have j6 := frozen_of m3.box 2; have HS := hidm (m3.setBox 2 (.int .i64 ((k : Int) + 1)) ((k : Int) + 1) rd 0 s.inp m3.inp rfl); have M5 := hidm m5; clear m3 m5))
    go_end0
    rw [Hid.out HE2]
    have hs := (Hid.out HS).1
    rw [Hid.out V1] at hs
    exact ⟨rfl, ⟨ov, _, _, hs, fun _ => rfl, by omega⟩, (((Kept.of_bel (Hid.out B03)).trans (Kept.of_bel (Hid.out B4))).trans (Hid.out M5)).trans (Hid.out HS).2⟩
  · rw [if_neg ht] at he
    have ht4 : recT x.o vc = 4 := by
      unfold recT at ht ⊢
      split
      · rfl
      · rename_i hn; rw [if_neg hn] at ht; exact absurd rfl ht
    rw [ht4] at he hval
    have HVal := hidm hval
    have HE2 := hidm he
    clear he ht ht4 hval
    go_wp2_with (first
      | (go_at_call 20; refine (Hid.out HVal _).mono ?_; rintro e w4 ⟨rfl, b4⟩; have h4 := (Hid.out H3).stay b4; have c6 := (refB_cells h4.box).2.2.2.2.2; have j6 := frozen_of h4.box 5; have HS := hidm (h4.setBox 5 (.int .i64 4) s.place rd 4 s.inp h4.inp rfl); have B4 := hidm b4; clear h4 b4))
    refine bodyPost_ret (results_none rfl _ _ _) rfl ?_
    rw [Hid.out HE2]
    exact ⟨rfl, ⟨ov, _, _, (Hid.out HS).1, fun h => absurd h (show ¬ ((4 : Int) = 0) by decide), by omega⟩, ((Kept.of_bel (Hid.out B03)).trans (Kept.of_bel (Hid.out B4))).trans (Hid.out HS).2⟩
end
end Go.Proofs.Ytmgpfhmodjmcdaa
