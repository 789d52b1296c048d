/-
  The law 'DependHigh' of delayslotlaw10 returns true at every list and every instruction ahead of it: the last one's height is 0, none is above twice as many as stand behind, and more ahead turn none (asked of at most 60 instructions).
  Conditions: none.
-/
import Derived.Test.YteldmfidcnlfkaaRows
import Derived.WalkKit
import Derived.ProofKit
import Derived.OpenShut
import Derived.ShutString
import Derived.ChangeOld
import Derived.Below
import Derived.Carry
import Derived.Test.YteldmfidcnlfkaaAwk10
import Derived.Test.YteldmfidcnlfkaaHp10
import Derived.Deep.RegionLaw
namespace Go.Proofs.Yteldmfidcnlfkaa.dependHigh
open Go.ChangeShapes Go.WideShapes Go.ChangeAt Go.RowKit
open Go.ChangeMaps (open_string shut_string)
set_option linter.unusedVariables false

theorem laidOut : laidOutB Try.prog = true := by kernel_rfl
theorem own : ownKnob Try.prog.godebug = none := by kernel_rfl
theorem cells23 : Try.prog.cellsOf 23 = 5 := by kernel_rfl

set_option maxRecDepth 20000 in
set_option maxHeartbeats 2000000 in
theorem walk (w : World) (y0 : Value) (X0 : List Ins) (wy0 : Code w y0 X0) (o1 a1 b1 c1 i1 : Int) (wo1 : (Lit.int .i64 o1).wf = true) (wa1 : (Lit.int .i64 a1).wf = true) (wb1 : (Lit.int .i64 b1).wf = true) (wc1 : (Lit.int .i64 c1).wf = true) (wi1 : (Lit.int .i64 i1).wf = true) :
    Calls Try.prog 8 #[y0, .agg #[.int .i64 o1, .int .i64 a1, .int .i64 b1, .int .i64 c1, .int .i64 i1]] w fun e w' => e = .returned (.bool true) ∧ Bel w w' := by
  by_cases hs : X0.length ≤ 60
  · have HW := hidm wy0
    obtain ⟨ao, cap, rfl, hc⟩ := wy0
    clear hc
    have hk1 := fun ww hv => heights_any X0 (.slice ao X0.length cap) ww (by omega) hv
    have hx0 : (w.alloc (Obj.cells #[.int .i64 o1, .int .i64 a1, .int .i64 b1, .int .i64 c1, .int .i64 i1] 23)).drew.heap[w.heap.size]? = some (Obj.cells #[.int .i64 o1, .int .i64 a1, .int .i64 b1, .int .i64 c1, .int .i64 i1] 23) := heap_new w _
    have B0 : Bel w (w.alloc (Obj.cells #[.int .i64 o1, .int .i64 a1, .int .i64 b1, .int .i64 c1, .int .i64 i1] 23)).drew := ((Bel.refl w).alloc _).drew
    have hz0 : (w.alloc (Obj.cells #[.int .i64 o1, .int .i64 a1, .int .i64 b1, .int .i64 c1, .int .i64 i1] 23)).drew.heap.size = w.heap.size + 1 := World.size_alloc _ _
    have ol := own_lit (w.alloc (Obj.cells #[.int .i64 o1, .int .i64 a1, .int .i64 b1, .int .i64 c1, .int .i64 i1] 23)).drew [⟨o1, a1, b1, c1, i1⟩] 1 rfl (by omega)
    rw [hz0] at ol
    have OL := hidm ol
    clear ol
    have hbd := hidm (hgt_bd X0)
    go_enter Try.func8, Try.ntmps8
    go_wp2_with fail
    go_region_law (first
      | (have t := tk2; go_simp; go_at_call 14; refine (heights_any (⟨o1, a1, b1, c1, i1⟩ :: X0) _ _ (by simp; omega) (code_of_own (X := ⟨o1, a1, b1, c1, i1⟩ :: X0) own3 ⟨g2, c2, rfl⟩)).mono ?_; rintro e w4 ⟨g3, c3, rfl, hg3, hr3, bb3⟩)
      | (have t := tk1; refine step_code _ (by rfl) _ _ (by rfl) w1.heap.size _ [⟨o1, a1, b1, c1, i1⟩] X0 (by rfl) (own_lit w1 [⟨o1, a1, b1, c1, i1⟩] 1 rfl (by omega)) ⟨_, _, rfl⟩ ao cap (by rfl) (code_at ((HW.out.stay bw1).stay ((Bel.refl w1).alloc _))) (X0.length + 1) (by simp; omega) (by simp; omega) (by simp) ?_; intro g2 c2 w3 own3 hgr; have tk2 : Hid True := True.intro)
      | (have t := tk0; refine step_code _ (by rfl) _ _ (by rfl) (w.heap.size + 1) _ [⟨o1, a1, b1, c1, i1⟩] X0 (by rfl) (own5_bel OL.out bb1) ⟨_, _, rfl⟩ ao cap (by rfl) (code_at (HW.out.stay bw1)) (X0.length + 1) (by simp; omega) (by simp; omega) (by have := bb1.size; rw [World.size_alloc] at this; omega) ?_; intro g2 c2 w3 own3 hgr; have tk2 : Hid True := True.intro)
      | (go_simp; go_at_call 14; refine (hk1 (w.alloc (Obj.cells #[.int .i64 o1, .int .i64 a1, .int .i64 b1, .int .i64 c1, .int .i64 i1] 23)).drew (HW.out.stay B0)).mono ?_; rintro e w1 ⟨g1, c1', rfl, hg1, hr1, bb1⟩; have bw1 := btrans B0 bb1; have hx1 := bel_heap bb1 hx0; obtain ⟨p0, p1, p2, p3, p4⟩ := box_cells hx1; have tk1 : Hid True := True.intro)
      | (go_simp; go_at_call 14; refine (hk1 _ (HW.out.stay (B0.alloc _))).mono ?_; rintro e w1 ⟨g1, c1', rfl, hg1, hr1, bb1⟩; have bw1 := btrans (B0.alloc _) bb1; have tk0 : Hid True := True.intro))
    all_goals
      have hB3 : Bel w w3 := by
        first
          | exact Bel.grown (bw1.alloc _) hgr (fun k e => by have e' : w1.heap.size = k := (by injection e); have := bw1.size; omega)
          | exact Bel.grown bw1 hgr (fun k e => by have e' : w.heap.size + 1 = k := (by injection e); omega)
      have hr2 : w3.heap[g1]? = some (intB (fun j => (hgt X0).getD j 0) X0.length) := by
        first
          | exact (hgr.block g1 (lt_of_heap (heap_old hr1)) (fun e => by have e' : g1 = w1.heap.size := (by injection e); have := lt_of_heap hr1; omega)).trans (heap_old hr1)
          | exact (hgr.block g1 (lt_of_heap hr1) (fun e => by have e' : g1 = w.heap.size + 1 := (by injection e); rw [World.size_alloc] at hg1; omega)).trans hr1
      have hr4 := bel_heap bb3 hr2
      have hB4 := btrans hB3 bb3
      have hr3' : w4.heap[g3]? = some (intB (fun j => (hgt (⟨o1, a1, b1, c1, i1⟩ :: X0)).getD j 0) (X0.length + 1)) := hr3
      have hmo : Hid (∀ k, (hgt (⟨o1, a1, b1, c1, i1⟩ :: X0)).getD (k + 1) 0 = (hgt X0).getD k 0) := fun k => rfl
      clear hr3 hr2 hB3 hgr own3 bb3 hg3 hg1 hr1 bb1 bw1 tk2 hx0 B0 hz0 OL HW hk1
      generalize hgt (⟨o1, a1, b1, c1, i1⟩ :: X0) = M at hr3' hmo
      go_wp2
      go_loopw [35] (fun i wr => ∃ k : Nat, k ≤ X0.length ∧ i = .int .i64 k ∧ Bel w4 wr) (fun i _ => X0.length - (intOf i).toNat)
      case atStart => exact ⟨0, Nat.zero_le _, rfl, Bel.refl _⟩
      case round =>
        obtain ⟨k, hk, rfl, hb⟩ := hrel
        rename World => wr
        by_cases hlt : k < X0.length
        · have c1 := int_cell (bel_heap hb hr4) k hlt
          have c2 := int_cell (bel_heap hb hr3') (k + 1) (by omega)
          rw [hmo.out k] at c2
          have hn := hbd.out k hlt
          generalize (hgt X0).getD k 0 = n at c1 c2 hn
          obtain ⟨hn0, hn1⟩ := hn
          have hne : (n != n) = false := by simp
          have hn2 : ¬ (2 * ((X0.length : Int) - 1 - (k : Int)) < n) := by omega
          have hki : (k : Int) + 1 < (X0.length : Int) + 1 := by omega
          clear hmo hbd
          go_wp2
          go_roundw
          case rel => exact ⟨k + 1, by omega, by go_num, hb⟩
          case measure => simp [intOf] <;> omega
        · obtain rfl : k = X0.length := by omega
          clear hmo hbd
          go_wp2_with (go_at_call 12; refine (awake_any _).mono ?_; rintro e w6 ⟨rfl, b6⟩)
          go_ret
          exact ⟨rfl, btrans hB4 (btrans hb b6)⟩
  · obtain ⟨ao, cap, rfl, hc⟩ := wy0
    clear hc
    go_enter Try.func8, Try.ntmps8
    go_wp2_with (go_at_call 12; refine (awake_any _).mono ?_; rintro e w4 ⟨rfl, b4⟩)
    go_ret
    exact ⟨rfl, btrans ((Bel.refl w).alloc _) b4⟩

set_option maxRecDepth 100000 in
theorem lifted (os : Os) (started : os.Started) (H : Type) (enc : TypeId × Value → H) :
    ReturnsInHanded {} Try.checked os 8 .any (Rows.dependHighSpec.pre6 enc Try.prog Try.f8 Rows.dependHighRow.domain false) (Rows.dependHighSpec.post enc Try.prog Try.f8 false true false false) := by
  refine returnsInHanded_of_change (C := Try.checked) own started (by kernel_rfl) Try.func8
    (ChangeSpec.witness6 (enc := enc) (C := Try.checked) false ⟨#[], #[.slice none 0 0, .agg #[.int .i64 0, .int .i64 0, .int .i64 0, .int .i64 0, .int .i64 0]], []⟩ 8 (by kernel_rfl) (by kernel_rfl) (by kernel_rfl) (by kernel_rfl)) ?_
  intro W base args ds gs before hval0 hW hcnd _
  have hval : ∀ (j : Nat) t v, Try.f8.params[j]? = some t → args[j]? = some v → Value.okWide Try.prog W .any base t v := hval0
  have hW' := hW
  obtain ⟨p, q, hA0, hV, rfl, hfz, hnd⟩ := hW
  have hA : DataW.TrodAll enc Try.prog W 0 (fun _ => true) true Try.f8.params.toList args.toList ds p := hA0
  rw [Try.params8] at hA hval
  obtain ⟨v0, vs0, d0, ds0, p0, q0, hargs, rfl, rfl, h0, r0⟩ := trodAll_cons hA
  obtain ⟨v1, vs1, d1, ds1, p1, q1, rfl, rfl, rfl, h1, r1⟩ := trodAll_cons r0
  obtain ⟨rfl, rfl, rfl⟩ := trodAll_nil r1
  obtain rfl : args = #[v0, v1] := by cases args; simp_all
  obtain ⟨rfl, rfl⟩ := trodVars_none hV
  have k0 := h0
  have lt0 : ∀ x ∈ p0, x.block < W.heap.size := by obtain ⟨m, hm⟩ := k0; exact DataW.trod_lt m _ _ _ hm
  obtain ⟨X0, wy0⟩ := open_code (hval 0 27 v0 rfl rfl) h0
  obtain ⟨o1, a1, b1, c1, i1, rfl, rfl, rfl, wo1, wa1, wb1, wc1, wi1⟩ := open_agg5i Try.underlying23 (by kernel_rfl) cells23 Try.underlying3 rfl rfl rfl rfl rfl (hval 1 23 v1 rfl rfl) h1
  clear hA0 hval0
  refine (walk W v0 X0 wy0 o1 a1 b1 c1 i1 wo1 wa1 wb1 wc1 wi1).mono fun e W' ⟨he, bel⟩ => ?_
  subst he
  exact ⟨_, rfl, _, _, _, [], _, [], hW', trodAll_mk1 (shut_bool Try.underlying4 _), (trodAll_cons_mk (Below.trod laidOut (by kernel_rfl) (of_decide_eq_true (by kernel_rfl)) k0 bel.out lt0) (trodAll_cons_mk (shut_agg5i Try.underlying23 (by kernel_rfl) cells23 Try.underlying3 rfl rfl rfl rfl rfl wo1 wa1 wb1 wc1 wi1) trodAll_mk0)), rfl, bel.out.frame _, fun h => by cases h⟩

theorem over : Rows.dependHighRow.holds Try.pinned (OpenSpec.ofChange Rows.dependHighSpec) :=
  OpenClaim.holds_of_wide 8 Try.f8 rfl rfl rfl rfl rfl rfl rfl ⟨rfl, rfl, rfl, rfl, rfl⟩ rfl rfl rfl rfl rfl (by kernel_rfl) Try.func8 (by kernel_rfl)
    (of_decide_eq_true (by kernel_rfl)) (by unfold Func.isWrapper; first | (rw [if_pos (by decide +kernel)]; kernel_rfl) | (rw [if_neg (by decide +kernel)]; exact ⟨rfl, rfl⟩))
    (fun os started H enc _ => lifted os started H enc)

theorem proved : Rows.DependHighSaid :=
  over
#print axioms proved
end Go.Proofs.Yteldmfidcnlfkaa.dependHigh
