/-
  The law 'SchedAlone' of delayslotlaw11 returns true at every instruction: one that goes is laid with a free slot, one that is late with a free place behind, another one alone.
  Conditions: none.
-/
import Derived.Test.YtpmofaajkhllpaaRows
import Derived.WalkKit
import Derived.ProofKit
import Derived.OpenShut
import Derived.ShutString
import Derived.ChangeOld
import Derived.Below
import Derived.Carry
import Derived.Test.YtpmofaajkhllpaaAln11
namespace Go.Proofs.Ytpmofaajkhllpaa.schedAlone
open Go.ChangeShapes Go.WideShapes Go.ChangeAt Go.RowKit
open Go.ChangeMaps (open_string shut_string)
set_option linter.unusedVariables false

theorem laidOut : laidOutB Try.prog = true := by kernel_rfl
theorem own : ownKnob Try.prog.godebug = none := by kernel_rfl
theorem cells30 : Try.prog.cellsOf 30 = 5 := by kernel_rfl

set_option maxRecDepth 20000 in
set_option maxHeartbeats 2000000 in
theorem walk (w : World) (o0 a0 b0 c0 i0 : Int) (wo0 : (Lit.int .i64 o0).wf = true) (wa0 : (Lit.int .i64 a0).wf = true) (wb0 : (Lit.int .i64 b0).wf = true) (wc0 : (Lit.int .i64 c0).wf = true) (wi0 : (Lit.int .i64 i0).wf = true) :
    Calls Try.prog 9 #[.agg #[.int .i64 o0, .int .i64 a0, .int .i64 b0, .int .i64 c0, .int .i64 i0]] w fun e w' => e = .returned (.bool true) ∧ Bel w w' := by
  have hG := fun ww => refGoes_any o0 a0 b0 c0 i0 ww
  have hT := fun ww => refLate_any o0 a0 b0 c0 i0 ww
  have hLay := fun L ww k hk hL => alone_lay o0 a0 b0 c0 i0 L ww k hk hL
  have hOrd := fun ww k hk => alone_ord o0 a0 b0 c0 i0 ww k hk
  generalize goesB o0 a0 b0 c0 i0 = gb at hG hLay
  generalize lateB o0 a0 b0 c0 i0 = lb at hT hLay
  have B0 := hidm ((Box5.new w o0 a0 b0 c0 i0 30).bel ((Bel.refl _).alloc (.cells #[.int .i64 0] 3)) (by simp))
  have BL0 := (((Bel.refl w).alloc (.cells #[.int .i64 o0, .int .i64 a0, .int .i64 b0, .int .i64 c0, .int .i64 i0] 30)).alloc (.cells #[.int .i64 0] 3))
  have W0 := hidm (want1N (w.alloc (.cells #[.int .i64 o0, .int .i64 a0, .int .i64 b0, .int .i64 c0, .int .i64 i0] 30)) (w.heap.size + 1) (by simp))
  have three : gb = true ∨ (gb = false ∧ lb = true) ∨ (gb = false ∧ lb = false) := by cases gb <;> cases lb <;> simp
  rcases three with rfl | ⟨rfl, rfl⟩ | ⟨rfl, rfl⟩
  · have hLay2 := fun ww k hk => hLay [0, -1] ww k hk (by simp)
    clear hLay hT
    go_enter Try.func9, Try.ntmps9
    go_wp2_with (first
      | (have q := g5; go_at_call 10; refine (awake_any _).mono ?_; rintro e w6 ⟨rfl, b6⟩)
      | (have q := g4; go_at_call 11; refine (same_yes [0] _ _ _ (i4.bel ((Bel.refl _).alloc _)) (want1 w4) (by decide)).mono ?_; rintro e w5 ⟨rfl, b5⟩; have g5 : Hid True := True.intro)
      | (have q := g3; go_at_call 12; refine (hOrd _ _ (heap_newN (by simp))).mono ?_; rintro e w4 ⟨ao4, c4, rfl, i4, b4⟩; have g4 : Hid True := True.intro)
      | (have q := g2; go_at_call 11; refine (same_yes [0, -1] _ _ _ i2 wa.out (by decide)).mono ?_; rintro e w3 ⟨rfl, b3⟩; obtain ⟨s0, s1, s2, s3, s4⟩ := X2.out.bel b3 hz2; have hz3 : w.heap.size < w3.heap.size := (by have := b3.size; omega); have g3 : Hid True := True.intro)
      | (have q := g1; go_at_call 15; refine (hLay2 _ _ (heap_newN (by simp))).mono ?_; rintro e w2 ⟨ao, c, rfl, i2, b2⟩; have X2 := hidm (X1.out.bel (btrans (((Bel.refl w1).alloc _).alloc _) b2) hz1); have hz2 : w.heap.size < w2.heap.size := (by have := b2.size; simp at this; omega); have wa := hidm (((want2 w1).bel ((Bel.refl _).alloc _)).bel b2); have g2 : Hid True := True.intro)
      | (go_at_call 18; refine (hG _).mono ?_; rintro e w1 ⟨rfl, b1⟩; have X1 := hidm (B0.out.bel b1 (by simp; omega)); obtain ⟨p0, p1, p2, p3, p4⟩ := X1.out; have hz1 : w.heap.size < w1.heap.size := (by have := b1.size; simp at this; omega); have g1 : Hid True := True.intro))
    go_ret
    exact ⟨rfl, btrans BL0 (btrans b1 (btrans (((Bel.refl w1).alloc _).alloc _) (btrans b2 (btrans b3 (btrans ((Bel.refl w3).alloc _) (btrans b4 (btrans ((Bel.refl w4).alloc _) (btrans b5 b6))))))))⟩
  · have hLay2 := fun ww k hk => hLay [0, -1] ww k hk (by simp)
    clear hLay
    go_enter Try.func9, Try.ntmps9
    go_wp2_with (first
      | (have q := g5; go_at_call 10; refine (awake_any _).mono ?_; rintro e w6 ⟨rfl, b6⟩)
      | (have q := g4; go_at_call 11; refine (same_yes [0] _ _ _ (i4.bel ((Bel.refl _).alloc _)) (want1 w4) (by decide)).mono ?_; rintro e w5 ⟨rfl, b5⟩; have g5 : Hid True := True.intro)
      | (have q := g3; go_at_call 12; refine (hOrd _ _ (heap_newN (by simp))).mono ?_; rintro e w4 ⟨ao4, c4, rfl, i4, b4⟩; have g4 : Hid True := True.intro)
      | (have q := g2; go_at_call 11; refine (same_yes [0, -1] _ _ _ i2 wa.out (by decide)).mono ?_; rintro e w3 ⟨rfl, b3⟩; obtain ⟨s0, s1, s2, s3, s4⟩ := X2.out.bel b3 hz2; have hz3 : w.heap.size < w3.heap.size := (by have := b3.size; omega); have g3 : Hid True := True.intro)
      | (have q := g1; go_at_call 15; refine (hLay2 _ _ (heap_newN (by simp))).mono ?_; rintro e w2 ⟨ao, c, rfl, i2, b2⟩; have X2 := hidm (X1.out.bel (btrans (((Bel.refl w1).alloc _).alloc _) b2) hz1); have hz2 : w.heap.size < w2.heap.size := (by have := b2.size; simp at this; omega); have wa := hidm (((want2 w1).bel ((Bel.refl _).alloc _)).bel b2); have g2 : Hid True := True.intro)
      | (have q := g0; go_at_call 19; refine (hT _).mono ?_; rintro e w1 ⟨rfl, b0'⟩; have b1 := btrans b0 b0'; have X1 := hidm (B0.out.bel b1 (by simp; omega)); obtain ⟨p0, p1, p2, p3, p4⟩ := X1.out; have hz1 : w.heap.size < w1.heap.size := (by have := b1.size; simp at this; omega); have g1 : Hid True := True.intro)
      | (go_at_call 18; refine (hG _).mono ?_; rintro e w0 ⟨rfl, b0⟩; have X0 := hidm (B0.out.bel b0 (by simp; omega)); obtain ⟨r0, r1, r2, r3, r4⟩ := X0.out; have g0 : Hid True := True.intro))
    go_ret
    exact ⟨rfl, btrans BL0 (btrans b1 (btrans (((Bel.refl w1).alloc _).alloc _) (btrans b2 (btrans b3 (btrans ((Bel.refl w3).alloc _) (btrans b4 (btrans ((Bel.refl w4).alloc _) (btrans b5 b6))))))))⟩
  · have hLay2 := fun ww k hk => hLay [0] ww k hk (by simp)
    clear hLay
    go_enter Try.func9, Try.ntmps9
    go_wp2_with (first
      | (have q := g5; go_at_call 10; refine (awake_any _).mono ?_; rintro e w6 ⟨rfl, b6⟩)
      | (have q := g4; go_at_call 11; refine (same_yes [0] _ _ _ (i4.bel ((Bel.refl _).alloc _)) (want1 w4) (by decide)).mono ?_; rintro e w5 ⟨rfl, b5⟩; have g5 : Hid True := True.intro)
      | (have q := g3; go_at_call 12; refine (hOrd _ _ (heap_newN (by simp))).mono ?_; rintro e w4 ⟨ao4, c4, rfl, i4, b4⟩; have g4 : Hid True := True.intro)
      | (have q := g2; go_at_call 11; refine (same_yes [0] _ _ _ i2 wa.out (by decide)).mono ?_; rintro e w3 ⟨rfl, b3⟩; obtain ⟨s0, s1, s2, s3, s4⟩ := X2.out.bel b3 hz2; have hz3 : w.heap.size < w3.heap.size := (by have := b3.size; omega); have g3 : Hid True := True.intro)
      | (have q := g1; go_at_call 15; refine (hLay2 _ _ (heap_newN (by simp))).mono ?_; rintro e w2 ⟨ao, c, rfl, i2, b2⟩; have X2 := hidm (X1.out.bel (btrans ((Bel.refl w1).alloc _) b2) hz1); have hz2 : w.heap.size < w2.heap.size := (by have := b2.size; simp at this; omega); have wa := hidm ((WW.out.bel ((Bel.refl _).alloc _)).bel b2); have g2 : Hid True := True.intro)
      | (have q := g0; go_at_call 19; refine (hT _).mono ?_; rintro e w1 ⟨rfl, b0'⟩; have b1 := btrans b0 b0'; have X1 := hidm (B0.out.bel b1 (by simp; omega)); obtain ⟨p0, p1, p2, p3, p4⟩ := X1.out; have hz1 : w.heap.size < w1.heap.size := (by have := b1.size; simp at this; omega); have WW := hidm (W0.out.bel b1); have g1 : Hid True := True.intro)
      | (go_at_call 18; refine (hG _).mono ?_; rintro e w0 ⟨rfl, b0⟩; have X0 := hidm (B0.out.bel b0 (by simp; omega)); obtain ⟨r0, r1, r2, r3, r4⟩ := X0.out; have g0 : Hid True := True.intro))
    go_ret
    exact ⟨rfl, btrans BL0 (btrans b1 (btrans ((Bel.refl w1).alloc _) (btrans b2 (btrans b3 (btrans ((Bel.refl w3).alloc _) (btrans b4 (btrans ((Bel.refl w4).alloc _) (btrans b5 b6))))))))⟩

set_option maxRecDepth 100000 in
theorem lifted (os : Os) (started : os.Started) (H : Type) (enc : TypeId × Value → H) :
    ReturnsInHanded {} Try.checked os 9 .any (Rows.schedAloneSpec.pre6 enc Try.prog Try.f9 Rows.schedAloneRow.domain false) (Rows.schedAloneSpec.post enc Try.prog Try.f9 false true false false) := by
  refine returnsInHanded_of_change (C := Try.checked) own started (by kernel_rfl) Try.func9
    (ChangeSpec.witness6 (enc := enc) (C := Try.checked) false ⟨#[], #[.agg #[.int .i64 0, .int .i64 0, .int .i64 0, .int .i64 0, .int .i64 0]], []⟩ 8 (by kernel_rfl) (by kernel_rfl) (by kernel_rfl) (by kernel_rfl)) ?_
  intro W base args ds gs before hval0 hW hcnd _
  have hval : ∀ (j : Nat) t v, Try.f9.params[j]? = some t → args[j]? = some v → Value.okWide Try.prog W .any base t v := hval0
  have hW' := hW
  obtain ⟨p, q, hA0, hV, rfl, hfz, hnd⟩ := hW
  have hA : DataW.TrodAll enc Try.prog W 0 (fun _ => true) true Try.f9.params.toList args.toList ds p := hA0
  rw [Try.params9] at hA hval
  obtain ⟨v0, vs0, d0, ds0, p0, q0, hargs, rfl, rfl, h0, r0⟩ := trodAll_cons hA
  obtain ⟨rfl, rfl, rfl⟩ := trodAll_nil r0
  obtain rfl : args = #[v0] := by cases args; simp_all
  obtain ⟨rfl, rfl⟩ := trodVars_none hV
  obtain ⟨o0, a0, b0, c0, i0, rfl, rfl, rfl, wo0, wa0, wb0, wc0, wi0⟩ := open_agg5i Try.underlying30 (by kernel_rfl) cells30 Try.underlying3 rfl rfl rfl rfl rfl (hval 0 30 v0 rfl rfl) h0
  clear hA0 hval0
  refine (walk W o0 a0 b0 c0 i0 wo0 wa0 wb0 wc0 wi0).mono fun e W' ⟨he, bel⟩ => ?_
  subst he
  exact ⟨_, rfl, _, _, _, [], _, [], hW', trodAll_mk1 (shut_bool Try.underlying4 _), (trodAll_cons_mk (shut_agg5i Try.underlying30 (by kernel_rfl) cells30 Try.underlying3 rfl rfl rfl rfl rfl wo0 wa0 wb0 wc0 wi0) trodAll_mk0), rfl, bel.out.frame _, fun h => by cases h⟩

theorem over : Rows.schedAloneRow.holds Try.pinned (OpenSpec.ofChange Rows.schedAloneSpec) :=
  OpenClaim.holds_of_wide 9 Try.f9 rfl rfl rfl rfl rfl rfl rfl ⟨rfl, rfl, rfl, rfl, rfl⟩ rfl rfl rfl rfl rfl (by kernel_rfl) Try.func9 (by kernel_rfl)
    (of_decide_eq_true (by kernel_rfl)) (by unfold Func.isWrapper; first | (rw [if_pos (by decide +kernel)]; kernel_rfl) | (rw [if_neg (by decide +kernel)]; exact ⟨rfl, rfl⟩))
    (fun os started H enc _ => lifted os started H enc)

theorem proved : Rows.SchedAloneSaid :=
  over
#print axioms proved
end Go.Proofs.Ytpmofaajkhllpaa.schedAlone
