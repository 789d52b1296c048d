/-
  The law 'PipeSpaced' of delayslotlaw08 returns true at all code, memory, input and fuel: code with a Nop behind each instruction, and all places told anew, does what layer 7's machine does with the code.
  Conditions: none.
-/
import Derived.Test.YthkhlkcdhalkfaaRows
import Derived.WalkKit
import Derived.ProofKit
import Derived.OpenShut
import Derived.ShutString
import Derived.ChangeOld
import Derived.Below
import Derived.Carry
import Derived.Test.YthkhlkcdhalkfaaPs
namespace Go.Proofs.Ythkhlkcdhalkfaa.pipeSpaced
open Go.ChangeShapes Go.WideShapes Go.ChangeAt Go.RowKit
open Go.ChangeMaps (open_string shut_string)
set_option linter.unusedVariables false

theorem laidOut : laidOutB Try.prog = true := by kernel_rfl
theorem own : ownKnob Try.prog.godebug = none := by kernel_rfl
theorem good_snoc {X : List Ins} {j : Nat} (h : ∀ k, k < j → Good (X.getD k Ins.zero)) (hg : Good (X.getD j Ins.zero)) : ∀ k, k < j + 1 → Good (X.getD k Ins.zero) := by
  intro k hk
  rcases Nat.lt_or_ge k j with q | q
  · exact h k q
  · obtain rfl : k = j := by omega
    exact hg

set_option maxRecDepth 20000 in
set_option maxHeartbeats 2000000 in
theorem walk (w : World) (y0 : Value) (X0 : List Ins) (wy0 : Code w y0 X0) (x1 : Int) (wx1 : (Lit.int .i64 x1).wf = true) (y2 : Value) (X2 : List Int) (wy2 : IntsC w y2 X2) (vy2 : ∀ x ∈ X2, (Lit.int .i64 x).wf = true) (x3 : Int) (wx3 : (Lit.int .i64 x3).wf = true) :
    Calls Try.prog 5 #[y0, .int .i64 x1, y2, .int .i64 x3] w fun e w' => e = .returned (.bool true) ∧ Bel w w' := by
  obtain ⟨ao, ca, rfl, hc0⟩ := id wy0
  obtain ⟨ai, ci, rfl, hc2⟩ := id wy2
  have HV := hidm wy0
  have HI := hidm wy2
  clear wy0 wy2 hc2
  by_cases hs : smallB X0.length x1 X2.length x3 = true
  · obtain ⟨s1, s2, s3, s4⟩ := small_of hs
    by_cases hcond : X0.length ≤ 100 ∧ 0 ≤ x3 ∧ x3 ≤ 300
    · obtain ⟨g1, g2, g3⟩ := hcond
      have g1' : ¬ ((100 : Int) < X0.length) := by omega
      have g2' : ¬ (x3 < 0) := by omega
      have g3' : ¬ (300 < x3) := by omega
      go_enter Try.func5, Try.ntmps5
      go_wp2_with (first
        | (go_at_call 11; refine (small_any _ _ _ _ _ _ _ _ _).mono ?_; rintro e w' ⟨rfl, rfl⟩; rw [hs]))
      go_loopw [35] (fun i wr => ∃ j : Nat, j ≤ X0.length ∧ i = .int .i64 j ∧ (∀ k, k < j → Good (X0.getD k Ins.zero)) ∧ Bel w' wr) (fun i _ => X0.length - (intOf i).toNat)
      case atStart => exact ⟨0, Nat.zero_le _, rfl, fun k hk => absurd hk (Nat.not_lt_zero k), Bel.refl _⟩
      case round =>
        obtain ⟨j, hj, rfl, hall, hB⟩ := hrel
        rename World => wr
        by_cases hlt : j < X0.length
        · obtain ⟨bc, oc, rfl, hbc, hca⟩ := hc0 (by omega)
          obtain ⟨a0, a1, a2, a3, a4⟩ := (hca.stay hbc hB) j hlt
          have HN0 := hidm (good_snoc hall)
          have hlt' : (j : Int) < X0.length := by omega
          have hbs := hB.size
          have hlb : bc < wr.heap.size := by omega
          generalize X0.getD j Ins.zero = x at *
          clear hca hall hc0
          obtain ⟨o, xa, xb, xc, i⟩ := x
          dsimp only at *
          by_cases e18 : o = 18
          · subst e18
            clear HN0
            go_wp2_with (first
              | (go_at_call 12; refine (awake_any _).mono ?_; rintro e w4 ⟨rfl, b4⟩))
            go_ret
            exact ⟨rfl, btrans (hB.alloc _) b4⟩
          by_cases e19 : o = 19
          · subst e19
            clear HN0
            go_wp2_with (first
              | (go_at_call 12; refine (awake_any _).mono ?_; rintro e w4 ⟨rfl, b4⟩))
            go_ret
            exact ⟨rfl, btrans (hB.alloc _) b4⟩
          by_cases e15 : o = 15
          · subst e15
            rcases Int.lt_or_le i (-1000) with c1 | c1
            · clear HN0
              go_wp2_with (first
                | (go_at_call 12; refine (awake_any _).mono ?_; rintro e w4 ⟨rfl, b4⟩))
              go_ret
              exact ⟨rfl, btrans (hB.alloc _) b4⟩
            · have c1' : ¬ (i < -1000) := by omega
              rcases Int.lt_or_le 1000 i with c2 | c2
              · clear HN0
                go_wp2_with (first
                  | (go_at_call 12; refine (awake_any _).mono ?_; rintro e w4 ⟨rfl, b4⟩))
                go_ret
                exact ⟨rfl, btrans (hB.alloc _) b4⟩
              · have c2' : ¬ (1000 < i) := by omega
                have HN := hidm (Hid.out HN0 ⟨show ¬ (15 : Int) = 18 by decide, show ¬ (15 : Int) = 19 by decide, fun _ => ⟨c1, c2⟩⟩)
                clear HN0
                go_wp2
                go_roundw
                case rel => exact ⟨j + 1, by omega, by simp, Hid.out HN, hB.alloc _⟩
                case measure => simp [intOf]; omega
          by_cases e16 : o = 16
          · subst e16
            rcases Int.lt_or_le i (-1000) with c1 | c1
            · clear HN0
              go_wp2_with (first
                | (go_at_call 12; refine (awake_any _).mono ?_; rintro e w4 ⟨rfl, b4⟩))
              go_ret
              exact ⟨rfl, btrans (hB.alloc _) b4⟩
            · have c1' : ¬ (i < -1000) := by omega
              rcases Int.lt_or_le 1000 i with c2 | c2
              · clear HN0
                go_wp2_with (first
                  | (go_at_call 12; refine (awake_any _).mono ?_; rintro e w4 ⟨rfl, b4⟩))
                go_ret
                exact ⟨rfl, btrans (hB.alloc _) b4⟩
              · have c2' : ¬ (1000 < i) := by omega
                have HN := hidm (Hid.out HN0 ⟨show ¬ (16 : Int) = 18 by decide, show ¬ (16 : Int) = 19 by decide, fun _ => ⟨c1, c2⟩⟩)
                clear HN0
                go_wp2
                go_roundw
                case rel => exact ⟨j + 1, by omega, by simp, Hid.out HN, hB.alloc _⟩
                case measure => simp [intOf]; omega
          by_cases e17 : o = 17
          · subst e17
            rcases Int.lt_or_le i (-1000) with c1 | c1
            · clear HN0
              go_wp2_with (first
                | (go_at_call 12; refine (awake_any _).mono ?_; rintro e w4 ⟨rfl, b4⟩))
              go_ret
              exact ⟨rfl, btrans (hB.alloc _) b4⟩
            · have c1' : ¬ (i < -1000) := by omega
              rcases Int.lt_or_le 1000 i with c2 | c2
              · clear HN0
                go_wp2_with (first
                  | (go_at_call 12; refine (awake_any _).mono ?_; rintro e w4 ⟨rfl, b4⟩))
                go_ret
                exact ⟨rfl, btrans (hB.alloc _) b4⟩
              · have c2' : ¬ (1000 < i) := by omega
                have HN := hidm (Hid.out HN0 ⟨show ¬ (17 : Int) = 18 by decide, show ¬ (17 : Int) = 19 by decide, fun _ => ⟨c1, c2⟩⟩)
                clear HN0
                go_wp2
                go_roundw
                case rel => exact ⟨j + 1, by omega, by simp, Hid.out HN, hB.alloc _⟩
                case measure => simp [intOf]; omega
          have HN := hidm (Hid.out HN0 ⟨e18, e19, fun q => by rcases q with q | q | q <;> contradiction⟩)
          have f15 : (o == 15) = false := by simpa using e15
          have f16 : (o == 16) = false := by simpa using e16
          have f17 : (o == 17) = false := by simpa using e17
          have f18 : (o == 18) = false := by simpa using e18
          have f19 : (o == 19) = false := by simpa using e19
          clear e15 e16 e17 e18 e19 HN0
          go_wp2
          go_roundw
          case rel => exact ⟨j + 1, by omega, by simp, Hid.out HN, hB.alloc _⟩
          case measure => simp [intOf]; omega
        · obtain rfl : j = X0.length := by omega
          clear hc0
          have HG := hidm hall
          clear hall
          go_wp2_with (first
            | (go_at_call 16; refine (run_said X0 _ _ x1 x3 X2 _ (Code.stay (Hid.out HV) hB) (IntsC.bel (Hid.out HI) hB) (by omega) (by omega)).mono ?_; rintro e w1 ⟨t, k, O, M, ao1, ca1, am1, cm1, hS, rfl, o1, m1, b1, lo1, lm1, lk1⟩; refine Hid.out ?_))
          by_cases ht : t = 0
          · subst ht
            clear hS o1 m1
            refine hidm ?_
            go_wp2_with (first
              | (go_at_call 12; refine (awake_any _).mono ?_; rintro e w4 ⟨rfl, b4⟩))
            go_ret
            exact ⟨rfl, btrans ((btrans hB b1).alloc _) b4⟩
          · have ht' : (t == 0) = false := by simpa using ht
            have HT := hidm ht
            clear ht
            have hm : 2 * x3 + 10 ≤ 1000000 := by omega
            have XA := hidm (heap_new w1 (resB t k (.slice ao1 O.length ca1) (.slice am1 M.length cm1)))
            have BA : Hid (Bel w' (w1.alloc (resB t k (.slice ao1 O.length ca1) (.slice am1 M.length cm1)))) := hidm ((btrans hB b1).alloc _)
            refine hidm ?_
            go_wp2_with (first
              | (go_at_call 17; refine (spaced_any X0 _ _ (Code.stay (Hid.out HV) (Hid.out BA)) (by omega) (Hid.out HG)).mono ?_; rintro e w2 ⟨v2, rfl, hcode, b2⟩)
              | (go_at_call 14; refine (prun_said (spX X0) _ _ x1 (2 * x3 + 10) X2 _ hcode (IntsC.bel (Hid.out HI) (btrans (Hid.out BA) b2)) (by rw [spX_len]; omega) hm).mono ?_; rintro e w3 ⟨t', s', O', M', ao2, ca2, am2, cm2, hS', rfl, o2, m2, b3, lo2, lm2, lk2, lk2', fr1, fr2⟩; refine Hid.out ?_))
            obtain ⟨rfl, rfl, rfl⟩ := said_spaced (Hid.out HG) g2 hS (Hid.out HT) hS'
            have BX := btrans b2 b3
            have xa := (BX.out.block _ (lt_of_heap (Hid.out XA))).trans (Hid.out XA)
            obtain ⟨y0, y1, y2, y3⟩ := resB_cells xa
            have yf := resB_fz xa 1
            have la := lt_of_heap xa
            have hz2 : w1.heap.size < w2.heap.size := by have := b2.size; simp at this; omega
            have O1 := hidm (ints_set_low o1 ((o1.bel ((Bel.refl w1).alloc _)).bel BX) w1.heap.size 1 (.int .i64 s') (Nat.le_refl _))
            have M1 := hidm (ints_set_low m1 ((m1.bel ((Bel.refl w1).alloc _)).bel BX) w1.heap.size 1 (.int .i64 s') (Nat.le_refl _))
            have O2 := hidm (ints_set o2 w1.heap.size 1 (.int .i64 s') (fun e => by have := fr1 _ e; omega))
            have M2 := hidm (ints_set m2 w1.heap.size 1 (.int .i64 s') (fun e => by have := fr2 _ e; omega))
            have hwa : w'.heap.size ≤ w1.heap.size := (btrans hB b1).size
            have B3 := hidm ((btrans (Hid.out BA) BX).setCell (p := ⟨w1.heap.size, 1, none⟩) hwa (.int .i64 s'))
            clear xa XA BA hS hS' o1 m1 o2 m2 b2 b3 BX hcode HV HI HG HT fr1 fr2
            refine hidm ?_
            go_wp2_with (first
              | (go_at_call 13; refine (equal_true _ _ _ _ _ _ _ _ _ ((Hid.out O1).bel ((Bel.refl _).alloc _)) ((Hid.out O2).bel ((Bel.refl _).alloc _)) ((Hid.out M1).bel ((Bel.refl _).alloc _)) ((Hid.out M2).bel ((Bel.refl _).alloc _)) (by omega) (by omega)).mono ?_; rintro e w6 ⟨rfl, b6⟩)
              | (go_at_call 12; refine (awake_any _).mono ?_; rintro e w7 ⟨rfl, b7⟩))
            go_ret
            exact ⟨rfl, btrans (btrans ((Hid.out B3).alloc _) b6) b7⟩
    · have hcase : 100 < X0.length ∨ (X0.length ≤ 100 ∧ x3 < 0) ∨ (X0.length ≤ 100 ∧ 0 ≤ x3 ∧ 300 < x3) := by omega
      rcases hcase with q | ⟨q1, q2⟩ | ⟨q1, q2, q3⟩
      · have q' : (100 : Int) < X0.length := by omega
        go_enter Try.func5, Try.ntmps5
        go_wp2_with (first
          | (go_at_call 11; refine (small_any _ _ _ _ _ _ _ _ _).mono ?_; rintro e w' ⟨rfl, rfl⟩; rw [hs])
          | (go_at_call 12; refine (awake_any _).mono ?_; rintro e w4 ⟨rfl, b4⟩))
        go_ret
        exact ⟨rfl, b4⟩
      · have q' : ¬ ((100 : Int) < X0.length) := by omega
        go_enter Try.func5, Try.ntmps5
        go_wp2_with (first
          | (go_at_call 11; refine (small_any _ _ _ _ _ _ _ _ _).mono ?_; rintro e w' ⟨rfl, rfl⟩; rw [hs])
          | (go_at_call 12; refine (awake_any _).mono ?_; rintro e w4 ⟨rfl, b4⟩))
        go_ret
        exact ⟨rfl, b4⟩
      · have q' : ¬ ((100 : Int) < X0.length) := by omega
        have q2' : ¬ (x3 < 0) := by omega
        go_enter Try.func5, Try.ntmps5
        go_wp2_with (first
          | (go_at_call 11; refine (small_any _ _ _ _ _ _ _ _ _).mono ?_; rintro e w' ⟨rfl, rfl⟩; rw [hs])
          | (go_at_call 12; refine (awake_any _).mono ?_; rintro e w4 ⟨rfl, b4⟩))
        go_ret
        exact ⟨rfl, b4⟩
  · have hs' : smallB X0.length x1 X2.length x3 = false := by simpa using hs
    go_enter Try.func5, Try.ntmps5
    go_wp2_with (first
      | (go_at_call 11; refine (small_any _ _ _ _ _ _ _ _ _).mono ?_; rintro e w' ⟨rfl, rfl⟩; rw [hs'])
      | (go_at_call 12; refine (awake_any _).mono ?_; rintro e w4 ⟨rfl, b4⟩))
    go_ret
    exact ⟨rfl, b4⟩

set_option maxRecDepth 100000 in
theorem lifted (os : Os) (started : os.Started) (H : Type) (enc : TypeId × Value → H) :
    ReturnsInHanded {} Try.checked os 5 .any (Rows.pipeSpacedSpec.pre6 enc Try.prog Try.f5 Rows.pipeSpacedRow.domain false) (Rows.pipeSpacedSpec.post enc Try.prog Try.f5 false true false false) := by
  refine returnsInHanded_of_change (C := Try.checked) own started (by kernel_rfl) Try.func5
    (ChangeSpec.witness6 (enc := enc) (C := Try.checked) false ⟨#[], #[.slice none 0 0, .int .i64 0, .slice none 0 0, .int .i64 0], []⟩ 8 (by kernel_rfl) (by kernel_rfl) (by kernel_rfl) (by kernel_rfl)) ?_
  intro W base args ds gs before hval0 hW hcnd _
  have hval : ∀ (j : Nat) t v, Try.f5.params[j]? = some t → args[j]? = some v → Value.okWide Try.prog W .any base t v := hval0
  have hW' := hW
  obtain ⟨p, q, hA0, hV, rfl, hfz, hnd⟩ := hW
  have hA : DataW.TrodAll enc Try.prog W 0 (fun _ => true) true Try.f5.params.toList args.toList ds p := hA0
  rw [Try.params5] at hA hval
  obtain ⟨v0, vs0, d0, ds0, p0, q0, hargs, rfl, rfl, h0, r0⟩ := trodAll_cons hA
  obtain ⟨v1, vs1, d1, ds1, p1, q1, rfl, rfl, rfl, h1, r1⟩ := trodAll_cons r0
  obtain ⟨v2, vs2, d2, ds2, p2, q2, rfl, rfl, rfl, h2, r2⟩ := trodAll_cons r1
  obtain ⟨v3, vs3, d3, ds3, p3, q3, rfl, rfl, rfl, h3, r3⟩ := trodAll_cons r2
  obtain ⟨rfl, rfl, rfl⟩ := trodAll_nil r3
  obtain rfl : args = #[v0, v1, v2, v3] := by cases args; simp_all
  obtain ⟨rfl, rfl⟩ := trodVars_none hV
  have k0 := h0
  have lt0 : ∀ x ∈ p0, x.block < W.heap.size := by obtain ⟨m, hm⟩ := k0; exact DataW.trod_lt m _ _ _ hm
  obtain ⟨X0, wy0⟩ := open_code (hval 0 22 v0 rfl rfl) h0
  obtain ⟨x1, rfl, rfl, rfl, wx1⟩ := open_int Try.underlying3 (hval 1 3 v1 rfl rfl) h1
  have k2 := h2
  have lt2 : ∀ x ∈ p2, x.block < W.heap.size := by obtain ⟨m, hm⟩ := k2; exact DataW.trod_lt m _ _ _ hm
  obtain ⟨X2, wy2, vy2⟩ := open_intsC Try.underlying23 Try.underlying3 (by kernel_rfl) (hval 2 23 v2 rfl rfl) h2
  obtain ⟨x3, rfl, rfl, rfl, wx3⟩ := open_int Try.underlying3 (hval 3 3 v3 rfl rfl) h3
  clear hA0 hval0
  refine (walk W v0 X0 wy0 x1 wx1 v2 X2 wy2 vy2 x3 wx3).mono fun e W' ⟨he, bel⟩ => ?_
  subst he
  exact ⟨_, rfl, _, _, _, [], _, [], hW', trodAll_mk1 (shut_bool Try.underlying4 _), (trodAll_cons_mk (Below.trod laidOut (by kernel_rfl) (of_decide_eq_true (by kernel_rfl)) k0 bel.out lt0) (trodAll_cons_mk (shut_int Try.underlying3 wx1) (trodAll_cons_mk (Below.trod laidOut (by kernel_rfl) (of_decide_eq_true (by kernel_rfl)) k2 bel.out lt2) (trodAll_cons_mk (shut_int Try.underlying3 wx3) trodAll_mk0)))), rfl, bel.out.frame _, fun h => by cases h⟩

theorem over : Rows.pipeSpacedRow.holds Try.pinned (OpenSpec.ofChange Rows.pipeSpacedSpec) :=
  OpenClaim.holds_of_wide 5 Try.f5 rfl rfl rfl rfl rfl rfl rfl ⟨rfl, rfl, rfl, rfl, rfl⟩ rfl rfl rfl rfl rfl (by kernel_rfl) Try.func5 (by kernel_rfl)
    (of_decide_eq_true (by kernel_rfl)) (by unfold Func.isWrapper; first | (rw [if_pos (by decide +kernel)]; kernel_rfl) | (rw [if_neg (by decide +kernel)]; exact ⟨rfl, rfl⟩))
    (fun os started H enc _ => lifted os started H enc)

theorem proved : Rows.PipeSpacedSaid :=
  over
#print axioms proved
end Go.Proofs.Ythkhlkcdhalkfaa.pipeSpaced
