/-
  The law 'HazardJoins' of delayslotlaw12 returns true at all pairs of code: safe code with safe code behind it is safe, if it does not end with one that goes, or is late; and so are the parts (asked of at most 100 instructions each).
  Conditions: none.
-/
import Derived.Test.YtfhepjjebadpdaaRows
import Derived.WalkKit
import Derived.ProofKit
import Derived.OpenShut
import Derived.ShutString
import Derived.ChangeOld
import Derived.Below
import Derived.Carry
import Derived.Test.YtfhepjjebadpdaaAwk12
import Derived.Test.YtfhepjjebadpdaaRgs
import Derived.Test.YtfhepjjebadpdaaApp9
namespace Go.Proofs.Ytfhepjjebadpdaa.hazardJoins
open Go.ChangeShapes Go.WideShapes Go.ChangeAt Go.RowKit
open Go.ChangeMaps (open_string shut_string)
set_option linter.unusedVariables false

theorem laidOut : laidOutB Try.prog = true := by kernel_rfl
theorem own : ownKnob Try.prog.godebug = none := by kernel_rfl
theorem last_ways (X : List Ins) (h : 0 < X.length) : ∃ E : Nat, X.length = E + 1 ∧ ((X.getD E Ins.zero).goes = true ∨ ((X.getD E Ins.zero).goes = false ∧ (X.getD E Ins.zero).late = true) ∨ ((X.getD E Ins.zero).goes = false ∧ (X.getD E Ins.zero).late = false ∧ ∀ b, safeB (X ++ b) = (safeB X && safeB b))) := by
  refine ⟨X.length - 1, by omega, ?_⟩
  cases hg : (X.getD (X.length - 1) Ins.zero).goes with
  | true => exact .inl rfl
  | false =>
    cases hl : (X.getD (X.length - 1) Ins.zero).late with
    | true => exact .inr (.inl ⟨rfl, rfl⟩)
    | false => exact .inr (.inr ⟨rfl, rfl, fun b => safe_joins fun _ => ⟨hg, hl⟩⟩)

set_option maxRecDepth 20000 in
set_option maxHeartbeats 2000000 in
theorem walk (w : World) (y0 : Value) (X0 : List Ins) (wy0 : Code w y0 X0) (y1 : Value) (X1 : List Ins) (wy1 : Code w y1 X1) :
    Calls Try.prog 4 #[y0, y1] w fun e w' => e = .returned (.bool true) ∧ Bel w w' := by
  have HV0 := hidm wy0
  have HV1 := hidm wy1
  obtain ⟨ao0, ca0, rfl, hc0⟩ := wy0
  obtain ⟨ao1, ca1, rfl, hc1⟩ := wy1
  have HC0 := hidm hc0
  clear hc0 hc1
  by_cases hl0 : X0.length ≤ 100
  · by_cases hl1 : X1.length ≤ 100
    · have S0 := fun ww (q : Bel w ww) => safe_any X0 _ ww (by omega) (HV0.out.stay q)
      have S1 := fun ww (q : Bel w ww) => safe_any X1 _ ww (by omega) (HV1.out.stay q)
      by_cases h0 : 0 < X0.length
      · obtain ⟨E, hE, hw⟩ := last_ways X0 h0
        obtain ⟨b, o, rfl, hb, hca⟩ := HC0.out h0
        have LC := hidm (fun ww (q : Bel w ww) => (hca.stay hb q) E (by omega))
        have hgo := fun ww => ret_goes (x := X0.getD E Ins.zero) ww
        have hla := fun ww => ret_late (x := X0.getD E Ins.zero) ww
        have hEI : (X0.length : Int) - 1 = (E : Int) := by omega
        have hEl : (E : Int) < X0.length := by omega
        have h00 : (0 : Int) < X0.length := by omega
        have hla0 : (X0.length : Int) ≤ 100 := by omega
        have hla1 : (X1.length : Int) ≤ 100 := by omega
        have HW := hidm hw
        have HE := hidm hE
        clear hw hE hca HC0
        generalize (X0.getD E Ins.zero).goes = g at hgo HW
        generalize (X0.getD E Ins.zero).late = l at hla HW
        generalize X0.getD E Ins.zero = x at LC hgo hla
        rcases HW.out with rfl | ⟨rfl, rfl⟩ | ⟨rfl, rfl, hj⟩
        case inr.inr =>
          have J := hidm (hj X1)
          clear hj HW
          generalize safeB X0 = s0 at S0 J
          generalize safeB X1 = s1 at S1 J
          cases s0 <;> cases s1
          all_goals
            go_enter Try.func4, Try.ntmps4
            go_wp2_with (first
              | (have q := t2; go_at_call 12; refine (S1 _ (btrans (btrans B3 (btrans g4 g6)) (btrans b1 b2))).mono ?_; rintro e w9 ⟨rfl, b3⟩)
              | (have q := t1; go_at_call 12; refine (S0 _ (btrans (btrans B3 (btrans g4 g6)) b1)).mono ?_; rintro e w8 ⟨rfl, b2⟩; have t2 : Hid True := True.intro; have b3 : Bel w8 w8 := Bel.refl _)
              | (go_at_call 12; refine (safe_any XX _ _ (by omega) ((Hid.out own3).stay (btrans g4 g6))).mono ?_; rw [J.out]; rintro e w7 ⟨rfl, b1⟩; have t1 : Hid True := True.intro)
              | (go_at_call 13; refine (hgo _).mono ?_; rintro e w4 ⟨rfl, g4⟩; obtain ⟨f0, f1, f2, f3, f4⟩ := LC.out w4 (btrans B3 g4); have g6 : Bel w4 w4 := Bel.refl _)
              | (go_at_call 14; refine (hla _).mono ?_; rintro e w6 ⟨rfl, g6⟩)
              | (have t := ta; at_builtin; refine append_code _ rfl (.tmp 17) (.tmp 18) rfl w.heap.size _ X0 X1 rfl (Hid.out own2) ⟨g2, c2, rfl⟩ ao1 ca1 rfl (code_at (HV1.out.stay B5)) (by omega) (by omega) ?_; intro v3 w3 q1 q2 hg3; obtain ⟨g3, c3, rfl⟩ := q2; generalize hXX : X0 ++ X1 = XX at q1 J ⊢; have lXX : XX.length ≤ 200 := (by rw [← hXX, List.length_append]; omega); clear hXX; have own3 := hidm (code_of_own q1 ⟨g3, c3, rfl⟩); have B3 : Bel w w3 := B5.grown hg3 (fun k hk => (by cases hk; exact hg5)); clear q1 hg3; obtain ⟨e0, e1, e2, e3, e4⟩ := LC.out w3 B3)
              | (at_builtin; refine append_code _ rfl (.tmp 15) (.tmp 16) rfl w.heap.size _ [] X0 rfl (own_none w 31 5) ⟨_, _, rfl⟩ (some ⟨b, o, none⟩) ca0 rfl (code_at (HV0.out.stay ((Bel.refl w).alloc _))) (by simp; omega) (by simp) ?_; intro v2 w5 q1 q2 hg2; obtain ⟨g2, c2, rfl⟩ := q2; rw [List.nil_append] at q1; have own2 := hidm q1; have hg5 : w.heap.size ≤ g2 := (q1.lt g2 rfl).1; have B5 : Bel w w5 := ((Bel.refl w).alloc _).grown hg2 (fun k hk => (by cases hk; exact Nat.le_refl _)); have hz5 := B5.size; clear q1 hg2; have ta : Hid True := True.intro)
              | (go_at_call 8; refine (awake_any _).mono ?_; rintro e w10 ⟨rfl, b7⟩))
            go_ret
            exact ⟨rfl, btrans (btrans B3 (btrans g4 g6)) (btrans (btrans b1 b2) (btrans b3 b7))⟩
        all_goals
          have J : Hid (safeB (X0 ++ X1) = safeB (X0 ++ X1)) := rfl
          clear HW S0 S1
          go_enter Try.func4, Try.ntmps4
          go_wp2_with (first
            | (go_at_call 13; refine (hgo _).mono ?_; rintro e w4 ⟨rfl, g4⟩; obtain ⟨f0, f1, f2, f3, f4⟩ := LC.out w4 (btrans B3 g4); have g6 : Bel w4 w4 := Bel.refl _)
            | (go_at_call 14; refine (hla _).mono ?_; rintro e w6 ⟨rfl, g6⟩)
            | (have t := ta; at_builtin; refine append_code _ rfl (.tmp 17) (.tmp 18) rfl w.heap.size _ X0 X1 rfl (Hid.out own2) ⟨g2, c2, rfl⟩ ao1 ca1 rfl (code_at (HV1.out.stay B5)) (by omega) (by omega) ?_; intro v3 w3 q1 q2 hg3; obtain ⟨g3, c3, rfl⟩ := q2; generalize hXX : X0 ++ X1 = XX at q1 J ⊢; have lXX : XX.length ≤ 200 := (by rw [← hXX, List.length_append]; omega); clear hXX; have own3 := hidm (code_of_own q1 ⟨g3, c3, rfl⟩); have B3 : Bel w w3 := B5.grown hg3 (fun k hk => (by cases hk; exact hg5)); clear q1 hg3; obtain ⟨e0, e1, e2, e3, e4⟩ := LC.out w3 B3)
            | (at_builtin; refine append_code _ rfl (.tmp 15) (.tmp 16) rfl w.heap.size _ [] X0 rfl (own_none w 31 5) ⟨_, _, rfl⟩ (some ⟨b, o, none⟩) ca0 rfl (code_at (HV0.out.stay ((Bel.refl w).alloc _))) (by simp; omega) (by simp) ?_; intro v2 w5 q1 q2 hg2; obtain ⟨g2, c2, rfl⟩ := q2; rw [List.nil_append] at q1; have own2 := hidm q1; have hg5 : w.heap.size ≤ g2 := (q1.lt g2 rfl).1; have B5 : Bel w w5 := ((Bel.refl w).alloc _).grown hg2 (fun k hk => (by cases hk; exact Nat.le_refl _)); have hz5 := B5.size; clear q1 hg2; have ta : Hid True := True.intro)
            | (go_at_call 8; refine (awake_any _).mono ?_; rintro e w10 ⟨rfl, b7⟩))
          go_ret
          exact ⟨rfl, btrans (btrans B3 (btrans g4 g6)) b7⟩
      · have h00 : ¬ (0 : Int) < X0.length := by omega
        have hla0 : (X0.length : Int) ≤ 100 := by omega
        have hla1 : (X1.length : Int) ≤ 100 := by omega
        have J := hidm (safe_joins (a := X0) (b := X1) (fun q => absurd q h0))
        have LC := hidm (fun (ww : World) (q : Bel w ww) => True.intro)
        clear HC0
        generalize safeB X0 = s0 at S0 J
        generalize safeB X1 = s1 at S1 J
        cases s0 <;> cases s1
        all_goals
          go_enter Try.func4, Try.ntmps4
          go_wp2_with (first
            | (have q := t2; go_at_call 12; refine (S1 _ (btrans B3 (btrans b1 b2))).mono ?_; rintro e w9 ⟨rfl, b3⟩)
            | (have q := t1; go_at_call 12; refine (S0 _ (btrans B3 b1)).mono ?_; rintro e w8 ⟨rfl, b2⟩; have t2 : Hid True := True.intro; have b3 : Bel w8 w8 := Bel.refl _)
            | (go_at_call 12; refine (safe_any XX _ _ (by omega) ((Hid.out own3).stay (Bel.refl _))).mono ?_; rw [J.out]; rintro e w7 ⟨rfl, b1⟩; have t1 : Hid True := True.intro)
            | (have t := ta; at_builtin; refine append_code _ rfl (.tmp 17) (.tmp 18) rfl w.heap.size _ X0 X1 rfl (Hid.out own2) ⟨g2, c2, rfl⟩ ao1 ca1 rfl (code_at (HV1.out.stay B5)) (by omega) (by omega) ?_; intro v3 w3 q1 q2 hg3; obtain ⟨g3, c3, rfl⟩ := q2; generalize hXX : X0 ++ X1 = XX at q1 J ⊢; have lXX : XX.length ≤ 200 := (by rw [← hXX, List.length_append]; omega); clear hXX; have own3 := hidm (code_of_own q1 ⟨g3, c3, rfl⟩); have B3 : Bel w w3 := B5.grown hg3 (fun k hk => (by cases hk; exact hg5)); clear q1 hg3)
            | (at_builtin; refine append_code _ rfl (.tmp 15) (.tmp 16) rfl w.heap.size _ [] X0 rfl (own_none w 31 5) ⟨_, _, rfl⟩ ao0 ca0 rfl (code_at (HV0.out.stay ((Bel.refl w).alloc _))) (by simp; omega) (by simp) ?_; intro v2 w5 q1 q2 hg2; obtain ⟨g2, c2, rfl⟩ := q2; rw [List.nil_append] at q1; have own2 := hidm q1; have hg5 : w.heap.size ≤ g2 := (q1.lt g2 rfl).1; have B5 : Bel w w5 := ((Bel.refl w).alloc _).grown hg2 (fun k hk => (by cases hk; exact Nat.le_refl _)); have hz5 := B5.size; clear q1 hg2; have ta : Hid True := True.intro)
            | (go_at_call 8; refine (awake_any _).mono ?_; rintro e w10 ⟨rfl, b7⟩))
          go_ret
          exact ⟨rfl, btrans B3 (btrans (btrans b1 b2) (btrans b3 b7))⟩
    · have hl1' : 100 < X1.length := by omega
      have hla0 : ¬ 100 < (X0.length : Int) := by omega
      clear hl1 HC0
      go_enter Try.func4, Try.ntmps4
      go_wp2_with (go_at_call 8; refine (awake_any _).mono ?_; rintro e w7 ⟨rfl, b7⟩)
      go_ret
      exact ⟨rfl, b7⟩
  · have hl0' : 100 < X0.length := by omega
    clear hl0 HC0
    go_enter Try.func4, Try.ntmps4
    go_wp2_with (go_at_call 8; refine (awake_any _).mono ?_; rintro e w7 ⟨rfl, b7⟩)
    go_ret
    exact ⟨rfl, b7⟩

set_option maxRecDepth 100000 in
theorem lifted (os : Os) (started : os.Started) (H : Type) (enc : TypeId × Value → H) :
    ReturnsInHanded {} Try.checked os 4 .any (Rows.hazardJoinsSpec.pre6 enc Try.prog Try.f4 Rows.hazardJoinsRow.domain false) (Rows.hazardJoinsSpec.post enc Try.prog Try.f4 false true false false) := by
  refine returnsInHanded_of_change (C := Try.checked) own started (by kernel_rfl) Try.func4
    (ChangeSpec.witness6 (enc := enc) (C := Try.checked) false ⟨#[], #[.slice none 0 0, .slice none 0 0], []⟩ 8 (by kernel_rfl) (by kernel_rfl) (by kernel_rfl) (by kernel_rfl)) ?_
  intro W base args ds gs before hval0 hW hcnd _
  have hval : ∀ (j : Nat) t v, Try.f4.params[j]? = some t → args[j]? = some v → Value.okWide Try.prog W .any base t v := hval0
  have hW' := hW
  obtain ⟨p, q, hA0, hV, rfl, hfz, hnd⟩ := hW
  have hA : DataW.TrodAll enc Try.prog W 0 (fun _ => true) true Try.f4.params.toList args.toList ds p := hA0
  rw [Try.params4] at hA hval
  obtain ⟨v0, vs0, d0, ds0, p0, q0, hargs, rfl, rfl, h0, r0⟩ := trodAll_cons hA
  obtain ⟨v1, vs1, d1, ds1, p1, q1, rfl, rfl, rfl, h1, r1⟩ := trodAll_cons r0
  obtain ⟨rfl, rfl, rfl⟩ := trodAll_nil r1
  obtain rfl : args = #[v0, v1] := by cases args; simp_all
  obtain ⟨rfl, rfl⟩ := trodVars_none hV
  have k0 := h0
  have lt0 : ∀ x ∈ p0, x.block < W.heap.size := by obtain ⟨m, hm⟩ := k0; exact DataW.trod_lt m _ _ _ hm
  obtain ⟨X0, wy0⟩ := open_code (hval 0 22 v0 rfl rfl) h0
  have k1 := h1
  have lt1 : ∀ x ∈ p1, x.block < W.heap.size := by obtain ⟨m, hm⟩ := k1; exact DataW.trod_lt m _ _ _ hm
  obtain ⟨X1, wy1⟩ := open_code (hval 1 22 v1 rfl rfl) h1
  clear hA0 hval0
  refine (walk W v0 X0 wy0 v1 X1 wy1).mono fun e W' ⟨he, bel⟩ => ?_
  subst he
  exact ⟨_, rfl, _, _, _, [], _, [], hW', trodAll_mk1 (shut_bool Try.underlying4 _), (trodAll_cons_mk (Below.trod laidOut (by kernel_rfl) (of_decide_eq_true (by kernel_rfl)) k0 bel.out lt0) (trodAll_cons_mk (Below.trod laidOut (by kernel_rfl) (of_decide_eq_true (by kernel_rfl)) k1 bel.out lt1) trodAll_mk0)), rfl, bel.out.frame _, fun h => by cases h⟩

theorem over : Rows.hazardJoinsRow.holds Try.pinned (OpenSpec.ofChange Rows.hazardJoinsSpec) :=
  OpenClaim.holds_of_wide 4 Try.f4 rfl rfl rfl rfl rfl rfl rfl ⟨rfl, rfl, rfl, rfl, rfl⟩ rfl rfl rfl rfl rfl (by kernel_rfl) Try.func4 (by kernel_rfl)
    (of_decide_eq_true (by kernel_rfl)) (by unfold Func.isWrapper; first | (rw [if_pos (by decide +kernel)]; kernel_rfl) | (rw [if_neg (by decide +kernel)]; exact ⟨rfl, rfl⟩))
    (fun os started H enc _ => lifted os started H enc)

theorem proved : Rows.HazardJoinsSaid :=
  over
#print axioms proved
end Go.Proofs.Ytfhepjjebadpdaa.hazardJoins
