/-
  The law 'PipeStraight' of delayslotlaw08 returns true at all code and registers: code that only reckons does what layer 7's machine does with it, three cycles more.
  Conditions: none.
-/
import Derived.Test.YthkhlkcdhalkfaaRows
import Derived.WalkKit
import Derived.ProofKit
import Derived.OpenShut
import Derived.ShutString
import Derived.ChangeOld
import Derived.Below
import Derived.Carry
import Derived.Test.YthkhlkcdhalkfaaPu
import Derived.Test.YthkhlkcdhalkfaaApp7
namespace Go.Proofs.Ythkhlkcdhalkfaa.pipeStraight
open Go.ChangeShapes Go.WideShapes Go.ChangeAt Go.RowKit
open Go.ChangeMaps (open_string shut_string)
set_option linter.unusedVariables false

theorem laidOut : laidOutB Try.prog = true := by kernel_rfl
theorem own : ownKnob Try.prog.godebug = none := by kernel_rfl
theorem code_at {w : World} {ao : Option Addr} {cap : Nat} {X : List Ins} (h : Code w (.slice ao X.length cap) X) : 0 < X.length → ∃ b o, ao = some ⟨b, o, none⟩ ∧ b < w.heap.size ∧ CodeAt w b o X := by
  obtain ⟨ao', cap', e, h⟩ := h
  cases e
  exact h
theorem plain_all {X : List Ins} {r : Int} (h : ∀ k, k < X.length → (X.getD k Ins.zero).o ≤ 11) : ∀ k, k < (X ++ [(⟨13, r, 0, 0, 3⟩ : Ins), ⟨20, 0, 0, 0, 0⟩]).length → Plain ((X ++ [(⟨13, r, 0, 0, 3⟩ : Ins), ⟨20, 0, 0, 0, 0⟩]).getD k Ins.zero) := by
  intro k hk
  rw [List.length_append] at hk
  simp only [List.length_cons, List.length_nil] at hk
  rw [List.getD_eq_getElem?_getD]
  rcases Nat.lt_or_ge k X.length with q | q
  · rw [List.getElem?_append_left q]
    have := h k q
    rw [List.getD_eq_getElem?_getD] at this
    exact .inl this
  · rw [List.getElem?_append_right q]
    rcases Nat.lt_or_ge k (X.length + 1) with q' | q'
    · rw [show k - X.length = 0 by omega]
      exact .inr (.inl rfl)
    · rw [show k - X.length = 1 by omega]
      exact .inr (.inr ⟨rfl, rfl⟩)
theorem last_all {X : List Ins} {r : Int} : (X ++ [(⟨13, r, 0, 0, 3⟩ : Ins), ⟨20, 0, 0, 0, 0⟩]).getD (X.length + 1) Ins.zero = ⟨20, 0, 0, 0, 0⟩ := by
  rw [List.getD_eq_getElem?_getD, List.getElem?_append_right (by omega), show X.length + 1 - X.length = 1 by omega]
  rfl
theorem low_snoc {X : List Ins} {j : Nat} (h : ∀ k, k < j → (X.getD k Ins.zero).o ≤ 11) (hg : (X.getD j Ins.zero).o ≤ 11) : ∀ k, k < j + 1 → (X.getD k Ins.zero).o ≤ 11 := by
  intro k hk
  rcases Nat.lt_or_ge k j with q | q
  · exact h k q
  · obtain rfl : k = j := by omega
    exact hg

set_option maxRecDepth 20000 in
set_option maxHeartbeats 2000000 in
theorem walk (w : World) (y0 : Value) (X0 : List Ins) (wy0 : Code w y0 X0) (x1 : Int) (wx1 : (Lit.int .u8 x1).wf = true) :
    Calls Try.prog 6 #[y0, .int .u8 x1] w fun e w' => e = .returned (.bool true) ∧ Bel w w' := by
  have hv1 := wf_u8 wx1
  obtain ⟨ao, ca, rfl, hc0⟩ := id wy0
  have HV := hidm wy0
  clear wy0
  go_enter Try.func6, Try.ntmps6
  go_wp2_with fail
  go_loopw [12] (fun i wr => ∃ j : Nat, j ≤ X0.length ∧ i = .int .i64 j ∧ (∀ k, k < j → (X0.getD k Ins.zero).o ≤ 11) ∧ (0 < j → X0.length ≤ 100) ∧ Bel w wr) (fun i _ => X0.length - (intOf i).toNat)
  case atStart => exact ⟨0, Nat.zero_le _, rfl, fun k hk => absurd hk (Nat.not_lt_zero k), fun h => absurd h (Nat.lt_irrefl 0), Bel.refl _⟩
  case round =>
    obtain ⟨j, hj, rfl, hall, hlen, hB⟩ := hrel
    rename World => wr
    by_cases hlt : j < X0.length
    · obtain ⟨bc, oc, rfl, hbc, hca⟩ := hc0 (by omega)
      obtain ⟨a0, a1, a2, a3, a4⟩ := (hca.stay hbc hB) j hlt
      have HN0 := hidm (low_snoc hall)
      have hlt' : (j : Int) < X0.length := by omega
      have hbs := hB.size
      have hlb : bc < wr.heap.size := by omega
      generalize X0.getD j Ins.zero = x at *
      clear hca hall hc0
      obtain ⟨o, xa, xb, xc, i⟩ := x
      dsimp only at *
      rcases Int.lt_or_le 11 o with c1 | c1
      · go_wp2_with (first
          | (go_at_call 12; refine (awake_any _).mono ?_; rintro e w4 ⟨rfl, b4⟩))
        go_ret
        exact ⟨rfl, btrans (hB.alloc _) b4⟩
      · have c1' : ¬ (11 < o) := by omega
        by_cases c2 : X0.length ≤ 100
        · have c2' : ¬ ((100 : Int) < X0.length) := by omega
          have HN := hidm (Hid.out HN0 c1)
          clear HN0
          go_wp2
          go_roundw
          case rel => exact ⟨j + 1, by omega, by simp, Hid.out HN, fun _ => c2, hB.alloc _⟩
          case measure => simp [intOf]; omega
        · have c2' : (100 : Int) < X0.length := by omega
          clear HN0
          go_wp2_with (first
            | (go_at_call 12; refine (awake_any _).mono ?_; rintro e w4 ⟨rfl, b4⟩))
          go_ret
          exact ⟨rfl, btrans (hB.alloc _) b4⟩
    · obtain rfl : j = X0.length := by omega
      have hl : X0.length ≤ 100 := by
        rcases Nat.eq_zero_or_pos X0.length with q | q
        · omega
        · exact hlen q
      clear hc0 hlen
      have HG := hidm hall
      clear hall
      have hr1 : 0 ≤ x1 % 32 := by omega
      have hr2 : x1 % 32 < 32 := by omega
      go_wp2_with (first
        | (go_at_call 16; refine (run_said XX _ _ 9 1000 [] _ (Hid.out HCode) (intsC_nil _) (by omega) (by omega)).mono ?_; rintro e w1 ⟨t, k, O, M, ao1, ca1, am1, cm1, hS, rfl, o1, m1, b1, lo1, lm1, lk1⟩)
        | (go_at_call 14; refine (prun_said XX _ _ 9 1000 [] _ ((Hid.out HCode).stay b1) (intsC_nil _) (by omega) (by omega)).mono ?_; rintro e w2 ⟨t', s', O', M', ao2, ca2, am2, cm2, hS', rfl, o2, m2, b2, lo2, lm2, lk2, lk2', fr1, fr2⟩; refine Hid.out ?_)
        | (at_builtin; refine append_code _ rfl (.tmp 28) (.tmp 34) rfl wr.heap.size _ X0 [⟨13, x1 % 32, 0, 0, 3⟩, ⟨20, 0, 0, 0, 0⟩] rfl ((Hid.out own2).alloc _) ⟨g2, c2, rfl⟩ (some ⟨w5.heap.size, 0, none⟩) 2 rfl (code_at (code_lit (X := [⟨13, x1 % 32, 0, 0, 3⟩, ⟨20, 0, 0, 0, 0⟩]) (heap_new w5 _) 2 2 rfl)) (by simp; omega) (by simp; omega) ?_; intro v3 w3 q1 q2 hg3; have HCode := code_of_own q1 q2; obtain ⟨g3, c3, rfl⟩ := q2; generalize hXX : X0 ++ [⟨13, x1 % 32, 0, 0, 3⟩, ⟨20, 0, 0, 0, 0⟩] = XX at q1 HCode ⊢; have lXX : XX.length ≤ 400 := (by rw [← hXX, List.length_append]; simp; omega); have HXX := hidm hXX; clear hXX; have HCode := hidm HCode; have B3 : Bel w w3 := (B5.alloc _).grown hg3 (fun k hk => (by cases hk; exact hg5)); clear q1 hg3)
        | (at_builtin; refine append_code _ rfl (.tmp 26) (.tmp 27) rfl wr.heap.size _ [] X0 rfl (own_none wr 34 5) ⟨_, _, rfl⟩ ao ca rfl (code_at ((Hid.out HV).stay (hB.alloc _))) (by simp; omega) (by simp) ?_; intro v2 w5 q1 q2 hg2; obtain ⟨g2, c2, rfl⟩ := q2; rw [List.nil_append] at q1; have own2 := hidm q1; have hg6 : wr.heap.size ≤ g2 := (q1.lt g2 rfl).1; have hg5 : w.heap.size ≤ g2 := Nat.le_trans hB.size hg6; have B15 : Bel wr w5 := ((Bel.refl wr).alloc _).grown hg2 (fun k hk => (by cases hk; exact Nat.le_refl _)); have B5 : Bel w w5 := btrans hB B15; have hz5 := B15.size; clear q1 hg2))
      have hXX := Hid.out HXX
      have hlx : XX.length = (X0.length + 1) + 1 := by rw [← hXX, List.length_append]; rfl
      obtain ⟨e1, e2, e3, e4⟩ := said_straight (n := X0.length + 1) (by rw [← hXX]; exact plain_all (Hid.out HG)) hlx (by omega) (by rw [← hXX]; exact last_all) hS hS'
      subst e1 e2 e3 e4
      have B2 := btrans (btrans B3 b1) b2
      have O1 := hidm (o1.bel b2)
      have M1 := hidm (m1.bel b2)
      have O2 := hidm o2
      have M2 := hidm m2
      clear hS hS' o1 m1 o2 m2 HV HG HCode HXX hXX b1 b2 B3 B5 B15 own2 fr1 fr2 hlx
      refine hidm ?_
      go_wp2_with (first
        | (go_at_call 13; refine (equal_true _ _ _ _ _ _ _ _ _ ((Hid.out O1).bel (((Bel.refl w2).alloc _).alloc _)) ((Hid.out O2).bel (((Bel.refl w2).alloc _).alloc _)) ((Hid.out M1).bel (((Bel.refl w2).alloc _).alloc _)) ((Hid.out M2).bel (((Bel.refl w2).alloc _).alloc _)) (by omega) (by omega)).mono ?_; rintro e w6 ⟨rfl, b6⟩)
        | (go_at_call 12; refine (awake_any _).mono ?_; rintro e w7 ⟨rfl, b7⟩))
      go_ret
      exact ⟨rfl, btrans (btrans ((B2.alloc _).alloc _) b6) b7⟩

set_option maxRecDepth 100000 in
theorem lifted (os : Os) (started : os.Started) (H : Type) (enc : TypeId × Value → H) :
    ReturnsInHanded {} Try.checked os 6 .any (Rows.pipeStraightSpec.pre6 enc Try.prog Try.f6 Rows.pipeStraightRow.domain false) (Rows.pipeStraightSpec.post enc Try.prog Try.f6 false true false false) := by
  refine returnsInHanded_of_change (C := Try.checked) own started (by kernel_rfl) Try.func6
    (ChangeSpec.witness6 (enc := enc) (C := Try.checked) false ⟨#[], #[.slice none 0 0, .int .u8 0], []⟩ 8 (by kernel_rfl) (by kernel_rfl) (by kernel_rfl) (by kernel_rfl)) ?_
  intro W base args ds gs before hval0 hW hcnd _
  have hval : ∀ (j : Nat) t v, Try.f6.params[j]? = some t → args[j]? = some v → Value.okWide Try.prog W .any base t v := hval0
  have hW' := hW
  obtain ⟨p, q, hA0, hV, rfl, hfz, hnd⟩ := hW
  have hA : DataW.TrodAll enc Try.prog W 0 (fun _ => true) true Try.f6.params.toList args.toList ds p := hA0
  rw [Try.params6] at hA hval
  obtain ⟨v0, vs0, d0, ds0, p0, q0, hargs, rfl, rfl, h0, r0⟩ := trodAll_cons hA
  obtain ⟨v1, vs1, d1, ds1, p1, q1, rfl, rfl, rfl, h1, r1⟩ := trodAll_cons r0
  obtain ⟨rfl, rfl, rfl⟩ := trodAll_nil r1
  obtain rfl : args = #[v0, v1] := by cases args; simp_all
  obtain ⟨rfl, rfl⟩ := trodVars_none hV
  have k0 := h0
  have lt0 : ∀ x ∈ p0, x.block < W.heap.size := by obtain ⟨m, hm⟩ := k0; exact DataW.trod_lt m _ _ _ hm
  obtain ⟨X0, wy0⟩ := open_code (hval 0 22 v0 rfl rfl) h0
  obtain ⟨x1, rfl, rfl, rfl, wx1⟩ := open_int Try.underlying5 (hval 1 5 v1 rfl rfl) h1
  clear hA0 hval0
  refine (walk W v0 X0 wy0 x1 wx1).mono fun e W' ⟨he, bel⟩ => ?_
  subst he
  exact ⟨_, rfl, _, _, _, [], _, [], hW', trodAll_mk1 (shut_bool Try.underlying4 _), (trodAll_cons_mk (Below.trod laidOut (by kernel_rfl) (of_decide_eq_true (by kernel_rfl)) k0 bel.out lt0) (trodAll_cons_mk (shut_int Try.underlying5 wx1) trodAll_mk0)), rfl, bel.out.frame _, fun h => by cases h⟩

theorem over : Rows.pipeStraightRow.holds Try.pinned (OpenSpec.ofChange Rows.pipeStraightSpec) :=
  OpenClaim.holds_of_wide 6 Try.f6 rfl rfl rfl rfl rfl rfl rfl ⟨rfl, rfl, rfl, rfl, rfl⟩ rfl rfl rfl rfl rfl (by kernel_rfl) Try.func6 (by kernel_rfl)
    (of_decide_eq_true (by kernel_rfl)) (by unfold Func.isWrapper; first | (rw [if_pos (by decide +kernel)]; kernel_rfl) | (rw [if_neg (by decide +kernel)]; exact ⟨rfl, rfl⟩))
    (fun os started H enc _ => lifted os started H enc)

theorem proved : Rows.PipeStraightSaid :=
  over
#print axioms proved
end Go.Proofs.Ythkhlkcdhalkfaa.pipeStraight
