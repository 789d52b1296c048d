/-
  The law 'HazardFirst' of delayslotlaw12 returns true at all code and places: the faults, place by place, and the first one, are what the document says.
  Conditions: none.
-/
import Derived.Test.YtfhepjjebadpdaaRows
import Derived.WalkKit
import Derived.ProofKit
import Derived.OpenShut
import Derived.ShutString
import Derived.ChangeOld
import Derived.Below
import Derived.Carry
import Derived.Test.YtfhepjjebadpdaaAwk12
import Derived.Test.YtfhepjjebadpdaaRt12
namespace Go.Proofs.Ytfhepjjebadpdaa.hazardFirst
open Go.ChangeShapes Go.WideShapes Go.ChangeAt Go.RowKit
open Go.ChangeMaps (open_string shut_string)
set_option linter.unusedVariables false

theorem laidOut : laidOutB Try.prog = true := by kernel_rfl
theorem own : ownKnob Try.prog.godebug = none := by kernel_rfl
theorem fst_down (X : List Ins) (m : Nat) (h : m + 1 ≤ X.length) : (faultI X m ≠ 0 ∧ fstF X (X.length - m) = ((m : Int), faultI X m)) ∨ (faultI X m = 0 ∧ fstF X (X.length - m) = fstF X (X.length - (m + 1))) := by
  rw [show X.length - m = (X.length - (m + 1)) + 1 by omega]
  by_cases q : faultI X m = 0
  · right
    refine ⟨q, ?_⟩
    conv => lhs; unfold fstF
    rw [if_neg (by rw [show X.length - (X.length - (m + 1) + 1) = m by omega]; simp [q])]
  · left
    refine ⟨q, ?_⟩
    conv => lhs; unfold fstF
    rw [if_pos (by rw [show X.length - (X.length - (m + 1) + 1) = m by omega]; exact q), show X.length - (X.length - (m + 1) + 1) = m by omega]

set_option maxRecDepth 20000 in
set_option maxHeartbeats 2000000 in
theorem walk (w : World) (y0 : Value) (X0 : List Ins) (wy0 : Code w y0 X0) (x1 : Int) (wx1 : (Lit.int .i64 x1).wf = true) :
    Calls Try.prog 3 #[y0, .int .i64 x1] w fun e w' => e = .returned (.bool true) ∧ Bel w w' := by
  have HX := hidm wy0
  obtain ⟨ao, cap, rfl, hc⟩ := wy0
  clear hc
  by_cases hl : X0.length ≤ 200
  · have RA := fun k ww hk (q : Bel w ww) => refAt_any X0 k _ ww (by omega) hk (HX.out.stay q)
    have PA := fun k ww hk (q : Bel w ww) => at_in X0 k _ ww (by omega) hk (HX.out.stay q)
    have PO := fun ww h (q : Bel w ww) => at_out X0 x1 _ ww (by omega) h (HX.out.stay q)
    have PF := fun ww (q : Bel w ww) => first_any X0 _ ww (by omega) (HX.out.stay q)
    have SX := fun ww (q : Bel w ww) => safe_any X0 _ ww (by omega) (HX.out.stay q)
    rw [safe_first] at SX
    have DW := hidm (fst_down X0)
    go_enter Try.func3, Try.ntmps3
    go_wp2
    go_loopw [5, 6, 7] (fun p f i wr => ∃ m : Nat, m ≤ X0.length ∧ i = .int .i64 ((m : Int) - 1) ∧ p = .int .i64 (fstF X0 (X0.length - m)).1 ∧ f = .int .i64 (fstF X0 (X0.length - m)).2 ∧ Bel w wr) (fun _ _ i _ => (intOf i + 1).toNat)
    case atStart => exact ⟨X0.length, Nat.le_refl _, rfl, by rw [Nat.sub_self]; rfl, by rw [Nat.sub_self]; rfl, Bel.refl _⟩
    case round =>
      obtain ⟨m, hm, rfl, rfl, rfl, hB⟩ := hrel
      rename World => wr
      cases m with
      | zero =>
        rw [Nat.sub_zero]
        clear RA PA DW
        generalize fstF X0 X0.length = p at PF SX ⊢
        by_cases ht : 0 ≤ x1 ∧ x1 < X0.length
        · have ht1 := ht.1
          have ht2 := ht.2
          clear PO
          go_wp2_with (first
            | (go_at_call 11; refine (PF _ hB).mono ?_; rintro e w1 ⟨rfl, b1⟩)
            | (go_at_call 12; refine (SX _ (btrans hB b1)).mono ?_; rintro e w2 ⟨rfl, b2⟩; have b3 : Bel w2 w2 := Bel.refl _)
            | (go_at_call 8; refine (awake_any _).mono ?_; rintro e w7 ⟨rfl, b7⟩))
          go_ret
          exact ⟨rfl, btrans hB (btrans (btrans b1 b2) (btrans b3 b7))⟩
        · by_cases ht1 : 0 ≤ x1
          · have ht2 : ¬ x1 < (X0.length : Int) := by omega
            go_wp2_with (first
              | (go_at_call 11; refine (PF _ hB).mono ?_; rintro e w1 ⟨rfl, b1⟩)
              | (go_at_call 12; refine (SX _ (btrans hB b1)).mono ?_; rintro e w2 ⟨rfl, b2⟩; have b3 : Bel w2 w2 := Bel.refl _)
              | (go_at_call 10; refine (PO _ ht (btrans hB (btrans b1 b2))).mono ?_; rintro e w3 ⟨rfl, b3⟩)
              | (go_at_call 8; refine (awake_any _).mono ?_; rintro e w7 ⟨rfl, b7⟩))
            go_ret
            exact ⟨rfl, btrans hB (btrans (btrans b1 b2) (btrans b3 b7))⟩
          · go_wp2_with (first
              | (go_at_call 11; refine (PF _ hB).mono ?_; rintro e w1 ⟨rfl, b1⟩)
              | (go_at_call 12; refine (SX _ (btrans hB b1)).mono ?_; rintro e w2 ⟨rfl, b2⟩; have b3 : Bel w2 w2 := Bel.refl _)
              | (go_at_call 10; refine (PO _ ht (btrans hB (btrans b1 b2))).mono ?_; rintro e w3 ⟨rfl, b3⟩)
              | (go_at_call 8; refine (awake_any _).mono ?_; rintro e w7 ⟨rfl, b7⟩))
            go_ret
            exact ⟨rfl, btrans hB (btrans (btrans b1 b2) (btrans b3 b7))⟩
      | succ m =>
        rw [show ((m + 1 : Nat) : Int) - 1 = (m : Int) by omega]
        have hF := DW.out m hm
        have R1 := RA m wr (by omega) hB
        have P1 := fun ww q => PA m ww (by omega) q
        clear RA PA PO PF SX DW
        have hfI := fault_bd X0 m
        generalize fstF X0 (X0.length - (m + 1)) = p at hF ⊢
        rcases hF with ⟨h1, h2⟩ | ⟨h1, h2⟩
        · have HE := hidm h2
          generalize faultI X0 m = y at R1 P1 h1 HE hfI
          have e' : (y != 0) = true := by simp [h1]
          have e2 : (y != y) = false := by simp
          clear h1 h2
          go_wp2_with (first
            | (go_at_call 9; refine R1.mono ?_; rintro e w1 ⟨rfl, b1⟩)
            | (go_at_call 10; refine (P1 _ (btrans hB b1)).mono ?_; rintro e w2 ⟨rfl, b2⟩))
          go_roundw
          case rel => exact ⟨m, by omega, by go_num, by rw [HE.out], by rw [HE.out], btrans hB (btrans b1 b2)⟩
          case measure => simp [intOf]
        · have HE := hidm h2
          rw [h1] at R1 P1
          clear h1 h2 hfI
          go_wp2_with (first
            | (go_at_call 9; refine R1.mono ?_; rintro e w1 ⟨rfl, b1⟩)
            | (go_at_call 10; refine (P1 _ (btrans hB b1)).mono ?_; rintro e w2 ⟨rfl, b2⟩))
          go_roundw
          case rel => exact ⟨m, by omega, by go_num, by rw [HE.out], by rw [HE.out], btrans hB (btrans b1 b2)⟩
          case measure => simp [intOf]
  · have hl' : 200 < X0.length := by omega
    clear hl
    go_enter Try.func3, Try.ntmps3
    go_wp2_with (go_at_call 8; refine (awake_any _).mono ?_; rintro e w7 ⟨rfl, b7⟩)
    go_ret
    exact ⟨rfl, b7⟩

set_option maxRecDepth 100000 in
theorem lifted (os : Os) (started : os.Started) (H : Type) (enc : TypeId × Value → H) :
    ReturnsInHanded {} Try.checked os 3 .any (Rows.hazardFirstSpec.pre6 enc Try.prog Try.f3 Rows.hazardFirstRow.domain false) (Rows.hazardFirstSpec.post enc Try.prog Try.f3 false true false false) := by
  refine returnsInHanded_of_change (C := Try.checked) own started (by kernel_rfl) Try.func3
    (ChangeSpec.witness6 (enc := enc) (C := Try.checked) false ⟨#[], #[.slice none 0 0, .int .i64 0], []⟩ 8 (by kernel_rfl) (by kernel_rfl) (by kernel_rfl) (by kernel_rfl)) ?_
  intro W base args ds gs before hval0 hW hcnd _
  have hval : ∀ (j : Nat) t v, Try.f3.params[j]? = some t → args[j]? = some v → Value.okWide Try.prog W .any base t v := hval0
  have hW' := hW
  obtain ⟨p, q, hA0, hV, rfl, hfz, hnd⟩ := hW
  have hA : DataW.TrodAll enc Try.prog W 0 (fun _ => true) true Try.f3.params.toList args.toList ds p := hA0
  rw [Try.params3] at hA hval
  obtain ⟨v0, vs0, d0, ds0, p0, q0, hargs, rfl, rfl, h0, r0⟩ := trodAll_cons hA
  obtain ⟨v1, vs1, d1, ds1, p1, q1, rfl, rfl, rfl, h1, r1⟩ := trodAll_cons r0
  obtain ⟨rfl, rfl, rfl⟩ := trodAll_nil r1
  obtain rfl : args = #[v0, v1] := by cases args; simp_all
  obtain ⟨rfl, rfl⟩ := trodVars_none hV
  have k0 := h0
  have lt0 : ∀ x ∈ p0, x.block < W.heap.size := by obtain ⟨m, hm⟩ := k0; exact DataW.trod_lt m _ _ _ hm
  obtain ⟨X0, wy0⟩ := open_code (hval 0 22 v0 rfl rfl) h0
  obtain ⟨x1, rfl, rfl, rfl, wx1⟩ := open_int Try.underlying3 (hval 1 3 v1 rfl rfl) h1
  clear hA0 hval0
  refine (walk W v0 X0 wy0 x1 wx1).mono fun e W' ⟨he, bel⟩ => ?_
  subst he
  exact ⟨_, rfl, _, _, _, [], _, [], hW', trodAll_mk1 (shut_bool Try.underlying4 _), (trodAll_cons_mk (Below.trod laidOut (by kernel_rfl) (of_decide_eq_true (by kernel_rfl)) k0 bel.out lt0) (trodAll_cons_mk (shut_int Try.underlying3 wx1) trodAll_mk0)), rfl, bel.out.frame _, fun h => by cases h⟩

theorem over : Rows.hazardFirstRow.holds Try.pinned (OpenSpec.ofChange Rows.hazardFirstSpec) :=
  OpenClaim.holds_of_wide 3 Try.f3 rfl rfl rfl rfl rfl rfl rfl ⟨rfl, rfl, rfl, rfl, rfl⟩ rfl rfl rfl rfl rfl (by kernel_rfl) Try.func3 (by kernel_rfl)
    (of_decide_eq_true (by kernel_rfl)) (by unfold Func.isWrapper; first | (rw [if_pos (by decide +kernel)]; kernel_rfl) | (rw [if_neg (by decide +kernel)]; exact ⟨rfl, rfl⟩))
    (fun os started H enc _ => lifted os started H enc)

theorem proved : Rows.HazardFirstSaid :=
  over
#print axioms proved
end Go.Proofs.Ytfhepjjebadpdaa.hazardFirst
