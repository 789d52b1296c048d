/-
  The law 'BlockHeads' of delayslotlaw09 returns true at all code: the heads of any code, and its blocks, are what the document says.
  Conditions: none.
-/
import Derived.Test.YtdhnlloohjehgaaRows
import Derived.WalkKit
import Derived.ProofKit
import Derived.OpenShut
import Derived.ShutString
import Derived.ChangeOld
import Derived.Below
import Derived.Carry
import Derived.Test.YtdhnlloohjehgaaAwk9
import Derived.Test.YtdhnlloohjehgaaHn
namespace Go.Proofs.Ytdhnlloohjehgaa.blockHeads
open Go.ChangeShapes Go.WideShapes Go.ChangeAt Go.RowKit
open Go.ChangeMaps (open_string shut_string)
set_option linter.unusedVariables false

theorem laidOut : laidOutB Try.prog = true := by kernel_rfl
theorem own : ownKnob Try.prog.godebug = none := by kernel_rfl

set_option maxRecDepth 20000 in
set_option maxHeartbeats 2000000 in
theorem walk (w : World) (y0 : Value) (X0 : List Ins) (wy0 : Code w y0 X0) :
    Calls Try.prog 4 #[y0] w fun e w' => e = .returned (.bool true) ∧ Bel w w' := by
  have HV := hidm wy0
  obtain ⟨ao, ca, rfl, hc0⟩ := wy0
  clear hc0
  by_cases hl : X0.length ≤ 200
  · cases hf : fitB X0 with
    | false =>
      go_enter Try.func4, Try.ntmps4
      go_wp2_with (first
        | (go_at_call 17; refine (heads_no X0 _ _ (by omega) HV.out hf).mono ?_; rintro e w1 ⟨a1, c1, rfl, b1⟩)
        | (go_at_call 18; refine (blocks_no X0 _ _ (by omega) (HV.out.stay b1) hf).mono ?_; rintro e w2 ⟨a2, c2, rfl, b2⟩; have B2 := btrans b1 b2)
        | (go_at_call 14; refine (refFit_any X0 _ _ (by omega) (HV.out.stay B2)).mono ?_; rw [hf]; rintro e w4 ⟨rfl, b4⟩; have B4 := btrans B2 b4)
        | (go_at_call 10; refine (awake_any _).mono ?_; rintro e w7 ⟨rfl, b7⟩))
      go_ret
      exact ⟨rfl, btrans B4 b7⟩
    | true =>
      have hm := cntH_all X0
      have hcl := hdL_len X0
      have HA : Hid (∀ n, n < X0.length → hdB X0 n = true → cntH X0 n < (hdL X0).length ∧ (hdL X0).getD (cntH X0 n) 0 = n ∧ (cutL X0).getD (cntH X0 n) 0 = n) := fun n hn h => by
        obtain ⟨q1, q2⟩ := hdL_cnt hn h
        exact ⟨q1, q2, (cutL_at X0 _ q1).trans q2⟩
      have HE := hidm (cutL_end X0)
      have HM := hidm hm
      clear hm
      generalize hmm : (hdL X0).length = m at HA HE HM hcl
      have HMM := hidm hmm
      clear hmm
      go_enter Try.func4, Try.ntmps4
      go_wp2_with (first
        | (go_at_call 17; refine (heads_yes X0 _ _ (by omega) HV.out hf).mono ?_; rw [HMM.out]; rintro e w1 ⟨a1, c1, rfl, r1, b1⟩; have R1 := hidm r1; clear r1)
        | (go_at_call 18; refine (blocks_yes X0 _ _ (by omega) (HV.out.stay b1) hf).mono ?_; rw [HMM.out]; rintro e w2 ⟨a2, c2, rfl, r2, b2⟩; have R2 := hidm r2; clear r2; have B2 := btrans b1 b2)
        | (go_at_call 14; refine (refFit_any X0 _ _ (by omega) (HV.out.stay B2)).mono ?_; rw [hf]; rintro e w3 ⟨rfl, b3⟩))
      have B3 := btrans B2 b3
      have B13 := btrans b2 b3
      go_loopw [5, 29] (fun kv i wr => ∃ n : Nat, n ≤ X0.length ∧ kv = .int .i64 (cntH X0 n) ∧ i = .int .i64 n ∧ Bel w3 wr) (fun _ i _ => X0.length - (intOf i).toNat)
      case atStart => exact ⟨0, Nat.zero_le _, rfl, rfl, Bel.refl _⟩
      case round =>
        obtain ⟨n, hn, rfl, rfl, hb⟩ := hrel
        rename World => wr
        by_cases hlt : n < X0.length
        · cases hh : hdB X0 n with
          | false =>
            have HS := hidm (cntH_no hh)
            go_wp2_with (first
              | (go_at_call 19; refine (refHead_any X0 _ n _ (by omega) hlt (HV.out.stay (btrans B3 hb))).mono ?_; rw [hh]; rintro e w4 ⟨rfl, b4⟩))
            go_roundw
            case rel => exact ⟨n + 1, by omega, by rw [HS.out], by go_num, btrans hb b4⟩
            case measure => simp [intOf]; omega
          | true =>
            have HS := hidm (cntH_yes hh)
            obtain ⟨q1, q2, q3⟩ := HA.out n hlt hh
            have hpos : 0 < m := by omega
            obtain ⟨g1, o1, rfl, l1, r1⟩ := R1.out hpos
            obtain ⟨g2, o2, rfl, l2, r2⟩ := R2.out hpos
            have x1 := r1 _ q1
            have x2 := (r2 _ q1).1
            rw [q2] at x1
            rw [q3] at x2
            have x3 : ∀ j : Nat, cntH X0 n = j + 1 → w2.cell? ⟨g2, o2 + j * 2 + 1, none⟩ = some (.int .i64 n) := fun j hj => by
              have := (r2 j (by omega)).2
              rw [← hj, q3] at this
              exact this
            have BB1 := btrans B13 hb
            have BB2 := btrans b3 hb
            rw [← (bcell BB1).1 _ _ l1] at x1
            rw [← (bcell BB2).1 _ _ l2] at x2
            have x3' : ∀ j : Nat, cntH X0 n = j + 1 → wr.cell? ⟨g2, o2 + j * 2 + 1, none⟩ = some (.int .i64 n) := fun j hj => ((bcell BB2).1 _ _ l2).trans (x3 j hj)
            have X3 := hidm x3'
            clear x3 x3' r1 r2 q2 q3 HA HE HM R1 R2
            generalize cntH X0 n = k at q1 x1 x2 X3 HS ⊢
            have lw1 : g1 < wr.heap.size := by have := BB1.size; omega
            have lw2 : g2 < wr.heap.size := by have := BB2.size; omega
            cases k with
            | zero =>
              clear X3
              rw [Nat.add_zero] at x1
              rw [Nat.zero_mul, Nat.add_zero] at x2
              go_wp2_with (first
                | (go_at_call 19; refine (refHead_any X0 _ n _ (by omega) hlt (HV.out.stay (btrans B3 hb))).mono ?_; rw [hh]; rintro e w4 ⟨rfl, b4⟩; obtain ⟨hc4, hf4⟩ := bcell b4))
              go_roundw
              case rel => exact ⟨n + 1, by omega, by rw [HS.out]; rfl, by go_num, btrans hb b4⟩
              case measure => simp [intOf]; omega
            | succ j =>
              have x3 := X3.out j rfl
              clear X3
              have hwr : IntKind.i64.wrap (j : Int) = j := by rw [IntKind.wrap_i64]; omega
              have p1 : (j : Int) + 1 < m := by omega
              have p2 : (j : Int) < m := by omega
              have p3 : (0 : Int) < (j : Int) + 1 := by omega
              go_wp2_with (first
                | (go_at_call 19; refine (refHead_any X0 _ n _ (by omega) hlt (HV.out.stay (btrans B3 hb))).mono ?_; rw [hh]; rintro e w4 ⟨rfl, b4⟩; obtain ⟨hc4, hf4⟩ := bcell b4))
              go_roundw
              case rel => exact ⟨n + 1, by omega, by rw [HS.out]; go_num, by go_num, btrans hb b4⟩
              case measure => simp [intOf]; omega
        · obtain rfl : X0.length = n := by omega
          rw [HM.out]
          cases m with
          | zero =>
            clear R1 R2 HA HE
            go_wp2_with (first
              | (go_at_call 10; refine (awake_any _).mono ?_; rintro e w7 ⟨rfl, b7⟩))
            go_ret
            exact ⟨rfl, btrans (btrans B3 hb) b7⟩
          | succ j =>
            obtain ⟨g2, o2, rfl, l2, r2⟩ := R2.out (by omega)
            have x3 := (r2 j (by omega)).2
            rw [HE.out, ← (bcell (btrans b3 hb)).1 _ _ l2] at x3
            have hwr : IntKind.i64.wrap (j : Int) = j := by rw [IntKind.wrap_i64]; omega
            have p2 : (j : Int) < (j : Int) + 1 := by omega
            have p4 : ((j : Int) + 1 == 0) = false := beq_eq_false_iff_ne.2 (by omega)
            clear R1 R2 HA HE r2
            go_wp2_with (first
              | (go_at_call 10; refine (awake_any _).mono ?_; rintro e w7 ⟨rfl, b7⟩))
            go_ret
            exact ⟨rfl, btrans (btrans B3 hb) b7⟩
  · have hl' : 200 < X0.length := by omega
    clear hl
    go_enter Try.func4, Try.ntmps4
    go_wp2_with (first
      | (go_at_call 10; refine (awake_any _).mono ?_; rintro e w7 ⟨rfl, b7⟩))
    go_ret
    exact ⟨rfl, b7⟩

set_option maxRecDepth 100000 in
theorem lifted (os : Os) (started : os.Started) (H : Type) (enc : TypeId × Value → H) :
    ReturnsInHanded {} Try.checked os 4 .any (Rows.blockHeadsSpec.pre6 enc Try.prog Try.f4 Rows.blockHeadsRow.domain false) (Rows.blockHeadsSpec.post enc Try.prog Try.f4 false true false false) := by
  refine returnsInHanded_of_change (C := Try.checked) own started (by kernel_rfl) Try.func4
    (ChangeSpec.witness6 (enc := enc) (C := Try.checked) false ⟨#[], #[.slice none 0 0], []⟩ 8 (by kernel_rfl) (by kernel_rfl) (by kernel_rfl) (by kernel_rfl)) ?_
  intro W base args ds gs before hval0 hW hcnd _
  have hval : ∀ (j : Nat) t v, Try.f4.params[j]? = some t → args[j]? = some v → Value.okWide Try.prog W .any base t v := hval0
  have hW' := hW
  obtain ⟨p, q, hA0, hV, rfl, hfz, hnd⟩ := hW
  have hA : DataW.TrodAll enc Try.prog W 0 (fun _ => true) true Try.f4.params.toList args.toList ds p := hA0
  rw [Try.params4] at hA hval
  obtain ⟨v0, vs0, d0, ds0, p0, q0, hargs, rfl, rfl, h0, r0⟩ := trodAll_cons hA
  obtain ⟨rfl, rfl, rfl⟩ := trodAll_nil r0
  obtain rfl : args = #[v0] := by cases args; simp_all
  obtain ⟨rfl, rfl⟩ := trodVars_none hV
  have k0 := h0
  have lt0 : ∀ x ∈ p0, x.block < W.heap.size := by obtain ⟨m, hm⟩ := k0; exact DataW.trod_lt m _ _ _ hm
  obtain ⟨X0, wy0⟩ := open_code (hval 0 22 v0 rfl rfl) h0
  clear hA0 hval0
  refine (walk W v0 X0 wy0).mono fun e W' ⟨he, bel⟩ => ?_
  subst he
  exact ⟨_, rfl, _, _, _, [], _, [], hW', trodAll_mk1 (shut_bool Try.underlying4 _), (trodAll_cons_mk (Below.trod laidOut (by kernel_rfl) (of_decide_eq_true (by kernel_rfl)) k0 bel.out lt0) trodAll_mk0), rfl, bel.out.frame _, fun h => by cases h⟩

theorem over : Rows.blockHeadsRow.holds Try.pinned (OpenSpec.ofChange Rows.blockHeadsSpec) :=
  OpenClaim.holds_of_wide 4 Try.f4 rfl rfl rfl rfl rfl rfl rfl ⟨rfl, rfl, rfl, rfl, rfl⟩ rfl rfl rfl rfl rfl (by kernel_rfl) Try.func4 (by kernel_rfl)
    (of_decide_eq_true (by kernel_rfl)) (by unfold Func.isWrapper; first | (rw [if_pos (by decide +kernel)]; kernel_rfl) | (rw [if_neg (by decide +kernel)]; exact ⟨rfl, rfl⟩))
    (fun os started H enc _ => lifted os started H enc)

theorem proved : Rows.BlockHeadsSaid :=
  over
#print axioms proved
end Go.Proofs.Ytdhnlloohjehgaa.blockHeads
