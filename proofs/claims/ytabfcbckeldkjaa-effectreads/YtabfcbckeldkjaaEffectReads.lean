/-
  The law 'EffectReads' of delayslotlaw03 returns true at every instruction: the registers that it reads, rising, and the one that it writes, are what the document says.
  Conditions: none.
-/
import Derived.Test.YtabfcbckeldkjaaRows
import Derived.WalkKit
import Derived.ProofKit
import Derived.OpenShut
import Derived.ShutString
import Derived.ChangeOld
import Derived.Below
import Derived.Test.YtabfcbckeldkjaaAwake3
import Derived.Test.YtabfcbckeldkjaaRdFacts
import Derived.Test.YtabfcbckeldkjaaLater
namespace Go.Proofs.Ytabfcbckeldkjaa.effectReads
open Go.ChangeShapes Go.WideShapes Go.ChangeAt Go.RowKit
open Go.ChangeMaps (open_string shut_string)
set_option linter.unusedVariables false

theorem own : ownKnob Try.prog.godebug = none := by kernel_rfl
theorem cells23 : Try.prog.cellsOf 23 = 5 := by kernel_rfl
theorem four (o a b c i : Int) (k : Nat) :
    (k = 0 ∧ refRd o a b c i k = false ∧ touchB o a b c i k = false) ∨ (0 < k ∧ refRd o a b c i k = true ∧ touchB o a b c i k = true) ∨
    (0 < k ∧ refRd o a b c i k = false ∧ (wr1 o a b c i == (k : Int)) = true ∧ touchB o a b c i k = true) ∨ (0 < k ∧ refRd o a b c i k = false ∧ (wr1 o a b c i == (k : Int)) = false ∧ touchB o a b c i k = false) := by
  rw [touch_iff]
  by_cases h0 : k = 0
  · subst h0
    left
    exact ⟨rfl, refRd_far (by omega), by simp⟩
  · right
    cases hr : refRd o a b c i k
    · right
      by_cases hw : wr1 o a b c i = k
      · left; exact ⟨by omega, rfl, by simpa using hw, by simp [hw]; omega⟩
      · right; exact ⟨by omega, rfl, by simpa using hw, by simp [hw]⟩
    · left; exact ⟨by omega, rfl, by simp; omega⟩

set_option maxHeartbeats 2000000 in
theorem walk (o0 a0 b0 c0 i0 : Int) (wo0 : (Lit.int .i64 o0).wf = true) (wa0 : (Lit.int .i64 a0).wf = true) (wb0 : (Lit.int .i64 b0).wf = true) (wc0 : (Lit.int .i64 c0).wf = true) (wi0 : (Lit.int .i64 i0).wf = true) (w : World) :
    Calls Try.prog 3 #[.agg #[.int .i64 o0, .int .i64 a0, .int .i64 b0, .int .i64 c0, .int .i64 i0]] w fun e w' => e = .returned (.bool true) ∧ Bel w w' := by
  have hl := len_bd o0 a0 b0 c0 i0
  have f4 : Hid _ := four o0 a0 b0 c0 i0
  have hcy : Hid _ := cnt_yes o0 a0 b0 c0 i0
  have hcn : Hid _ := cnt_no o0 a0 b0 c0 i0
  have hce : Hid _ := cnt_end o0 a0 b0 c0 i0
  have hcz : Hid _ := cnt_zero o0 a0 b0 c0 i0
  have hcl : Hid _ := cnt_le (rdL o0 a0 b0 c0 i0)
  go_enter Try.func3, Try.ntmps3
  go_wp2_with fail
  have hB : Bel w (w.alloc (Obj.cells #[.int .i64 o0, .int .i64 a0, .int .i64 b0, .int .i64 c0, .int .i64 i0] 23)) := (Bel.refl w).alloc _
  obtain ⟨c0', c1, c2, c3, c4⟩ := box5 w o0 a0 b0 c0 i0 23
  have hz := later_size (w := w.alloc (Obj.cells #[.int .i64 o0, .int .i64 a0, .int .i64 b0, .int .i64 c0, .int .i64 i0] 23)) (n := w.heap.size) (by simp)
  generalize w.alloc (Obj.cells #[.int .i64 o0, .int .i64 a0, .int .i64 b0, .int .i64 c0, .int .i64 i0] 23) = w1 at hB c0' c1 c2 c3 c4 hz ⊢
  haveI := Later.ne w1
  obtain ⟨u1, e0⟩ := later_start w1
  rw [← e0]
  clear e0
  go_wp2_with (go_at_call 9; refine (reads_any _ _ _ _ _ _).mono ?_; rintro e w2 ⟨v2, rfl, hown, hg2⟩; obtain ⟨ao, cap, rfl, hv⟩ := ints_view hown; clear hown)
  obtain ⟨x2, rfl⟩ := later_next hg2
  have d0 := later_cell (c0' x2) (hz x2)
  have d1 := later_cell (c1 x2) (hz x2)
  have d2 := later_cell (c2 x2) (hz x2)
  have d3 := later_cell (c3 x2) (hz x2)
  have d4 := later_cell (c4 x2) (hz x2)
  have hB2 := btrans hB x2.is_
  clear c0' c1 c2 c3 c4 hz hg2
  generalize x2.at_ = w2 at hB2 d0 d1 d2 d3 d4 hv ⊢
  haveI := Later.ne w2
  generalize rdL o0 a0 b0 c0 i0 = L at hl hcy hcn hce hcz hcl hv ⊢
  go_loopw [4, 5] (fun at_ n wr => ∃ (k : Nat) (u : Later w2), k ≤ 40 ∧ n = .int .i64 k ∧ at_ = .int .i64 (cntL L k) ∧ wr = u.at_) (fun _ n _ => 40 - (intOf n).toNat)
  case atStart => exact ⟨0, ⟨w2, Bel.refl _⟩, Nat.zero_le _, rfl, by rw [hcz.out]; rfl, rfl⟩
  case round =>
    obtain ⟨k, u, hk, rfl, rfl, rfl⟩ := hrel
    have hck := hcl.out k
    by_cases hlt : k < 40
    · rcases f4.out k with ⟨k0, k1, k2⟩ | ⟨k0, k1, k2⟩ | ⟨k0, k1, k2, k3⟩ | ⟨k0, k1, k2, k3⟩
      · have hn : Hid _ := hcn.out k k1
        clear hcy hcn hce hcz hcl f4 hv
        subst k0
        go_wp2_with (first | (go_at_call 10; refine (later_of (refReads_any _ _ _ _ _ _ _)).mono ?_; rintro e _ ⟨rfl, u3, rfl⟩) | (go_at_call 11; refine (later_of (touches_any _ _ _ _ _ _ _)).mono ?_; rintro e _ ⟨rfl, u4, rfl⟩))
        go_roundw
        case rel => exact ⟨0 + 1, u4, by omega, by go_num, by rw [hn.out], rfl⟩
        case measure => simp [intOf]
      · obtain ⟨m1, m2, m3⟩ := hcy.out k k1
        have hn : Hid _ := m3
        obtain ⟨g, rfl, q1, q2, q3, q4, q5⟩ := hv (by omega)
        have q6 := later_cell (q5 _ m1) q2
        rw [m2] at q6
        clear hcy hcn hce hcz hcl f4 hv m2 m3 q5
        generalize cntL L k = m at *
        go_wp2_with (first | (go_at_call 10; refine (later_of (refReads_any _ _ _ _ _ _ _)).mono ?_; rintro e _ ⟨rfl, u3, rfl⟩) | (go_at_call 11; refine (later_of (touches_any _ _ _ _ _ _ _)).mono ?_; rintro e _ ⟨rfl, u4, rfl⟩))
        go_roundw
        case rel => exact ⟨k + 1, u4, by omega, by go_num, by rw [hn.out]; go_num, rfl⟩
        case measure => simp [intOf]; omega
      · have hn : Hid _ := hcn.out k k1
        clear hcy hcn hce hcz hcl f4 hv
        go_wp2_with (first | (go_at_call 10; refine (later_of (refReads_any _ _ _ _ _ _ _)).mono ?_; rintro e _ ⟨rfl, u3, rfl⟩) | (go_at_call 11; refine (later_of (touches_any _ _ _ _ _ _ _)).mono ?_; rintro e _ ⟨rfl, u4, rfl⟩) | (go_at_call 12; refine (later_of (refWrites_any _ _ _ _ _ _)).mono ?_; rintro e _ ⟨rfl, u5, rfl⟩))
        go_roundw
        case rel => exact ⟨k + 1, u5, by omega, by go_num, by rw [hn.out], rfl⟩
        case measure => simp [intOf]; omega
      · have hn : Hid _ := hcn.out k k1
        clear hcy hcn hce hcz hcl f4 hv
        go_wp2_with (first | (go_at_call 10; refine (later_of (refReads_any _ _ _ _ _ _ _)).mono ?_; rintro e _ ⟨rfl, u3, rfl⟩) | (go_at_call 11; refine (later_of (touches_any _ _ _ _ _ _ _)).mono ?_; rintro e _ ⟨rfl, u4, rfl⟩) | (go_at_call 12; refine (later_of (refWrites_any _ _ _ _ _ _)).mono ?_; rintro e _ ⟨rfl, u5, rfl⟩))
        go_roundw
        case rel => exact ⟨k + 1, u5, by omega, by go_num, by rw [hn.out], rfl⟩
        case measure => simp [intOf]; omega
    · obtain rfl : k = 40 := by omega
      have he := hce.out
      clear hcy hcn hce hcz hcl f4 hv
      generalize cntL L 40 = m at *
      subst he
      go_wp2
      refine wp_region_later (by kernel_rfl) (by kernel_rfl) ?_
      repeat (go_big_quiet_step (first | (go_at_call 13; exact later_of (writes_any _ _ _ _ _ _)) | (go_at_call 12; exact later_of (refWrites_any _ _ _ _ _ _)) | (go_at_call 14; exact later_of (awake3_any _))))
      refine wpQuiet_nil ?_
      rintro _ ⟨u9, rfl⟩
      go_wp2
      go_ret
      exact ⟨rfl, btrans hB2 u9.is_⟩

set_option maxRecDepth 100000 in
theorem lifted (os : Os) (started : os.Started) (H : Type) (enc : TypeId × Value → H) :
    ReturnsInHanded {} Try.checked os 3 .any (Rows.effectReadsSpec.pre6 enc Try.prog Try.f3 Rows.effectReadsRow.domain false) (Rows.effectReadsSpec.post enc Try.prog Try.f3 false true false false) := by
  refine returnsInHanded_of_change (C := Try.checked) own started (by kernel_rfl) Try.func3
    (ChangeSpec.witness6 (enc := enc) (C := Try.checked) false ⟨#[], #[.agg #[.int .i64 0, .int .i64 0, .int .i64 0, .int .i64 0, .int .i64 0]], []⟩ 8 (by kernel_rfl) (by kernel_rfl) (by kernel_rfl) (by kernel_rfl)) ?_
  intro W base args ds gs before hval0 hW hcnd _
  have hval : ∀ (j : Nat) t v, Try.f3.params[j]? = some t → args[j]? = some v → Value.okWide Try.prog W .any base t v := hval0
  have hW' := hW
  obtain ⟨p, q, hA0, hV, rfl, hfz, hnd⟩ := hW
  have hA : DataW.TrodAll enc Try.prog W 0 (fun _ => true) true Try.f3.params.toList args.toList ds p := hA0
  rw [Try.params3] at hA hval
  obtain ⟨v0, vs0, d0, ds0, p0, q0, hargs, rfl, rfl, h0, r0⟩ := trodAll_cons hA
  obtain ⟨rfl, rfl, rfl⟩ := trodAll_nil r0
  obtain rfl : args = #[v0] := by cases args; simp_all
  obtain ⟨rfl, rfl⟩ := trodVars_none hV
  obtain ⟨o0, a0, b0, c0, i0, rfl, rfl, rfl, wo0, wa0, wb0, wc0, wi0⟩ := open_agg5i Try.underlying23 (by kernel_rfl) cells23 Try.underlying3 rfl rfl rfl rfl rfl (hval 0 23 v0 rfl rfl) h0
  clear hA0 hval0
  refine (walk o0 a0 b0 c0 i0 wo0 wa0 wb0 wc0 wi0 W).mono fun e W' ⟨he, bel⟩ => ?_
  subst he
  exact ⟨_, rfl, _, _, _, [], _, [], hW', trodAll_mk1 (shut_bool Try.underlying4 _), (trodAll_cons_mk (shut_agg5i Try.underlying23 (by kernel_rfl) cells23 Try.underlying3 rfl rfl rfl rfl rfl wo0 wa0 wb0 wc0 wi0) trodAll_mk0), rfl, bel.out.frame _, fun h => by cases h⟩

theorem over : Rows.effectReadsRow.holds Try.pinned (OpenSpec.ofChange Rows.effectReadsSpec) :=
  OpenClaim.holds_of_wide 3 Try.f3 rfl rfl rfl rfl rfl rfl rfl ⟨rfl, rfl, rfl, rfl, rfl⟩ rfl rfl rfl rfl rfl (by kernel_rfl) Try.func3 (by kernel_rfl)
    (of_decide_eq_true (by kernel_rfl)) (by unfold Func.isWrapper; first | (rw [if_pos (by decide +kernel)]; kernel_rfl) | (rw [if_neg (by decide +kernel)]; exact ⟨rfl, rfl⟩))
    (fun os started H enc _ => lifted os started H enc)

theorem proved : Rows.EffectReadsSaid :=
  over
#print axioms proved
end Go.Proofs.Ytabfcbckeldkjaa.effectReads
