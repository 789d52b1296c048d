/-
  For every two int32s a and b, the law delayslotlaw01.WordBack returns true and leaves its arguments as they were.
  Conditions: none.
-/
import Derived.Test.YtiofhkcbfmljmaaRows
import Derived.Test.YtiofhkcbfmljmaaWord
import Derived.Test.YtiofhkcbfmljmaaDiv
import Derived.WalkKit
import Derived.ProofKit
import Derived.OpenShut
namespace Go.Proofs.Ytiofhkcbfmljmaa.wordBack
open Go.ChangeShapes Go.WideShapes Go.ChangeAt Go.RowKit
set_option linter.unusedVariables false      -- a walk need not use every 'w<i>' (that an integer argument fits its kind)

theorem own : ownKnob Try.prog.godebug = none := by kernel_rfl

theorem w32_id (a : Int) (h1 : -2147483648 ≤ a) (h2 : a ≤ 2147483647) : wrap32 a = a := by unfold wrap32; omega
theorem back (a b : Int) (h1 : -2147483648 ≤ a) (h2 : a ≤ 2147483647) (_h3 : -2147483648 ≤ b) (_h4 : b ≤ 2147483647) (hb : b ≠ 0) :
    wrap32 (wrap32 (wrap32 (a.tdiv b) * b) + a.tmod b) = a ∧ (0 ≤ a → 0 ≤ a.tmod b) ∧ (a ≤ 0 → a.tmod b ≤ 0) ∧ (a.tmod b).natAbs < b.natAbs ∧ -2147483648 ≤ a.tmod b := by
  have e := Int.tmod_def a b
  obtain ⟨k, hk⟩ := w32_form (a.tdiv b)
  obtain ⟨l, hl⟩ := w32_form (wrap32 (a.tdiv b) * b)
  have hn : (a.tmod b).natAbs < b.natAbs := by
    rw [Int.natAbs_tmod]; exact Nat.mod_lt _ (by omega)
  refine ⟨?_, fun h => Int.tmod_nonneg b h, fun h => ?_, hn, by omega⟩
  · rw [hl, hk, e]
    have g : (a.tdiv b + 4294967296 * k) * b + 4294967296 * l + (a - b * a.tdiv b) = a + 4294967296 * (k * b + l) := by grind
    rw [g]; unfold wrap32; omega
  · have := Int.tmod_nonneg (a := -a) b (by omega)
    rw [Int.neg_tmod] at this
    omega
/-! The walk: the Go text returns true. -/
theorem walk (a0 : Int) (a1 : Int) (w0 : (Lit.int .i32 a0).wf = true) (w1 : (Lit.int .i32 a1).wf = true) (w : World) :
    Calls Try.prog 7 #[.int .i32 a0, .int .i32 a1] w fun e w' => e = .returned (.bool true) ∧ Grown w w' := by
  obtain ⟨h1, h2⟩ := bounds_i32 w0
  obtain ⟨h3, h4⟩ := bounds_i32 w1
  have e0 := w32_id a0 h1 h2
  have e1 := w32_id a1 h3 h4
  by_cases hz : a1 = 0
  · subst hz
    have hb : wrap32 0 = 0 := e1
    go_enter Try.func7, Try.ntmps7
    go_wp2_with (first | (go_at_call 19; refine (div_zero _ _ _ hb).mono ?_; rintro e w' ⟨rfl, rfl⟩) | (go_at_call 18; refine (awake_any _).mono ?_; rintro e w' ⟨rfl, n, rfl⟩))
    go_ret
    exact ⟨rfl, Grown.drewN (Grown.refl _) _⟩
  · have hb : wrap32 a1 ≠ 0 := by rw [e1]; exact hz
    have hz' : (a1 == 0) = false := by simpa using hz
    obtain ⟨E1, r1, r2, r3, r4⟩ := back a0 a1 h1 h2 h3 h4 hz
    by_cases hneg : a0 < 0
    · have r5 : a0.tmod a1 ≤ 0 := by omega
      go_enter Try.func7, Try.ntmps7
      go_wp2_with (first | (go_at_call 19; refine (div_any _ _ _ hb).mono ?_; rintro e w' ⟨rfl, n, rfl⟩) | (go_at_call 14; refine (add_any _ _ _).mono ?_; rintro e w' ⟨rfl, rfl⟩) | (go_at_call 16; refine (mul_any _ _ _).mono ?_; rintro e w' ⟨rfl, rfl⟩) | (go_at_call 18; refine (awake_any _).mono ?_; rintro e w' ⟨rfl, n, rfl⟩))
      all_goals first | (exfalso; omega) | (go_ret; exact ⟨rfl, Grown.drewN (Grown.refl _) _⟩)
    · have h0 : 0 ≤ a0 := by omega
      have r5 : 0 ≤ a0.tmod a1 := r1 h0
      clear r1 r2
      rw [Int.tmod_eq_emod_of_nonneg h0] at E1 r3 r4 r5
      go_enter Try.func7, Try.ntmps7
      go_wp2_with (first | (go_at_call 19; refine (div_any _ _ _ hb).mono ?_; rintro e w' ⟨rfl, n, rfl⟩) | (go_at_call 14; refine (add_any _ _ _).mono ?_; rintro e w' ⟨rfl, rfl⟩) | (go_at_call 16; refine (mul_any _ _ _).mono ?_; rintro e w' ⟨rfl, rfl⟩) | (go_at_call 18; refine (awake_any _).mono ?_; rintro e w' ⟨rfl, n, rfl⟩))
      all_goals first | (exfalso; omega) | (go_ret; exact ⟨rfl, Grown.drewN (Grown.refl _) _⟩)

/-! ### THE ROW's STEP: WRITTEN OUT: LEAVE IT -/
set_option maxRecDepth 100000 in
theorem lifted (os : Os) (started : os.Started) (H : Type) (enc : TypeId × Value → H) :
    ReturnsInHanded {} Try.checked os 7 .any (Rows.wordBackSpec.pre6 enc Try.prog Try.f7 Rows.wordBackRow.domain false) (Rows.wordBackSpec.post enc Try.prog Try.f7 false true false false) := by
  refine returnsInHanded_of_change (C := Try.checked) own started (by kernel_rfl) Try.func7
    (ChangeSpec.witness6 (enc := enc) (C := Try.checked) false ⟨#[], #[.int .i32 0, .int .i32 0], []⟩ 8 (by kernel_rfl) (by kernel_rfl) (by kernel_rfl) (by kernel_rfl)) ?_
  intro W base args ds gs before hval0 hW hcnd _
  have hval : ∀ (j : Nat) t v, Try.f7.params[j]? = some t → args[j]? = some v → Value.okWide Try.prog W .any base t v := hval0
  have hW' := hW
  obtain ⟨p, q, hA0, hV, rfl, hfz, hnd⟩ := hW
  have hA : DataW.TrodAll enc Try.prog W 0 (fun _ => true) true Try.f7.params.toList args.toList ds p := hA0
  rw [Try.params7] at hA hval
  obtain ⟨v0, vs0, d0, ds0, p0, q0, hargs, rfl, rfl, h0, r0⟩ := trodAll_cons hA
  obtain ⟨v1, vs1, d1, ds1, p1, q1, rfl, rfl, rfl, h1, r1⟩ := trodAll_cons r0
  obtain ⟨rfl, rfl, rfl⟩ := trodAll_nil r1
  obtain rfl : args = #[v0, v1] := by cases args; simp_all
  obtain ⟨rfl, rfl⟩ := trodVars_none hV
  obtain ⟨a0, rfl, rfl, rfl, w0⟩ := open_int Try.underlying21 (hval 0 21 v0 rfl rfl) h0
  obtain ⟨a1, rfl, rfl, rfl, w1⟩ := open_int Try.underlying21 (hval 1 21 v1 rfl rfl) h1
  clear hA0 hval0
  simp only [List.append_nil] at hW'
  refine (walk a0 a1 w0 w1 W).mono fun e W' ⟨he, hg⟩ => ?_
  subst he
  exact ⟨_, rfl, post_of_same (pa := []) (pv := []) hW' (fun _ _ _ => (trodAll_cons_mk (shut_bool Try.underlying4 _) trodAll_mk0)) (fun sp _ => (trodAll_cons_mk (shut_int Try.underlying21 w0) (trodAll_cons_mk (shut_int Try.underlying21 w1) trodAll_mk0))) (fun _ _ => rfl) rfl
    (hg.frame _) hg.2.1 (ok_one (by kernel_rfl) rfl (okWide_bool_mk Try.underlying4 _))⟩

theorem over : Rows.wordBackRow.holds Try.pinned (OpenSpec.ofChange Rows.wordBackSpec) :=
  OpenClaim.holds_of_wide 7 Try.f7 rfl rfl rfl rfl rfl rfl rfl ⟨rfl, rfl, rfl, rfl, rfl⟩ rfl rfl rfl rfl rfl (by kernel_rfl) Try.func7 (by kernel_rfl)
    (of_decide_eq_true (by kernel_rfl)) (by unfold Func.isWrapper; first | (rw [if_pos (by decide +kernel)]; kernel_rfl) | (rw [if_neg (by decide +kernel)]; exact ⟨rfl, rfl⟩))
    (fun os started H enc _ => lifted os started H enc)

/-- ████ THE STATEMENT ████ -/
theorem proved : Rows.WordBackSaid :=
  over
#print axioms proved
end Go.Proofs.Ytiofhkcbfmljmaa.wordBack
