/-
  For every two int32s a and k and every uint8 bits, the law delayslotlaw01.WordRound returns true and leaves its arguments as they were.
  Conditions: none.
-/
import Derived.Test.YtiofhkcbfmljmaaRows
import Derived.Test.YtiofhkcbfmljmaaWord
import Derived.WalkKit
import Derived.ProofKit
import Derived.OpenShut
namespace Go.Proofs.Ytiofhkcbfmljmaa.wordRound
open Go.ChangeShapes Go.WideShapes Go.ChangeAt Go.RowKit
set_option linter.unusedVariables false      -- a walk need not use every 'w<i>' (that an integer argument fits its kind)

theorem own : ownKnob Try.prog.godebug = none := by kernel_rfl

theorem w64_form (n : Int) : ∃ k, wrap64 n = n + 18446744073709551616 * k := ⟨-((n + 9223372036854775808) / 18446744073709551616), by unfold wrap64; omega⟩
theorem ext_same (n m : Int) (k : Nat) (h : ∃ q, m = n + 2 ^ k * q) : ext m k = ext n k := by
  obtain ⟨q, rfl⟩ := h
  unfold ext
  rw [show n + 2 ^ k * q + 2 ^ (k - 1) = (n + 2 ^ (k - 1)) + 2 ^ k * q from by grind, Int.add_mul_emod_self_left]
theorem ext_far (a b : Int) (k : Nat) (_h1 : 1 ≤ k) (h2 : k ≤ 32) : ext (wrap64 (a + wrap64 (b * 2 ^ k))) k = ext a k := by
  obtain ⟨x, hx⟩ := w64_form (b * 2 ^ k)
  obtain ⟨y, hy⟩ := w64_form (a + wrap64 (b * 2 ^ k))
  have hs := pow_split h2
  refine ext_same _ _ _ ⟨b + 2 ^ (32 - k) * 4294967296 * (x + y), ?_⟩
  rw [hy, hx]
  have : (18446744073709551616 : Int) = 2 ^ (32 - k) * 2 ^ k * 4294967296 := by rw [hs]; decide
  rw [this]
  grind
/-! The walk: the Go text returns true. -/
theorem walk (a0 : Int) (a1 : Int) (a2 : Int) (w0 : (Lit.int .i32 a0).wf = true) (w1 : (Lit.int .i32 a1).wf = true) (w2 : (Lit.int .u8 a2).wf = true) (w : World) :
    Calls Try.prog 10 #[.int .i32 a0, .int .i32 a1, .int .u8 a2] w fun e w' => e = .returned (.bool true) ∧ Grown w w' := by
  obtain ⟨h1, h2⟩ := bounds_i32 w0
  obtain ⟨h3, h4⟩ := bounds_i32 w1
  obtain ⟨h5, h6⟩ := bounds_u8 w2
  obtain ⟨k, hk⟩ : ∃ k : Nat, 1 + a2 % 32 = k := ⟨(1 + a2 % 32).toNat, by omega⟩
  have k1 : 1 ≤ k := by omega
  have k2 : k ≤ 32 := by omega
  have E1 : wrap32 (wrap64 (a0 + a1 * 4294967296)) = a0 := by unfold wrap32 wrap64; omega
  have E2 := ext_far a0 a1 k k1 k2
  go_enter Try.func10, Try.ntmps10
  go_wp2_with (first | (go_at_call 13; refine (wrap_any _ _).mono ?_; rintro e w' ⟨rfl, rfl⟩) | (go_at_call 23; refine (extend_any _ _ _ (by omega) (by omega)).mono ?_; rintro e w' ⟨rfl, rfl⟩) | (go_at_call 18; refine (awake_any _).mono ?_; rintro e w' ⟨rfl, n, rfl⟩))
  go_ret
  exact ⟨rfl, Grown.drewN (Grown.refl _) _⟩

/-! ### THE ROW's STEP: WRITTEN OUT: LEAVE IT -/
set_option maxRecDepth 100000 in
theorem lifted (os : Os) (started : os.Started) (H : Type) (enc : TypeId × Value → H) :
    ReturnsInHanded {} Try.checked os 10 .any (Rows.wordRoundSpec.pre6 enc Try.prog Try.f10 Rows.wordRoundRow.domain false) (Rows.wordRoundSpec.post enc Try.prog Try.f10 false true false false) := by
  refine returnsInHanded_of_change (C := Try.checked) own started (by kernel_rfl) Try.func10
    (ChangeSpec.witness6 (enc := enc) (C := Try.checked) false ⟨#[], #[.int .i32 0, .int .i32 0, .int .u8 0], []⟩ 8 (by kernel_rfl) (by kernel_rfl) (by kernel_rfl) (by kernel_rfl)) ?_
  intro W base args ds gs before hval0 hW hcnd _
  have hval : ∀ (j : Nat) t v, Try.f10.params[j]? = some t → args[j]? = some v → Value.okWide Try.prog W .any base t v := hval0
  have hW' := hW
  obtain ⟨p, q, hA0, hV, rfl, hfz, hnd⟩ := hW
  have hA : DataW.TrodAll enc Try.prog W 0 (fun _ => true) true Try.f10.params.toList args.toList ds p := hA0
  rw [Try.params10] at hA hval
  obtain ⟨v0, vs0, d0, ds0, p0, q0, hargs, rfl, rfl, h0, r0⟩ := trodAll_cons hA
  obtain ⟨v1, vs1, d1, ds1, p1, q1, rfl, rfl, rfl, h1, r1⟩ := trodAll_cons r0
  obtain ⟨v2, vs2, d2, ds2, p2, q2, rfl, rfl, rfl, h2, r2⟩ := trodAll_cons r1
  obtain ⟨rfl, rfl, rfl⟩ := trodAll_nil r2
  obtain rfl : args = #[v0, v1, v2] := by cases args; simp_all
  obtain ⟨rfl, rfl⟩ := trodVars_none hV
  obtain ⟨a0, rfl, rfl, rfl, w0⟩ := open_int Try.underlying21 (hval 0 21 v0 rfl rfl) h0
  obtain ⟨a1, rfl, rfl, rfl, w1⟩ := open_int Try.underlying21 (hval 1 21 v1 rfl rfl) h1
  obtain ⟨a2, rfl, rfl, rfl, w2⟩ := open_int Try.underlying5 (hval 2 5 v2 rfl rfl) h2
  clear hA0 hval0
  simp only [List.append_nil] at hW'
  refine (walk a0 a1 a2 w0 w1 w2 W).mono fun e W' ⟨he, hg⟩ => ?_
  subst he
  exact ⟨_, rfl, post_of_same (pa := []) (pv := []) hW' (fun _ _ _ => (trodAll_cons_mk (shut_bool Try.underlying4 _) trodAll_mk0)) (fun sp _ => (trodAll_cons_mk (shut_int Try.underlying21 w0) (trodAll_cons_mk (shut_int Try.underlying21 w1) (trodAll_cons_mk (shut_int Try.underlying5 w2) trodAll_mk0)))) (fun _ _ => rfl) rfl
    (hg.frame _) hg.2.1 (ok_one (by kernel_rfl) rfl (okWide_bool_mk Try.underlying4 _))⟩

theorem over : Rows.wordRoundRow.holds Try.pinned (OpenSpec.ofChange Rows.wordRoundSpec) :=
  OpenClaim.holds_of_wide 10 Try.f10 rfl rfl rfl rfl rfl rfl rfl ⟨rfl, rfl, rfl, rfl, rfl⟩ rfl rfl rfl rfl rfl (by kernel_rfl) Try.func10 (by kernel_rfl)
    (of_decide_eq_true (by kernel_rfl)) (by unfold Func.isWrapper; first | (rw [if_pos (by decide +kernel)]; kernel_rfl) | (rw [if_neg (by decide +kernel)]; exact ⟨rfl, rfl⟩))
    (fun os started H enc _ => lifted os started H enc)

/-- ████ THE STATEMENT ████ -/
theorem proved : Rows.WordRoundSaid :=
  over
#print axioms proved
end Go.Proofs.Ytiofhkcbfmljmaa.wordRound
