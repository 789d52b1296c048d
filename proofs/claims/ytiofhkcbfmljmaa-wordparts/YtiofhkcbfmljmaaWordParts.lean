/-
  For every int32 n, the law delayslotlaw01.WordParts returns true and leaves its argument as it was.
  Conditions: none.
-/
import Derived.Test.YtiofhkcbfmljmaaRows
import Derived.Test.YtiofhkcbfmljmaaWord
import Derived.WalkKit
import Derived.ProofKit
import Derived.OpenShut
namespace Go.Proofs.Ytiofhkcbfmljmaa.wordParts
open Go.ChangeShapes Go.WideShapes Go.ChangeAt Go.RowKit
set_option linter.unusedVariables false      -- a walk need not use every 'w<i>' (that an integer argument fits its kind)

theorem own : ownKnob Try.prog.godebug = none := by kernel_rfl

theorem parts (a : Int) (h1 : -2147483648 ≤ a) (h2 : a ≤ 2147483647) :
    (wrap32 (a - ext a 16)).tmod 65536 = 0 ∧ wrap32 (wrap32 ((wrap32 (a - ext a 16)).tdiv 65536 * 65536) + ext a 16) = a := by
  have e : ext a 16 = (a + 32768) % 65536 - 32768 := rfl
  obtain ⟨m1, m2, m3, _, _⟩ := tmod_form (wrap32 (a - ext a 16)) 65536 (by omega)
  have g : (wrap32 (a - ext a 16)).tmod 65536 = 0 := by
    have : wrap32 (a - ext a 16) % 65536 = 0 := by unfold wrap32; omega
    omega
  refine ⟨g, ?_⟩
  have : (wrap32 (a - ext a 16)).tdiv 65536 * 65536 = wrap32 (a - ext a 16) := by omega
  rw [this]
  unfold wrap32
  omega
theorem low_bit (a : Int) : ext a 1 = -(a % 2) := by
  have : ext a 1 = (a + 1) % 2 - 1 := rfl
  omega
theorem and_one (a : Int) : bits .and .i64 a 1 = a % 2 := by
  have e : (BitVec.ofInt 64 a &&& BitVec.ofInt 64 1).toNat = (a % 2).toNat := by
    rw [BitVec.toNat_and, BitVec.toNat_ofInt, BitVec.toNat_ofInt, show ((1 : Int) % ((2 ^ 64 : Nat) : Int)).toNat = 1 from by decide, Nat.and_one_is_mod]
    omega
  show IntKind.i64.wrap ((BitVec.ofInt 64 a &&& BitVec.ofInt 64 1).toNat : Int) = a % 2
  rw [e, IntKind.wrap_i64]
  omega
/-! The walk: the Go text returns true. -/
theorem walk (a0 : Int) (w0 : (Lit.int .i32 a0).wf = true) (w : World) :
    Calls Try.prog 11 #[.int .i32 a0] w fun e w' => e = .returned (.bool true) ∧ Grown w w' := by
  obtain ⟨h1, h2⟩ := bounds_i32 w0
  obtain ⟨t1, t2⟩ := tdiv_form (wrap32 (a0 - ext a0 16)) (w32_lo _) (w32_hi _)
  obtain ⟨b1, b2⟩ := ext_bd a0 16 (by omega)
  rw [show (2 : Int) ^ (16 - 1) = 32768 from by decide] at b1 b2
  have P1 : fitsB (ext a0 16) 16 = true := by unfold fitsB; exact decide_eq_true (ext_bd a0 16 (by omega))
  obtain ⟨P2, P3⟩ := parts a0 h1 h2
  have P4 := low_bit a0
  have P5 := and_one a0
  go_enter Try.func11, Try.ntmps11
  go_wp2_with (first | (go_at_call 14; refine (add_any _ _ _).mono ?_; rintro e w' ⟨rfl, rfl⟩) | (go_at_call 15; refine (sub_any _ _ _).mono ?_; rintro e w' ⟨rfl, rfl⟩) | (go_at_call 16; refine (mul_any _ _ _).mono ?_; rintro e w' ⟨rfl, rfl⟩) | (go_at_call 18; refine (awake_any _).mono ?_; rintro e w' ⟨rfl, n, rfl⟩) | (go_at_call 23; refine (extend_int _ _ _ ?_).mono ?_; (constructor <;> omega); rintro e w' ⟨rfl, rfl⟩) | (go_at_call 21; refine (fits_int _ _ _ ?_).mono ?_; (constructor <;> omega); rintro e w' ⟨rfl, rfl⟩))
  go_ret
  exact ⟨rfl, Grown.drewN (Grown.refl _) _⟩

/-! ### THE ROW's STEP: WRITTEN OUT: LEAVE IT -/
set_option maxRecDepth 100000 in
theorem lifted (os : Os) (started : os.Started) (H : Type) (enc : TypeId × Value → H) :
    ReturnsInHanded {} Try.checked os 11 .any (Rows.wordPartsSpec.pre6 enc Try.prog Try.f11 Rows.wordPartsRow.domain false) (Rows.wordPartsSpec.post enc Try.prog Try.f11 false true false false) := by
  refine returnsInHanded_of_change (C := Try.checked) own started (by kernel_rfl) Try.func11
    (ChangeSpec.witness6 (enc := enc) (C := Try.checked) false ⟨#[], #[.int .i32 0], []⟩ 8 (by kernel_rfl) (by kernel_rfl) (by kernel_rfl) (by kernel_rfl)) ?_
  intro W base args ds gs before hval0 hW hcnd _
  have hval : ∀ (j : Nat) t v, Try.f11.params[j]? = some t → args[j]? = some v → Value.okWide Try.prog W .any base t v := hval0
  have hW' := hW
  obtain ⟨p, q, hA0, hV, rfl, hfz, hnd⟩ := hW
  have hA : DataW.TrodAll enc Try.prog W 0 (fun _ => true) true Try.f11.params.toList args.toList ds p := hA0
  rw [Try.params11] at hA hval
  obtain ⟨v0, vs0, d0, ds0, p0, q0, hargs, rfl, rfl, h0, r0⟩ := trodAll_cons hA
  obtain ⟨rfl, rfl, rfl⟩ := trodAll_nil r0
  obtain rfl : args = #[v0] := by cases args; simp_all
  obtain ⟨rfl, rfl⟩ := trodVars_none hV
  obtain ⟨a0, rfl, rfl, rfl, w0⟩ := open_int Try.underlying21 (hval 0 21 v0 rfl rfl) h0
  clear hA0 hval0
  simp only [List.append_nil] at hW'
  refine (walk a0 w0 W).mono fun e W' ⟨he, hg⟩ => ?_
  subst he
  exact ⟨_, rfl, post_of_same (pa := []) (pv := []) hW' (fun _ _ _ => (trodAll_cons_mk (shut_bool Try.underlying4 _) trodAll_mk0)) (fun sp _ => (trodAll_cons_mk (shut_int Try.underlying21 w0) trodAll_mk0)) (fun _ _ => rfl) rfl
    (hg.frame _) hg.2.1 (ok_one (by kernel_rfl) rfl (okWide_bool_mk Try.underlying4 _))⟩

theorem over : Rows.wordPartsRow.holds Try.pinned (OpenSpec.ofChange Rows.wordPartsSpec) :=
  OpenClaim.holds_of_wide 11 Try.f11 rfl rfl rfl rfl rfl rfl rfl ⟨rfl, rfl, rfl, rfl, rfl⟩ rfl rfl rfl rfl rfl (by kernel_rfl) Try.func11 (by kernel_rfl)
    (of_decide_eq_true (by kernel_rfl)) (by unfold Func.isWrapper; first | (rw [if_pos (by decide +kernel)]; kernel_rfl) | (rw [if_neg (by decide +kernel)]; exact ⟨rfl, rfl⟩))
    (fun os started H enc _ => lifted os started H enc)

/-- ████ THE STATEMENT ████ -/
theorem proved : Rows.WordPartsSaid :=
  over
#print axioms proved
end Go.Proofs.Ytiofhkcbfmljmaa.wordParts
