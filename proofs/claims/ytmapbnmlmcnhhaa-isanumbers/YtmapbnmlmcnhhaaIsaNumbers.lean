/-
  The law 'IsaNumbers' of delayslotlaw02 returns true at all arguments: which numbers an AddI, a Jmp, a Sys and a Check have.
  Conditions: none.
-/
import Derived.Test.YtmapbnmlmcnhhaaRows
import Derived.WalkKit
import Derived.ProofKit
import Derived.OpenShut
import Derived.Test.YtmapbnmlmcnhhaaAwake2
namespace Go.Proofs.Ytmapbnmlmcnhhaa.isaNumbers
open Go.ChangeShapes Go.WideShapes Go.ChangeAt Go.RowKit
set_option linter.unusedVariables false

theorem own : ownKnob Try.prog.godebug = none := by kernel_rfl
theorem facts {k a : Int} (h1 : -32768 ≤ k ∧ k ≤ 32767) (h2 : 0 ≤ a ∧ a ≤ 31) : rightB 10 a 0 0 k = true ∧ encV 10 a 0 0 k = 671088640 + a * 2097152 + k % 65536 ∧
    rightB 17 0 0 0 k = decide (0 ≤ k ∧ k ≤ 4096) ∧ rightB 20 0 0 0 k = decide (0 ≤ k ∧ k ≤ 2) ∧ rightB 14 a 0 0 k = decide (0 ≤ k) := by
  have hR : rightB 10 a 0 0 k = true := by simp [rightB, okOp, regB, regsOf, leastOf, mostOf]; omega
  refine ⟨hR, ?_, ?_, ?_, ?_⟩
  · unfold encV encW; rw [if_pos hR]; omega
  · simp [rightB, okOp, regB, regsOf, leastOf, mostOf]
  · simp [rightB, okOp, regB, regsOf, leastOf, mostOf]
  · rw [Bool.eq_iff_iff]; simp [rightB, okOp, regB, regsOf, leastOf, mostOf]; omega

set_option maxHeartbeats 2000000 in
theorem walk (x0 : Int) (wx0 : (Lit.int .i16 x0).wf = true) (x1 : Int) (wx1 : (Lit.int .u8 x1).wf = true) (w : World) :
    Calls Try.prog 7 #[.int .i16 x0, .int .u8 x1] w fun e w' => e = .returned (.bool true) ∧ Grown w w' := by
  obtain ⟨d00, d01⟩ := wf_i16 wx0
  obtain ⟨d10, d11⟩ := wf_u8 wx1
  obtain ⟨f1, f2, f3, f4, f5⟩ := facts (k := x0) (a := x1 % 32) (by omega) (by omega)
  have hG := Grown.refl w
  go_enter Try.func7, Try.ntmps7
  go_wp2_with (first | (go_at_call 9; refine (encode_any _ _ _ _ _ _).mono ?_; rintro e w1 ⟨rfl, hg1⟩; replace hG := gtrans hG hg1; clear hg1) | (go_at_call 11; refine (right_any _ _ _ _ _ _).mono ?_; rintro e w2 ⟨rfl, hg2⟩; replace hG := gtrans hG hg2; clear hg2) | (go_at_call 12; refine (awake_any _).mono ?_; rintro e w3 ⟨rfl, hg3⟩; replace hG := gtrans hG hg3; clear hg3))
  all_goals
    first
      | (exfalso; omega)
      | (go_ret; exact ⟨rfl, hG⟩)

set_option maxRecDepth 100000 in
theorem lifted (os : Os) (started : os.Started) (H : Type) (enc : TypeId × Value → H) :
    ReturnsInHanded {} Try.checked os 7 .any (Rows.isaNumbersSpec.pre6 enc Try.prog Try.f7 Rows.isaNumbersRow.domain false) (Rows.isaNumbersSpec.post enc Try.prog Try.f7 false true false false) := by
  refine returnsInHanded_of_change (C := Try.checked) own started (by kernel_rfl) Try.func7
    (ChangeSpec.witness6 (enc := enc) (C := Try.checked) false ⟨#[], #[.int .i16 0, .int .u8 0], []⟩ 8 (by kernel_rfl) (by kernel_rfl) (by kernel_rfl) (by kernel_rfl)) ?_
  intro W base args ds gs before hval0 hW hcnd _
  have hval : ∀ (j : Nat) t v, Try.f7.params[j]? = some t → args[j]? = some v → Value.okWide Try.prog W .any base t v := hval0
  have hW' := hW
  obtain ⟨p, q, hA0, hV, rfl, hfz, hnd⟩ := hW
  have hA : DataW.TrodAll enc Try.prog W 0 (fun _ => true) true Try.f7.params.toList args.toList ds p := hA0
  rw [Try.params7] at hA hval
  obtain ⟨v0, vs0, d0, ds0, p0, q0, hargs, rfl, rfl, h0, r0⟩ := trodAll_cons hA
  obtain ⟨v1, vs1, d1, ds1, p1, q1, rfl, rfl, rfl, h1, r1⟩ := trodAll_cons r0
  obtain ⟨rfl, rfl, rfl⟩ := trodAll_nil r1
  obtain rfl : args = #[v0, v1] := by cases args; simp_all
  obtain ⟨rfl, rfl⟩ := trodVars_none hV
  obtain ⟨x0, rfl, rfl, rfl, wx0⟩ := open_int Try.underlying34 (hval 0 34 v0 rfl rfl) h0
  obtain ⟨x1, rfl, rfl, rfl, wx1⟩ := open_int Try.underlying5 (hval 1 5 v1 rfl rfl) h1
  clear hA0 hval0
  simp only [List.append_nil] at hW'
  refine (walk x0 wx0 x1 wx1 W).mono fun e W' ⟨he, hg⟩ => ?_
  subst he
  exact ⟨_, rfl, post_of_same (pa := []) (pv := []) hW' (fun _ _ _ => (trodAll_cons_mk (shut_bool Try.underlying4 _) trodAll_mk0)) (fun sp _ => (trodAll_cons_mk (shut_int Try.underlying34 wx0) (trodAll_cons_mk (shut_int Try.underlying5 wx1) trodAll_mk0))) (fun _ _ => rfl) rfl
    (hg.frame _) hg.2.1 (ok_one (by kernel_rfl) rfl (okWide_bool_mk Try.underlying4 _))⟩

theorem over : Rows.isaNumbersRow.holds Try.pinned (OpenSpec.ofChange Rows.isaNumbersSpec) :=
  OpenClaim.holds_of_wide 7 Try.f7 rfl rfl rfl rfl rfl rfl rfl ⟨rfl, rfl, rfl, rfl, rfl⟩ rfl rfl rfl rfl rfl (by kernel_rfl) Try.func7 (by kernel_rfl)
    (of_decide_eq_true (by kernel_rfl)) (by unfold Func.isWrapper; first | (rw [if_pos (by decide +kernel)]; kernel_rfl) | (rw [if_neg (by decide +kernel)]; exact ⟨rfl, rfl⟩))
    (fun os started H enc _ => lifted os started H enc)

theorem proved : Rows.IsaNumbersSaid :=
  over
#print axioms proved
end Go.Proofs.Ytmapbnmlmcnhhaa.isaNumbers
