/-
  The law 'IsaWords' of delayslotlaw02 returns true at every instruction: the word of a right one is from 0 to 2^32 - 1, and its highest six bits are the operation.
  Conditions: none.
-/
import Derived.Test.YtmapbnmlmcnhhaaRows
import Derived.WalkKit
import Derived.ProofKit
import Derived.OpenShut
import Derived.Test.YtmapbnmlmcnhhaaAwake2
namespace Go.Proofs.Ytmapbnmlmcnhhaa.isaWords
open Go.ChangeShapes Go.WideShapes Go.ChangeAt Go.RowKit
set_option linter.unusedVariables false

theorem own : ownKnob Try.prog.godebug = none := by kernel_rfl
theorem cells23 : Try.prog.cellsOf 23 = 5 := by kernel_rfl
theorem facts {op a b c imm : Int} (h : rightB op a b c imm = true) : 0 ≤ encV op a b c imm ∧ encV op a b c imm < 4294967296 ∧ encV op a b c imm / 67108864 = op := by
  have e : encV op a b c imm = encW op a b c imm := by unfold encV; simp [h]
  obtain ⟨h1, _, _, _, _, _, h2, h3⟩ := back_any h
  rw [e]
  exact ⟨h2, h3, h1⟩

set_option maxHeartbeats 2000000 in
theorem walk (o0 a0 b0 c0 i0 : Int) (wo0 : (Lit.int .i64 o0).wf = true) (wa0 : (Lit.int .i64 a0).wf = true) (wb0 : (Lit.int .i64 b0).wf = true) (wc0 : (Lit.int .i64 c0).wf = true) (wi0 : (Lit.int .i64 i0).wf = true) (w : World) :
    Calls Try.prog 5 #[.agg #[.int .i64 o0, .int .i64 a0, .int .i64 b0, .int .i64 c0, .int .i64 i0]] w fun e w' => e = .returned (.bool true) ∧ Grown w w' := by
  cases h : rightB o0 a0 b0 c0 i0
  · go_enter Try.func5, Try.ntmps5
    go_wp2_with (first | (go_at_call 9; refine (encode_any _ _ _ _ _ _).mono ?_; rintro e w1 ⟨rfl, hg1⟩; obtain ⟨hc, hf⟩ := gcell hg1) | (go_at_call 12; refine (awake_any _).mono ?_; rintro e w2 ⟨rfl, hg2⟩))
    go_ret
    exact ⟨rfl, gtrans (gtrans ((Grown.refl _).alloc _ _) hg1) hg2⟩
  · obtain ⟨f1, f2, f3⟩ := facts h
    go_enter Try.func5, Try.ntmps5
    go_wp2_with (first | (go_at_call 9; refine (encode_any _ _ _ _ _ _).mono ?_; rintro e w1 ⟨rfl, hg1⟩; obtain ⟨hc, hf⟩ := gcell hg1) | (go_at_call 12; refine (awake_any _).mono ?_; rintro e w2 ⟨rfl, hg2⟩))
    go_ret
    exact ⟨rfl, gtrans (gtrans ((Grown.refl _).alloc _ _) hg1) hg2⟩

set_option maxRecDepth 100000 in
theorem lifted (os : Os) (started : os.Started) (H : Type) (enc : TypeId × Value → H) :
    ReturnsInHanded {} Try.checked os 5 .any (Rows.isaWordsSpec.pre6 enc Try.prog Try.f5 Rows.isaWordsRow.domain false) (Rows.isaWordsSpec.post enc Try.prog Try.f5 false true false false) := by
  refine returnsInHanded_of_change (C := Try.checked) own started (by kernel_rfl) Try.func5
    (ChangeSpec.witness6 (enc := enc) (C := Try.checked) false ⟨#[], #[.agg #[.int .i64 0, .int .i64 0, .int .i64 0, .int .i64 0, .int .i64 0]], []⟩ 8 (by kernel_rfl) (by kernel_rfl) (by kernel_rfl) (by kernel_rfl)) ?_
  intro W base args ds gs before hval0 hW hcnd _
  have hval : ∀ (j : Nat) t v, Try.f5.params[j]? = some t → args[j]? = some v → Value.okWide Try.prog W .any base t v := hval0
  have hW' := hW
  obtain ⟨p, q, hA0, hV, rfl, hfz, hnd⟩ := hW
  have hA : DataW.TrodAll enc Try.prog W 0 (fun _ => true) true Try.f5.params.toList args.toList ds p := hA0
  rw [Try.params5] at hA hval
  obtain ⟨v0, vs0, d0, ds0, p0, q0, hargs, rfl, rfl, h0, r0⟩ := trodAll_cons hA
  obtain ⟨rfl, rfl, rfl⟩ := trodAll_nil r0
  obtain rfl : args = #[v0] := by cases args; simp_all
  obtain ⟨rfl, rfl⟩ := trodVars_none hV
  obtain ⟨o0, a0, b0, c0, i0, rfl, rfl, rfl, wo0, wa0, wb0, wc0, wi0⟩ := open_agg5i Try.underlying23 (by kernel_rfl) cells23 Try.underlying3 rfl rfl rfl rfl rfl (hval 0 23 v0 rfl rfl) h0
  clear hA0 hval0
  simp only [List.append_nil] at hW'
  refine (walk o0 a0 b0 c0 i0 wo0 wa0 wb0 wc0 wi0 W).mono fun e W' ⟨he, hg⟩ => ?_
  subst he
  exact ⟨_, rfl, post_of_same (pa := []) (pv := []) hW' (fun _ _ _ => (trodAll_cons_mk (shut_bool Try.underlying4 _) trodAll_mk0)) (fun sp _ => (trodAll_cons_mk (shut_agg5i Try.underlying23 (by kernel_rfl) cells23 Try.underlying3 rfl rfl rfl rfl rfl wo0 wa0 wb0 wc0 wi0) trodAll_mk0)) (fun _ _ => rfl) rfl
    (hg.frame _) hg.2.1 (ok_one (by kernel_rfl) rfl (okWide_bool_mk Try.underlying4 _))⟩

theorem over : Rows.isaWordsRow.holds Try.pinned (OpenSpec.ofChange Rows.isaWordsSpec) :=
  OpenClaim.holds_of_wide 5 Try.f5 rfl rfl rfl rfl rfl rfl rfl ⟨rfl, rfl, rfl, rfl, rfl⟩ rfl rfl rfl rfl rfl (by kernel_rfl) Try.func5 (by kernel_rfl)
    (of_decide_eq_true (by kernel_rfl)) (by unfold Func.isWrapper; first | (rw [if_pos (by decide +kernel)]; kernel_rfl) | (rw [if_neg (by decide +kernel)]; exact ⟨rfl, rfl⟩))
    (fun os started H enc _ => lifted os started H enc)

theorem proved : Rows.IsaWordsSaid :=
  over
#print axioms proved
end Go.Proofs.Ytmapbnmlmcnhhaa.isaWords
