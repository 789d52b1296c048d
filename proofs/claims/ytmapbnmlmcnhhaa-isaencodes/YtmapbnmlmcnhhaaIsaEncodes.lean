/-
  The law 'IsaEncodes' of delayslotlaw02 returns true at every instruction: it is the word that the document says, or none; and is decoded.
  Conditions: none.
-/
import Derived.Test.YtmapbnmlmcnhhaaRows
import Derived.WalkKit
import Derived.ProofKit
import Derived.OpenShut
import Derived.Test.YtmapbnmlmcnhhaaRef2D
import Derived.Laws.StructEq
namespace Go.Proofs.Ytmapbnmlmcnhhaa.isaEncodes
open Go.ChangeShapes Go.WideShapes Go.ChangeAt Go.RowKit
set_option linter.unusedVariables false

theorem own : ownKnob Try.prog.godebug = none := by kernel_rfl
theorem cells23 : Try.prog.cellsOf 23 = 5 := by kernel_rfl

set_option maxHeartbeats 2000000 in
theorem walk (o0 a0 b0 c0 i0 : Int) (wo0 : (Lit.int .i64 o0).wf = true) (wa0 : (Lit.int .i64 a0).wf = true) (wb0 : (Lit.int .i64 b0).wf = true) (wc0 : (Lit.int .i64 c0).wf = true) (wi0 : (Lit.int .i64 i0).wf = true) (w : World) :
    Calls Try.prog 3 #[.agg #[.int .i64 o0, .int .i64 a0, .int .i64 b0, .int .i64 c0, .int .i64 i0]] w fun e w' => e = .returned (.bool true) ∧ Grown w w' := by
  cases h : rightB o0 a0 b0 c0 i0
  · have hE : encV o0 a0 b0 c0 i0 = 0 := by unfold encV; simp [h]
    go_enter Try.func3, Try.ntmps3
    go_wp2_with (first | (go_at_call 9; refine (encode_any _ _ _ _ _ _).mono ?_; rintro e w1 ⟨rfl, hg1⟩; obtain ⟨hc1, hf1⟩ := gcell hg1; have hz1 : w.heap.size < w1.heap.size := (by have := hg1.2.2; simp at this; omega)) | (go_at_call 10; refine (refRight_any _ _ _ _ _ _).mono ?_; rintro e w2 ⟨rfl, hg2⟩; obtain ⟨hc2, hf2⟩ := gcell hg2) | (go_at_call 11; refine (right_any _ _ _ _ _ _).mono ?_; rintro e w3 ⟨rfl, hg3⟩) | (go_at_call 12; refine (awake_any _).mono ?_; rintro e w4 ⟨rfl, hg4⟩))
    go_ret
    exact ⟨rfl, gtrans (gtrans (gtrans (gtrans ((Grown.refl _).alloc _ _) hg1) hg2) hg3) hg4⟩
  · have hE : encV o0 a0 b0 c0 i0 = encW o0 a0 b0 c0 i0 := by unfold encV; simp [h]
    obtain ⟨f1, f2, f3, f4, f5, f6, f7, f8⟩ := back_any h
    go_enter Try.func3, Try.ntmps3
    go_wp2_with (first | (go_at_call 9; refine (encode_any _ _ _ _ _ _).mono ?_; rintro e w1 ⟨rfl, hg1⟩; obtain ⟨hc1, hf1⟩ := gcell hg1; have hz1 : w.heap.size < w1.heap.size := (by have := hg1.2.2; simp at this; omega)) | (go_at_call 10; refine (refRight_any _ _ _ _ _ _).mono ?_; rintro e w2 ⟨rfl, hg2⟩; obtain ⟨hc2, hf2⟩ := gcell hg2; have hz2 : w.heap.size < w2.heap.size := (by have := hg2.2.2; omega)) | (go_at_call 11; refine (right_any _ _ _ _ _ _).mono ?_; rintro e w3 ⟨rfl, hg3⟩; obtain ⟨hc3, hf3⟩ := gcell hg3; have hz3 : w.heap.size < w3.heap.size := (by have := hg3.2.2; omega)) | (go_at_call 13; refine (decode_yes _ _ f6).mono ?_; rintro e w4 ⟨rfl, hg4⟩; obtain ⟨hc4, hf4⟩ := gcell hg4; have hz4 : w.heap.size < w4.heap.size := (by have := hg4.2.2; omega)) | (go_at_call 14; refine (refEncode_yes _ _ _ _ _ _ h).mono ?_; rintro e w5 ⟨rfl, hg5⟩; obtain ⟨hc5, hf5⟩ := gcell hg5; have hz5 : w.heap.size < (w4.heap.size + 1) := (by omega)) | (go_at_call 12; refine (awake_any _).mono ?_; rintro e w6 ⟨rfl, hg6⟩))
    go_ret
    exact ⟨rfl, gtrans (gtrans ((gtrans (gtrans (gtrans (gtrans ((Grown.refl _).alloc _ _) hg1) hg2) hg3) hg4).alloc _ _) hg5) hg6⟩

set_option maxRecDepth 100000 in
theorem lifted (os : Os) (started : os.Started) (H : Type) (enc : TypeId × Value → H) :
    ReturnsInHanded {} Try.checked os 3 .any (Rows.isaEncodesSpec.pre6 enc Try.prog Try.f3 Rows.isaEncodesRow.domain false) (Rows.isaEncodesSpec.post enc Try.prog Try.f3 false true false false) := by
  refine returnsInHanded_of_change (C := Try.checked) own started (by kernel_rfl) Try.func3
    (ChangeSpec.witness6 (enc := enc) (C := Try.checked) false ⟨#[], #[.agg #[.int .i64 0, .int .i64 0, .int .i64 0, .int .i64 0, .int .i64 0]], []⟩ 8 (by kernel_rfl) (by kernel_rfl) (by kernel_rfl) (by kernel_rfl)) ?_
  intro W base args ds gs before hval0 hW hcnd _
  have hval : ∀ (j : Nat) t v, Try.f3.params[j]? = some t → args[j]? = some v → Value.okWide Try.prog W .any base t v := hval0
  have hW' := hW
  obtain ⟨p, q, hA0, hV, rfl, hfz, hnd⟩ := hW
  have hA : DataW.TrodAll enc Try.prog W 0 (fun _ => true) true Try.f3.params.toList args.toList ds p := hA0
  rw [Try.params3] at hA hval
  obtain ⟨v0, vs0, d0, ds0, p0, q0, hargs, rfl, rfl, h0, r0⟩ := trodAll_cons hA
  obtain ⟨rfl, rfl, rfl⟩ := trodAll_nil r0
  obtain rfl : args = #[v0] := by cases args; simp_all
  obtain ⟨rfl, rfl⟩ := trodVars_none hV
  obtain ⟨o0, a0, b0, c0, i0, rfl, rfl, rfl, wo0, wa0, wb0, wc0, wi0⟩ := open_agg5i Try.underlying23 (by kernel_rfl) cells23 Try.underlying3 rfl rfl rfl rfl rfl (hval 0 23 v0 rfl rfl) h0
  clear hA0 hval0
  simp only [List.append_nil] at hW'
  refine (walk o0 a0 b0 c0 i0 wo0 wa0 wb0 wc0 wi0 W).mono fun e W' ⟨he, hg⟩ => ?_
  subst he
  exact ⟨_, rfl, post_of_same (pa := []) (pv := []) hW' (fun _ _ _ => (trodAll_cons_mk (shut_bool Try.underlying4 _) trodAll_mk0)) (fun sp _ => (trodAll_cons_mk (shut_agg5i Try.underlying23 (by kernel_rfl) cells23 Try.underlying3 rfl rfl rfl rfl rfl wo0 wa0 wb0 wc0 wi0) trodAll_mk0)) (fun _ _ => rfl) rfl
    (hg.frame _) hg.2.1 (ok_one (by kernel_rfl) rfl (okWide_bool_mk Try.underlying4 _))⟩

theorem over : Rows.isaEncodesRow.holds Try.pinned (OpenSpec.ofChange Rows.isaEncodesSpec) :=
  OpenClaim.holds_of_wide 3 Try.f3 rfl rfl rfl rfl rfl rfl rfl ⟨rfl, rfl, rfl, rfl, rfl⟩ rfl rfl rfl rfl rfl (by kernel_rfl) Try.func3 (by kernel_rfl)
    (of_decide_eq_true (by kernel_rfl)) (by unfold Func.isWrapper; first | (rw [if_pos (by decide +kernel)]; kernel_rfl) | (rw [if_neg (by decide +kernel)]; exact ⟨rfl, rfl⟩))
    (fun os started H enc _ => lifted os started H enc)

theorem proved : Rows.IsaEncodesSaid :=
  over
#print axioms proved
end Go.Proofs.Ytmapbnmlmcnhhaa.isaEncodes
