/-
  The law 'IsaDecodes' of delayslotlaw02 returns true at every number: it is the word of the instruction that the document says, or of none; and is encoded.
  Conditions: none.
-/
import Derived.Test.YtmapbnmlmcnhhaaRows
import Derived.WalkKit
import Derived.ProofKit
import Derived.OpenShut
import Derived.Test.YtmapbnmlmcnhhaaRef2D
import Derived.Laws.StructEq
namespace Go.Proofs.Ytmapbnmlmcnhhaa.isaDecodes
open Go.ChangeShapes Go.WideShapes Go.ChangeAt Go.RowKit
set_option linter.unusedVariables false

theorem own : ownKnob Try.prog.godebug = none := by kernel_rfl

set_option maxHeartbeats 2000000 in
theorem walk (x0 : Int) (wx0 : (Lit.int .i64 x0).wf = true) (w : World) :
    Calls Try.prog 4 #[.int .i64 x0] w fun e w' => e = .returned (.bool true) ∧ Grown w w' := by
  cases h : decB x0
  · go_enter Try.func4, Try.ntmps4
    go_wp2_with (first | (go_at_call 13; refine (decode_no _ _ h).mono ?_; rintro e w1 ⟨rfl, hg1⟩) | (go_at_call 15; refine (refDecode_no _ _ h).mono ?_; rintro e w2 ⟨rfl, hg2⟩; obtain ⟨hc2, hf2⟩ := gcell hg2; have hz2 : w1.heap.size < w2.heap.size := (by have := hg2.2.2; simp at this; omega)) | (go_at_call 9; refine (encode_any _ _ _ _ _ _).mono ?_; rintro e w3 ⟨rfl, hg3⟩) | (go_at_call 12; refine (awake_any _).mono ?_; rintro e w4 ⟨rfl, hg4⟩))
    go_ret
    exact ⟨rfl, gtrans (gtrans ((gtrans (hg1.alloc _ _) hg2).alloc _ _) hg3) hg4⟩
  · obtain ⟨f1, f2⟩ : rightB (x0 / 67108864) (x0 / 2097152 % 32) (x0 / 65536 % 32) (dC x0) (dImm x0) = true ∧ encV (x0 / 67108864) (x0 / 2097152 % 32) (x0 / 65536 % 32) (dC x0) (dImm x0) = x0 := by
      unfold decB at h
      simp only [Bool.and_eq_true, decide_eq_true_eq] at h
      exact ⟨h.1, by unfold encV; rw [if_pos h.1]; exact h.2⟩
    go_enter Try.func4, Try.ntmps4
    go_wp2_with (first | (go_at_call 13; refine (decode_yes _ _ h).mono ?_; rintro e w1 ⟨rfl, hg1⟩) | (go_at_call 15; refine (refDecode_yes _ _ h).mono ?_; rintro e w2 ⟨rfl, hg2⟩; obtain ⟨hc2, hf2⟩ := gcell hg2; have hz2 : w1.heap.size < w2.heap.size := (by have := hg2.2.2; simp at this; omega)) | (go_at_call 9; refine (encode_any _ _ _ _ _ _).mono ?_; rintro e w3 ⟨rfl, hg3⟩) | (go_at_call 12; refine (awake_any _).mono ?_; rintro e w4 ⟨rfl, hg4⟩))
    go_ret
    exact ⟨rfl, gtrans (gtrans ((gtrans (hg1.alloc _ _) hg2).alloc _ _) hg3) hg4⟩

set_option maxRecDepth 100000 in
theorem lifted (os : Os) (started : os.Started) (H : Type) (enc : TypeId × Value → H) :
    ReturnsInHanded {} Try.checked os 4 .any (Rows.isaDecodesSpec.pre6 enc Try.prog Try.f4 Rows.isaDecodesRow.domain false) (Rows.isaDecodesSpec.post enc Try.prog Try.f4 false true false false) := by
  refine returnsInHanded_of_change (C := Try.checked) own started (by kernel_rfl) Try.func4
    (ChangeSpec.witness6 (enc := enc) (C := Try.checked) false ⟨#[], #[.int .i64 0], []⟩ 8 (by kernel_rfl) (by kernel_rfl) (by kernel_rfl) (by kernel_rfl)) ?_
  intro W base args ds gs before hval0 hW hcnd _
  have hval : ∀ (j : Nat) t v, Try.f4.params[j]? = some t → args[j]? = some v → Value.okWide Try.prog W .any base t v := hval0
  have hW' := hW
  obtain ⟨p, q, hA0, hV, rfl, hfz, hnd⟩ := hW
  have hA : DataW.TrodAll enc Try.prog W 0 (fun _ => true) true Try.f4.params.toList args.toList ds p := hA0
  rw [Try.params4] at hA hval
  obtain ⟨v0, vs0, d0, ds0, p0, q0, hargs, rfl, rfl, h0, r0⟩ := trodAll_cons hA
  obtain ⟨rfl, rfl, rfl⟩ := trodAll_nil r0
  obtain rfl : args = #[v0] := by cases args; simp_all
  obtain ⟨rfl, rfl⟩ := trodVars_none hV
  obtain ⟨x0, rfl, rfl, rfl, wx0⟩ := open_int Try.underlying3 (hval 0 3 v0 rfl rfl) h0
  clear hA0 hval0
  simp only [List.append_nil] at hW'
  refine (walk x0 wx0 W).mono fun e W' ⟨he, hg⟩ => ?_
  subst he
  exact ⟨_, rfl, post_of_same (pa := []) (pv := []) hW' (fun _ _ _ => (trodAll_cons_mk (shut_bool Try.underlying4 _) trodAll_mk0)) (fun sp _ => (trodAll_cons_mk (shut_int Try.underlying3 wx0) trodAll_mk0)) (fun _ _ => rfl) rfl
    (hg.frame _) hg.2.1 (ok_one (by kernel_rfl) rfl (okWide_bool_mk Try.underlying4 _))⟩

theorem over : Rows.isaDecodesRow.holds Try.pinned (OpenSpec.ofChange Rows.isaDecodesSpec) :=
  OpenClaim.holds_of_wide 4 Try.f4 rfl rfl rfl rfl rfl rfl rfl ⟨rfl, rfl, rfl, rfl, rfl⟩ rfl rfl rfl rfl rfl (by kernel_rfl) Try.func4 (by kernel_rfl)
    (of_decide_eq_true (by kernel_rfl)) (by unfold Func.isWrapper; first | (rw [if_pos (by decide +kernel)]; kernel_rfl) | (rw [if_neg (by decide +kernel)]; exact ⟨rfl, rfl⟩))
    (fun os started H enc _ => lifted os started H enc)

theorem proved : Rows.IsaDecodesSaid :=
  over
#print axioms proved
end Go.Proofs.Ytmapbnmlmcnhhaa.isaDecodes
