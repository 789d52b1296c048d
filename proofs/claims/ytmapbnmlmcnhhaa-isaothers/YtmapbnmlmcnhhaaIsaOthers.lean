/-
  The law 'IsaOthers' of delayslotlaw02 returns true at all arguments: an operation that is none is never right; the operation of a word that is decoded is its highest six bits, and one of the 21.
  Conditions: none.
-/
import Derived.Test.YtmapbnmlmcnhhaaRows
import Derived.WalkKit
import Derived.ProofKit
import Derived.OpenShut
import Derived.Test.YtmapbnmlmcnhhaaAwake2
namespace Go.Proofs.Ytmapbnmlmcnhhaa.isaOthers
open Go.ChangeShapes Go.WideShapes Go.ChangeAt Go.RowKit
set_option linter.unusedVariables false

theorem own : ownKnob Try.prog.godebug = none := by kernel_rfl
theorem cells23 : Try.prog.cellsOf 23 = 5 := by kernel_rfl
theorem facts {op a b c i : Int} (h : op < 0 ∨ 20 < op) : rightB op a b c i = false := by
  have : okOp op = false := by unfold okOp; simp; omega
  unfold rightB; rw [this]; simp
theorem facts2 {n : Int} (h : decB n = true) : n / 67108864 ≤ 20 := by
  unfold decB at h
  simp only [Bool.and_eq_true] at h
  exact (right_bd h.1).2.1

set_option maxHeartbeats 2000000 in
theorem walk (o0 a0 b0 c0 i0 : Int) (wo0 : (Lit.int .i64 o0).wf = true) (wa0 : (Lit.int .i64 a0).wf = true) (wb0 : (Lit.int .i64 b0).wf = true) (wc0 : (Lit.int .i64 c0).wf = true) (wi0 : (Lit.int .i64 i0).wf = true) (x1 : Int) (wx1 : (Lit.int .u32 x1).wf = true) (w : World) :
    Calls Try.prog 8 #[.agg #[.int .i64 o0, .int .i64 a0, .int .i64 b0, .int .i64 c0, .int .i64 i0], .int .u32 x1] w fun e w' => e = .returned (.bool true) ∧ Grown w w' := by
  obtain ⟨d10, d11⟩ := wf_u32 wx1
  have f1 : ∀ a b c i, 0 ≤ o0 → rightB (o0 + 21) a b c i = false := fun a b c i h => facts (by omega)
  have f2 : ∀ a b c i, 20 < o0 → rightB o0 a b c i = false := fun a b c i h => facts (by omega)
  have f3 : ∀ a b c i, o0 < 0 → rightB o0 a b c i = false := fun a b c i h => facts (by omega)
  cases hd : decB x1
  · go_enter Try.func8, Try.ntmps8
    go_wp2_with (first | (go_at_call 13; refine (decode_no _ _ hd).mono ?_; rintro e w1 ⟨rfl, hg1⟩; obtain ⟨hc, hf⟩ := gcell hg1; have hz : w.heap.size < w1.heap.size := by have := hg1.2.2; simp at this; omega) | (go_at_call 11; refine (right_any _ _ _ _ _ _).mono ?_; rintro e w2 ⟨rfl, hg2⟩; obtain ⟨hc2, hf2⟩ := gcell hg2) | (go_at_call 12; refine (awake_any _).mono ?_; rintro e w3 ⟨rfl, hg3⟩))
    all_goals
      go_ret
      refine ⟨rfl, gtrans (gtrans ?_ hg2) hg3⟩
      have hG := gtrans (by first | exact (Grown.refl w).alloc _ _ | exact ((Grown.refl w).alloc _ _).setCell (by simp) _) hg1
      repeat (first | with_reducible exact hG | with_reducible apply Grown.alloc | (with_reducible refine Grown.setCell ?_ ?_ _; rotate_left 1; (simp <;> omega)))
  · have f4 := facts2 hd
    go_enter Try.func8, Try.ntmps8
    go_wp2_with (first | (go_at_call 13; refine (decode_yes _ _ hd).mono ?_; rintro e w1 ⟨rfl, hg1⟩; obtain ⟨hc, hf⟩ := gcell hg1; have hz : w.heap.size < w1.heap.size := by have := hg1.2.2; simp at this; omega) | (go_at_call 11; refine (right_any _ _ _ _ _ _).mono ?_; rintro e w2 ⟨rfl, hg2⟩; obtain ⟨hc2, hf2⟩ := gcell hg2) | (go_at_call 12; refine (awake_any _).mono ?_; rintro e w3 ⟨rfl, hg3⟩))
    all_goals
      go_ret
      refine ⟨rfl, gtrans (gtrans ?_ hg2) hg3⟩
      have hG := gtrans (by first | exact (Grown.refl w).alloc _ _ | exact ((Grown.refl w).alloc _ _).setCell (by simp) _) hg1
      repeat (first | with_reducible exact hG | with_reducible apply Grown.alloc | (with_reducible refine Grown.setCell ?_ ?_ _; rotate_left 1; (simp <;> omega)))

set_option maxRecDepth 100000 in
theorem lifted (os : Os) (started : os.Started) (H : Type) (enc : TypeId × Value → H) :
    ReturnsInHanded {} Try.checked os 8 .any (Rows.isaOthersSpec.pre6 enc Try.prog Try.f8 Rows.isaOthersRow.domain false) (Rows.isaOthersSpec.post enc Try.prog Try.f8 false true false false) := by
  refine returnsInHanded_of_change (C := Try.checked) own started (by kernel_rfl) Try.func8
    (ChangeSpec.witness6 (enc := enc) (C := Try.checked) false ⟨#[], #[.agg #[.int .i64 0, .int .i64 0, .int .i64 0, .int .i64 0, .int .i64 0], .int .u32 0], []⟩ 8 (by kernel_rfl) (by kernel_rfl) (by kernel_rfl) (by kernel_rfl)) ?_
  intro W base args ds gs before hval0 hW hcnd _
  have hval : ∀ (j : Nat) t v, Try.f8.params[j]? = some t → args[j]? = some v → Value.okWide Try.prog W .any base t v := hval0
  have hW' := hW
  obtain ⟨p, q, hA0, hV, rfl, hfz, hnd⟩ := hW
  have hA : DataW.TrodAll enc Try.prog W 0 (fun _ => true) true Try.f8.params.toList args.toList ds p := hA0
  rw [Try.params8] at hA hval
  obtain ⟨v0, vs0, d0, ds0, p0, q0, hargs, rfl, rfl, h0, r0⟩ := trodAll_cons hA
  obtain ⟨v1, vs1, d1, ds1, p1, q1, rfl, rfl, rfl, h1, r1⟩ := trodAll_cons r0
  obtain ⟨rfl, rfl, rfl⟩ := trodAll_nil r1
  obtain rfl : args = #[v0, v1] := by cases args; simp_all
  obtain ⟨rfl, rfl⟩ := trodVars_none hV
  obtain ⟨o0, a0, b0, c0, i0, rfl, rfl, rfl, wo0, wa0, wb0, wc0, wi0⟩ := open_agg5i Try.underlying23 (by kernel_rfl) cells23 Try.underlying3 rfl rfl rfl rfl rfl (hval 0 23 v0 rfl rfl) h0
  obtain ⟨x1, rfl, rfl, rfl, wx1⟩ := open_int Try.underlying36 (hval 1 36 v1 rfl rfl) h1
  clear hA0 hval0
  simp only [List.append_nil] at hW'
  refine (walk o0 a0 b0 c0 i0 wo0 wa0 wb0 wc0 wi0 x1 wx1 W).mono fun e W' ⟨he, hg⟩ => ?_
  subst he
  exact ⟨_, rfl, post_of_same (pa := []) (pv := []) hW' (fun _ _ _ => (trodAll_cons_mk (shut_bool Try.underlying4 _) trodAll_mk0)) (fun sp _ => (trodAll_cons_mk (shut_agg5i Try.underlying23 (by kernel_rfl) cells23 Try.underlying3 rfl rfl rfl rfl rfl wo0 wa0 wb0 wc0 wi0) (trodAll_cons_mk (shut_int Try.underlying36 wx1) trodAll_mk0))) (fun _ _ => rfl) rfl
    (hg.frame _) hg.2.1 (ok_one (by kernel_rfl) rfl (okWide_bool_mk Try.underlying4 _))⟩

theorem over : Rows.isaOthersRow.holds Try.pinned (OpenSpec.ofChange Rows.isaOthersSpec) :=
  OpenClaim.holds_of_wide 8 Try.f8 rfl rfl rfl rfl rfl rfl rfl ⟨rfl, rfl, rfl, rfl, rfl⟩ rfl rfl rfl rfl rfl (by kernel_rfl) Try.func8 (by kernel_rfl)
    (of_decide_eq_true (by kernel_rfl)) (by unfold Func.isWrapper; first | (rw [if_pos (by decide +kernel)]; kernel_rfl) | (rw [if_neg (by decide +kernel)]; exact ⟨rfl, rfl⟩))
    (fun os started H enc _ => lifted os started H enc)

theorem proved : Rows.IsaOthersSaid :=
  over
#print axioms proved
end Go.Proofs.Ytmapbnmlmcnhhaa.isaOthers
