/-
  The law 'IsaThree' of delayslotlaw02 returns true at all arguments: each operation of three registers is right with any of 32, its word is they, and with a number it is not right.
  Conditions: none.
-/
import Derived.Test.YtmapbnmlmcnhhaaRows
import Derived.WalkKit
import Derived.ProofKit
import Derived.OpenShut
import Derived.Test.YtmapbnmlmcnhhaaAwake2
import Derived.Laws.BitsLemmas
namespace Go.Proofs.Ytmapbnmlmcnhhaa.isaThree
open Go.ChangeShapes Go.WideShapes Go.ChangeAt Go.RowKit
set_option linter.unusedVariables false

theorem own : ownKnob Try.prog.godebug = none := by kernel_rfl
theorem facts {o a b c : Int} (h1 : 0 ≤ o ∧ o ≤ 8) (h2 : 0 ≤ a ∧ a ≤ 31) (h3 : 0 ≤ b ∧ b ≤ 31) (h4 : 0 ≤ c ∧ c ≤ 31) : rightB (1 + o) a b c 0 = true ∧ encV (1 + o) a b c 0 = (1 + o) * 67108864 + a * 2097152 + b * 65536 + c * 2048 ∧ ∀ n, 0 ≤ n → rightB (1 + o) a b c (1 + n) = false := by
  have hr : regsOf (1 + o) = 3 := by unfold regsOf; omega
  have hl : leastOf (1 + o) = 0 := by unfold leastOf; omega
  have hm : mostOf (1 + o) = 0 := by unfold mostOf; omega
  have ho : okOp (1 + o) = true := by unfold okOp; simp; omega
  have hR : rightB (1 + o) a b c 0 = true := by
    unfold rightB
    rw [hr, hl, hm, ho]
    simp [regB]; omega
  refine ⟨hR, ?_, fun n hn => ?_⟩
  · unfold encV encW; rw [if_pos hR]; omega
  · unfold rightB
    rw [hl, hm]
    simp; intros; omega
theorem or3 (x y : Int) (i : Nat) (hi : i ≤ 40) (h1 : 0 ≤ x) (h2 : x < 2 ^ 40) (h3 : x % 2 ^ i = 0) (h4 : 0 ≤ y) (h5 : y < 2 ^ i) : bits .or .i64 x y = x + y := by
  have hp : (2 : Int) ^ i ≤ 2 ^ 40 := by
    have := Nat.pow_le_pow_right (n := 2) (by decide) hi
    exact_mod_cast this
  exact bits_join .i64 40 (by decide) (fun n h0 h1 => by rw [IntKind.wrap_i64]; omega) i x y h1 h3 h2 h4 h5 (by omega)

set_option maxHeartbeats 2000000 in
theorem walk (x0 : Int) (wx0 : (Lit.int .u8 x0).wf = true) (x1 : Int) (wx1 : (Lit.int .u8 x1).wf = true) (x2 : Int) (wx2 : (Lit.int .u8 x2).wf = true) (x3 : Int) (wx3 : (Lit.int .u8 x3).wf = true) (x4 : Int) (wx4 : (Lit.int .u8 x4).wf = true) (w : World) :
    Calls Try.prog 6 #[.int .u8 x0, .int .u8 x1, .int .u8 x2, .int .u8 x3, .int .u8 x4] w fun e w' => e = .returned (.bool true) ∧ Grown w w' := by
  obtain ⟨d00, d01⟩ := wf_u8 wx0
  obtain ⟨d10, d11⟩ := wf_u8 wx1
  obtain ⟨d20, d21⟩ := wf_u8 wx2
  obtain ⟨d30, d31⟩ := wf_u8 wx3
  obtain ⟨d40, d41⟩ := wf_u8 wx4
  obtain ⟨f1, f2, f3⟩ := facts (o := x0 % 9) (a := x1 % 32) (b := x2 % 32) (c := x3 % 32) (by omega) (by omega) (by omega) (by omega)
  have f4 := f3 x4 d40
  clear f3
  have g1 := or3 ((1 + x0 % 9) * 67108864) (x1 % 32 * 2097152) 26 (by decide) (by omega) (by omega) (by omega) (by omega) (by omega)
  have g2 := or3 ((1 + x0 % 9) * 67108864 + x1 % 32 * 2097152) (x2 % 32 * 65536) 21 (by decide) (by omega) (by omega) (by omega) (by omega) (by omega)
  have g3 := or3 ((1 + x0 % 9) * 67108864 + x1 % 32 * 2097152 + x2 % 32 * 65536) (x3 % 32 * 2048) 16 (by decide) (by omega) (by omega) (by omega) (by omega) (by omega)
  go_enter Try.func6, Try.ntmps6
  go_wp2_with (first | (go_at_call 9; refine (encode_any _ _ _ _ _ _).mono ?_; rintro e w1 ⟨rfl, hg1⟩; obtain ⟨hc, hf⟩ := gcell hg1; have hz : w.heap.size < w1.heap.size := by have := hg1.2.2; simp at this; omega) | (go_at_call 11; refine (right_any _ _ _ _ _ _).mono ?_; rintro e w2 ⟨rfl, hg2⟩) | (go_at_call 12; refine (awake_any _).mono ?_; rintro e w3 ⟨rfl, hg3⟩))
  go_ret
  refine ⟨rfl, gtrans (gtrans ?_ hg2) hg3⟩
  have hG := gtrans ((Grown.refl w).alloc _ _) hg1
  repeat (first | with_reducible exact hG | with_reducible apply Grown.alloc | (with_reducible refine Grown.setCell ?_ ?_ _; rotate_left 1; (simp <;> omega)))

set_option maxRecDepth 100000 in
theorem lifted (os : Os) (started : os.Started) (H : Type) (enc : TypeId × Value → H) :
    ReturnsInHanded {} Try.checked os 6 .any (Rows.isaThreeSpec.pre6 enc Try.prog Try.f6 Rows.isaThreeRow.domain false) (Rows.isaThreeSpec.post enc Try.prog Try.f6 false true false false) := by
  refine returnsInHanded_of_change (C := Try.checked) own started (by kernel_rfl) Try.func6
    (ChangeSpec.witness6 (enc := enc) (C := Try.checked) false ⟨#[], #[.int .u8 0, .int .u8 0, .int .u8 0, .int .u8 0, .int .u8 0], []⟩ 8 (by kernel_rfl) (by kernel_rfl) (by kernel_rfl) (by kernel_rfl)) ?_
  intro W base args ds gs before hval0 hW hcnd _
  have hval : ∀ (j : Nat) t v, Try.f6.params[j]? = some t → args[j]? = some v → Value.okWide Try.prog W .any base t v := hval0
  have hW' := hW
  obtain ⟨p, q, hA0, hV, rfl, hfz, hnd⟩ := hW
  have hA : DataW.TrodAll enc Try.prog W 0 (fun _ => true) true Try.f6.params.toList args.toList ds p := hA0
  rw [Try.params6] at hA hval
  obtain ⟨v0, vs0, d0, ds0, p0, q0, hargs, rfl, rfl, h0, r0⟩ := trodAll_cons hA
  obtain ⟨v1, vs1, d1, ds1, p1, q1, rfl, rfl, rfl, h1, r1⟩ := trodAll_cons r0
  obtain ⟨v2, vs2, d2, ds2, p2, q2, rfl, rfl, rfl, h2, r2⟩ := trodAll_cons r1
  obtain ⟨v3, vs3, d3, ds3, p3, q3, rfl, rfl, rfl, h3, r3⟩ := trodAll_cons r2
  obtain ⟨v4, vs4, d4, ds4, p4, q4, rfl, rfl, rfl, h4, r4⟩ := trodAll_cons r3
  obtain ⟨rfl, rfl, rfl⟩ := trodAll_nil r4
  obtain rfl : args = #[v0, v1, v2, v3, v4] := by cases args; simp_all
  obtain ⟨rfl, rfl⟩ := trodVars_none hV
  obtain ⟨x0, rfl, rfl, rfl, wx0⟩ := open_int Try.underlying5 (hval 0 5 v0 rfl rfl) h0
  obtain ⟨x1, rfl, rfl, rfl, wx1⟩ := open_int Try.underlying5 (hval 1 5 v1 rfl rfl) h1
  obtain ⟨x2, rfl, rfl, rfl, wx2⟩ := open_int Try.underlying5 (hval 2 5 v2 rfl rfl) h2
  obtain ⟨x3, rfl, rfl, rfl, wx3⟩ := open_int Try.underlying5 (hval 3 5 v3 rfl rfl) h3
  obtain ⟨x4, rfl, rfl, rfl, wx4⟩ := open_int Try.underlying5 (hval 4 5 v4 rfl rfl) h4
  clear hA0 hval0
  simp only [List.append_nil] at hW'
  refine (walk x0 wx0 x1 wx1 x2 wx2 x3 wx3 x4 wx4 W).mono fun e W' ⟨he, hg⟩ => ?_
  subst he
  exact ⟨_, rfl, post_of_same (pa := []) (pv := []) hW' (fun _ _ _ => (trodAll_cons_mk (shut_bool Try.underlying4 _) trodAll_mk0)) (fun sp _ => (trodAll_cons_mk (shut_int Try.underlying5 wx0) (trodAll_cons_mk (shut_int Try.underlying5 wx1) (trodAll_cons_mk (shut_int Try.underlying5 wx2) (trodAll_cons_mk (shut_int Try.underlying5 wx3) (trodAll_cons_mk (shut_int Try.underlying5 wx4) trodAll_mk0)))))) (fun _ _ => rfl) rfl
    (hg.frame _) hg.2.1 (ok_one (by kernel_rfl) rfl (okWide_bool_mk Try.underlying4 _))⟩

theorem over : Rows.isaThreeRow.holds Try.pinned (OpenSpec.ofChange Rows.isaThreeSpec) :=
  OpenClaim.holds_of_wide 6 Try.f6 rfl rfl rfl rfl rfl rfl rfl ⟨rfl, rfl, rfl, rfl, rfl⟩ rfl rfl rfl rfl rfl (by kernel_rfl) Try.func6 (by kernel_rfl)
    (of_decide_eq_true (by kernel_rfl)) (by unfold Func.isWrapper; first | (rw [if_pos (by decide +kernel)]; kernel_rfl) | (rw [if_neg (by decide +kernel)]; exact ⟨rfl, rfl⟩))
    (fun os started H enc _ => lifted os started H enc)

theorem proved : Rows.IsaThreeSaid :=
  over
#print axioms proved
end Go.Proofs.Ytmapbnmlmcnhhaa.isaThree
