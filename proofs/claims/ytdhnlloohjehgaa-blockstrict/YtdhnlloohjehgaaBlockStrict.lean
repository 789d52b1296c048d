/-
  The law 'BlockStrict' of delayslotlaw09 returns true at all code and operations: strict code is fit; with an instruction of register 31 behind it, that neither is a Jal nor a Jr, it is not strict.
  Conditions: none.
-/
import Derived.Test.YtdhnlloohjehgaaRows
import Derived.WalkKit
import Derived.ProofKit
import Derived.OpenShut
import Derived.ShutString
import Derived.ChangeOld
import Derived.Below
import Derived.Carry
import Derived.Test.YtdhnlloohjehgaaAwk9
import Derived.Test.YtdhnlloohjehgaaApp9
namespace Go.Proofs.Ytdhnlloohjehgaa.blockStrict
open Go.ChangeShapes Go.WideShapes Go.ChangeAt Go.RowKit
open Go.ChangeMaps (open_string shut_string)
set_option linter.unusedVariables false

theorem laidOut : laidOutB Try.prog = true := by kernel_rfl
theorem own : ownKnob Try.prog.godebug = none := by kernel_rfl
theorem touch_bad (q : Int) (h : 0 ≤ q ∧ q ≤ 8) : showsB (1 + q) 31 0 0 0 = true := by
  have hc : q = 0 ∨ q = 1 ∨ q = 2 ∨ q = 3 ∨ q = 4 ∨ q = 5 ∨ q = 6 ∨ q = 7 ∨ q = 8 := by omega
  rcases hc with rfl | rfl | rfl | rfl | rfl | rfl | rfl | rfl | rfl <;> decide +kernel
theorem strict_bad (X : List Ins) (q : Int) (h : 0 ≤ q ∧ q ≤ 8) : strictB (X ++ [⟨1 + q, 31, 0, 0, 0⟩]) = false := by
  refine strict_no (anyS_yes (k := X.length) (by simp) ?_)
  rw [show (X ++ [(⟨1 + q, 31, 0, 0, 0⟩ : Ins)]).getD X.length Ins.zero = ⟨1 + q, 31, 0, 0, 0⟩ by simp [List.getD]]
  exact touch_bad q h
theorem strict_fit {X : List Ins} (h : strictB X = true) : fitB X = true := by
  unfold strictB at h
  rw [Bool.and_eq_true] at h
  exact h.1

set_option maxRecDepth 20000 in
set_option maxHeartbeats 2000000 in
theorem walk (w : World) (y0 : Value) (X0 : List Ins) (wy0 : Code w y0 X0) (x1 : Int) (wx1 : (Lit.int .u8 x1).wf = true) :
    Calls Try.prog 7 #[y0, .int .u8 x1] w fun e w' => e = .returned (.bool true) ∧ Bel w w' := by
  have hv1 := wf_u8 wx1
  have HV := hidm wy0
  obtain ⟨ao, ca, rfl, hc0⟩ := wy0
  clear hc0
  by_cases hl : X0.length ≤ 200
  · have hq : 0 ≤ x1 % 9 ∧ x1 % 9 ≤ 8 := by omega
    have HB := hidm (strict_bad X0 (x1 % 9) hq)
    cases hs : strictB X0 with
    | true =>
      have hf := strict_fit hs
      go_enter Try.func7, Try.ntmps7
      go_wp2_with (first
        | (go_at_call 15; have q := b1; refine (strict_any XX _ _ (by omega) ((Hid.out own3).stay (btrans b1 b2))).mono ?_; rw [HXX.out]; rintro e w6 ⟨rfl, b6⟩)
        | (go_at_call 13; refine (fit_any X0 _ _ (by omega) (HV.out.stay (btrans B3 b1))).mono ?_; rw [hf]; rintro e w2 ⟨rfl, b2⟩)
        | (go_at_call 15; refine (strict_any X0 _ _ (by omega) (HV.out.stay B3)).mono ?_; rw [hs]; rintro e w1 ⟨rfl, b1⟩)
        | (at_builtin; refine append_code _ rfl (.tmp 12) (.tmp 18) rfl w.heap.size _ X0 [⟨1 + x1 % 9, 31, 0, 0, 0⟩] rfl ((Hid.out own2).alloc _) ⟨g2, c2, rfl⟩ (some ⟨w5.heap.size, 0, none⟩) 1 rfl (code_at (code_lit (X := [⟨1 + x1 % 9, 31, 0, 0, 0⟩]) (heap_new w5 _) 1 1 rfl)) (by simp; omega) (by simp; omega) ?_; intro v3 w3 q1 q2 hg3; obtain ⟨g3, c3, rfl⟩ := q2; generalize hXX : X0 ++ [(⟨1 + x1 % 9, 31, 0, 0, 0⟩ : Ins)] = XX at q1 HB ⊢; have lXX : XX.length ≤ 201 := (by rw [← hXX, List.length_append]; simp; omega); have HXX := HB; clear hXX; have own3 := hidm (code_of_own q1 ⟨g3, c3, rfl⟩); have B3 : Bel w w3 := (B5.alloc _).grown hg3 (fun k hk => (by cases hk; exact hg5)); clear q1 hg3)
        | (at_builtin; refine append_code _ rfl (.tmp 10) (.tmp 11) rfl w.heap.size _ [] X0 rfl (own_none w 24 5) ⟨_, _, rfl⟩ ao ca rfl (code_at (HV.out.stay ((Bel.refl w).alloc _))) (by simp; omega) (by simp) ?_; intro v2 w5 q1 q2 hg2; obtain ⟨g2, c2, rfl⟩ := q2; rw [List.nil_append] at q1; have own2 := hidm q1; have hg5 : w.heap.size ≤ g2 := (q1.lt g2 rfl).1; have B5 : Bel w w5 := ((Bel.refl w).alloc _).grown hg2 (fun k hk => (by cases hk; exact Nat.le_refl _)); have hz5 := B5.size; clear q1 hg2)
        | (go_at_call 10; refine (awake_any _).mono ?_; rintro e w7 ⟨rfl, b7⟩))
      go_ret
      exact ⟨rfl, btrans (btrans B3 (btrans b1 b2)) (btrans b6 b7)⟩
    | false =>
      go_enter Try.func7, Try.ntmps7
      go_wp2_with (first
        | (go_at_call 15; have q := b1; refine (strict_any XX _ _ (by omega) ((Hid.out own3).stay b1)).mono ?_; rw [HXX.out]; rintro e w6 ⟨rfl, b6⟩)
        | (go_at_call 15; refine (strict_any X0 _ _ (by omega) (HV.out.stay B3)).mono ?_; rw [hs]; rintro e w1 ⟨rfl, b1⟩)
        | (at_builtin; refine append_code _ rfl (.tmp 12) (.tmp 18) rfl w.heap.size _ X0 [⟨1 + x1 % 9, 31, 0, 0, 0⟩] rfl ((Hid.out own2).alloc _) ⟨g2, c2, rfl⟩ (some ⟨w5.heap.size, 0, none⟩) 1 rfl (code_at (code_lit (X := [⟨1 + x1 % 9, 31, 0, 0, 0⟩]) (heap_new w5 _) 1 1 rfl)) (by simp; omega) (by simp; omega) ?_; intro v3 w3 q1 q2 hg3; obtain ⟨g3, c3, rfl⟩ := q2; generalize hXX : X0 ++ [(⟨1 + x1 % 9, 31, 0, 0, 0⟩ : Ins)] = XX at q1 HB ⊢; have lXX : XX.length ≤ 201 := (by rw [← hXX, List.length_append]; simp; omega); have HXX := HB; clear hXX; have own3 := hidm (code_of_own q1 ⟨g3, c3, rfl⟩); have B3 : Bel w w3 := (B5.alloc _).grown hg3 (fun k hk => (by cases hk; exact hg5)); clear q1 hg3)
        | (at_builtin; refine append_code _ rfl (.tmp 10) (.tmp 11) rfl w.heap.size _ [] X0 rfl (own_none w 24 5) ⟨_, _, rfl⟩ ao ca rfl (code_at (HV.out.stay ((Bel.refl w).alloc _))) (by simp; omega) (by simp) ?_; intro v2 w5 q1 q2 hg2; obtain ⟨g2, c2, rfl⟩ := q2; rw [List.nil_append] at q1; have own2 := hidm q1; have hg5 : w.heap.size ≤ g2 := (q1.lt g2 rfl).1; have B5 : Bel w w5 := ((Bel.refl w).alloc _).grown hg2 (fun k hk => (by cases hk; exact Nat.le_refl _)); have hz5 := B5.size; clear q1 hg2)
        | (go_at_call 10; refine (awake_any _).mono ?_; rintro e w7 ⟨rfl, b7⟩))
      go_ret
      exact ⟨rfl, btrans (btrans B3 b1) (btrans b6 b7)⟩
  · have hl' : 200 < X0.length := by omega
    clear hl
    go_enter Try.func7, Try.ntmps7
    go_wp2_with (first
      | (go_at_call 10; refine (awake_any _).mono ?_; rintro e w7 ⟨rfl, b7⟩))
    go_ret
    exact ⟨rfl, b7⟩

set_option maxRecDepth 100000 in
theorem lifted (os : Os) (started : os.Started) (H : Type) (enc : TypeId × Value → H) :
    ReturnsInHanded {} Try.checked os 7 .any (Rows.blockStrictSpec.pre6 enc Try.prog Try.f7 Rows.blockStrictRow.domain false) (Rows.blockStrictSpec.post enc Try.prog Try.f7 false true false false) := by
  refine returnsInHanded_of_change (C := Try.checked) own started (by kernel_rfl) Try.func7
    (ChangeSpec.witness6 (enc := enc) (C := Try.checked) false ⟨#[], #[.slice none 0 0, .int .u8 0], []⟩ 8 (by kernel_rfl) (by kernel_rfl) (by kernel_rfl) (by kernel_rfl)) ?_
  intro W base args ds gs before hval0 hW hcnd _
  have hval : ∀ (j : Nat) t v, Try.f7.params[j]? = some t → args[j]? = some v → Value.okWide Try.prog W .any base t v := hval0
  have hW' := hW
  obtain ⟨p, q, hA0, hV, rfl, hfz, hnd⟩ := hW
  have hA : DataW.TrodAll enc Try.prog W 0 (fun _ => true) true Try.f7.params.toList args.toList ds p := hA0
  rw [Try.params7] at hA hval
  obtain ⟨v0, vs0, d0, ds0, p0, q0, hargs, rfl, rfl, h0, r0⟩ := trodAll_cons hA
  obtain ⟨v1, vs1, d1, ds1, p1, q1, rfl, rfl, rfl, h1, r1⟩ := trodAll_cons r0
  obtain ⟨rfl, rfl, rfl⟩ := trodAll_nil r1
  obtain rfl : args = #[v0, v1] := by cases args; simp_all
  obtain ⟨rfl, rfl⟩ := trodVars_none hV
  have k0 := h0
  have lt0 : ∀ x ∈ p0, x.block < W.heap.size := by obtain ⟨m, hm⟩ := k0; exact DataW.trod_lt m _ _ _ hm
  obtain ⟨X0, wy0⟩ := open_code (hval 0 22 v0 rfl rfl) h0
  obtain ⟨x1, rfl, rfl, rfl, wx1⟩ := open_int Try.underlying5 (hval 1 5 v1 rfl rfl) h1
  clear hA0 hval0
  refine (walk W v0 X0 wy0 x1 wx1).mono fun e W' ⟨he, bel⟩ => ?_
  subst he
  exact ⟨_, rfl, _, _, _, [], _, [], hW', trodAll_mk1 (shut_bool Try.underlying4 _), (trodAll_cons_mk (Below.trod laidOut (by kernel_rfl) (of_decide_eq_true (by kernel_rfl)) k0 bel.out lt0) (trodAll_cons_mk (shut_int Try.underlying5 wx1) trodAll_mk0)), rfl, bel.out.frame _, fun h => by cases h⟩

theorem over : Rows.blockStrictRow.holds Try.pinned (OpenSpec.ofChange Rows.blockStrictSpec) :=
  OpenClaim.holds_of_wide 7 Try.f7 rfl rfl rfl rfl rfl rfl rfl ⟨rfl, rfl, rfl, rfl, rfl⟩ rfl rfl rfl rfl rfl (by kernel_rfl) Try.func7 (by kernel_rfl)
    (of_decide_eq_true (by kernel_rfl)) (by unfold Func.isWrapper; first | (rw [if_pos (by decide +kernel)]; kernel_rfl) | (rw [if_neg (by decide +kernel)]; exact ⟨rfl, rfl⟩))
    (fun os started H enc _ => lifted os started H enc)

theorem proved : Rows.BlockStrictSaid :=
  over
#print axioms proved
end Go.Proofs.Ytdhnlloohjehgaa.blockStrict
