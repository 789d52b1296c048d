/-
  The law 'DependKeeps' of delayslotlaw10 returns true at every list and every order: whether the order keeps what must stay ahead is told as the document says (asked of at most 60 instructions, 200 places).
  Conditions: none.
-/
import Derived.Test.YteldmfidcnlfkaaRows
import Derived.WalkKit
import Derived.ProofKit
import Derived.OpenShut
import Derived.ShutString
import Derived.ChangeOld
import Derived.Below
import Derived.Carry
import Derived.Test.YteldmfidcnlfkaaAwk10
import Derived.Test.YteldmfidcnlfkaaRq10
namespace Go.Proofs.Yteldmfidcnlfkaa.dependKeeps
open Go.ChangeShapes Go.WideShapes Go.ChangeAt Go.RowKit
open Go.ChangeMaps (open_string shut_string)
set_option linter.unusedVariables false

theorem laidOut : laidOutB Try.prog = true := by kernel_rfl
theorem own : ownKnob Try.prog.godebug = none := by kernel_rfl

set_option maxRecDepth 20000 in
set_option maxHeartbeats 2000000 in
theorem walk (w : World) (y0 : Value) (X0 : List Ins) (wy0 : Code w y0 X0) (y1 : Value) (X1 : List Int) (wy1 : Ints .i64 w y1 X1) (vy1 : ∀ x ∈ X1, (Lit.int .i64 x).wf = true) :
    Calls Try.prog 5 #[y0, y1] w fun e w' => e = .returned (.bool true) ∧ Bel w w' := by
  by_cases hs : X0.length ≤ 60
  · by_cases hs1 : X1.length ≤ 200
    · have HW := hidm wy0
      have HI := hidm wy1
      obtain ⟨ao, cap, rfl, hc⟩ := wy0
      obtain ⟨zo, zcap, rfl, hz⟩ := wy1
      have hk := fun ww hv hu => keeps_any X0 X1 (.slice ao X0.length cap) (.slice zo X1.length zcap) ww (by omega) (by omega) hv hu
      have hr := fun ww hv hu => refKeeps_any X0 X1 (.slice ao X0.length cap) (.slice zo X1.length zcap) ww (by omega) (by omega) hv hu
      generalize keepsB X0 X1 = r at hk hr
      clear hc hz vy1
      go_enter Try.func5, Try.ntmps5
      go_wp2_with (first
        | (go_at_call 16; refine (hk _ HW.out HI.out).mono ?_; rintro e w1 ⟨rfl, b1⟩)
        | (go_at_call 17; refine (hr _ (HW.out.stay b1) (HI.out.bel b1)).mono ?_; rintro e w2 ⟨rfl, b2⟩)
        | (go_at_call 12; refine (awake_any _).mono ?_; rintro e w4 ⟨rfl, b4⟩))
      go_ret
      exact ⟨rfl, btrans b1 (btrans b2 b4)⟩
    · obtain ⟨ao, cap, rfl, hc⟩ := wy0
      obtain ⟨zo, zcap, rfl, hz⟩ := wy1
      clear hc hz vy1
      go_enter Try.func5, Try.ntmps5
      go_wp2_with (go_at_call 12; refine (awake_any _).mono ?_; rintro e w4 ⟨rfl, b4⟩)
      go_ret
      exact ⟨rfl, b4⟩
  · obtain ⟨ao, cap, rfl, hc⟩ := wy0
    obtain ⟨zo, zcap, rfl, hz⟩ := wy1
    clear hc hz vy1
    go_enter Try.func5, Try.ntmps5
    go_wp2_with (go_at_call 12; refine (awake_any _).mono ?_; rintro e w4 ⟨rfl, b4⟩)
    go_ret
    exact ⟨rfl, b4⟩

set_option maxRecDepth 100000 in
theorem lifted (os : Os) (started : os.Started) (H : Type) (enc : TypeId × Value → H) :
    ReturnsInHanded {} Try.checked os 5 .any (Rows.dependKeepsSpec.pre6 enc Try.prog Try.f5 Rows.dependKeepsRow.domain false) (Rows.dependKeepsSpec.post enc Try.prog Try.f5 false true false false) := by
  refine returnsInHanded_of_change (C := Try.checked) own started (by kernel_rfl) Try.func5
    (ChangeSpec.witness6 (enc := enc) (C := Try.checked) false ⟨#[], #[.slice none 0 0, .slice none 0 0], []⟩ 8 (by kernel_rfl) (by kernel_rfl) (by kernel_rfl) (by kernel_rfl)) ?_
  intro W base args ds gs before hval0 hW hcnd _
  have hval : ∀ (j : Nat) t v, Try.f5.params[j]? = some t → args[j]? = some v → Value.okWide Try.prog W .any base t v := hval0
  have hW' := hW
  obtain ⟨p, q, hA0, hV, rfl, hfz, hnd⟩ := hW
  have hA : DataW.TrodAll enc Try.prog W 0 (fun _ => true) true Try.f5.params.toList args.toList ds p := hA0
  rw [Try.params5] at hA hval
  obtain ⟨v0, vs0, d0, ds0, p0, q0, hargs, rfl, rfl, h0, r0⟩ := trodAll_cons hA
  obtain ⟨v1, vs1, d1, ds1, p1, q1, rfl, rfl, rfl, h1, r1⟩ := trodAll_cons r0
  obtain ⟨rfl, rfl, rfl⟩ := trodAll_nil r1
  obtain rfl : args = #[v0, v1] := by cases args; simp_all
  obtain ⟨rfl, rfl⟩ := trodVars_none hV
  have k0 := h0
  have lt0 : ∀ x ∈ p0, x.block < W.heap.size := by obtain ⟨m, hm⟩ := k0; exact DataW.trod_lt m _ _ _ hm
  obtain ⟨X0, wy0⟩ := open_code (hval 0 27 v0 rfl rfl) h0
  have k1 := h1
  have lt1 : ∀ x ∈ p1, x.block < W.heap.size := by obtain ⟨m, hm⟩ := k1; exact DataW.trod_lt m _ _ _ hm
  obtain ⟨X1, wy1, vy1⟩ := open_intsK Try.underlying29 Try.underlying3 (by kernel_rfl) (hval 1 29 v1 rfl rfl) h1
  clear hA0 hval0
  refine (walk W v0 X0 wy0 v1 X1 wy1 vy1).mono fun e W' ⟨he, bel⟩ => ?_
  subst he
  exact ⟨_, rfl, _, _, _, [], _, [], hW', trodAll_mk1 (shut_bool Try.underlying4 _), (trodAll_cons_mk (Below.trod laidOut (by kernel_rfl) (of_decide_eq_true (by kernel_rfl)) k0 bel.out lt0) (trodAll_cons_mk (Below.trod laidOut (by kernel_rfl) (of_decide_eq_true (by kernel_rfl)) k1 bel.out lt1) trodAll_mk0)), rfl, bel.out.frame _, fun h => by cases h⟩

theorem over : Rows.dependKeepsRow.holds Try.pinned (OpenSpec.ofChange Rows.dependKeepsSpec) :=
  OpenClaim.holds_of_wide 5 Try.f5 rfl rfl rfl rfl rfl rfl rfl ⟨rfl, rfl, rfl, rfl, rfl⟩ rfl rfl rfl rfl rfl (by kernel_rfl) Try.func5 (by kernel_rfl)
    (of_decide_eq_true (by kernel_rfl)) (by unfold Func.isWrapper; first | (rw [if_pos (by decide +kernel)]; kernel_rfl) | (rw [if_neg (by decide +kernel)]; exact ⟨rfl, rfl⟩))
    (fun os started H enc _ => lifted os started H enc)

theorem proved : Rows.DependKeepsSaid :=
  over
#print axioms proved
end Go.Proofs.Yteldmfidcnlfkaa.dependKeeps
