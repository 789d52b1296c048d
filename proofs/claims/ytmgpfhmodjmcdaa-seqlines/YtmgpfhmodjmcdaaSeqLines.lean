/-
  The law 'SeqLines' of delayslotlaw07 returns true at all code: code that only reckons runs to its end, and stops by Fetch, one step behind.
  Conditions: none.
-/
import Derived.Test.YtmgpfhmodjmcdaaRows
import Derived.WalkKit
import Derived.ProofKit
import Derived.OpenShut
import Derived.ShutString
import Derived.ChangeOld
import Derived.Below
import Derived.Carry
import Derived.Test.YtmgpfhmodjmcdaaSl7
import Derived.Test.YtmgpfhmodjmcdaaAwk7
namespace Go.Proofs.Ytmgpfhmodjmcdaa.seqLines
open Go.ChangeShapes Go.WideShapes Go.ChangeAt Go.RowKit
open Go.ChangeMaps (open_string shut_string)
set_option linter.unusedVariables false

theorem laidOut : laidOutB Try.prog = true := by kernel_rfl
theorem own : ownKnob Try.prog.godebug = none := by kernel_rfl
def goodB (x : Ins) : Prop := x.o ≤ 11 ∧ x.o ≠ 4 ∧ x.o ≠ 5
theorem good_all {X : List Ins} (h : ∀ i, i < X.length → goodB (X.getD i Ins.zero)) : ∀ x ∈ X, x.o ≤ 11 ∧ x.o ≠ 4 ∧ x.o ≠ 5 := by
  intro x hx
  obtain ⟨i, hi, rfl⟩ := List.getElem_of_mem hx
  have := h i hi
  rw [show X.getD i Ins.zero = X[i] by simp [List.getD, hi]] at this
  exact this
theorem run_lines (X : List Ins) (v : Value) (W : World) (hv : Code W v X) (hX : ∀ x ∈ X, x.o ≤ 11 ∧ x.o ≠ 4 ∧ x.o ≠ 5) (hl : X.length ≤ 200) :
    Calls Try.prog 16 #[v, .int .i64 10, .slice none 0 0, .int .i64 1000] W fun e W' => ∃ (t : Int) (k : Nat) (ao : Option Addr) (no ca : Nat) (am : Option Addr) (nm cm : Nat), e = .returned (.agg #[.int .i64 t, .int .i64 (k : Int), .slice ao no ca, .slice am nm cm]) ∧ ((t = 8 ∧ k ≤ X.length) ∨ (t = 2 ∧ k = X.length + 1 ∧ no = 0 ∧ nm = 0)) ∧ no ≤ 10000 ∧ nm ≤ 32000 ∧ Bel W W' := by
  refine (run_said X v (.slice none 0 0) 10 1000 [] W hv (intsC_nil W) (by omega) (by omega)).mono ?_
  rintro e W' ⟨t, k, O, M, ao, ca, am, cm, hS, rfl, _, _, hB, h1, h2, _⟩
  refine ⟨t, k, ao, _, ca, am, _, cm, rfl, ?_, h1, h2, hB⟩
  rcases said_lines (f := 0) hX hl hS with h | ⟨r1, r2, rfl, rfl⟩
  · exact .inl h
  · exact .inr ⟨r1, r2, rfl, rfl⟩

set_option maxRecDepth 20000 in
set_option maxHeartbeats 2000000 in
theorem walk (w : World) (y0 : Value) (X0 : List Ins) (wy0 : Code w y0 X0) :
    Calls Try.prog 5 #[y0] w fun e w' => e = .returned (.bool true) ∧ Bel w w' := by
  obtain ⟨ao, cap, rfl, hc0⟩ := id wy0
  have HV := hidm wy0
  clear wy0
  go_enter Try.func5, Try.ntmps5
  go_wp2_with fail
  go_loopw [8] (fun i wr => ∃ j : Nat, j ≤ X0.length ∧ i = .int .i64 j ∧ Hid (∀ i, i < j → goodB (X0.getD i Ins.zero)) ∧ (0 < j → X0.length ≤ 200) ∧ Bel w wr) (fun i _ => X0.length - (intOf i).toNat)
  case atStart => exact ⟨0, Nat.zero_le _, rfl, hidm (fun i hi => absurd hi (Nat.not_lt_zero i)), fun h => absurd h (Nat.lt_irrefl 0), Bel.refl _⟩
  case round =>
    obtain ⟨j, hj, rfl, hin, hl, hB⟩ := hrel
    rename World => wr
    by_cases hlt : j < X0.length
    · obtain ⟨bc, oc, rfl, hbc, hca⟩ := hc0 (by omega)
      obtain ⟨a0, a1, a2, a3, a4⟩ := (hca.stay hbc hB) j hlt
      have hin2 : goodB (X0.getD j Ins.zero) → Hid (∀ i, i < j + 1 → goodB (X0.getD i Ins.zero)) := fun hg => hidm (fun i hi => by
        rcases Nat.lt_or_ge i j with h | h
        · exact hin.out i h
        · obtain rfl : i = j := by omega
          exact hg)
      generalize hx : X0.getD j Ins.zero = x at a0 a1 a2 a3 a4 hin2
      clear hca hc0 hx hin
      have hlt' : (j : Int) < X0.length := by omega
      by_cases g1 : 11 < x.o
      · go_wp2_with (go_at_call 14; refine (awake_any _).mono ?_; rintro e w4 ⟨rfl, b4⟩)
        go_ret
        exact ⟨rfl, btrans (hB.alloc _) b4⟩
      by_cases g2 : x.o = 4
      · have g2' : (x.o == 4) = true := by simpa using g2
        clear g2 hin2 g1
        have g1' : decide (11 < x.o) = false := by
          have := beq_iff_eq.1 g2'
          rw [this]; decide
        go_wp2_with (go_at_call 14; refine (awake_any _).mono ?_; rintro e w4 ⟨rfl, b4⟩)
        go_ret
        exact ⟨rfl, btrans (hB.alloc _) b4⟩
      have g2' : (x.o == 4) = false := by simpa using g2
      by_cases g3 : x.o = 5
      · have g3' : (x.o == 5) = true := by simpa using g3
        clear g3 g2 hin2 g1
        have g1' : decide (11 < x.o) = false := by
          have := beq_iff_eq.1 g3'
          rw [this]; decide
        go_wp2_with (go_at_call 14; refine (awake_any _).mono ?_; rintro e w4 ⟨rfl, b4⟩)
        go_ret
        exact ⟨rfl, btrans (hB.alloc _) b4⟩
      have g3' : (x.o == 5) = false := by simpa using g3
      have HG := hin2 ⟨by omega, g2, g3⟩
      clear g2 g3 hin2
      by_cases g4 : 200 < X0.length
      · have g4' : (200 : Int) < X0.length := by omega
        go_wp2_with (go_at_call 14; refine (awake_any _).mono ?_; rintro e w4 ⟨rfl, b4⟩)
        go_ret
        exact ⟨rfl, btrans (hB.alloc _) b4⟩
      · have g4' : ¬ ((200 : Int) < X0.length) := by omega
        go_wp2
        go_roundw
        case rel => exact ⟨j + 1, by omega, by simp, HG, fun _ => by omega, hB.alloc _⟩
        case measure => simp [intOf]; omega
    · obtain rfl : j = X0.length := by omega
      have hl2 : X0.length ≤ 200 := by
        rcases Nat.eq_zero_or_pos X0.length with h | h
        · omega
        · exact hl h
      have HR := hidm (run_lines X0 (.slice ao X0.length cap) wr ((Hid.out HV).stay hB) (good_all hin.out) hl2)
      clear hc0 hin HV hl
      go_wp2_with (first
        | (go_at_call 16; refine (Hid.out HR).mono ?_; rintro e w2 ⟨t, k, ao1, no, ca1, am1, nm, cm1, rfl, hcase, lo, lm, b2⟩; refine Hid.out ?_))
      rcases hcase with ⟨rfl, hk⟩ | ⟨rfl, rfl, rfl, rfl⟩
      · have hk' : (k : Int) ≤ X0.length := by omega
        refine hidm ?_
        go_wp2_with (go_at_call 14; refine (awake_any _).mono ?_; rintro e w4 ⟨rfl, b4⟩)
        go_ret
        exact ⟨rfl, btrans ((btrans hB b2).alloc _) b4⟩
      · refine hidm ?_
        go_wp2_with (go_at_call 14; refine (awake_any _).mono ?_; rintro e w4 ⟨rfl, b4⟩)
        go_ret
        exact ⟨rfl, btrans ((btrans hB b2).alloc _) b4⟩

set_option maxRecDepth 100000 in
theorem lifted (os : Os) (started : os.Started) (H : Type) (enc : TypeId × Value → H) :
    ReturnsInHanded {} Try.checked os 5 .any (Rows.seqLinesSpec.pre6 enc Try.prog Try.f5 Rows.seqLinesRow.domain false) (Rows.seqLinesSpec.post enc Try.prog Try.f5 false true false false) := by
  refine returnsInHanded_of_change (C := Try.checked) own started (by kernel_rfl) Try.func5
    (ChangeSpec.witness6 (enc := enc) (C := Try.checked) false ⟨#[], #[.slice none 0 0], []⟩ 8 (by kernel_rfl) (by kernel_rfl) (by kernel_rfl) (by kernel_rfl)) ?_
  intro W base args ds gs before hval0 hW hcnd _
  have hval : ∀ (j : Nat) t v, Try.f5.params[j]? = some t → args[j]? = some v → Value.okWide Try.prog W .any base t v := hval0
  have hW' := hW
  obtain ⟨p, q, hA0, hV, rfl, hfz, hnd⟩ := hW
  have hA : DataW.TrodAll enc Try.prog W 0 (fun _ => true) true Try.f5.params.toList args.toList ds p := hA0
  rw [Try.params5] at hA hval
  obtain ⟨v0, vs0, d0, ds0, p0, q0, hargs, rfl, rfl, h0, r0⟩ := trodAll_cons hA
  obtain ⟨rfl, rfl, rfl⟩ := trodAll_nil r0
  obtain rfl : args = #[v0] := by cases args; simp_all
  obtain ⟨rfl, rfl⟩ := trodVars_none hV
  have k0 := h0
  have lt0 : ∀ x ∈ p0, x.block < W.heap.size := by obtain ⟨m, hm⟩ := k0; exact DataW.trod_lt m _ _ _ hm
  obtain ⟨X0, wy0⟩ := open_code (hval 0 22 v0 rfl rfl) h0
  clear hA0 hval0
  refine (walk W v0 X0 wy0).mono fun e W' ⟨he, bel⟩ => ?_
  subst he
  exact ⟨_, rfl, _, _, _, [], _, [], hW', trodAll_mk1 (shut_bool Try.underlying4 _), (trodAll_cons_mk (Below.trod laidOut (by kernel_rfl) (of_decide_eq_true (by kernel_rfl)) k0 bel.out lt0) trodAll_mk0), rfl, bel.out.frame _, fun h => by cases h⟩

theorem over : Rows.seqLinesRow.holds Try.pinned (OpenSpec.ofChange Rows.seqLinesSpec) :=
  OpenClaim.holds_of_wide 5 Try.f5 rfl rfl rfl rfl rfl rfl rfl ⟨rfl, rfl, rfl, rfl, rfl⟩ rfl rfl rfl rfl rfl (by kernel_rfl) Try.func5 (by kernel_rfl)
    (of_decide_eq_true (by kernel_rfl)) (by unfold Func.isWrapper; first | (rw [if_pos (by decide +kernel)]; kernel_rfl) | (rw [if_neg (by decide +kernel)]; exact ⟨rfl, rfl⟩))
    (fun os started H enc _ => lifted os started H enc)

theorem proved : Rows.SeqLinesSaid :=
  over
#print axioms proved
end Go.Proofs.Ytmgpfhmodjmcdaa.seqLines
