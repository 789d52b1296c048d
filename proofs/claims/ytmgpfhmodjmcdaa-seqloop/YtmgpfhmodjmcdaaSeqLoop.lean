/-
  The law 'SeqLoop' of delayslotlaw07 returns true at every number: a loop that adds the numbers from n down to 1 tells their sum, in three steps a round, and three more.
  Conditions: none.
-/
import Derived.Test.YtmgpfhmodjmcdaaRows
import Derived.WalkKit
import Derived.ProofKit
import Derived.OpenShut
import Derived.ShutString
import Derived.ChangeOld
import Derived.Below
import Derived.Carry
import Derived.Test.YtmgpfhmodjmcdaaSl8
import Derived.Test.YtmgpfhmodjmcdaaAwk7
namespace Go.Proofs.Ytmgpfhmodjmcdaa.seqLoop
open Go.ChangeShapes Go.WideShapes Go.ChangeAt Go.RowKit
open Go.ChangeMaps (open_string shut_string)
set_option linter.unusedVariables false

theorem laidOut : laidOutB Try.prog = true := by kernel_rfl
theorem own : ownKnob Try.prog.godebug = none := by kernel_rfl
theorem run_loop (m : Nat) (v : Value) (W : World) (hv : Code W v (loopX (1 + (m : Int)))) (hm : m < 100) :
    Calls Try.prog 16 #[v, .int .i64 0, .slice none 0 0, .int .i64 1000] W fun e W' => ∃ (b o ca : Nat) (am : Option Addr) (nm cm : Nat), e = .returned (.agg #[.int .i64 1, .int .i64 (3 * (1 + (m : Int)) + 3), .slice (some ⟨b, o, none⟩) 1 ca, .slice am nm cm]) ∧ W'.cell? ⟨b, o, none⟩ = some (.int .i64 ((1 + (m : Int)) * (1 + m + 1) / 2)) ∧ b < W'.heap.size ∧ Bel W W' := by
  have e0 : (1 + (m : Int)) = ((m + 1 : Nat) : Int) := by omega
  rw [e0] at hv
  refine (run_said (loopX ((m + 1 : Nat) : Int)) v (.slice none 0 0) 0 1000 [] W hv (intsC_nil W) (by simp [loopX]) (by omega)).mono ?_
  rintro e W' ⟨t, k, O, M, ao, ca, am, cm, hS, rfl, ho, _, hB, _⟩
  obtain ⟨rfl, rfl, rfl⟩ := said_loop (by omega) (by omega) hS
  obtain ⟨ao', ca', e, hc⟩ := ho
  obtain ⟨b, o, rfl, hb, hcell⟩ := hc (by simp)
  injection e with e4 e5 e6
  subst e4
  refine ⟨b, o, ca, am, M.length, cm, ?_, (hcell 0 (by simp)).trans ?_, hb, hB⟩
  · rw [show (3 * (1 + (m : Int)) + 3) = ((3 * (m + 1) + 3 : Nat) : Int) by omega]
    rfl
  · show some (Value.int .i64 (((m + 1) * (m + 1 + 1) / 2 : Nat) : Int)) = _
    rw [e0]
    norm_cast

set_option maxRecDepth 20000 in
set_option maxHeartbeats 2000000 in
theorem walk (w : World) (x0 : Int) (wx0 : (Lit.int .u8 x0).wf = true) :
    Calls Try.prog 12 #[.int .u8 x0] w fun e w' => e = .returned (.bool true) ∧ Bel w w' := by
  have hb := wf_u8 wx0
  obtain ⟨m, hm⟩ : ∃ m : Nat, x0 % 100 = m := ⟨(x0 % 100).toNat, by omega⟩
  have hm2 : m < 100 := by omega
  have hp : 0 ≤ (1 + (m : Int)) * (1 + m + 1) ∧ (1 + (m : Int)) * (1 + m + 1) ≤ 10100 := by
    have h1 : (1 + (m : Int)) * (1 + m + 1) ≤ 100 * 101 := Int.mul_le_mul (by omega) (by omega) (by omega) (by omega)
    have h2 : 0 ≤ (1 + (m : Int)) * (1 + m + 1) := Int.mul_nonneg (by omega) (by omega)
    omega
  obtain ⟨hp1, hp2⟩ := hp
  go_enter Try.func12, Try.ntmps12
  go_wp2_with (first
    | (go_at_call 16; refine (run_loop m _ _ (code_lit (X := loopX (1 + (m : Int))) (heap_new w _) 6 6 rfl) hm2).mono ?_; rintro e w2 ⟨b, o, ca, am, nm, cm, rfl, hc, hbl, hB⟩)
    | (go_at_call 14; refine (awake_any _).mono ?_; rintro e w4 ⟨rfl, b4⟩))
  go_ret
  exact ⟨rfl, btrans ((btrans ((Bel.refl w).alloc _) hB).alloc _) b4⟩

set_option maxRecDepth 100000 in
theorem lifted (os : Os) (started : os.Started) (H : Type) (enc : TypeId × Value → H) :
    ReturnsInHanded {} Try.checked os 12 .any (Rows.seqLoopSpec.pre6 enc Try.prog Try.f12 Rows.seqLoopRow.domain false) (Rows.seqLoopSpec.post enc Try.prog Try.f12 false true false false) := by
  refine returnsInHanded_of_change (C := Try.checked) own started (by kernel_rfl) Try.func12
    (ChangeSpec.witness6 (enc := enc) (C := Try.checked) false ⟨#[], #[.int .u8 0], []⟩ 8 (by kernel_rfl) (by kernel_rfl) (by kernel_rfl) (by kernel_rfl)) ?_
  intro W base args ds gs before hval0 hW hcnd _
  have hval : ∀ (j : Nat) t v, Try.f12.params[j]? = some t → args[j]? = some v → Value.okWide Try.prog W .any base t v := hval0
  have hW' := hW
  obtain ⟨p, q, hA0, hV, rfl, hfz, hnd⟩ := hW
  have hA : DataW.TrodAll enc Try.prog W 0 (fun _ => true) true Try.f12.params.toList args.toList ds p := hA0
  rw [Try.params12] at hA hval
  obtain ⟨v0, vs0, d0, ds0, p0, q0, hargs, rfl, rfl, h0, r0⟩ := trodAll_cons hA
  obtain ⟨rfl, rfl, rfl⟩ := trodAll_nil r0
  obtain rfl : args = #[v0] := by cases args; simp_all
  obtain ⟨rfl, rfl⟩ := trodVars_none hV
  obtain ⟨x0, rfl, rfl, rfl, wx0⟩ := open_int Try.underlying5 (hval 0 5 v0 rfl rfl) h0
  clear hA0 hval0
  refine (walk W x0 wx0).mono fun e W' ⟨he, bel⟩ => ?_
  subst he
  exact ⟨_, rfl, _, _, _, [], _, [], hW', trodAll_mk1 (shut_bool Try.underlying4 _), (trodAll_cons_mk (shut_int Try.underlying5 wx0) trodAll_mk0), rfl, bel.out.frame _, fun h => by cases h⟩

theorem over : Rows.seqLoopRow.holds Try.pinned (OpenSpec.ofChange Rows.seqLoopSpec) :=
  OpenClaim.holds_of_wide 12 Try.f12 rfl rfl rfl rfl rfl rfl rfl ⟨rfl, rfl, rfl, rfl, rfl⟩ rfl rfl rfl rfl rfl (by kernel_rfl) Try.func12 (by kernel_rfl)
    (of_decide_eq_true (by kernel_rfl)) (by unfold Func.isWrapper; first | (rw [if_pos (by decide +kernel)]; kernel_rfl) | (rw [if_neg (by decide +kernel)]; exact ⟨rfl, rfl⟩))
    (fun os started H enc _ => lifted os started H enc)

theorem proved : Rows.SeqLoopSaid :=
  over
#print axioms proved
end Go.Proofs.Ytmgpfhmodjmcdaa.seqLoop
