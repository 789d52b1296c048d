/-
  The law 'HazardLate' of delayslotlaw12 returns true at all registers and instructions: a load is safe ahead of just those that do not read its register, of the right ones that neither go nor are late; never in a slot; always with a Nop between.
  Conditions: none.
-/
import Derived.Test.YtfhepjjebadpdaaRows
import Derived.WalkKit
import Derived.ProofKit
import Derived.OpenShut
import Derived.ShutString
import Derived.ChangeOld
import Derived.Below
import Derived.Carry
import Derived.Test.YtfhepjjebadpdaaAwk12
import Derived.Test.YtfhepjjebadpdaaRgs
namespace Go.Proofs.Ytfhepjjebadpdaa.hazardLate
open Go.ChangeShapes Go.WideShapes Go.ChangeAt Go.RowKit
open Go.ChangeMaps (open_string shut_string)
set_option linter.unusedVariables false

theorem laidOut : laidOutB Try.prog = true := by kernel_rfl
theorem own : ownKnob Try.prog.godebug = none := by kernel_rfl
theorem cells31 : Try.prog.cellsOf 31 = 5 := by kernel_rfl

set_option maxRecDepth 20000 in
set_option maxHeartbeats 2000000 in
theorem walk (w : World) (x0 : Int) (wx0 : (Lit.int .u8 x0).wf = true) (o1 a1 b1 c1 i1 : Int) (wo1 : (Lit.int .i64 o1).wf = true) (wa1 : (Lit.int .i64 a1).wf = true) (wb1 : (Lit.int .i64 b1).wf = true) (wc1 : (Lit.int .i64 c1).wf = true) (wi1 : (Lit.int .i64 i1).wf = true) :
    Calls Try.prog 7 #[.int .u8 x0, .agg #[.int .i64 o1, .int .i64 a1, .int .i64 b1, .int .i64 c1, .int .i64 i1]] w fun e w' => e = .returned (.bool true) ∧ Bel w w' := by
  have hv := wf_u8 wx0
  have hn : 0 ≤ x0 % 32 ∧ x0 % 32 ≤ 31 := by omega
  have hri : ∀ ww, Calls Try.prog 15 #[.agg #[.int .i64 o1, .int .i64 a1, .int .i64 b1, .int .i64 c1, .int .i64 i1]] ww fun e w' => e = .returned (.bool (Ins.mk o1 a1 b1 c1 i1).right) ∧ Bel ww w' := fun ww => ret_right (x := ⟨o1, a1, b1, c1, i1⟩) ww
  have hgo : ∀ ww, Calls Try.prog 13 #[.agg #[.int .i64 o1, .int .i64 a1, .int .i64 b1, .int .i64 c1, .int .i64 i1]] ww fun e w' => e = .returned (.bool (Ins.mk o1 a1 b1 c1 i1).goes) ∧ Bel ww w' := fun ww => ret_goes (x := ⟨o1, a1, b1, c1, i1⟩) ww
  have hla : ∀ ww, Calls Try.prog 14 #[.agg #[.int .i64 o1, .int .i64 a1, .int .i64 b1, .int .i64 c1, .int .i64 i1]] ww fun e w' => e = .returned (.bool (Ins.mk o1 a1 b1 c1 i1).late) ∧ Bel ww w' := fun ww => ret_late (x := ⟨o1, a1, b1, c1, i1⟩) ww
  have hrd : ∀ ww, Calls Try.prog 16 #[.agg #[.int .i64 o1, .int .i64 a1, .int .i64 b1, .int .i64 c1, .int .i64 i1], .int .i64 (x0 % 32)] ww fun e w' => e = .returned (.bool ((Ins.mk o1 a1 b1 c1 i1).rds (x0 % 32))) ∧ Bel ww w' := fun ww => ret_rds (x := ⟨o1, a1, b1, c1, i1⟩) ww
  have S2 := fun v ww hv => safe_any [loadX (x0 % 32), ⟨o1, a1, b1, c1, i1⟩] v ww (by simp) hv
  have S3 := fun v ww hv => safe_any [⟨17, 0, 0, 0, 0⟩, loadX (x0 % 32), ⟨o1, a1, b1, c1, i1⟩] v ww (by simp) hv
  have S4 := fun v ww hv => safe_any [loadX (x0 % 32), Ins.zero, ⟨o1, a1, b1, c1, i1⟩] v ww (by simp) hv
  have E3 := late_slot hn.1 hn.2 ⟨o1, a1, b1, c1, i1⟩
  have E2 := @late_two (x0 % 32) hn.1 hn.2 ⟨o1, a1, b1, c1, i1⟩
  have E4 := @late_nop (x0 % 32) hn.1 hn.2 ⟨o1, a1, b1, c1, i1⟩
  generalize (Ins.mk o1 a1 b1 c1 i1).right = r at hri E2 E4
  generalize (Ins.mk o1 a1 b1 c1 i1).goes = g at hgo E2 E4
  generalize (Ins.mk o1 a1 b1 c1 i1).late = l at hla E2 E4
  generalize (Ins.mk o1 a1 b1 c1 i1).rds (x0 % 32) = rd at hrd E2
  have four : (r = false) ∨ (r = true ∧ g = true) ∨ (r = true ∧ g = false ∧ l = true) ∨ (r = true ∧ g = false ∧ l = false) := by
    cases r <;> cases g <;> cases l <;> simp
  have F := hidm four
  rw [E3] at S3
  have hB : Bel w ((w.alloc (Obj.cells #[.int .i64 o1, .int .i64 a1, .int .i64 b1, .int .i64 c1, .int .i64 i1] 31)).alloc (Obj.cells #[.int .i64 12, .int .i64 (x0 % 32), .int .i64 0, .int .i64 0, .int .i64 0] 31)) := ((Bel.refl w).alloc _).alloc _
  have hx0 : ((w.alloc (Obj.cells #[.int .i64 o1, .int .i64 a1, .int .i64 b1, .int .i64 c1, .int .i64 i1] 31)).alloc (Obj.cells #[.int .i64 12, .int .i64 (x0 % 32), .int .i64 0, .int .i64 0, .int .i64 0] 31)).heap[w.heap.size]? = some (Obj.cells #[.int .i64 o1, .int .i64 a1, .int .i64 b1, .int .i64 c1, .int .i64 i1] 31) := heap_old (heap_new _ _)
  have hx1 : ((w.alloc (Obj.cells #[.int .i64 o1, .int .i64 a1, .int .i64 b1, .int .i64 c1, .int .i64 i1] 31)).alloc (Obj.cells #[.int .i64 12, .int .i64 (x0 % 32), .int .i64 0, .int .i64 0, .int .i64 0] 31)).heap[w.heap.size + 1]? = some (Obj.cells #[.int .i64 12, .int .i64 (x0 % 32), .int .i64 0, .int .i64 0, .int .i64 0] 31) := by
    have := heap_new (w.alloc (Obj.cells #[.int .i64 o1, .int .i64 a1, .int .i64 b1, .int .i64 c1, .int .i64 i1] 31)) (Obj.cells #[.int .i64 12, .int .i64 (x0 % 32), .int .i64 0, .int .i64 0, .int .i64 0] 31)
    rw [World.size_alloc] at this
    exact this
  have z0 := lt_of_heap hx0
  have z1 := lt_of_heap hx1
  have p0 := later_cell (cell_of hx0 0) z0
  have p1 := later_cell (cell_of hx0 1) z0
  have p2 := later_cell (cell_of hx0 2) z0
  have p3 := later_cell (cell_of hx0 3) z0
  have p4 := later_cell (cell_of hx0 4) z0
  have q0 := later_cell (cell_of hx1 0) z1
  have q1 := later_cell (cell_of hx1 1) z1
  have q2 := later_cell (cell_of hx1 2) z1
  have q3 := later_cell (cell_of hx1 3) z1
  have q4 := later_cell (cell_of hx1 4) z1
  have Z0 := later_size z0
  have Z1 := later_size z1
  clear hx0 hx1 z0 z1 four E3
  go_enter Try.func7, Try.ntmps7
  go_wp2_with (go_at_call 15; refine Hid.out ?_)
  generalize ((w.alloc (Obj.cells #[.int .i64 o1, .int .i64 a1, .int .i64 b1, .int .i64 c1, .int .i64 i1] 31)).alloc (Obj.cells #[.int .i64 12, .int .i64 (x0 % 32), .int .i64 0, .int .i64 0, .int .i64 0] 31)) = wB at hB p0 p1 p2 p3 p4 q0 q1 q2 q3 q4 Z0 Z1 ⊢
  haveI := Later.ne wB
  obtain ⟨u1, e1⟩ := later_start wB
  rw [← e1]
  clear e1
  refine hidm ?_
  rcases F.out with rfl | ⟨rfl, rfl⟩ | ⟨rfl, rfl, rfl⟩ | ⟨rfl, rfl, rfl⟩
  case inr.inr.inr =>
    have E2' := E2 rfl rfl rfl
    have E4' := E4 rfl rfl rfl
    rw [E2'] at S2
    rw [E4'] at S4
    clear E2 E4 E2' E4' F
    cases rd
    all_goals
      go_wp2_with (first
        | (go_at_call 15; refine (later_of (hri _)).mono ?_; rintro e _ ⟨rfl, u2, rfl⟩)
        | (go_at_call 13; refine (later_of (hgo _)).mono ?_; rintro e _ ⟨rfl, u3, rfl⟩)
        | (go_at_call 14; refine (later_of (hla _)).mono ?_; rintro e _ ⟨rfl, u4, rfl⟩)
        | (go_at_call 16; refine (later_of (hrd _)).mono ?_; rintro e _ ⟨rfl, u8, rfl⟩)
        | (have q := t6; go_at_call 12; refine (S4 _ _ (code_lit (X := [⟨12, x0 % 32, 0, 0, 0⟩, ⟨0, 0, 0, 0, 0⟩, ⟨o1, a1, b1, c1, i1⟩]) (heap_new _ _) 3 3 rfl)).mono ?_; rintro e _ ⟨rfl, g7⟩; obtain ⟨u7, rfl⟩ := later_next (btrans ((Bel.refl _).alloc _) g7))
        | (have q := t5; go_at_call 12; refine (S3 _ _ (code_lit (X := [⟨17, 0, 0, 0, 0⟩, ⟨12, x0 % 32, 0, 0, 0⟩, ⟨o1, a1, b1, c1, i1⟩]) (heap_new _ _) 3 3 rfl)).mono ?_; rintro e _ ⟨rfl, g6⟩; obtain ⟨u6, rfl⟩ := later_next (btrans ((Bel.refl _).alloc _) g6); have t6 : Hid True := True.intro)
        | (go_at_call 12; refine (S2 _ _ (code_lit (X := [⟨12, x0 % 32, 0, 0, 0⟩, ⟨o1, a1, b1, c1, i1⟩]) (heap_new _ _) 2 2 rfl)).mono ?_; rintro e _ ⟨rfl, g5⟩; obtain ⟨u5, rfl⟩ := later_next (btrans ((Bel.refl _).alloc _) g5); have t5 : Hid True := True.intro)
        | (go_at_call 8; refine (later_of (awake_any _)).mono ?_; rintro e _ ⟨rfl, u9, rfl⟩))
      go_ret
      exact ⟨rfl, btrans hB (Later.is_ _)⟩
  all_goals
    clear E2 E4 S2 S3 S4 F hrd
    go_wp2_with (first
      | (go_at_call 15; refine (later_of (hri _)).mono ?_; rintro e _ ⟨rfl, u2, rfl⟩)
      | (go_at_call 13; refine (later_of (hgo _)).mono ?_; rintro e _ ⟨rfl, u3, rfl⟩)
      | (go_at_call 14; refine (later_of (hla _)).mono ?_; rintro e _ ⟨rfl, u4, rfl⟩)
      | (go_at_call 8; refine (later_of (awake_any _)).mono ?_; rintro e _ ⟨rfl, u9, rfl⟩))
    go_ret
    exact ⟨rfl, btrans hB (Later.is_ _)⟩

set_option maxRecDepth 100000 in
theorem lifted (os : Os) (started : os.Started) (H : Type) (enc : TypeId × Value → H) :
    ReturnsInHanded {} Try.checked os 7 .any (Rows.hazardLateSpec.pre6 enc Try.prog Try.f7 Rows.hazardLateRow.domain false) (Rows.hazardLateSpec.post enc Try.prog Try.f7 false true false false) := by
  refine returnsInHanded_of_change (C := Try.checked) own started (by kernel_rfl) Try.func7
    (ChangeSpec.witness6 (enc := enc) (C := Try.checked) false ⟨#[], #[.int .u8 0, .agg #[.int .i64 0, .int .i64 0, .int .i64 0, .int .i64 0, .int .i64 0]], []⟩ 8 (by kernel_rfl) (by kernel_rfl) (by kernel_rfl) (by kernel_rfl)) ?_
  intro W base args ds gs before hval0 hW hcnd _
  have hval : ∀ (j : Nat) t v, Try.f7.params[j]? = some t → args[j]? = some v → Value.okWide Try.prog W .any base t v := hval0
  have hW' := hW
  obtain ⟨p, q, hA0, hV, rfl, hfz, hnd⟩ := hW
  have hA : DataW.TrodAll enc Try.prog W 0 (fun _ => true) true Try.f7.params.toList args.toList ds p := hA0
  rw [Try.params7] at hA hval
  obtain ⟨v0, vs0, d0, ds0, p0, q0, hargs, rfl, rfl, h0, r0⟩ := trodAll_cons hA
  obtain ⟨v1, vs1, d1, ds1, p1, q1, rfl, rfl, rfl, h1, r1⟩ := trodAll_cons r0
  obtain ⟨rfl, rfl, rfl⟩ := trodAll_nil r1
  obtain rfl : args = #[v0, v1] := by cases args; simp_all
  obtain ⟨rfl, rfl⟩ := trodVars_none hV
  obtain ⟨x0, rfl, rfl, rfl, wx0⟩ := open_int Try.underlying5 (hval 0 5 v0 rfl rfl) h0
  obtain ⟨o1, a1, b1, c1, i1, rfl, rfl, rfl, wo1, wa1, wb1, wc1, wi1⟩ := open_agg5i Try.underlying31 (by kernel_rfl) cells31 Try.underlying3 rfl rfl rfl rfl rfl (hval 1 31 v1 rfl rfl) h1
  clear hA0 hval0
  refine (walk W x0 wx0 o1 a1 b1 c1 i1 wo1 wa1 wb1 wc1 wi1).mono fun e W' ⟨he, bel⟩ => ?_
  subst he
  exact ⟨_, rfl, _, _, _, [], _, [], hW', trodAll_mk1 (shut_bool Try.underlying4 _), (trodAll_cons_mk (shut_int Try.underlying5 wx0) (trodAll_cons_mk (shut_agg5i Try.underlying31 (by kernel_rfl) cells31 Try.underlying3 rfl rfl rfl rfl rfl wo1 wa1 wb1 wc1 wi1) trodAll_mk0)), rfl, bel.out.frame _, fun h => by cases h⟩

theorem over : Rows.hazardLateRow.holds Try.pinned (OpenSpec.ofChange Rows.hazardLateSpec) :=
  OpenClaim.holds_of_wide 7 Try.f7 rfl rfl rfl rfl rfl rfl rfl ⟨rfl, rfl, rfl, rfl, rfl⟩ rfl rfl rfl rfl rfl (by kernel_rfl) Try.func7 (by kernel_rfl)
    (of_decide_eq_true (by kernel_rfl)) (by unfold Func.isWrapper; first | (rw [if_pos (by decide +kernel)]; kernel_rfl) | (rw [if_neg (by decide +kernel)]; exact ⟨rfl, rfl⟩))
    (fun os started H enc _ => lifted os started H enc)

theorem proved : Rows.HazardLateSaid :=
  over
#print axioms proved
end Go.Proofs.Ytfhepjjebadpdaa.hazardLate
