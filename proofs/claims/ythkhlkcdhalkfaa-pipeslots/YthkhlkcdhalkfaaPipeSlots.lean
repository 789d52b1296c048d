/-
  The law 'PipeSlots' of delayslotlaw08 returns true at all numbers: what stands in the slot of a Jmp is done; what it jumps over is not.
  Conditions: none.
-/
import Derived.Test.YthkhlkcdhalkfaaRows
import Derived.WalkKit
import Derived.ProofKit
import Derived.OpenShut
import Derived.ShutString
import Derived.ChangeOld
import Derived.Below
import Derived.Carry
import Derived.Test.YthkhlkcdhalkfaaPv
import Derived.Test.YthkhlkcdhalkfaaApp7
namespace Go.Proofs.Ythkhlkcdhalkfaa.pipeSlots
open Go.ChangeShapes Go.WideShapes Go.ChangeAt Go.RowKit
open Go.ChangeMaps (open_string shut_string)
set_option linter.unusedVariables false

theorem laidOut : laidOutB Try.prog = true := by kernel_rfl
theorem own : ownKnob Try.prog.godebug = none := by kernel_rfl
theorem code_at {w : World} {ao : Option Addr} {cap : Nat} {X : List Ins} (h : Code w (.slice ao X.length cap) X) : 0 < X.length → ∃ b o, ao = some ⟨b, o, none⟩ ∧ b < w.heap.size ∧ CodeAt w b o X := by
  obtain ⟨ao', cap', e, h⟩ := h
  cases e
  exact h
/-- A run that tells two numbers. -/
theorem two_told {W : World} {ao : Option Addr} {c : Nat} {x y : Int} (h : Ints .i64 W (.slice ao ([x, y] : List Int).length c) [x, y]) : ∃ b o, ao = some ⟨b, o, none⟩ ∧ b < W.heap.size ∧ W.cell? ⟨b, o, none⟩ = some (.int .i64 x) ∧ W.cell? ⟨b, o + 1, none⟩ = some (.int .i64 y) := by
  obtain ⟨ao', cap, e, r⟩ := h
  injection e with e1 e2 e3
  subst e1
  obtain ⟨b, o, e, hb, hc⟩ := r (by simp)
  exact ⟨b, o, e, hb, hc 0 (by simp), hc 1 (by simp)⟩
theorem own_lit (w : World) (X : List Ins) (n : Nat) (hX : X.length = n) (hn : n ≤ 1000) : (w.alloc (.cells (flatC X).toArray 34)).ownsRow w.heap.size 34 5 (.slice (some ⟨w.heap.size, 0, none⟩) n n) X.length (flatC X) := by
  subst hX
  refine ⟨flatC_len X, .inr ⟨w.heap.size, X.length, (flatC X).toArray, rfl, Nat.le_refl _, heap_alloc_new w _, Nat.le_refl _, by unfold maxLen; omega, ?_, ?_⟩⟩
  · simp [flatC_len]
  · rw [← flatC_len]; simp
def slP (n : Nat) (x : Int) (j : Nat) : List Ins := [⟨17, 0, 0, 0, (n : Int) + 2⟩, ⟨10, 4, 0, 0, x⟩] ++ List.replicate j ⟨20, 0, 0, 0, 2⟩
theorem slP_succ (n : Nat) (x : Int) (j : Nat) : slP n x (j + 1) = slP n x j ++ [⟨20, 0, 0, 0, 2⟩] := by
  unfold slP
  rw [List.replicate_succ', List.append_assoc]
theorem slP_len (n : Nat) (x : Int) (j : Nat) : (slP n x j).length = 2 + j := by simp [slP]; omega
theorem slP_all (n : Nat) (x y : Int) : slP n x n ++ [⟨20, 0, 0, 0, 2⟩, ⟨10, 4, 0, 0, y⟩, ⟨20, 0, 0, 0, 2⟩, ⟨20, 0, 0, 0, 0⟩] = slotX n x y := by unfold slP slotX; rfl
theorem slP_two (n : Nat) (x : Int) : slP n x 0 = [⟨17, 0, 0, 0, (n : Int) + 2⟩, ⟨10, 4, 0, 0, x⟩] := rfl

set_option maxRecDepth 20000 in
set_option maxHeartbeats 2000000 in
theorem walk (w : World) (x0 : Int) (wx0 : (Lit.int .u16 x0).wf = true) (x1 : Int) (wx1 : (Lit.int .u16 x1).wf = true) (x2 : Int) (wx2 : (Lit.int .u8 x2).wf = true) :
    Calls Try.prog 9 #[.int .u16 x0, .int .u16 x1, .int .u8 x2] w fun e w' => e = .returned (.bool true) ∧ Bel w w' := by
  have hv0 := wf_u16 wx0
  have hv1 := wf_u16 wx1
  have hv2 := wf_u8 wx2
  obtain ⟨n, hn⟩ : ∃ n : Nat, x2 % 51 = n := ⟨(x2 % 51).toNat, by omega⟩
  have hn50 : n ≤ 50 := by omega
  have hx : 0 ≤ x0 % 32768 ∧ x0 % 32768 ≤ 32767 := by omega
  have hy : 0 ≤ x1 % 32768 ∧ x1 % 32768 ≤ 32767 := by omega
  have HX := hidm hx
  have HY := hidm hy
  go_enter Try.func9, Try.ntmps9
  go_wp2_with fail
  generalize x0 % 32768 = X at *
  generalize x1 % 32768 = Y at *
  rw [hn]
  clear hn
  go_loopw [10, 28] (fun v i wr => ∃ j : Nat, j ≤ n ∧ i = .int .i64 j ∧ wr.ownsRow w.heap.size 34 5 v (slP n X j).length (flatC (slP n X j)) ∧ (∃ g cap, v = .slice (some ⟨g, 0, none⟩) (slP n X j).length cap) ∧ Bel w wr) (fun _ i _ => n - (intOf i).toNat)
  case atStart => exact ⟨0, Nat.zero_le _, rfl, own_lit w (slP n X 0) 2 rfl (by omega), ⟨_, _, rfl⟩, (Bel.refl w).alloc _⟩
  case round =>
    obtain ⟨j, hj, rfl, hrow, ⟨g, cap, rfl⟩, hB⟩ := hrel
    rename World => wr
    have HL := hidm (slP_len n X j)
    have hjn : j ≤ 50 := by omega
    have hbs := hB.size
    by_cases hlt : j < n
    · have hlt' : (j : Int) < n := by omega
      go_wp2_with (first
        | (at_builtin; refine append_code _ rfl (.tmp 30) (.tmp 32) rfl w.heap.size _ (slP n X j) [⟨20, 0, 0, 0, 2⟩] rfl (hrow.alloc _) ⟨g, cap, rfl⟩ (some ⟨wr.heap.size, 0, none⟩) 1 rfl (code_at (code_lit (X := [⟨20, 0, 0, 0, 2⟩]) (heap_new wr _) 1 1 rfl)) (by have := Hid.out HL; simp only [List.length_cons, List.length_nil]; omega) (by simp; omega) ?_; intro v1 w1 q1 q2 hg1; rw [← slP_succ] at q1 q2; obtain ⟨g1, cap1, rfl⟩ := q2; generalize hP : slP n X (j + 1) = P at q1 ⊢; have HP := hidm hP; clear hP))
      go_roundw
      case rel =>
        refine ⟨j + 1, by omega, by simp, ?_, ?_, (hB.alloc _).grown hg1 (fun k hk => (hrow.lt k hk).1)⟩
        · rw [Hid.out HP]; exact q1
        · rw [Hid.out HP]; exact ⟨g1, cap1, rfl⟩
      case measure => simp [intOf]; omega
    · obtain rfl : j = n := by omega
      go_wp2_with (first
        | (at_builtin; refine append_code _ rfl (.tmp 35) (.tmp 41) rfl w.heap.size _ (slP j X j) [⟨20, 0, 0, 0, 2⟩, ⟨10, 4, 0, 0, Y⟩, ⟨20, 0, 0, 0, 2⟩, ⟨20, 0, 0, 0, 0⟩] rfl (hrow.alloc _) ⟨g, cap, rfl⟩ (some ⟨wr.heap.size, 0, none⟩) 4 rfl (code_at (code_lit (X := [⟨20, 0, 0, 0, 2⟩, ⟨10, 4, 0, 0, Y⟩, ⟨20, 0, 0, 0, 2⟩, ⟨20, 0, 0, 0, 0⟩]) (heap_new wr _) 4 4 rfl)) (by have := Hid.out HL; simp only [List.length_cons, List.length_nil]; omega) (by simp; omega) ?_; intro v3 w3 q1 q2 hg3; have hXX := slP_all j X Y; generalize slP j X j ++ [⟨20, 0, 0, 0, 2⟩, ⟨10, 4, 0, 0, Y⟩, ⟨20, 0, 0, 0, 2⟩, ⟨20, 0, 0, 0, 0⟩] = XX at q1 q2 hXX ⊢; have HXX := hidm hXX; clear hXX; have HCode := hidm (code_of_own q1 q2); have lXX : XX.length ≤ 400 := (by rw [Hid.out HXX, slot_len]; omega); have B3 : Bel w w3 := (hB.alloc _).grown hg3 (fun k hk => (hrow.lt k hk).1); obtain ⟨g3, c3, rfl⟩ := q2; clear q1 hg3)
        | (go_at_call 14; refine (prun_said XX _ _ 0 50 [] _ (Hid.out HCode) (intsC_nil _) (by omega) (by omega)).mono ?_; rintro e w2 ⟨t, s, O, M, ao1, ca1, am1, cm1, hS, rfl, o1, m1, b2, lo1, lm1, lk1, lk1', fr1, fr2⟩; rw [Hid.out HXX] at hS; obtain ⟨rfl, rfl, rfl⟩ := said_slot hn50 (Hid.out HX) (Hid.out HY) hS; obtain ⟨b, o, rfl, hb, c1, c2⟩ := two_told o1; clear hS o1 m1 fr1 fr2)
        | (go_at_call 12; refine (awake_any _).mono ?_; rintro e w7 ⟨rfl, b7⟩))
      go_ret
      exact ⟨rfl, btrans ((btrans B3 b2).alloc _) b7⟩

set_option maxRecDepth 100000 in
theorem lifted (os : Os) (started : os.Started) (H : Type) (enc : TypeId × Value → H) :
    ReturnsInHanded {} Try.checked os 9 .any (Rows.pipeSlotsSpec.pre6 enc Try.prog Try.f9 Rows.pipeSlotsRow.domain false) (Rows.pipeSlotsSpec.post enc Try.prog Try.f9 false true false false) := by
  refine returnsInHanded_of_change (C := Try.checked) own started (by kernel_rfl) Try.func9
    (ChangeSpec.witness6 (enc := enc) (C := Try.checked) false ⟨#[], #[.int .u16 0, .int .u16 0, .int .u8 0], []⟩ 8 (by kernel_rfl) (by kernel_rfl) (by kernel_rfl) (by kernel_rfl)) ?_
  intro W base args ds gs before hval0 hW hcnd _
  have hval : ∀ (j : Nat) t v, Try.f9.params[j]? = some t → args[j]? = some v → Value.okWide Try.prog W .any base t v := hval0
  have hW' := hW
  obtain ⟨p, q, hA0, hV, rfl, hfz, hnd⟩ := hW
  have hA : DataW.TrodAll enc Try.prog W 0 (fun _ => true) true Try.f9.params.toList args.toList ds p := hA0
  rw [Try.params9] at hA hval
  obtain ⟨v0, vs0, d0, ds0, p0, q0, hargs, rfl, rfl, h0, r0⟩ := trodAll_cons hA
  obtain ⟨v1, vs1, d1, ds1, p1, q1, rfl, rfl, rfl, h1, r1⟩ := trodAll_cons r0
  obtain ⟨v2, vs2, d2, ds2, p2, q2, rfl, rfl, rfl, h2, r2⟩ := trodAll_cons r1
  obtain ⟨rfl, rfl, rfl⟩ := trodAll_nil r2
  obtain rfl : args = #[v0, v1, v2] := by cases args; simp_all
  obtain ⟨rfl, rfl⟩ := trodVars_none hV
  obtain ⟨x0, rfl, rfl, rfl, wx0⟩ := open_int Try.underlying37 (hval 0 37 v0 rfl rfl) h0
  obtain ⟨x1, rfl, rfl, rfl, wx1⟩ := open_int Try.underlying37 (hval 1 37 v1 rfl rfl) h1
  obtain ⟨x2, rfl, rfl, rfl, wx2⟩ := open_int Try.underlying5 (hval 2 5 v2 rfl rfl) h2
  clear hA0 hval0
  refine (walk W x0 wx0 x1 wx1 x2 wx2).mono fun e W' ⟨he, bel⟩ => ?_
  subst he
  exact ⟨_, rfl, _, _, _, [], _, [], hW', trodAll_mk1 (shut_bool Try.underlying4 _), (trodAll_cons_mk (shut_int Try.underlying37 wx0) (trodAll_cons_mk (shut_int Try.underlying37 wx1) (trodAll_cons_mk (shut_int Try.underlying5 wx2) trodAll_mk0))), rfl, bel.out.frame _, fun h => by cases h⟩

theorem over : Rows.pipeSlotsRow.holds Try.pinned (OpenSpec.ofChange Rows.pipeSlotsSpec) :=
  OpenClaim.holds_of_wide 9 Try.f9 rfl rfl rfl rfl rfl rfl rfl ⟨rfl, rfl, rfl, rfl, rfl⟩ rfl rfl rfl rfl rfl (by kernel_rfl) Try.func9 (by kernel_rfl)
    (of_decide_eq_true (by kernel_rfl)) (by unfold Func.isWrapper; first | (rw [if_pos (by decide +kernel)]; kernel_rfl) | (rw [if_neg (by decide +kernel)]; exact ⟨rfl, rfl⟩))
    (fun os started H enc _ => lifted os started H enc)

theorem proved : Rows.PipeSlotsSaid :=
  over
#print axioms proved
end Go.Proofs.Ythkhlkcdhalkfaa.pipeSlots
