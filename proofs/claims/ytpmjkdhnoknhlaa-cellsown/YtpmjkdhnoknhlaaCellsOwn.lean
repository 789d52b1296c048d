/-
  CellsOwn: a list that was told of a memory does not turn.
  Conditions: none.
-/
import Derived.Test.YtpmjkdhnoknhlaaRows
import Derived.WalkKit
import Derived.ProofKit
import Derived.OpenShut
import Derived.ShutString
import Derived.ChangeOld
import Derived.Below
import Derived.Carry
import Derived.Test.YtpmjkdhnoknhlaaAwk6
namespace Go.Proofs.Ytpmjkdhnoknhlaa.cellsOwn
open Go.ChangeShapes Go.WideShapes Go.ChangeAt Go.RowKit
open Go.ChangeMaps (open_string shut_string)
set_option linter.unusedVariables false

theorem laidOut : laidOutB Try.prog = true := by kernel_rfl
theorem own : ownKnob Try.prog.godebug = none := by kernel_rfl

set_option maxRecDepth 20000 in
set_option maxHeartbeats 2000000 in
theorem walk (w : World) (x0 : Int) (wx0 : (Lit.int .u16 x0).wf = true) (x1 : Int) (wx1 : (Lit.int .i64 x1).wf = true) (x2 : Int) (wx2 : (Lit.int .i32 x2).wf = true) :
    Calls Try.prog 7 #[.int .u16 x0, .int .i64 x1, .int .i32 x2] w fun e w' => e = .returned (.bool true) ∧ Bel w w' := by
  have hx0 := wf_u16 wx0
  have hx1 := wf_i64 wx1
  have hx2 := wf_i32 wx2
  obtain ⟨n, hn⟩ : ∃ n : Nat, x0 % 300 = n := ⟨(x0 % 300).toNat, by omega⟩
  have hn300 : n < 300 := by omega
  have hL : (List.replicate (n + 1) (0 : Int)).length = n + 1 := List.length_replicate
  have hR0 : Hid (∀ k : Nat, (List.replicate (n + 1) (0 : Int))[k]?.getD 0 = 0) := fun k => by
    rw [List.getElem?_replicate]; split <;> rfl
  have hnew := fun W => new_any (1 + n) (n + 1) (by omega) (by omega) W
  generalize List.replicate (n + 1) (0 : Int) = L at hL hR0 hnew
  have HN : Hid (∀ W, Calls Try.prog 10 #[.int .i64 (1 + (n : Int))] W fun e w' => e = .returned (.pointer (some ⟨W.heap.size + 1, 0, none⟩)) ∧ IsM W.heap.size w' (W.heap.size + 1) W.heap.size L ∧ Bel W w') := hnew
  clear hnew
  have hw32 := w32_id x2 (by omega) (by omega)
  have HW : Hid (wrap32 x2 = x2) := hw32
  clear hw32
  have HL : Hid (L.length = n + 1) := hL
  have hle : L.length ≤ 32000 := by omega
  rcases (show (x1 < 0 ∨ (L.length : Int) ≤ x1) ∨ (0 ≤ x1 ∧ x1 < L.length) from by omega) with hat | ⟨hat0, hat1⟩
  · clear hL
    go_enter Try.func7, Try.ntmps7
    go_wp2_with (first
      | (go_at_call 11; refine (store_out m2 x1 _ hat).mono ?_; rintro e w3 ⟨rfl, e3⟩; subst e3)
      | (go_at_call 16; refine (words_any m1 hle).mono ?_; rintro e w2 ⟨v2, rfl, r2, b2⟩; obtain ⟨ao, cap, rfl, hv⟩ := ints_of_row r2; have m2 := m1.bel b2; have B2 := btrans B1 b2; rw [HL.out])
      | (go_at_call 10; refine (HN.out _).mono ?_; rintro e w1 ⟨rfl, m1, B1⟩))
    go_loop [28] (fun i => ∃ k : Nat, k ≤ n + 1 ∧ i = .int .i64 k) (fun i => n + 1 - (intOf i).toNat)
    case atStart => exact ⟨0, Nat.zero_le _, rfl⟩
    case round =>
      obtain ⟨k, hk, rfl⟩ := hrel
      by_cases hlt : k < n + 1
      · obtain ⟨b, o, rfl, hb, hc⟩ := hv (by rw [HL.out]; omega)
        have hcx := hc k (by rw [HL.out]; omega)
        rw [hR0.out] at hcx
        clear hc hv
        have hlt' : (k : Int) < (n : Int) + 1 := by omega
        go_wp2
        go_round
        case rel => exact ⟨k + 1, by omega, by simp⟩
        case measure => simp [intOf]; omega
      · have hlt' : ¬ ((k : Int) < (n : Int) + 1) := by omega
        go_wp2_with (first
          | (go_at_call 9; refine (awake_any _).mono ?_; rintro e w4 ⟨rfl, b4⟩)
          | (go_at_call 13; refine (load_out m2 x1 hat).mono ?_; rintro e w' ⟨rfl, e'⟩; subst e'))
        go_ret
        exact ⟨rfl, btrans B2 b4⟩
  · obtain ⟨p, rfl⟩ : ∃ p : Nat, x1 = p := ⟨x1.toNat, by omega⟩
    have hp : p < L.length := by omega
    have HG : Hid ((L.set p (wrap32 x2))[p]?.getD 0 = x2) := by
      show _ = _
      rw [HW.out]
      simp [hp]
    have HS : Hid ((L.set p (wrap32 x2)).length = L.length) := List.length_set
    clear hL
    go_enter Try.func7, Try.ntmps7
    go_wp2_with (first
      | (go_at_call 11; refine (store_in m2 p _ hp).mono ?_; rintro e w3 ⟨rfl, m3, k3⟩; have B3 := bel_store B2 k3 (Nat.le_refl _); have r3 := row_store r2 k3 (by have := lt_of_heap m1.box; omega); have hv := (ints_of_row r3).cells.2)
      | (go_at_call 16; refine (words_any m1 hle).mono ?_; rintro e w2 ⟨v2, rfl, r2, b2⟩; obtain ⟨ao, cap, rfl, -⟩ := ints_of_row r2; have m2 := m1.bel b2; have B2 := btrans B1 b2; rw [HL.out])
      | (go_at_call 10; refine (HN.out _).mono ?_; rintro e w1 ⟨rfl, m1, B1⟩))
    go_loop [28] (fun i => ∃ k : Nat, k ≤ n + 1 ∧ i = .int .i64 k) (fun i => n + 1 - (intOf i).toNat)
    case atStart => exact ⟨0, Nat.zero_le _, rfl⟩
    case round =>
      obtain ⟨k, hk, rfl⟩ := hrel
      by_cases hlt : k < n + 1
      · obtain ⟨b, o, rfl, hb, hc⟩ := hv (by rw [HL.out]; omega)
        have hcx := hc k (by rw [HL.out]; omega)
        rw [hR0.out] at hcx
        clear hc hv
        have hlt' : (k : Int) < (n : Int) + 1 := by omega
        go_wp2
        go_round
        case rel => exact ⟨k + 1, by omega, by simp⟩
        case measure => simp [intOf]; omega
      · have hlt' : ¬ ((k : Int) < (n : Int) + 1) := by omega
        go_wp2_with (first
          | (go_at_call 9; refine (awake_any _).mono ?_; rintro e w4 ⟨rfl, b4⟩)
          | (go_at_call 13; refine (load_in m3 p (by rw [HS.out]; exact hp)).mono ?_; rintro e w' ⟨rfl, e'⟩; subst e'; rw [HG.out]))
        go_ret
        exact ⟨rfl, btrans B3 b4⟩

set_option maxRecDepth 100000 in
theorem lifted (os : Os) (started : os.Started) (H : Type) (enc : TypeId × Value → H) :
    ReturnsInHanded {} Try.checked os 7 .any (Rows.cellsOwnSpec.pre6 enc Try.prog Try.f7 Rows.cellsOwnRow.domain false) (Rows.cellsOwnSpec.post enc Try.prog Try.f7 false true false false) := by
  refine returnsInHanded_of_change (C := Try.checked) own started (by kernel_rfl) Try.func7
    (ChangeSpec.witness6 (enc := enc) (C := Try.checked) false ⟨#[], #[.int .u16 0, .int .i64 0, .int .i32 0], []⟩ 8 (by kernel_rfl) (by kernel_rfl) (by kernel_rfl) (by kernel_rfl)) ?_
  intro W base args ds gs before hval0 hW hcnd _
  have hval : ∀ (j : Nat) t v, Try.f7.params[j]? = some t → args[j]? = some v → Value.okWide Try.prog W .any base t v := hval0
  have hW' := hW
  obtain ⟨p, q, hA0, hV, rfl, hfz, hnd⟩ := hW
  have hA : DataW.TrodAll enc Try.prog W 0 (fun _ => true) true Try.f7.params.toList args.toList ds p := hA0
  rw [Try.params7] at hA hval
  obtain ⟨v0, vs0, d0, ds0, p0, q0, hargs, rfl, rfl, h0, r0⟩ := trodAll_cons hA
  obtain ⟨v1, vs1, d1, ds1, p1, q1, rfl, rfl, rfl, h1, r1⟩ := trodAll_cons r0
  obtain ⟨v2, vs2, d2, ds2, p2, q2, rfl, rfl, rfl, h2, r2⟩ := trodAll_cons r1
  obtain ⟨rfl, rfl, rfl⟩ := trodAll_nil r2
  obtain rfl : args = #[v0, v1, v2] := by cases args; simp_all
  obtain ⟨rfl, rfl⟩ := trodVars_none hV
  obtain ⟨x0, rfl, rfl, rfl, wx0⟩ := open_int Try.underlying38 (hval 0 38 v0 rfl rfl) h0
  obtain ⟨x1, rfl, rfl, rfl, wx1⟩ := open_int Try.underlying3 (hval 1 3 v1 rfl rfl) h1
  obtain ⟨x2, rfl, rfl, rfl, wx2⟩ := open_int Try.underlying21 (hval 2 21 v2 rfl rfl) h2
  clear hA0 hval0
  refine (walk W x0 wx0 x1 wx1 x2 wx2).mono fun e W' ⟨he, bel⟩ => ?_
  subst he
  exact ⟨_, rfl, _, _, _, [], _, [], hW', trodAll_mk1 (shut_bool Try.underlying4 _), (trodAll_cons_mk (shut_int Try.underlying38 wx0) (trodAll_cons_mk (shut_int Try.underlying3 wx1) (trodAll_cons_mk (shut_int Try.underlying21 wx2) trodAll_mk0))), rfl, bel.out.frame _, fun h => by cases h⟩

theorem over : Rows.cellsOwnRow.holds Try.pinned (OpenSpec.ofChange Rows.cellsOwnSpec) :=
  OpenClaim.holds_of_wide 7 Try.f7 rfl rfl rfl rfl rfl rfl rfl ⟨rfl, rfl, rfl, rfl, rfl⟩ rfl rfl rfl rfl rfl (by kernel_rfl) Try.func7 (by kernel_rfl)
    (of_decide_eq_true (by kernel_rfl)) (by unfold Func.isWrapper; first | (rw [if_pos (by decide +kernel)]; kernel_rfl) | (rw [if_neg (by decide +kernel)]; exact ⟨rfl, rfl⟩))
    (fun os started H enc _ => lifted os started H enc)

theorem proved : Rows.CellsOwnSaid :=
  over
#print axioms proved
end Go.Proofs.Ytpmjkdhnoknhlaa.cellsOwn
