/-
  CellsLast, the stage's theorem: a cell is what was stored there last, brought round; no other one is turned.
  Conditions: none.
-/
import Derived.Test.YtpmjkdhnoknhlaaRows
import Derived.WalkKit
import Derived.ProofKit
import Derived.OpenShut
import Derived.ShutString
import Derived.ChangeOld
import Derived.Below
import Derived.Carry
import Derived.Test.YtpmjkdhnoknhlaaGen6
namespace Go.Proofs.Ytpmjkdhnoknhlaa.cellsLast
open Go.ChangeShapes Go.WideShapes Go.ChangeAt Go.RowKit
open Go.ChangeMaps (open_string shut_string)
set_option linter.unusedVariables false

theorem laidOut : laidOutB Try.prog = true := by kernel_rfl
theorem own : ownKnob Try.prog.godebug = none := by kernel_rfl
/-- Where z stands: ahead of the cells, behind them, or at one. -/
theorem stands (L : List Int) (n : Nat) (z : Int) (hL : L.length = n + 1) : (z < 0 ∧ inM L z = false) ∨ (0 ≤ z ∧ 1 + (n : Int) ≤ z ∧ inM L z = false) ∨ (0 ≤ z ∧ z < 1 + (n : Int) ∧ inM L z = true) := by
  rcases Int.lt_or_le z 0 with h | h
  · exact .inl ⟨h, inM_no (.inl h)⟩
  · rcases Int.lt_or_le z (1 + n) with h' | h'
    · exact .inr (.inr ⟨h, h', inM_yes h (by omega)⟩)
    · exact .inr (.inl ⟨h, h', inM_no (.inr (by omega))⟩)

set_option maxRecDepth 20000 in
set_option maxHeartbeats 2000000 in
theorem walk (w : World) (x0 : Int) (wx0 : (Lit.int .u16 x0).wf = true) (x1 : Int) (wx1 : (Lit.int .i64 x1).wf = true) (x2 : Int) (wx2 : (Lit.int .i64 x2).wf = true) (x3 : Int) (wx3 : (Lit.int .i32 x3).wf = true) (x4 : Int) (wx4 : (Lit.int .i32 x4).wf = true) :
    Calls Try.prog 4 #[.int .u16 x0, .int .i64 x1, .int .i64 x2, .int .i32 x3, .int .i32 x4] w fun e w' => e = .returned (.bool true) ∧ Bel w w' := by
  have hx0 := wf_u16 wx0
  have hx3 := wf_i32 wx3
  have hx4 := wf_i32 wx4
  obtain ⟨n, hn⟩ : ∃ n : Nat, x0 % 1000 = n := ⟨(x0 % 1000).toNat, by omega⟩
  have hn1000 : n < 1000 := by omega
  have hL : (List.replicate (n + 1) (0 : Int)).length = n + 1 := List.length_replicate
  have hZ : Hid (∀ z, getM (List.replicate (n + 1) (0 : Int)) z = 0) := get_zero (n + 1)
  have hnew := fun W => new_any (1 + n) (n + 1) (by omega) (by omega) W
  generalize List.replicate (n + 1) (0 : Int) = L at hL hZ hnew
  have HN : Hid (∀ W, Calls Try.prog 10 #[.int .i64 (1 + (n : Int))] W fun e w' => e = .returned (.pointer (some ⟨W.heap.size + 1, 0, none⟩)) ∧ IsM W.heap.size w' (W.heap.size + 1) W.heap.size L ∧ Bel W w') := hnew
  clear hnew
  have HV3 : Hid (wrap32 x3 = x3) := w32_id x3 (by omega) (by omega)
  have HV4 : Hid (wrap32 (x4 + 4294967296) = x4) := by show _ = _; unfold wrap32; omega
  have i2 := inM_put L x1 x3
  have i3 := fun y => (inM_put (putM L x1 x3) x2 (x4 + 4294967296) y).trans (inM_put L x1 x3 y)
  have g1 : inM L x1 = true → x1 ≠ x2 → getM (putM (putM L x1 x3) x2 (x4 + 4294967296)) x1 = x3 := fun h hne => by
    rw [get_put_other hne, get_put_same h, HV3.out]
  have g2 : inM L x2 = true → getM (putM (putM L x1 x3) x2 (x4 + 4294967296)) x2 = x4 := fun h => by
    rw [get_put_same ((i2 x2).trans h), HV4.out]
  have g3 : ∀ y, y ≠ x1 → y ≠ x2 → getM (putM (putM L x1 x3) x2 (x4 + 4294967296)) y = 0 := fun y h1 h2 => by
    rw [get_put_other h2, get_put_other h1, hZ.out]
  have HL3 : Hid ((putM (putM L x1 x3) x2 (x4 + 4294967296)).length = n + 1) := by
    show _ = _
    rw [put_len, put_len, hL]
  have hs1 := fun W h => store_gen (W := W) (n₀ := w.heap.size) (b := w.heap.size + 1) (g := w.heap.size) (L := L) h x1 x3
  have hs2 := fun W h => store_gen (W := W) (n₀ := w.heap.size) (b := w.heap.size + 1) (g := w.heap.size) (L := putM L x1 x3) h x2 (x4 + 4294967296)
  have hl1 := fun W h => load_gen (W := W) (n₀ := w.heap.size) (b := w.heap.size + 1) (g := w.heap.size) (L := putM (putM L x1 x3) x2 (x4 + 4294967296)) h x1
  have hl2 := fun W h => load_gen (W := W) (n₀ := w.heap.size) (b := w.heap.size + 1) (g := w.heap.size) (L := putM (putM L x1 x3) x2 (x4 + 4294967296)) h x2
  simp only [i3, i2] at hs2 hl1 hl2
  generalize putM (putM L x1 x3) x2 (x4 + 4294967296) = L3 at *
  generalize putM L x1 x3 = L2 at *
  clear i2 i3 HV3 HV4 hZ
  have S1 := stands L n x1 hL
  have S2 := stands L n x2 hL
  generalize inM L x1 = B1 at *
  generalize inM L x2 = B2 at *
  generalize getM L3 x1 = V1 at hl1 g1
  generalize getM L3 x2 = V2 at hl2 g2
  have HS1 : Hid _ := hs1
  have HS2 : Hid _ := hs2
  have HQ1 : Hid _ := hl1
  have HQ2 : Hid _ := hl2
  have HG3 : Hid _ := g3
  clear hs1 hs2 hl1 hl2 hL g3
  rcases Decidable.em (x1 = x2) with hab | hab
  all_goals
    rcases S1 with ⟨a1, rfl⟩ | ⟨a1, a2, rfl⟩ | ⟨a1, a2, rfl⟩ <;> rcases S2 with ⟨c1, rfl⟩ | ⟨c1, c2, rfl⟩ | ⟨c1, c2, rfl⟩
  all_goals try (exfalso; omega)
  all_goals
    first | (have u1 : decide (x1 < 1 + (n : Int)) = false := by simp; omega) | skip
    first | (have u2 : decide (x2 < 1 + (n : Int)) = false := by simp; omega) | skip
    first | (have n12 : (x1 != x2) = false := by simp [hab]) | (have n12 : (x1 != x2) = true := by simp [hab])
    simp only [forall_const, hab, not_true_eq_false, not_false_eq_true, ne_eq, false_implies, implies_true, Bool.false_eq_true] at g1 g2
    clear hab
    subst_vars
    go_enter Try.func4, Try.ntmps4
    go_wp2_with (first
      | (go_at_call 16; refine (words_any m3 (by rw [HL3.out]; omega)).mono ?_; rintro e w4 ⟨v4, rfl, r4, b4⟩; obtain ⟨ao, cap, rfl, hv⟩ := ints_of_row r4; have m4 := m3.bel b4; have B4 := btrans B3 b4; rw [HL3.out])
      | (go_at_call 13; have q2 := q1; refine (HQ2.out _ m3).mono ?_; rintro e w' ⟨rfl, e'⟩; subst e')
      | (go_at_call 13; refine (HQ1.out _ m3).mono ?_; rintro e w' ⟨rfl, e'⟩; subst e'; have q1 : Hid True := True.intro)
      | (go_at_call 11; refine (HS2.out _ m2).mono ?_; rintro e w3 ⟨rfl, m3, k3⟩; have B3 := bel_store B2 k3 (Nat.le_refl _))
      | (go_at_call 11; refine (HS1.out _ m1).mono ?_; rintro e w2 ⟨rfl, m2, k2⟩; have B2 := bel_store B1 k2 (Nat.le_refl _))
      | (go_at_call 10; refine (HN.out _).mono ?_; rintro e w1 ⟨rfl, m1, B1⟩))
  all_goals
    go_loop [104] (fun i => ∃ k : Nat, k ≤ n + 1 ∧ i = .int .i64 k) (fun i => n + 1 - (intOf i).toNat)
    case atStart => exact ⟨0, Nat.zero_le _, rfl⟩
    case round =>
      obtain ⟨k, hk, rfl⟩ := hrel
      by_cases hlt : k < n + 1
      · obtain ⟨b, o, rfl, hb, hc⟩ := hv (by rw [HL3.out]; omega)
        have hcx := hc k (by rw [HL3.out]; omega)
        rw [get_nat (by rw [HL3.out]; omega)] at hcx
        have hz := HG3.out (k : Int)
        clear hc hv
        generalize getM L3 (k : Int) = z at hcx hz
        have hlt' : (k : Int) < (n : Int) + 1 := by omega
        by_cases e1 : (k : Int) = x1
        · have t1 : ((k : Int) != x1) = false := by simp [e1]
          clear e1 hz
          go_wp2
          go_round
          case rel => exact ⟨k + 1, by omega, by simp⟩
          case measure => simp [intOf]; omega
        · have t1 : ((k : Int) != x1) = true := by simp [e1]
          by_cases e2 : (k : Int) = x2
          · have t2 : ((k : Int) != x2) = false := by simp [e2]
            clear e1 e2 hz
            go_wp2
            go_round
            case rel => exact ⟨k + 1, by omega, by simp⟩
            case measure => simp [intOf]; omega
          · have t2 : ((k : Int) != x2) = true := by simp [e2]
            obtain rfl : z = 0 := hz e1 e2
            clear e1 e2 hz
            go_wp2
            go_round
            case rel => exact ⟨k + 1, by omega, by simp⟩
            case measure => simp [intOf]; omega
      · have hlt' : ¬ ((k : Int) < (n : Int) + 1) := by omega
        go_wp2_with (first
          | (go_at_call 9; refine (awake_any _).mono ?_; rintro e w9 ⟨rfl, b9⟩)
          | (go_at_call 16; refine (words_any m4 (by rw [HL3.out]; omega)).mono ?_; rintro e w5 ⟨v5, rfl, r5, b5⟩; obtain ⟨ao5, cap5, rfl, -⟩ := ints_of_row r5; have B5 := btrans B4 b5; rw [HL3.out]))
        go_ret
        exact ⟨rfl, btrans B5 b9⟩

set_option maxRecDepth 100000 in
theorem lifted (os : Os) (started : os.Started) (H : Type) (enc : TypeId × Value → H) :
    ReturnsInHanded {} Try.checked os 4 .any (Rows.cellsLastSpec.pre6 enc Try.prog Try.f4 Rows.cellsLastRow.domain false) (Rows.cellsLastSpec.post enc Try.prog Try.f4 false true false false) := by
  refine returnsInHanded_of_change (C := Try.checked) own started (by kernel_rfl) Try.func4
    (ChangeSpec.witness6 (enc := enc) (C := Try.checked) false ⟨#[], #[.int .u16 0, .int .i64 0, .int .i64 0, .int .i32 0, .int .i32 0], []⟩ 8 (by kernel_rfl) (by kernel_rfl) (by kernel_rfl) (by kernel_rfl)) ?_
  intro W base args ds gs before hval0 hW hcnd _
  have hval : ∀ (j : Nat) t v, Try.f4.params[j]? = some t → args[j]? = some v → Value.okWide Try.prog W .any base t v := hval0
  have hW' := hW
  obtain ⟨p, q, hA0, hV, rfl, hfz, hnd⟩ := hW
  have hA : DataW.TrodAll enc Try.prog W 0 (fun _ => true) true Try.f4.params.toList args.toList ds p := hA0
  rw [Try.params4] at hA hval
  obtain ⟨v0, vs0, d0, ds0, p0, q0, hargs, rfl, rfl, h0, r0⟩ := trodAll_cons hA
  obtain ⟨v1, vs1, d1, ds1, p1, q1, rfl, rfl, rfl, h1, r1⟩ := trodAll_cons r0
  obtain ⟨v2, vs2, d2, ds2, p2, q2, rfl, rfl, rfl, h2, r2⟩ := trodAll_cons r1
  obtain ⟨v3, vs3, d3, ds3, p3, q3, rfl, rfl, rfl, h3, r3⟩ := trodAll_cons r2
  obtain ⟨v4, vs4, d4, ds4, p4, q4, rfl, rfl, rfl, h4, r4⟩ := trodAll_cons r3
  obtain ⟨rfl, rfl, rfl⟩ := trodAll_nil r4
  obtain rfl : args = #[v0, v1, v2, v3, v4] := by cases args; simp_all
  obtain ⟨rfl, rfl⟩ := trodVars_none hV
  obtain ⟨x0, rfl, rfl, rfl, wx0⟩ := open_int Try.underlying38 (hval 0 38 v0 rfl rfl) h0
  obtain ⟨x1, rfl, rfl, rfl, wx1⟩ := open_int Try.underlying3 (hval 1 3 v1 rfl rfl) h1
  obtain ⟨x2, rfl, rfl, rfl, wx2⟩ := open_int Try.underlying3 (hval 2 3 v2 rfl rfl) h2
  obtain ⟨x3, rfl, rfl, rfl, wx3⟩ := open_int Try.underlying21 (hval 3 21 v3 rfl rfl) h3
  obtain ⟨x4, rfl, rfl, rfl, wx4⟩ := open_int Try.underlying21 (hval 4 21 v4 rfl rfl) h4
  clear hA0 hval0
  refine (walk W x0 wx0 x1 wx1 x2 wx2 x3 wx3 x4 wx4).mono fun e W' ⟨he, bel⟩ => ?_
  subst he
  exact ⟨_, rfl, _, _, _, [], _, [], hW', trodAll_mk1 (shut_bool Try.underlying4 _), (trodAll_cons_mk (shut_int Try.underlying38 wx0) (trodAll_cons_mk (shut_int Try.underlying3 wx1) (trodAll_cons_mk (shut_int Try.underlying3 wx2) (trodAll_cons_mk (shut_int Try.underlying21 wx3) (trodAll_cons_mk (shut_int Try.underlying21 wx4) trodAll_mk0))))), rfl, bel.out.frame _, fun h => by cases h⟩

theorem over : Rows.cellsLastRow.holds Try.pinned (OpenSpec.ofChange Rows.cellsLastSpec) :=
  OpenClaim.holds_of_wide 4 Try.f4 rfl rfl rfl rfl rfl rfl rfl ⟨rfl, rfl, rfl, rfl, rfl⟩ rfl rfl rfl rfl rfl (by kernel_rfl) Try.func4 (by kernel_rfl)
    (of_decide_eq_true (by kernel_rfl)) (by unfold Func.isWrapper; first | (rw [if_pos (by decide +kernel)]; kernel_rfl) | (rw [if_neg (by decide +kernel)]; exact ⟨rfl, rfl⟩))
    (fun os started H enc _ => lifted os started H enc)

theorem proved : Rows.CellsLastSaid :=
  over
#print axioms proved
end Go.Proofs.Ytpmjkdhnoknhlaa.cellsLast
