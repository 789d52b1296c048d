/-
  CellsMany: words that are stored one behind the other are told so.
  Conditions: none.
-/
import Derived.Test.YtpmjkdhnoknhlaaRows
import Derived.WalkKit
import Derived.ProofKit
import Derived.OpenShut
import Derived.ShutString
import Derived.ChangeOld
import Derived.Below
import Derived.Carry
import Derived.Test.YtpmjkdhnoknhlaaAct6
namespace Go.Proofs.Ytpmjkdhnoknhlaa.cellsMany
open Go.ChangeShapes Go.WideShapes Go.ChangeAt Go.RowKit
open Go.ChangeMaps (open_string shut_string)
set_option linter.unusedVariables false

theorem laidOut : laidOutB Try.prog = true := by kernel_rfl
theorem own : ownKnob Try.prog.godebug = none := by kernel_rfl
theorem take_set (L X : List Int) (k : Nat) (z : Int) (h : k < X.length) (hl : L.length = X.length) (ht : L.take k = X.take k) (hz : z = X[k]?.getD 0) : (L.set k z).take (k + 1) = X.take (k + 1) := by
  have e : z = X[k] := by rw [hz]; simp [h]
  rw [List.take_succ_eq_append_getElem h, List.take_succ_eq_append_getElem (by rw [List.length_set]; omega), List.take_set_of_le (Nat.le_refl k), ht, List.getElem_set_self, e]

set_option maxRecDepth 20000 in
set_option maxHeartbeats 2000000 in
theorem walk (w : World) (y0 : Value) (X0 : List Int) (wy0 : Ints .i32 w y0 X0) (vy0 : ∀ x ∈ X0, (Lit.int .i32 x).wf = true) :
    Calls Try.prog 8 #[y0] w fun e w' => e = .returned (.bool true) ∧ Bel w w' := by
  obtain ⟨ao, cap, rfl, hv⟩ := wy0
  rcases Nat.lt_or_ge 100 X0.length with hcut | hcut
  · go_enter Try.func8, Try.ntmps8
    go_wp2_with (go_at_call 9; refine (awake_any _).mono ?_; rintro e w4 ⟨rfl, b4⟩)
    go_ret
    exact ⟨rfl, b4⟩
  · have hL0 : (List.replicate X0.length (0 : Int)).length = X0.length := List.length_replicate
    have hnew := fun W => new_any (X0.length : Int) X0.length rfl (by omega) W
    generalize List.replicate X0.length (0 : Int) = L0 at hL0 hnew
    have HN : Hid (∀ W, Calls Try.prog 10 #[.int .i64 (X0.length : Int)] W fun e w' => e = .returned (.pointer (some ⟨W.heap.size + 1, 0, none⟩)) ∧ IsM W.heap.size w' (W.heap.size + 1) W.heap.size L0 ∧ Bel W w') := hnew
    have HL0 : Hid (L0.length = X0.length) := hL0
    have HV : Hid (∀ x ∈ X0, (Lit.int .i32 x).wf = true) := vy0
    clear hnew hL0 vy0
    go_enter Try.func8, Try.ntmps8
    go_wp2_with (go_at_call 10; refine (HN.out _).mono ?_; rintro e w1 ⟨rfl, m1, B1⟩)
    go_loopw [18] (fun i wr => ∃ (k : Nat) (L : List Int), k ≤ X0.length ∧ i = .int .i64 k ∧ Hid (L.length = X0.length ∧ L.take k = X0.take k) ∧ IsM w.heap.size wr (w.heap.size + 1) w.heap.size L ∧ Bel w wr) (fun i _ => X0.length - (intOf i).toNat)
    case atStart => exact ⟨0, L0, Nat.zero_le _, rfl, ⟨HL0.out, by simp⟩, m1, B1⟩
    case round =>
      clear m1 B1
      obtain ⟨k, L, hk, rfl, hin, m, hB⟩ := hrel
      by_cases hlt : k < X0.length
      · obtain ⟨b, o, rfl, hb, hc⟩ := hv (by omega)
        have hcx := ((bcell hB).1 b (o + k) hb).trans (hc k hlt)
        have hz := wf_i32 (HV.out (X0[k]?.getD 0) (by simp [hlt]))
        have HT := fun z hz => take_set L X0 k z hlt hin.out.1 hin.out.2 hz
        clear hc hv
        generalize X0[k]?.getD 0 = z at hcx hz HT
        have HT2 : Hid ((L.set k (wrap32 z)).length = X0.length ∧ (L.set k (wrap32 z)).take (k + 1) = X0.take (k + 1)) := by
          refine ⟨by rw [List.length_set]; exact hin.out.1, ?_⟩
          rw [w32_id z (by omega) (by omega)]
          exact HT z rfl
        clear HT
        have hlt' : (k : Int) < X0.length := by omega
        go_wp2_with (go_at_call 11; refine (store_in m k _ (by rw [hin.out.1]; exact hlt)).mono ?_; rintro e w3 ⟨rfl, m3, k3⟩; have B3 := bel_store hB k3 (Nat.le_refl _))
        go_roundw
        case rel => exact ⟨k + 1, _, by omega, by simp, HT2, m3, B3⟩
        case measure => simp only [intOf]; omega
      · obtain rfl : L = X0 := by
          have := hin.out
          rw [List.take_of_length_le (by omega), List.take_of_length_le (by omega)] at this
          exact this.2
        have hlt' : ¬ ((k : Int) < L.length) := by omega
        go_wp2_with (first
          | (go_at_call 11; refine (store_out m2 _ _ (.inr (Int.le_refl _))).mono ?_; rintro e w' ⟨rfl, e'⟩; subst e')
          | (go_at_call 16; refine (words_any m (by omega)).mono ?_; rintro e w2 ⟨v2, rfl, r2, b2⟩; obtain ⟨ao2, cap2, rfl, hv2⟩ := ints_of_row r2; have m2 := m.bel b2; have B2 := btrans hB b2))
        clear hin m m2 r2 hk hlt hlt'
        go_loop [45] (fun i => ∃ k : Nat, k ≤ L.length ∧ i = .int .i64 k) (fun i => L.length - (intOf i).toNat)
        case atStart => exact ⟨0, Nat.zero_le _, rfl⟩
        case round =>
          obtain ⟨k, hk, rfl⟩ := hrel
          by_cases hlt : k < L.length
          · obtain ⟨b, o, rfl, hb, hc⟩ := hv (by omega)
            obtain ⟨b2, o2, rfl, hb2, hc2⟩ := hv2 (by omega)
            have hcx := ((bcell B2).1 b (o + k) hb).trans (hc k hlt)
            have hcy := hc2 k hlt
            have hz := wf_i32 (HV.out (L[k]?.getD 0) (by simp [hlt]))
            clear hc hv hc2 hv2
            generalize L[k]?.getD 0 = z at hcx hcy hz
            have hlt' : (k : Int) < L.length := by omega
            go_wp2
            go_round
            case rel => exact ⟨k + 1, by omega, by simp⟩
            case measure => simp [intOf]; omega
          · have hlt' : ¬ ((k : Int) < L.length) := by omega
            go_wp2_with (go_at_call 9; refine (awake_any _).mono ?_; rintro e w4 ⟨rfl, b4⟩)
            go_ret
            exact ⟨rfl, btrans B2 b4⟩

set_option maxRecDepth 100000 in
theorem lifted (os : Os) (started : os.Started) (H : Type) (enc : TypeId × Value → H) :
    ReturnsInHanded {} Try.checked os 8 .any (Rows.cellsManySpec.pre6 enc Try.prog Try.f8 Rows.cellsManyRow.domain false) (Rows.cellsManySpec.post enc Try.prog Try.f8 false true false false) := by
  refine returnsInHanded_of_change (C := Try.checked) own started (by kernel_rfl) Try.func8
    (ChangeSpec.witness6 (enc := enc) (C := Try.checked) false ⟨#[], #[.slice none 0 0], []⟩ 8 (by kernel_rfl) (by kernel_rfl) (by kernel_rfl) (by kernel_rfl)) ?_
  intro W base args ds gs before hval0 hW hcnd _
  have hval : ∀ (j : Nat) t v, Try.f8.params[j]? = some t → args[j]? = some v → Value.okWide Try.prog W .any base t v := hval0
  have hW' := hW
  obtain ⟨p, q, hA0, hV, rfl, hfz, hnd⟩ := hW
  have hA : DataW.TrodAll enc Try.prog W 0 (fun _ => true) true Try.f8.params.toList args.toList ds p := hA0
  rw [Try.params8] at hA hval
  obtain ⟨v0, vs0, d0, ds0, p0, q0, hargs, rfl, rfl, h0, r0⟩ := trodAll_cons hA
  obtain ⟨rfl, rfl, rfl⟩ := trodAll_nil r0
  obtain rfl : args = #[v0] := by cases args; simp_all
  obtain ⟨rfl, rfl⟩ := trodVars_none hV
  have k0 := h0
  have lt0 : ∀ x ∈ p0, x.block < W.heap.size := by obtain ⟨m, hm⟩ := k0; exact DataW.trod_lt m _ _ _ hm
  obtain ⟨X0, wy0, vy0⟩ := open_intsK Try.underlying42 Try.underlying21 (by kernel_rfl) (hval 0 42 v0 rfl rfl) h0
  clear hA0 hval0
  refine (walk W v0 X0 wy0 vy0).mono fun e W' ⟨he, bel⟩ => ?_
  subst he
  exact ⟨_, rfl, _, _, _, [], _, [], hW', trodAll_mk1 (shut_bool Try.underlying4 _), (trodAll_cons_mk (Below.trod laidOut (by kernel_rfl) (of_decide_eq_true (by kernel_rfl)) k0 bel.out lt0) trodAll_mk0), rfl, bel.out.frame _, fun h => by cases h⟩

theorem over : Rows.cellsManyRow.holds Try.pinned (OpenSpec.ofChange Rows.cellsManySpec) :=
  OpenClaim.holds_of_wide 8 Try.f8 rfl rfl rfl rfl rfl rfl rfl ⟨rfl, rfl, rfl, rfl, rfl⟩ rfl rfl rfl rfl rfl (by kernel_rfl) Try.func8 (by kernel_rfl)
    (of_decide_eq_true (by kernel_rfl)) (by unfold Func.isWrapper; first | (rw [if_pos (by decide +kernel)]; kernel_rfl) | (rw [if_neg (by decide +kernel)]; exact ⟨rfl, rfl⟩))
    (fun os started H enc _ => lifted os started H enc)

theorem proved : Rows.CellsManySaid :=
  over
#print axioms proved
end Go.Proofs.Ytpmjkdhnoknhlaa.cellsMany
