/-
  The law 'BagDrains' of delayslotlaw05 returns true at every input: what is pushed is popped in its order, whatever was popped ahead; then there is none.
  Conditions: none.
-/
import Derived.Test.YtfgejepjiifmlaaRows
import Derived.WalkKit
import Derived.ProofKit
import Derived.OpenShut
import Derived.ShutString
import Derived.ChangeOld
import Derived.Below
import Derived.Carry
import Derived.Test.YtfgejepjiifmlaaAwk5
import Derived.Test.YtfgejepjiifmlaaRf5
namespace Go.Proofs.Ytfgejepjiifmlaa.bagDrains
open Go.ChangeShapes Go.WideShapes Go.ChangeAt Go.RowKit
open Go.ChangeMaps (open_string shut_string)
set_option linter.unusedVariables false

theorem laidOut : laidOutB Try.prog = true := by kernel_rfl
theorem own : ownKnob Try.prog.godebug = none := by kernel_rfl
theorem take_snoc (X : List Int) (k : Nat) (h : k < X.length) : X.take (k + 1) = X.take k ++ [X[k]?.getD 0] := by
  rw [List.take_succ_eq_append_getElem h]
  simp [h]
theorem drop_cons (X : List Int) (m k : Nat) (h : k < m) (hm : m ≤ X.length) : (X.take m).drop k = (X[k]?.getD 0) :: (X.take m).drop (k + 1) := by
  have hl : k < (X.take m).length := by rw [List.length_take]; omega
  rw [List.drop_eq_getElem_cons hl]
  congr 1
  simp [show k < X.length by omega]

set_option maxHeartbeats 2000000 in
theorem walk (w : World) (y0 : Value) (X0 : List Int) (wy0 : Ints .i64 w y0 X0) (vy0 : ∀ x ∈ X0, (Lit.int .i64 x).wf = true) (x1 : Int) (wx1 : (Lit.int .u8 x1).wf = true) :
    Calls Try.prog 7 #[y0, .int .u8 x1] w fun e w' => e = .returned (.bool true) ∧ Bel w w' := by
  have q0 := IsQ.new w.heap.size w (Nat.le_refl _)
  have B0 : Below w.heap.size w (w.alloc (.cells #[.pointer none, .pointer none, .int .i64 0] 25)) := (Below.refl _ _).alloc (Nat.le_refl _) _
  have hx1 := wf_u8 wx1
  obtain ⟨ao, cap, rfl, hv⟩ := wy0
  have hcut : 100 < X0.length ∨ X0.length ≤ 100 := by omega
  rcases hcut with hcut | hcut
  all_goals
    go_enter Try.func7, Try.ntmps7
    go_wp2_with fail
    go_loopw [20] (fun i wr => ∃ (k : Nat) (ks : List (Nat × Int)), i = .int .i64 k ∧ (k : Int) ≤ x1 % 50 ∧ ks.length = k ∧ IsQ w.heap.size wr w.heap.size ks ∧ Bel w wr) (fun i _ => 50 - (intOf i).toNat)
    case atStart => exact ⟨0, [], rfl, by omega, rfl, q0, B0⟩
    case round =>
      obtain ⟨k, ks, rfl, hk, hlk, q, hB⟩ := hrel
      by_cases hlt : (k : Int) < x1 % 50
      · go_wp2_with (go_at_call 11; refine (push_any w.heap.size w.heap.size ks _ _ hB.size (by omega) q).mono ?_; rintro e w2 ⟨rfl, q2, k2⟩; have B2 : Bel w w2 := hB.out.trans (QS.below hB.size k2))
        go_roundw
        case rel => exact ⟨k + 1, _, by simp, by omega, by simp [hlk], q2, B2⟩
        case measure => simp only [intOf]; omega
      · have hke : (k : Int) = x1 % 50 := by omega
        have HK : Hid ((k : Int) = x1 % 50) := hke
        clear hke
        go_wp2_with fail
        go_loopw [29] (fun i wr => ∃ (k : Nat) (ks : List (Nat × Int)), i = .int .i64 k ∧ (k : Int) + ks.length = x1 % 50 ∧ IsQ w.heap.size wr w.heap.size ks ∧ Bel w wr) (fun i _ => 50 - (intOf i).toNat)
        case atStart => exact ⟨0, ks, rfl, by have := HK.out; omega, q, hB⟩
        case round =>
          clear q hB HK hlt hk hlk
          obtain ⟨k, ks, rfl, hk, q, hB⟩ := hrel
          have HK : Hid ((k : Int) + ks.length = x1 % 50) := hk
          cases ks with
          | cons y s =>
            have hlt : (k : Int) < x1 % 50 := by simp only [List.length_cons] at hk; omega
            have hsl : s.length < 1000 := by simp only [List.length_cons] at hk; omega
            clear hk
            go_wp2_with (go_at_call 9; refine (pop_cons w.heap.size w.heap.size y.1 y.2 s _ (by omega) q).mono ?_; rintro e w2 ⟨rfl, q2, k2⟩; have B2 : Bel w w2 := hB.out.trans (QS.below hB.size k2))
            go_roundw
            case rel => exact ⟨k + 1, s, by simp, by have := HK.out; simp only [List.length_cons] at this; omega, q2, B2⟩
            case measure => simp only [intOf]; omega
          | nil =>
            have hlt : ¬ ((k : Int) < x1 % 50) := by simp only [List.length_nil] at hk; omega
            clear hk
            go_wp2_with fail
            go_loopw [34] (fun i wr => ∃ (k : Nat) (ks : List (Nat × Int)), i = .int .i64 k ∧ k ≤ min X0.length 100 ∧ Hid (ks.map Prod.snd = X0.take k) ∧ IsQ w.heap.size wr w.heap.size ks ∧ Bel w wr) (fun i _ => 100 - (intOf i).toNat)
            case atStart => exact ⟨0, [], rfl, Nat.zero_le _, rfl, q, hB⟩
            case round =>
              clear q hB HK hlt
              obtain ⟨k, ks, rfl, hk, hm, q, hB⟩ := hrel
              have hlk : ks.length = k := by
                have := congrArg List.length hm.out
                rw [List.length_map, List.length_take] at this
                omega
              have HL : Hid (ks.length = k) := hlk
              clear hlk
              by_cases hlt : k < min X0.length 100
              · obtain ⟨b, o, rfl, hb, hc⟩ := hv (by omega)
                have hcx := ((bcell hB).1 b (o + k) hb).trans (hc k (by omega))
                have hsn := take_snoc X0 k (by omega)
                have l1 : (k : Int) < X0.length := by omega
                have l2 : k < X0.length := by omega
                have l3 : (k : Int) < 100 := by omega
                generalize X0[k]?.getD 0 = z at hcx hsn
                have HM2 : ∀ j : Nat, Hid ((ks ++ [(j, z)]).map Prod.snd = X0.take (k + 1)) := fun j => by
                  show _ = _
                  rw [List.map_append, hm.out, hsn]
                  rfl
                clear hsn hc hv
                go_wp2_with (go_at_call 11; refine (push_any w.heap.size w.heap.size ks _ _ hB.size (by have := HL.out; omega) q).mono ?_; rintro e w2 ⟨rfl, q2, k2⟩; have B2 : Bel w w2 := hB.out.trans (QS.below hB.size k2))
                go_roundw
                case rel => exact ⟨k + 1, _, by simp, by omega, HM2 _, q2, B2⟩
                case measure => simp only [intOf]; omega
              · have HM : Hid (ks.map Prod.snd = X0.take (min X0.length 100)) := by
                  have e : k = min X0.length 100 := by omega
                  rw [← e]
                  exact hm
                have l1 : ¬ ((k : Int) < X0.length) ∨ ¬ ((k : Int) < 100) := by omega
                have l2 : 100 < X0.length → ¬ ((k : Int) < 100) := by omega
                have l3 : X0.length ≤ 100 → ¬ ((k : Int) < X0.length) := by omega
                first | (have l4 := l2 hcut) | (have l4 := l3 hcut)
                clear l1 l2 l3 hm HL hlt hk
                go_wp2_with fail
                go_loopw [44] (fun i wr => ∃ (k : Nat) (ks : List (Nat × Int)), i = .int .i64 k ∧ k ≤ min X0.length 100 ∧ Hid (ks.map Prod.snd = (X0.take (min X0.length 100)).drop k) ∧ IsQ w.heap.size wr w.heap.size ks ∧ Bel w wr) (fun i _ => 100 - (intOf i).toNat)
                case atStart => exact ⟨0, ks, rfl, Nat.zero_le _, HM.out, q, hB⟩
                case round =>
                  clear q hB HM l4
                  obtain ⟨k, ks, rfl, hk, hm, q, hB⟩ := hrel
                  by_cases hlt : k < min X0.length 100
                  · obtain ⟨b, o, rfl, hb, hc⟩ := hv (by omega)
                    have hdc := drop_cons X0 (min X0.length 100) k hlt (by omega)
                    have l1 : (k : Int) < X0.length := by omega
                    have l2 : k < X0.length := by omega
                    have l3 : (k : Int) < 100 := by omega
                    have hck := hc k (by omega)
                    generalize X0[k]?.getD 0 = z at hck hdc
                    clear hc hv
                    cases ks with
                    | nil => exact absurd (hm.out.trans hdc) (by simp)
                    | cons y s =>
                      obtain ⟨ky, xy⟩ := y
                      have hm2 := hm.out.trans hdc
                      rw [List.map_cons] at hm2
                      injection hm2 with e1 e2
                      obtain rfl : xy = z := e1
                      have HS : Hid (s.map Prod.snd = (X0.take (min X0.length 100)).drop (k + 1)) := e2
                      have hsl : (s.length : Int) = min X0.length 100 - k - 1 := by
                        have := congrArg List.length e2
                        rw [List.length_map, List.length_drop, List.length_take] at this
                        omega
                      have hsl' : s.length < 1000 := by omega
                      have n1 : 100 < X0.length → ((s.length : Int) != 100 - (k : Int) - 1) = false := fun _ => by simp; omega
                      have n2 : X0.length ≤ 100 → ((s.length : Int) != (X0.length : Int) - (k : Int) - 1) = false := fun _ => by simp; omega
                      first | (have l4 := n1 hcut) | (have l4 := n2 hcut)
                      clear n1 n2 hsl hm e2 hdc
                      go_wp2_with (first
                        | (go_at_call 9; refine (pop_cons w.heap.size w.heap.size ky xy s _ (by omega) q).mono ?_; rintro e w2 ⟨rfl, q2, k2⟩; have B2 : Bel w w2 := hB.out.trans (QS.below hB.size k2); have hcx := (B2.out.cell (p := ⟨b, o + k, none⟩) hb).trans hck)
                        | (go_at_call 14; refine (len_any w.heap.size w.heap.size s _ q2).mono ?_; rintro e w3 ⟨rfl, rfl⟩))
                      go_roundw
                      case rel => exact ⟨k + 1, s, by simp, by omega, HS, q2, B2⟩
                      case measure => simp only [intOf]; omega
                  · have hn : ks = [] := by
                      have := congrArg List.length hm.out
                      rw [List.length_map, List.length_drop, List.length_take] at this
                      exact List.length_eq_zero_iff.1 (by omega)
                    subst hn
                    have l2 : 100 < X0.length → ¬ ((k : Int) < 100) := by omega
                    have l3 : X0.length ≤ 100 → ¬ ((k : Int) < X0.length) := by omega
                    first | (have l4 := l2 hcut) | (have l4 := l3 hcut)
                    clear l2 l3 hm hlt hk
                    go_wp2_with (first
                      | (go_at_call 9; refine (pop_nil w.heap.size w.heap.size _ q).mono ?_; rintro e w2 ⟨rfl, e2⟩; subst e2)
                      | (go_at_call 14; refine (len_any w.heap.size w.heap.size [] _ q).mono ?_; rintro e w3 ⟨rfl, e3⟩; subst e3)
                      | (go_at_call 15; refine (awake_any _).mono ?_; rintro e w4 ⟨rfl, b4⟩))
                    go_ret
                    exact ⟨rfl, btrans hB b4⟩

set_option maxRecDepth 100000 in
theorem lifted (os : Os) (started : os.Started) (H : Type) (enc : TypeId × Value → H) :
    ReturnsInHanded {} Try.checked os 7 .any (Rows.bagDrainsSpec.pre6 enc Try.prog Try.f7 Rows.bagDrainsRow.domain false) (Rows.bagDrainsSpec.post enc Try.prog Try.f7 false true false false) := by
  refine returnsInHanded_of_change (C := Try.checked) own started (by kernel_rfl) Try.func7
    (ChangeSpec.witness6 (enc := enc) (C := Try.checked) false ⟨#[], #[.slice none 0 0, .int .u8 0], []⟩ 8 (by kernel_rfl) (by kernel_rfl) (by kernel_rfl) (by kernel_rfl)) ?_
  intro W base args ds gs before hval0 hW hcnd _
  have hval : ∀ (j : Nat) t v, Try.f7.params[j]? = some t → args[j]? = some v → Value.okWide Try.prog W .any base t v := hval0
  have hW' := hW
  obtain ⟨p, q, hA0, hV, rfl, hfz, hnd⟩ := hW
  have hA : DataW.TrodAll enc Try.prog W 0 (fun _ => true) true Try.f7.params.toList args.toList ds p := hA0
  rw [Try.params7] at hA hval
  obtain ⟨v0, vs0, d0, ds0, p0, q0, hargs, rfl, rfl, h0, r0⟩ := trodAll_cons hA
  obtain ⟨v1, vs1, d1, ds1, p1, q1, rfl, rfl, rfl, h1, r1⟩ := trodAll_cons r0
  obtain ⟨rfl, rfl, rfl⟩ := trodAll_nil r1
  obtain rfl : args = #[v0, v1] := by cases args; simp_all
  obtain ⟨rfl, rfl⟩ := trodVars_none hV
  have k0 := h0
  have lt0 : ∀ x ∈ p0, x.block < W.heap.size := by obtain ⟨m, hm⟩ := k0; exact DataW.trod_lt m _ _ _ hm
  obtain ⟨X0, wy0, vy0⟩ := open_intsK Try.underlying22 Try.underlying3 (by kernel_rfl) (hval 0 22 v0 rfl rfl) h0
  obtain ⟨x1, rfl, rfl, rfl, wx1⟩ := open_int Try.underlying5 (hval 1 5 v1 rfl rfl) h1
  clear hA0 hval0
  refine (walk W v0 X0 wy0 vy0 x1 wx1).mono fun e W' ⟨he, bel⟩ => ?_
  subst he
  exact ⟨_, rfl, _, _, _, [], _, [], hW', trodAll_mk1 (shut_bool Try.underlying4 _), (trodAll_cons_mk (Below.trod laidOut (by kernel_rfl) (of_decide_eq_true (by kernel_rfl)) k0 bel.out lt0) (trodAll_cons_mk (shut_int Try.underlying5 wx1) trodAll_mk0)), rfl, bel.out.frame _, fun h => by cases h⟩

theorem over : Rows.bagDrainsRow.holds Try.pinned (OpenSpec.ofChange Rows.bagDrainsSpec) :=
  OpenClaim.holds_of_wide 7 Try.f7 rfl rfl rfl rfl rfl rfl rfl ⟨rfl, rfl, rfl, rfl, rfl⟩ rfl rfl rfl rfl rfl (by kernel_rfl) Try.func7 (by kernel_rfl)
    (of_decide_eq_true (by kernel_rfl)) (by unfold Func.isWrapper; first | (rw [if_pos (by decide +kernel)]; kernel_rfl) | (rw [if_neg (by decide +kernel)]; exact ⟨rfl, rfl⟩))
    (fun os started H enc _ => lifted os started H enc)

theorem proved : Rows.BagDrainsSaid :=
  over
#print axioms proved
end Go.Proofs.Ytfgejepjiifmlaa.bagDrains
