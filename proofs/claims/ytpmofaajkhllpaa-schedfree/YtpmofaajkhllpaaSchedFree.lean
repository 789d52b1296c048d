/-
  The law 'SchedFree' of delayslotlaw11 returns true at every list: instructions of which none must stay ahead of another one keep their order (asked of at most 40 instructions).
  Conditions: none.
-/
import Derived.Test.YtpmofaajkhllpaaRows
import Derived.WalkKit
import Derived.ProofKit
import Derived.OpenShut
import Derived.ShutString
import Derived.ChangeOld
import Derived.Below
import Derived.Carry
import Derived.Test.YtpmofaajkhllpaaFr11
import Derived.Test.YtpmofaajkhllpaaRg
namespace Go.Proofs.Ytpmofaajkhllpaa.schedFree
open Go.ChangeShapes Go.WideShapes Go.ChangeAt Go.RowKit
open Go.ChangeMaps (open_string shut_string)
set_option linter.unusedVariables false

theorem laidOut : laidOutB Try.prog = true := by kernel_rfl
theorem own : ownKnob Try.prog.godebug = none := by kernel_rfl

set_option maxRecDepth 20000 in
set_option maxHeartbeats 2000000 in
theorem walk (w : World) (y0 : Value) (X0 : List Ins) (wy0 : Code w y0 X0) :
    Calls Try.prog 7 #[y0] w fun e w' => e = .returned (.bool true) ∧ Bel w w' := by
  by_cases hs : X0.length ≤ 40
  · have HW := hidm wy0
    have F0 := hidm (freeK_zero X0)
    have R0 := hidm (fun k => rowF_start X0 k)
    have R1 := hidm (fun k m => @rowF_step X0 k m)
    have F1 := hidm (fun k => @freeK_step X0 k)
    have FE := hidm (fun Z n W v => @free_end X0 Z n W v)
    obtain ⟨ao, cap, rfl, hc⟩ := wy0
    have HC := hidm hc
    have ho := fun ww (hb : Bel w ww) => order_any X0 (.slice ao X0.length cap) ww (by omega) (code_bel HW.out hb)
    clear hc
    haveI := Later.ne w
    obtain ⟨u0, e0⟩ := later_start w
    go_enter Try.func7, Try.ntmps7
    rw [← e0]
    have E0 := hidm e0
    clear e0
    go_wp2
    go_loopw [13] (fun i wr => ∃ (k : Nat) (q : Later w), k ≤ X0.length ∧ i = .int .i64 k ∧ Hid (FreeK X0 k) ∧ wr = q.at_) (fun i _ => X0.length - (intOf i).toNat)
    case atStart => exact ⟨0, _, Nat.zero_le _, rfl, F0.out, rfl⟩
    case round =>
      obtain ⟨k, q, hk, rfl, hfk, rfl⟩ := hrel
      by_cases hlt : k < X0.length
      · clear F0 FE
        go_wp2
        go_loopw [4] (fun j wr => ∃ (m : Nat) (q : Later w), k < m ∧ m ≤ X0.length ∧ j = .int .i64 m ∧ Hid (RowF X0 k m) ∧ wr = q.at_) (fun j _ => X0.length - (intOf j).toNat)
        case atStart => exact ⟨k + 1, q, by omega, by omega, by go_num, R0.out k, rfl⟩
        case round =>
          obtain ⟨m, q, hkm, hm, rfl, hrm, rfl⟩ := hrel
          by_cases hlt2 : m < X0.length
          · obtain ⟨b, o, rfl, hb, hca⟩ := HC.out (by omega)
            obtain ⟨a0, a1, a2, a3, a4⟩ := hca k hlt
            obtain ⟨d0, d1, d2, d3, d4⟩ := hca m hlt2
            have A0 := later_cell a0 hb
            have A1 := later_cell a1 hb
            have A2 := later_cell a2 hb
            have A3 := later_cell a3 hb
            have A4 := later_cell a4 hb
            have D0 := later_cell d0 hb
            have D1 := later_cell d1 hb
            have D2 := later_cell d2 hb
            have D3 := later_cell d3 hb
            have D4 := later_cell d4 hb
            have S1 := hidm (fun h => R1.out k m hrm.out h)
            have hfb := farI_bd (xAt X0 k) (xAt X0 m)
            have hfar := fun ww => refFar_any (xAt X0 k) (xAt X0 m) ww
            unfold Ins.val at hfar
            rw [show X0.getD k Ins.zero = xAt X0 k from rfl] at A0 A1 A2 A3 A4
            rw [show X0.getD m Ins.zero = xAt X0 m from rfl] at D0 D1 D2 D3 D4
            clear a0 a1 a2 a3 a4 d0 d1 d2 d3 d4 R0 R1 F1 hca HC HW ho hrm
            generalize xAt X0 k = x at A0 A1 A2 A3 A4 S1 hfb hfar
            generalize xAt X0 m = y at D0 D1 D2 D3 D4 S1 hfb hfar
            generalize farI x y = d at S1 hfb hfar
            have hkI : (k : Int) < X0.length := by omega
            have hmI : (m : Int) < X0.length := by omega
            by_cases h1 : 0 < d
            · clear S1
              go_wp2
              refine wp_region_later (by kernel_rfl) (by kernel_rfl) ?_
              repeat (go_big_quiet_step (first | (go_at_call 20; exact later_of (hfar _))))
              refine wpQuiet_nil ?_
              rintro _ ⟨q2, rfl⟩
              go_wp2_with (go_at_call 10; refine (later_of (awake_any _)).mono ?_; rintro e _ ⟨rfl, q3, rfl⟩)
              go_ret
              exact ⟨rfl, by rw [E0.out]; exact q3.is_⟩
            · have HH := hidm (S1.out (by omega))
              clear S1
              obtain rfl : d = 0 := by omega
              clear h1
              go_wp2
              refine wp_region_later (by kernel_rfl) (by kernel_rfl) ?_
              repeat (go_big_quiet_step (first | (go_at_call 20; exact later_of (hfar _))))
              refine wpQuiet_nil ?_
              rintro _ ⟨q2, rfl⟩
              go_wp2
              go_roundw
              case rel => exact ⟨m + 1, q2, by omega, by omega, by go_num, HH.out, rfl⟩
              case measure => simp [intOf] <;> omega
          · obtain rfl : m = X0.length := by omega
            have HH := hidm (F1.out k hfk.out hrm.out)
            clear R0 R1 F1 HC
            go_wp2
            go_roundw
            case rel => exact ⟨k + 1, q, by omega, by go_num, HH.out, rfl⟩
            case measure => simp [intOf] <;> omega
      · obtain rfl : k = X0.length := by omega
        have hq := q.is_
        generalize q.at_ = wq at hq ⊢
        clear R0 R1 F0 F1 HC
        go_wp2_with (go_at_call 12; refine (ho wq hq).mono ?_; rintro e w1 ⟨v1, Z, rfl, hZ', o1', b1⟩; obtain ⟨a1, c1, q1, hcell⟩ := FE.out _ _ _ _ hfk.out hZ' o1'; subst q1; have HCE := hidm hcell; clear hZ' o1' hcell)
        go_loopw [40] (fun i wr => ∃ k : Nat, k ≤ X0.length ∧ i = .int .i64 k ∧ Bel w1 wr) (fun i _ => X0.length - (intOf i).toNat)
        case atStart => exact ⟨0, Nat.zero_le _, rfl, Bel.refl _⟩
        case round =>
          obtain ⟨k, hk, rfl, hB⟩ := hrel
          rename World => wr
          by_cases hlt : k < X0.length
          · obtain ⟨bo, rfl, hbo, hc⟩ := HCE.out k hlt
            have c0 := ((bcell hB).1 bo k hbo).trans hc
            go_wp2
            go_roundw
            case rel => exact ⟨k + 1, by omega, by go_num, hB⟩
            case measure => simp [intOf]; omega
          · obtain rfl : k = X0.length := by omega
            go_wp2_with (go_at_call 10; refine (awake_any _).mono ?_; rintro e w4 ⟨rfl, b4⟩)
            go_ret
            exact ⟨rfl, by rw [E0.out]; exact btrans hq (btrans b1 (btrans hB b4))⟩
  · obtain ⟨ao, cap, rfl, hc⟩ := wy0
    clear hc
    go_enter Try.func7, Try.ntmps7
    go_wp2_with (go_at_call 10; refine (awake_any _).mono ?_; rintro e w4 ⟨rfl, b4⟩)
    go_ret
    exact ⟨rfl, b4⟩

set_option maxRecDepth 100000 in
theorem lifted (os : Os) (started : os.Started) (H : Type) (enc : TypeId × Value → H) :
    ReturnsInHanded {} Try.checked os 7 .any (Rows.schedFreeSpec.pre6 enc Try.prog Try.f7 Rows.schedFreeRow.domain false) (Rows.schedFreeSpec.post enc Try.prog Try.f7 false true false false) := by
  refine returnsInHanded_of_change (C := Try.checked) own started (by kernel_rfl) Try.func7
    (ChangeSpec.witness6 (enc := enc) (C := Try.checked) false ⟨#[], #[.slice none 0 0], []⟩ 8 (by kernel_rfl) (by kernel_rfl) (by kernel_rfl) (by kernel_rfl)) ?_
  intro W base args ds gs before hval0 hW hcnd _
  have hval : ∀ (j : Nat) t v, Try.f7.params[j]? = some t → args[j]? = some v → Value.okWide Try.prog W .any base t v := hval0
  have hW' := hW
  obtain ⟨p, q, hA0, hV, rfl, hfz, hnd⟩ := hW
  have hA : DataW.TrodAll enc Try.prog W 0 (fun _ => true) true Try.f7.params.toList args.toList ds p := hA0
  rw [Try.params7] at hA hval
  obtain ⟨v0, vs0, d0, ds0, p0, q0, hargs, rfl, rfl, h0, r0⟩ := trodAll_cons hA
  obtain ⟨rfl, rfl, rfl⟩ := trodAll_nil r0
  obtain rfl : args = #[v0] := by cases args; simp_all
  obtain ⟨rfl, rfl⟩ := trodVars_none hV
  have k0 := h0
  have lt0 : ∀ x ∈ p0, x.block < W.heap.size := by obtain ⟨m, hm⟩ := k0; exact DataW.trod_lt m _ _ _ hm
  obtain ⟨X0, wy0⟩ := open_code (hval 0 22 v0 rfl rfl) h0
  clear hA0 hval0
  refine (walk W v0 X0 wy0).mono fun e W' ⟨he, bel⟩ => ?_
  subst he
  exact ⟨_, rfl, _, _, _, [], _, [], hW', trodAll_mk1 (shut_bool Try.underlying4 _), (trodAll_cons_mk (Below.trod laidOut (by kernel_rfl) (of_decide_eq_true (by kernel_rfl)) k0 bel.out lt0) trodAll_mk0), rfl, bel.out.frame _, fun h => by cases h⟩

theorem over : Rows.schedFreeRow.holds Try.pinned (OpenSpec.ofChange Rows.schedFreeSpec) :=
  OpenClaim.holds_of_wide 7 Try.f7 rfl rfl rfl rfl rfl rfl rfl ⟨rfl, rfl, rfl, rfl, rfl⟩ rfl rfl rfl rfl rfl (by kernel_rfl) Try.func7 (by kernel_rfl)
    (of_decide_eq_true (by kernel_rfl)) (by unfold Func.isWrapper; first | (rw [if_pos (by decide +kernel)]; kernel_rfl) | (rw [if_neg (by decide +kernel)]; exact ⟨rfl, rfl⟩))
    (fun os started H enc _ => lifted os started H enc)

theorem proved : Rows.SchedFreeSaid :=
  over
#print axioms proved
end Go.Proofs.Ytpmofaajkhllpaa.schedFree
