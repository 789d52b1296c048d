/-
  The law 'SchedSlots' of delayslotlaw11 returns true at every list: what is laid has all its instructions, each once, and at most twice as many places, and one; one that goes stands last but one, and none that is late stands at the end (asked of at most 40 instructions, of which none but the last one goes).
  Conditions: none.
-/
import Derived.Test.YtpmofaajkhllpaaRows
import Derived.WalkKit
import Derived.ProofKit
import Derived.OpenShut
import Derived.ShutString
import Derived.ChangeOld
import Derived.Below
import Derived.Carry
import Derived.Test.YtpmofaajkhllpaaSo11
namespace Go.Proofs.Ytpmofaajkhllpaa.schedSlots
open Go.ChangeShapes Go.WideShapes Go.ChangeAt Go.RowKit
open Go.ChangeMaps (open_string shut_string)
set_option linter.unusedVariables false

theorem laidOut : laidOutB Try.prog = true := by kernel_rfl
theorem own : ownKnob Try.prog.godebug = none := by kernel_rfl

set_option maxRecDepth 20000 in
set_option maxHeartbeats 2000000 in
theorem walk (w : World) (y0 : Value) (X0 : List Ins) (wy0 : Code w y0 X0) (ry0 : ∀ ao n c, y0 = .slice ao n c → n ≤ c) :
    Calls Try.prog 6 #[y0] w fun e w' => e = .returned (.bool true) ∧ Bel w w' := by
  have HW := hidm wy0
  obtain ⟨ao, cap, rfl, hc⟩ := wy0
  have HC := hidm hc
  have hl := fun ww (h : X0.length ≤ 40) (hb : Bel w ww) => lay_any X0 (.slice ao X0.length cap) ww (by omega) (code_bel HW.out hb) ry0
  have SN := hidm (fun M => @layS_nil X0 M)
  have SL := hidm (fun M => @layS_slots X0 M)
  clear hc ry0
  go_enter Try.func6, Try.ntmps6
  go_wp2
  go_loopw [14] (fun i wr => ∃ k : Nat, k ≤ X0.length ∧ i = .int .i64 k ∧ Hid (0 < k → X0.length ≤ 40) ∧ Bel w wr) (fun i _ => X0.length - (intOf i).toNat)
  case atStart => exact ⟨0, Nat.zero_le _, rfl, fun h => absurd h (Nat.lt_irrefl _), Bel.refl _⟩
  case round =>
    obtain ⟨k, hk, rfl, hlim, hB⟩ := hrel
    rename World => wr
    by_cases hlt : k < X0.length
    · obtain ⟨b, o, rfl, hb, hca⟩ := HC.out (by omega)
      obtain ⟨a0, a1, a2, a3, a4⟩ := (hca.stay hb hB) k hlt
      rw [show X0.getD k Ins.zero = xAt X0 k from rfl] at a0 a1 a2 a3 a4
      have hG := fun ww => ret_goes (x := xAt X0 k) ww
      have hbr : b < wr.heap.size := Nat.lt_of_lt_of_le hb hB.size
      clear hca hl SN SL HC HW hlim
      generalize xAt X0 k = x at a0 a1 a2 a3 a4 hG
      generalize x.goes = gb at hG
      by_cases h40 : X0.length ≤ 40
      · have H40 := hidm (fun _ : 0 < k + 1 => h40)
        by_cases hlast : (k : Int) < (X0.length : Int) - 1
        · cases gb with
          | false =>
            go_wp2_with (go_at_call 18; refine (hG _).mono ?_; rintro e w1 ⟨rfl, b1⟩)
            go_roundw
            case rel => exact ⟨k + 1, by omega, by go_num, H40.out, btrans (hB.alloc _) b1⟩
            case measure => simp [intOf]; omega
          | true =>
            go_wp2_with (first
              | (have q := t1; go_at_call 10; refine (awake_any _).mono ?_; rintro e w4 ⟨rfl, b4⟩)
              | (go_at_call 18; refine (hG _).mono ?_; rintro e w1 ⟨rfl, b1⟩; have t1 : Hid True := True.intro))
            go_ret
            exact ⟨rfl, btrans (hB.alloc _) (btrans b1 b4)⟩
        · go_wp2
          go_roundw
          case rel => exact ⟨k + 1, by omega, by go_num, H40.out, hB.alloc _⟩
          case measure => simp [intOf]; omega
      · go_wp2_with (go_at_call 10; refine (awake_any _).mono ?_; rintro e w4 ⟨rfl, b4⟩)
        go_ret
        exact ⟨rfl, btrans (hB.alloc _) b4⟩
    · obtain rfl : k = X0.length := by omega
      by_cases h0 : X0.length = 0
      · have H0 := hidm h0
        have hz : ((X0.length : Int) == 0) = true := by rw [beq_iff_eq]; omega
        clear h0 hlt
        go_wp2_with (first
          | (have q := t1; go_at_call 10; refine (awake_any _).mono ?_; rintro e w4 ⟨rfl, b4⟩)
          | (go_at_call 15; refine (hl wr (by have := H0.out; omega) hB).mono ?_; rintro e w1 ⟨v1, M, rfl, hM, o1, b1⟩; obtain rfl := SN.out M hM H0.out; obtain ⟨a1, c1, q1⟩ := ownI_form o1; subst q1; clear o1 hM; have t1 : Hid True := True.intro))
        go_ret
        exact ⟨rfl, btrans hB (btrans b1 b4)⟩
      · have h1 : 0 < X0.length := by omega
        have h40 := hlim.out h1
        have hz : ((X0.length : Int) == 0) = false := beq_eq_false_iff_ne.2 (by omega)
        have hmk : ∀ W : World, (Instr.makeSlice 25 (.int .i64 X0.length) (.int .i64 X0.length)).run Try.prog W = .ok (.slice (some ⟨W.heap.size, 0, none⟩) X0.length X0.length) (W.alloc (intB (fun _ => 0) X0.length)) := fun W => make_ints X0.length (by omega) _ rfl W
        clear h0 hlt
        go_wp2_with (go_at_call 15; refine (hl wr h40 hB).mono ?_; rintro e w1 ⟨v1, M, rfl, hM, o1, b1⟩; obtain ⟨m1, m2, m3, m4, E, e1, e2, e3⟩ := SL.out M hM h1; obtain ⟨a1, c1, q1⟩ := ownI_form o1; subst q1; have hm1 : ¬ 2 * (X0.length : Int) + 1 < M.length := (by omega); have hm2 : ¬ (M.length : Int) < X0.length := (by omega); have hd1 : decide (2 * (X0.length : Int) + 1 < (M.length : Int)) = false := decide_eq_false hm1; have hd2 : decide (M.length < X0.length) = false := decide_eq_false (by omega); have O1 := hidm (own_ints o1); have M3 := hidm (lay_in m3); have M4 := hidm m4; have E1 := hidm e1; have E2 := hidm e2; have E3 := hidm e3; clear o1 hM m3 m4 e1 e2 e3)
        have r0 : (w1.alloc (intB (fun _ => 0) X0.length)).heap[w1.heap.size]? = some (intB (cntM M 0) X0.length) := by rw [← cntM_start]; exact heap_new w1 _
        have B1 := (Bel.refl w1).alloc (intB (fun _ => 0) X0.length)
        generalize w1.alloc (intB (fun _ => 0) X0.length) = u1 at r0 B1 ⊢
        clear hmk
        go_loopw [65] (fun i wi => ∃ k : Nat, k ≤ M.length ∧ i = .int .i64 k ∧ wi.heap[w1.heap.size]? = some (intB (cntM M k) X0.length) ∧ Bel w1 wi) (fun i _ => M.length - (intOf i).toNat)
        case atStart => exact ⟨0, Nat.zero_le _, rfl, r0, B1⟩
        case round =>
          obtain ⟨k, hkM, rfl, hrow, hBk⟩ := hrel
          rename World => wk
          clear r0 B1 u1
          by_cases hlt : k < M.length
          · obtain ⟨_, _, q, hco⟩ := O1.out.bel hBk
            cases q
            obtain ⟨bo, oo, rfl, hbo, hcz⟩ := hco (by omega)
            have c0 := hcz k hlt
            rw [show M[k]?.getD 0 = M.getD k 0 from rfl] at c0
            have hin := M3.out k hlt
            have S1 := hidm (fun h => hrow.trans (congrArg some (cntM_skip (M := M) (k := k) X0.length hlt h)))
            have S2 := hidm (fun i h => cntM_add (M := M) (k := k) (i := i) X0.length hlt h)
            have hwk := lt_of_heap hrow
            have fz := fun j => int_fz hrow j
            have HR := hidm hrow
            have hbd := cntM_bd M k
            have hcell := fun j hj => int_cell hrow j hj
            have HCE := hidm hcell
            have hkI : (k : Int) < M.length := by omega
            clear hcz hco O1 M3 M4 E1 E2 E3 hrow hcell hl HW HC SN SL
            generalize M.getD k 0 = z at c0 hin S1 S2
            rcases hin with rfl | ⟨i, rfl, hi⟩
            · have HH := hidm (S1.out rfl)
              clear S1 S2 HCE hbd fz
              go_wp2
              go_roundw
              case rel => exact ⟨k + 1, by omega, by go_num, HH.out, hBk⟩
              case measure => simp [intOf]; omega
            · have HH := hidm (S2.out i rfl)
              have ci := HCE.out i hi
              have fi := fz i
              have hbi := hbd i
              have hiI : (i : Int) < X0.length := by omega
              clear S1 S2 HCE hbd fz
              generalize hc0 : cntM M k i = ci0 at HH ci hbi
              clear hc0
              go_wp2
              go_roundw
              case rel => exact ⟨k + 1, by omega, by go_num, (int_set HR.out i (ci0 + 1)).trans (congrArg some HH.out), hBk.setCell (p := ⟨w1.heap.size, i, none⟩) (Nat.le_refl _) _⟩
              case measure => simp [intOf]; omega
          · obtain rfl : k = M.length := by omega
            have hwk := lt_of_heap hrow
            have HCE := hidm (fun j hj => (int_cell hrow j hj).trans (by rw [cntM_end (M4.out j hj)]))
            clear hrow M3 M4
            go_wp2
            go_loopw [88] (fun i wi => ∃ k : Nat, k ≤ X0.length ∧ i = .int .i64 k ∧ Bel wk wi) (fun i _ => X0.length - (intOf i).toNat)
            case atStart => exact ⟨0, Nat.zero_le _, rfl, Bel.refl _⟩
            case round =>
              obtain ⟨k, hkX, rfl, hBq⟩ := hrel
              rename World => wq
              by_cases hlt2 : k < X0.length
              · have c0 := ((bcell hBq).1 _ _ hwk).trans (HCE.out k hlt2)
                have hwq : w1.heap.size < wq.heap.size := by have := hBq.size; omega
                have hkI : (k : Int) < X0.length := by omega
                clear HCE
                go_wp2
                go_roundw
                case rel => exact ⟨k + 1, by omega, by go_num, hBq⟩
                case measure => simp [intOf]; omega
              · have hB2 := btrans hBk hBq
                have hBw := btrans hB (btrans b1 hB2)
                obtain ⟨_, _, q, hco⟩ := O1.out.bel hB2
                cases q
                obtain ⟨bo, oo, rfl, hbo, hcz⟩ := hco (by omega)
                obtain ⟨b, o, rfl, hb, hca⟩ := HC.out h1
                have hcs := hca.stay hb hBw
                have hbq : b < wq.heap.size := Nat.lt_of_lt_of_le hb hBw.size
                have nl : ((X0.length : Int) - 1) = ((X0.length - 1 : Nat) : Int) := by omega
                obtain ⟨L, hL⟩ : ∃ L : Nat, L = X0.length - 1 := ⟨_, rfl⟩
                obtain ⟨d0, d1, d2, d3, d4⟩ := hcs L (by omega)
                rw [show X0.getD L Ins.zero = xAt X0 L from rfl] at d0 d1 d2 d3 d4
                have E3' := hidm (show (xAt X0 L).goes = true → ∃ F, E = F + 1 ∧ M.getD F 0 = (L : Int) from by rw [hL]; exact E3.out)
                rw [← hL] at nl
                have hLl : (L : Int) < X0.length := by omega
                have hGo := fun ww => ret_goes (x := xAt X0 L) ww
                have eE := E1.out
                have hEI : (M.length : Int) - 1 = (E : Int) := by omega
                have hEl : (E : Int) < M.length := by omega
                have cE := hcz E (by omega)
                rw [show M[E]?.getD 0 = M.getD E 0 from rfl] at cE
                have e2 := E2.out
                have HCZ := hidm hcz
                have HCS := hidm hcs
                have HL := hidm hL
                clear hL hcz hco O1 E1 E2 E3 hcs hca HC HW hl SN SL HCE eE
                generalize xAt X0 L = y at d0 d1 d2 d3 d4 hGo E3'
                have hla := fun (j : Nat) ww => ret_late (x := xAt X0 j) ww
                cases hgo : y.goes with
                | false =>
                  rw [hgo] at hGo
                  clear E3' hgo
                  rcases e2 with hz1 | ⟨j, hz1, hj, hjl⟩
                  · rw [hz1] at cE
                    go_wp2_with (first
                      | (have q := t1; go_at_call 10; refine (awake_any _).mono ?_; rintro e w4 ⟨rfl, b4⟩)
                      | (go_at_call 18; refine (hGo _).mono ?_; rintro e w6 ⟨rfl, b6⟩; have t1 : Hid True := True.intro))
                    go_ret
                    exact ⟨rfl, btrans hBw (btrans b6 b4)⟩
                  · rw [hz1] at cE
                    obtain ⟨x0, x1, x2, x3, x4⟩ := HCS.out j hj
                    rw [show X0.getD j Ins.zero = xAt X0 j from rfl] at x0 x1 x2 x3 x4
                    have hT := hla j
                    rw [hjl] at hT
                    have hjI : (j : Int) < X0.length := by omega
                    clear hjl hla HCS HCZ
                    generalize xAt X0 j = x at x0 x1 x2 x3 x4 hT
                    go_wp2_with (first
                      | (have q := t1; go_at_call 10; refine (awake_any _).mono ?_; rintro e w4 ⟨rfl, b4⟩)
                      | (have q := t0; go_at_call 18; refine (hGo _).mono ?_; rintro e w6 ⟨rfl, b6⟩; have t1 : Hid True := True.intro)
                      | (go_at_call 19; refine (hT _).mono ?_; rintro e w5 ⟨rfl, b5⟩; have d0 := ((bcell b5).1 _ _ hbq).trans d0; have d1 := ((bcell b5).1 _ _ hbq).trans d1; have d2 := ((bcell b5).1 _ _ hbq).trans d2; have d3 := ((bcell b5).1 _ _ hbq).trans d3; have d4 := ((bcell b5).1 _ _ hbq).trans d4; have hb5 : b < w5.heap.size := Nat.lt_of_lt_of_le hbq b5.size; have t0 : Hid True := True.intro))
                    go_ret
                    exact ⟨rfl, btrans hBw (btrans b5 (btrans b6 b4))⟩
                | true =>
                  rw [hgo] at hGo
                  obtain ⟨F, hF1, hF2⟩ := E3'.out hgo
                  have hFI : (M.length : Int) - 2 = (F : Int) := by omega
                  have hFl : (F : Int) < M.length := by omega
                  have hM1 : (1 : Int) < M.length := by omega
                  have hF : ∀ W, Bel wq W → W.cell? ⟨bo, oo + F, none⟩ = some (.int .i64 L) := fun W hb => ((bcell hb).1 _ _ hbo).trans ((HCZ.out F (by omega)).trans (by rw [← hF2]; rfl))
                  clear E3' hgo hF1 hF2
                  rcases e2 with hz1 | ⟨j, hz1, hj, hjl⟩
                  · rw [hz1] at cE
                    go_wp2_with (first
                      | (have q := t1; go_at_call 10; refine (awake_any _).mono ?_; rintro e w4 ⟨rfl, b4⟩)
                      | (go_at_call 18; refine (hGo _).mono ?_; rintro e w6 ⟨rfl, b6⟩; have cF6 := hF w6 b6; have hb6 : bo < w6.heap.size := Nat.lt_of_lt_of_le hbo b6.size; have t1 : Hid True := True.intro))
                    go_ret
                    exact ⟨rfl, btrans hBw (btrans b6 b4)⟩
                  · rw [hz1] at cE
                    obtain ⟨x0, x1, x2, x3, x4⟩ := HCS.out j hj
                    rw [show X0.getD j Ins.zero = xAt X0 j from rfl] at x0 x1 x2 x3 x4
                    have hT := hla j
                    rw [hjl] at hT
                    have hjI : (j : Int) < X0.length := by omega
                    clear hjl hla HCS HCZ
                    generalize xAt X0 j = x at x0 x1 x2 x3 x4 hT
                    go_wp2_with (first
                      | (have q := t1; go_at_call 10; refine (awake_any _).mono ?_; rintro e w4 ⟨rfl, b4⟩)
                      | (have q := t0; go_at_call 18; refine (hGo _).mono ?_; rintro e w6 ⟨rfl, b6⟩; have cF6 := hF w6 (btrans b5 b6); have hb6 : bo < w6.heap.size := Nat.lt_of_lt_of_le hbo (btrans b5 b6).size; have t1 : Hid True := True.intro)
                      | (go_at_call 19; refine (hT _).mono ?_; rintro e w5 ⟨rfl, b5⟩; have d0 := ((bcell b5).1 _ _ hbq).trans d0; have d1 := ((bcell b5).1 _ _ hbq).trans d1; have d2 := ((bcell b5).1 _ _ hbq).trans d2; have d3 := ((bcell b5).1 _ _ hbq).trans d3; have d4 := ((bcell b5).1 _ _ hbq).trans d4; have hb5 : b < w5.heap.size := Nat.lt_of_lt_of_le hbq b5.size; have t0 : Hid True := True.intro))
                    go_ret
                    exact ⟨rfl, btrans hBw (btrans b5 (btrans b6 b4))⟩

set_option maxRecDepth 100000 in
theorem lifted (os : Os) (started : os.Started) (H : Type) (enc : TypeId × Value → H) :
    ReturnsInHanded {} Try.checked os 6 .any (Rows.schedSlotsSpec.pre6 enc Try.prog Try.f6 Rows.schedSlotsRow.domain false) (Rows.schedSlotsSpec.post enc Try.prog Try.f6 false true false false) := by
  refine returnsInHanded_of_change (C := Try.checked) own started (by kernel_rfl) Try.func6
    (ChangeSpec.witness6 (enc := enc) (C := Try.checked) false ⟨#[], #[.slice none 0 0], []⟩ 8 (by kernel_rfl) (by kernel_rfl) (by kernel_rfl) (by kernel_rfl)) ?_
  intro W base args ds gs before hval0 hW hcnd _
  have hval : ∀ (j : Nat) t v, Try.f6.params[j]? = some t → args[j]? = some v → Value.okWide Try.prog W .any base t v := hval0
  have hW' := hW
  obtain ⟨p, q, hA0, hV, rfl, hfz, hnd⟩ := hW
  have hA : DataW.TrodAll enc Try.prog W 0 (fun _ => true) true Try.f6.params.toList args.toList ds p := hA0
  rw [Try.params6] at hA hval
  obtain ⟨v0, vs0, d0, ds0, p0, q0, hargs, rfl, rfl, h0, r0⟩ := trodAll_cons hA
  obtain ⟨rfl, rfl, rfl⟩ := trodAll_nil r0
  obtain rfl : args = #[v0] := by cases args; simp_all
  obtain ⟨rfl, rfl⟩ := trodVars_none hV
  have k0 := h0
  have lt0 : ∀ x ∈ p0, x.block < W.heap.size := by obtain ⟨m, hm⟩ := k0; exact DataW.trod_lt m _ _ _ hm
  obtain ⟨X0, wy0, ry0⟩ := open_codeR (hval 0 22 v0 rfl rfl) h0
  clear hA0 hval0
  refine (walk W v0 X0 wy0 ry0).mono fun e W' ⟨he, bel⟩ => ?_
  subst he
  exact ⟨_, rfl, _, _, _, [], _, [], hW', trodAll_mk1 (shut_bool Try.underlying4 _), (trodAll_cons_mk (Below.trod laidOut (by kernel_rfl) (of_decide_eq_true (by kernel_rfl)) k0 bel.out lt0) trodAll_mk0), rfl, bel.out.frame _, fun h => by cases h⟩

theorem over : Rows.schedSlotsRow.holds Try.pinned (OpenSpec.ofChange Rows.schedSlotsSpec) :=
  OpenClaim.holds_of_wide 6 Try.f6 rfl rfl rfl rfl rfl rfl rfl ⟨rfl, rfl, rfl, rfl, rfl⟩ rfl rfl rfl rfl rfl (by kernel_rfl) Try.func6 (by kernel_rfl)
    (of_decide_eq_true (by kernel_rfl)) (by unfold Func.isWrapper; first | (rw [if_pos (by decide +kernel)]; kernel_rfl) | (rw [if_neg (by decide +kernel)]; exact ⟨rfl, rfl⟩))
    (fun os started H enc _ => lifted os started H enc)

theorem proved : Rows.SchedSlotsSaid :=
  over
#print axioms proved
end Go.Proofs.Ytpmofaajkhllpaa.schedSlots
