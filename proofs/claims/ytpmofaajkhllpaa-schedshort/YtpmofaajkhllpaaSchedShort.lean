/-
  The law 'SchedShort' of delayslotlaw11 returns true at every list: its order has at most as many free places as there are instructions that are late, and what is picked by it is the list's, as many (asked of at most 40 instructions).
  Conditions: none.
-/
import Derived.Test.YtpmofaajkhllpaaRows
import Derived.WalkKit
import Derived.ProofKit
import Derived.OpenShut
import Derived.ShutString
import Derived.ChangeOld
import Derived.Below
import Derived.Carry
import Derived.Test.YtpmofaajkhllpaaSh11
import Derived.Test.YtpmofaajkhllpaaRg
namespace Go.Proofs.Ytpmofaajkhllpaa.schedShort
open Go.ChangeShapes Go.WideShapes Go.ChangeAt Go.RowKit
open Go.ChangeMaps (open_string shut_string)
set_option linter.unusedVariables false

theorem laidOut : laidOutB Try.prog = true := by kernel_rfl
theorem own : ownKnob Try.prog.godebug = none := by kernel_rfl

set_option maxRecDepth 20000 in
set_option maxHeartbeats 2000000 in
theorem walk (w : World) (y0 : Value) (X0 : List Ins) (wy0 : Code w y0 X0) :
    Calls Try.prog 8 #[y0] w fun e w' => e = .returned (.bool true) ∧ Bel w w' := by
  by_cases hs : X0.length ≤ 40
  · have HW := hidm wy0
    obtain ⟨ao, cap, rfl, hc⟩ := wy0
    have HC := hidm hc
    clear hc
    have ho := fun ww (hb : Bel w ww) => order_any X0 (.slice ao X0.length cap) ww (by omega) (code_bel HW.out hb)
    have LZ := hidm (lateN_zero X0)
    have LS := hidm (lateN_step X0)
    have LL := lateN_le X0
    have OL := hidm (fun Z => @ord_late X0 Z)
    have CP := hidm (fun Z => @cntS_pick X0 Z)
    go_enter Try.func8, Try.ntmps8
    go_wp2
    go_loopw [22, 3] (fun i l wr => ∃ k : Nat, k ≤ X0.length ∧ i = .int .i64 k ∧ l = .int .i64 (lateN X0 k : Nat) ∧ Bel w wr) (fun i _ _ => X0.length - (intOf i).toNat)
    case atStart => exact ⟨0, Nat.zero_le _, rfl, by rw [LZ.out]; rfl, Bel.refl _⟩
    case round =>
      obtain ⟨k, hk, rfl, rfl, hB⟩ := hrel
      rename World => wr
      have hll := LL k
      by_cases hlt : k < X0.length
      · obtain ⟨b, o, rfl, hb, hca⟩ := HC.out (by omega)
        obtain ⟨a0, a1, a2, a3, a4⟩ := (hca.stay hb hB) k hlt
        rw [show X0.getD k Ins.zero = xAt X0 k from rfl] at a0 a1 a2 a3 a4
        have hT := fun ww => ret_late (x := xAt X0 k) ww
        have hS := LS.out k hlt
        have hbr : b < wr.heap.size := Nat.lt_of_lt_of_le hb hB.size
        clear hca LL
        generalize xAt X0 k = x at a0 a1 a2 a3 a4 hT hS
        generalize x.late = lb at hT hS
        generalize hm0 : lateN X0 k = m0 at hS hll ⊢
        clear hm0
        cases lb with
        | false =>
          have HS : Hid (lateN X0 (k + 1) = m0) := hidm (by simpa using hS)
          clear hS
          go_wp2_with (go_at_call 19; refine (hT _).mono ?_; rintro e w1 ⟨rfl, b1⟩)
          go_roundw
          case rel => exact ⟨k + 1, by omega, by go_num, by rw [HS.out], btrans (hB.alloc _) b1⟩
          case measure => simp [intOf]; omega
        | true =>
          have HS : Hid (lateN X0 (k + 1) = m0 + 1) := hidm (by simpa using hS)
          clear hS
          go_wp2_with (go_at_call 19; refine (hT _).mono ?_; rintro e w1 ⟨rfl, b1⟩)
          go_roundw
          case rel => exact ⟨k + 1, by omega, by go_num, by rw [HS.out]; go_num, btrans (hB.alloc _) b1⟩
          case measure => simp [intOf]; omega
      · obtain rfl : k = X0.length := by omega
        clear LL
        go_wp2_with (first
          | (have q := t1; go_at_call 14; refine (pick_any X0 Z _ _ w1 (by omega) (by omega) (code_bel HW.out (btrans hB b1)) (own_ints O1.out)).mono ?_; rintro e w2 ⟨g, c2, rfl, hg, hgp, b2⟩; have HGP := hidm hgp; have hgl := lt_of_heap hgp; clear hgp)
          | (go_at_call 12; refine (ho wr hB).mono ?_; rintro e w1 ⟨v1, Z, rfl, hZ, o1, b1⟩; obtain ⟨a1, c1, q1⟩ := ownI_form o1; subst q1; have O1 := hidm o1; obtain ⟨z1, z2⟩ := OL.out Z hZ; have hz3 : (Z.length : Int) ≤ X0.length + (lateN X0 X0.length : Nat) := (by omega); have hz4 : ¬ (Z.length : Int) < X0.length := (by omega); have HCP := hidm (CP.out Z hZ); clear o1 hZ; have t1 : Hid True := True.intro))
        go_loopw [59] (fun i wi => ∃ k : Nat, k ≤ X0.length ∧ i = .int .i64 k ∧ Bel w2 wi) (fun i _ => X0.length - (intOf i).toNat)
        case atStart => exact ⟨0, Nat.zero_le _, rfl, Bel.refl _⟩
        case round =>
          obtain ⟨k, hk2, rfl, hBk⟩ := hrel
          rename World => wk
          clear hk hlt
          by_cases hlt : k < X0.length
          · obtain ⟨b, o, rfl, hb, hca⟩ := HC.out (by omega)
            have hBw := btrans hB (btrans b1 (btrans b2 hBk))
            have hcs := hca.stay hb hBw
            have hbk : b < wk.heap.size := Nat.lt_of_lt_of_le hb hBw.size
            obtain ⟨a0, a1, a2, a3, a4⟩ := hcs k hlt
            rw [show X0.getD k Ins.zero = xAt X0 k from rfl] at a0 a1 a2 a3 a4
            have HP := hidm (HCP.out (xAt X0 k))
            have CZ := hidm (cntS_zero (xAt X0 k) X0)
            have CY := hidm (cntS_zero (xAt X0 k) (Z.map (pickI X0)))
            have CS := hidm (cntS_step (xAt X0 k) X0)
            have CT := hidm (cntS_step (xAt X0 k) (Z.map (pickI X0)))
            have cl1 := fun m => cntS_le (xAt X0 k) X0 m
            have cl2 := fun m => cntS_le (xAt X0 k) (Z.map (pickI X0)) m
            have HCS := hidm hcs
            clear hca hcs
            generalize xAt X0 k = x at a0 a1 a2 a3 a4 HP CZ CY CS CT cl1 cl2
            go_wp2
            have B5 := hidm (Box5.new wk x.o x.a x.b x.c x.i 30)
            have BU := (Bel.refl wk).alloc (.cells #[.int .i64 x.o, .int .i64 x.a, .int .i64 x.b, .int .i64 x.c, .int .i64 x.i] 30)
            have hzu : wk.heap.size < (wk.alloc (.cells #[.int .i64 x.o, .int .i64 x.a, .int .i64 x.b, .int .i64 x.c, .int .i64 x.i] 30)).heap.size := by simp
            generalize wk.alloc (.cells #[.int .i64 x.o, .int .i64 x.a, .int .i64 x.b, .int .i64 x.c, .int .i64 x.i] 30) = ub at B5 BU hzu ⊢
            clear a0 a1 a2 a3 a4
            go_loopw [65, 10] (fun j n wi => ∃ m : Nat, m ≤ X0.length ∧ j = .int .i64 m ∧ n = .int .i64 (cntS x X0 m : Nat) ∧ Bel ub wi) (fun j _ _ => X0.length - (intOf j).toNat)
            case atStart => exact ⟨0, Nat.zero_le _, rfl, by rw [CZ.out]; rfl, Bel.refl _⟩
            case round =>
              obtain ⟨m, hm, rfl, rfl, hBm⟩ := hrel
              rename World => wm
              have hum := hBm.size
              by_cases hlt2 : m < X0.length
              · obtain ⟨d0, d1, d2, d3, d4⟩ := (HCS.out.stay hbk (btrans BU hBm)) m hlt2
                have hS := CS.out m hlt2
                obtain ⟨x0, x1, x2, x3, x4⟩ := B5.out.bel hBm hzu
                have hcl := cl1 m
                have hxm : wk.heap.size < wm.heap.size := by omega
                have hbm : b < wm.heap.size := by omega
                clear cl1 cl2 CZ CY CS CT HCP ho LS OL
                generalize X0.getD m Ins.zero = y at d0 d1 d2 d3 d4 hS
                generalize hm0 : cntS x X0 m = m0 at hS hcl ⊢
                clear hm0
                rcases sameI_six x y with ⟨s, e0, e1, e2, e3, e4⟩ | ⟨s, e0⟩ | ⟨s, e0, e1⟩ | ⟨s, e0, e1, e2⟩ | ⟨s, e0, e1, e2, e3⟩ | ⟨s, e0, e1, e2, e3, e4⟩
                · rw [s, if_pos rfl] at hS
                  have HS := hidm hS
                  clear hS s
                  go_wp2
                  go_roundw
                  case rel => exact ⟨m + 1, by omega, by go_num, by rw [HS.out]; go_num, hBm.alloc _⟩
                  case measure => simp [intOf]; omega
                all_goals
                  rw [s, if_neg (by simp)] at hS
                  have HS := hidm hS
                  clear hS s
                  go_wp2
                  go_roundw
                  case rel => exact ⟨m + 1, by omega, by go_num, by rw [HS.out]; rfl, hBm.alloc _⟩
                  case measure => simp [intOf]; omega
              · obtain rfl : m = X0.length := by omega
                have X5 := hidm (B5.out.bel hBm hzu)
                have HP2 := HP.out
                rw [show (Z.map (pickI X0)).length = Z.length by simp] at CT
                clear cl1 CZ CS HCP ho LS OL HCS B5 HP
                generalize cntS x X0 X0.length = was at HP2 ⊢
                have HPP := hidm HP2
                clear HP2
                go_wp2
                go_loopw [77, 11] (fun j n wi => ∃ m : Nat, m ≤ Z.length ∧ j = .int .i64 m ∧ n = .int .i64 (cntS x (Z.map (pickI X0)) m : Nat) ∧ Bel wm wi) (fun j _ _ => Z.length - (intOf j).toNat)
                case atStart => exact ⟨0, Nat.zero_le _, rfl, by rw [CY.out]; rfl, Bel.refl _⟩
                case round =>
                  obtain ⟨m, hm2, rfl, rfl, hBq⟩ := hrel
                  rename World => wq
                  have hmq := hBq.size
                  obtain ⟨x0, x1, x2, x3, x4⟩ := X5.out.bel hBq (by omega)
                  have hxq : wk.heap.size < wq.heap.size := by omega
                  by_cases hlt2 : m < Z.length
                  · obtain ⟨d0, d1, d2, d3, d4⟩ := codeB_at HGP.out m (by rw [List.length_map]; exact hlt2)
                    have hB2 := btrans hBk (btrans BU (btrans hBm hBq))
                    have d0 := ((bcell hB2).1 _ _ hgl).trans d0
                    have d1 := ((bcell hB2).1 _ _ hgl).trans d1
                    have d2 := ((bcell hB2).1 _ _ hgl).trans d2
                    have d3 := ((bcell hB2).1 _ _ hgl).trans d3
                    have d4 := ((bcell hB2).1 _ _ hgl).trans d4
                    have hS := CT.out m hlt2
                    have hcl := cl2 m
                    have hgq : g < wq.heap.size := by have := hB2.size; omega
                    have hltI : (m : Int) < Z.length := by omega
                    clear cl2 CY CT HPP HGP
                    generalize (Z.map (pickI X0)).getD m Ins.zero = y at d0 d1 d2 d3 d4 hS
                    generalize hm0 : cntS x (Z.map (pickI X0)) m = m0 at hS hcl ⊢
                    clear hm0
                    rcases sameI_six x y with ⟨s, e0, e1, e2, e3, e4⟩ | ⟨s, e0⟩ | ⟨s, e0, e1⟩ | ⟨s, e0, e1, e2⟩ | ⟨s, e0, e1, e2, e3⟩ | ⟨s, e0, e1, e2, e3, e4⟩
                    · rw [s, if_pos rfl] at hS
                      have HS := hidm hS
                      clear hS s
                      go_wp2
                      go_roundw
                      case rel => exact ⟨m + 1, by omega, by go_num, by rw [HS.out]; go_num, hBq.alloc _⟩
                      case measure => simp [intOf]; omega
                    all_goals
                      rw [s, if_neg (by simp)] at hS
                      have HS := hidm hS
                      clear hS s
                      go_wp2
                      go_roundw
                      case rel => exact ⟨m + 1, by omega, by go_num, by rw [HS.out]; rfl, hBq.alloc _⟩
                      case measure => simp [intOf]; omega
                  · obtain rfl : m = Z.length := by omega
                    have hPP := HPP.out
                    clear cl2 CY CT HPP HGP
                    generalize cntS x (Z.map (pickI X0)) Z.length = is at hPP ⊢
                    obtain ⟨hp1, hp2⟩ := hPP
                    have hp3 : ¬ (is : Int) < was := by omega
                    rcases sameI_zero6 x with ⟨s, e0, e1, e2, e3, e4⟩ | ⟨s, e0⟩ | ⟨s, e0, e1⟩ | ⟨s, e0, e1, e2⟩ | ⟨s, e0, e1, e2, e3⟩ | ⟨s, e0, e1, e2, e3, e4⟩
                    · clear hp2 s
                      go_wp2
                      go_roundw
                      case rel => exact ⟨k + 1, by omega, by go_num, btrans hBk (btrans BU (btrans hBm hBq))⟩
                      case measure => simp [intOf]; omega
                    all_goals
                      obtain rfl := hp2 s
                      clear hp1 hp3 s
                      go_wp2
                      go_roundw
                      case rel => exact ⟨k + 1, by omega, by go_num, btrans hBk (btrans BU (btrans hBm hBq))⟩
                      case measure => simp [intOf]; omega
          · go_wp2_with (go_at_call 10; refine (awake_any _).mono ?_; rintro e w4 ⟨rfl, b4⟩)
            go_ret
            exact ⟨rfl, btrans hB (btrans b1 (btrans b2 (btrans hBk b4)))⟩
  · obtain ⟨ao, cap, rfl, hc⟩ := wy0
    clear hc
    go_enter Try.func8, Try.ntmps8
    go_wp2_with (go_at_call 10; refine (awake_any _).mono ?_; rintro e w4 ⟨rfl, b4⟩)
    go_ret
    exact ⟨rfl, b4⟩

set_option maxRecDepth 100000 in
theorem lifted (os : Os) (started : os.Started) (H : Type) (enc : TypeId × Value → H) :
    ReturnsInHanded {} Try.checked os 8 .any (Rows.schedShortSpec.pre6 enc Try.prog Try.f8 Rows.schedShortRow.domain false) (Rows.schedShortSpec.post enc Try.prog Try.f8 false true false false) := by
  refine returnsInHanded_of_change (C := Try.checked) own started (by kernel_rfl) Try.func8
    (ChangeSpec.witness6 (enc := enc) (C := Try.checked) false ⟨#[], #[.slice none 0 0], []⟩ 8 (by kernel_rfl) (by kernel_rfl) (by kernel_rfl) (by kernel_rfl)) ?_
  intro W base args ds gs before hval0 hW hcnd _
  have hval : ∀ (j : Nat) t v, Try.f8.params[j]? = some t → args[j]? = some v → Value.okWide Try.prog W .any base t v := hval0
  have hW' := hW
  obtain ⟨p, q, hA0, hV, rfl, hfz, hnd⟩ := hW
  have hA : DataW.TrodAll enc Try.prog W 0 (fun _ => true) true Try.f8.params.toList args.toList ds p := hA0
  rw [Try.params8] at hA hval
  obtain ⟨v0, vs0, d0, ds0, p0, q0, hargs, rfl, rfl, h0, r0⟩ := trodAll_cons hA
  obtain ⟨rfl, rfl, rfl⟩ := trodAll_nil r0
  obtain rfl : args = #[v0] := by cases args; simp_all
  obtain ⟨rfl, rfl⟩ := trodVars_none hV
  have k0 := h0
  have lt0 : ∀ x ∈ p0, x.block < W.heap.size := by obtain ⟨m, hm⟩ := k0; exact DataW.trod_lt m _ _ _ hm
  obtain ⟨X0, wy0⟩ := open_code (hval 0 22 v0 rfl rfl) h0
  clear hA0 hval0
  refine (walk W v0 X0 wy0).mono fun e W' ⟨he, bel⟩ => ?_
  subst he
  exact ⟨_, rfl, _, _, _, [], _, [], hW', trodAll_mk1 (shut_bool Try.underlying4 _), (trodAll_cons_mk (Below.trod laidOut (by kernel_rfl) (of_decide_eq_true (by kernel_rfl)) k0 bel.out lt0) trodAll_mk0), rfl, bel.out.frame _, fun h => by cases h⟩

theorem over : Rows.schedShortRow.holds Try.pinned (OpenSpec.ofChange Rows.schedShortSpec) :=
  OpenClaim.holds_of_wide 8 Try.f8 rfl rfl rfl rfl rfl rfl rfl ⟨rfl, rfl, rfl, rfl, rfl⟩ rfl rfl rfl rfl rfl (by kernel_rfl) Try.func8 (by kernel_rfl)
    (of_decide_eq_true (by kernel_rfl)) (by unfold Func.isWrapper; first | (rw [if_pos (by decide +kernel)]; kernel_rfl) | (rw [if_neg (by decide +kernel)]; exact ⟨rfl, rfl⟩))
    (fun os started H enc _ => lifted os started H enc)

theorem proved : Rows.SchedShortSaid :=
  over
#print axioms proved
end Go.Proofs.Ytpmofaajkhllpaa.schedShort
