/-
  The law 'HazardSpaced' of delayslotlaw12 returns true at all code: right code with a Nop behind each instruction is safe; with two that go side by side it never is (asked of at most 100 instructions).
  Conditions: none.
-/
import Derived.Test.YtfhepjjebadpdaaRows
import Derived.WalkKit
import Derived.ProofKit
import Derived.OpenShut
import Derived.ShutString
import Derived.ChangeOld
import Derived.Below
import Derived.Carry
import Derived.Test.YtfhepjjebadpdaaAwk12
import Derived.Test.YtfhepjjebadpdaaRgs
import Derived.Test.YtfhepjjebadpdaaAp12
namespace Go.Proofs.Ytfhepjjebadpdaa.hazardSpaced
open Go.ChangeShapes Go.WideShapes Go.ChangeAt Go.RowKit
open Go.ChangeMaps (open_string shut_string)
set_option linter.unusedVariables false

theorem laidOut : laidOutB Try.prog = true := by kernel_rfl
theorem own : ownKnob Try.prog.godebug = none := by kernel_rfl
theorem pair_lit (wr : World) (x : Ins) : Code ((wr.alloc (.cells #[.int .i64 x.o, .int .i64 x.a, .int .i64 x.b, .int .i64 x.c, .int .i64 x.i] 31)).alloc (.cells #[.int .i64 x.o, .int .i64 x.a, .int .i64 x.b, .int .i64 x.c, .int .i64 x.i, .int .i64 0, .int .i64 0, .int .i64 0, .int .i64 0, .int .i64 0] 31)) (.slice (some ⟨wr.heap.size + 1, 0, none⟩) 2 2) [x, Ins.zero] := by
  have h := heap_new (wr.alloc (.cells #[.int .i64 x.o, .int .i64 x.a, .int .i64 x.b, .int .i64 x.c, .int .i64 x.i] 31)) (.cells #[.int .i64 x.o, .int .i64 x.a, .int .i64 x.b, .int .i64 x.c, .int .i64 x.i, .int .i64 0, .int .i64 0, .int .i64 0, .int .i64 0, .int .i64 0] 31)
  rw [World.size_alloc] at h
  exact code_lit (X := [x, Ins.zero]) h 2 2 rfl
theorem box_grown {wr w3 : World} {x : Ins} {row : Option Nat} (hg : ((wr.alloc (.cells #[.int .i64 x.o, .int .i64 x.a, .int .i64 x.b, .int .i64 x.c, .int .i64 x.i] 31)).alloc (.cells #[.int .i64 x.o, .int .i64 x.a, .int .i64 x.b, .int .i64 x.c, .int .i64 x.i, .int .i64 0, .int .i64 0, .int .i64 0, .int .i64 0, .int .i64 0] 31)).grownBy w3 row) (hn : row ≠ some wr.heap.size) : Box5 w3 wr.heap.size x.o x.a x.b x.c x.i := by
  have h := (hg.block wr.heap.size (by simp; omega) hn.symm).trans (heap_old (heap_new wr _))
  exact ⟨cell_of h 0, cell_of h 1, cell_of h 2, cell_of h 3, cell_of h 4⟩

set_option maxRecDepth 20000 in
set_option maxHeartbeats 2000000 in
theorem walk (w : World) (y0 : Value) (X0 : List Ins) (wy0 : Code w y0 X0) :
    Calls Try.prog 5 #[y0] w fun e w' => e = .returned (.bool true) ∧ Bel w w' := by
  have HX := hidm wy0
  obtain ⟨ao, cap, rfl, hc⟩ := wy0
  have HC := hidm hc
  clear hc
  by_cases hl : X0.length ≤ 100
  · have T0 := hidm (twoN_zero X0)
    have T1 := hidm (twoN_one X0)
    have TS := hidm (fun m => @two_step X0 m)
    have TE := hidm (fun p => @two_end X0 p)
    have SX := fun ww (q : Bel w ww) => safe_any X0 _ ww (by omega) (HX.out.stay q)
    have WT := hidm (fun k (hk : k < X0.length) => wide_take (X := X0) hk)
    have WE : Hid (wideX (X0.take X0.length) = wideX X0) := hidm (by rw [List.take_length])
    have WL : ∀ k, k ≤ X0.length → (wideX (X0.take k)).length ≤ 200 := fun k hk => by rw [wideX_len, List.length_take]; omega
    have FV := fun v ww hv => first_any (wideX X0) v ww (by rw [wideX_len]; omega) hv
    have FW := hidm (wide_first X0)
    go_enter Try.func5, Try.ntmps5
    go_wp2
    go_loopw [3, 4, 15] (fun p t i wr => ∃ k : Nat, k ≤ X0.length ∧ i = .int .i64 k ∧ t = .bool (twoN X0 k) ∧ wr.ownsRow w.heap.size 31 5 p (wideX (X0.take k)).length (flatC (wideX (X0.take k))) ∧ Bel w wr) (fun _ _ i _ => X0.length - (intOf i).toNat)
    case atStart => exact ⟨0, Nat.zero_le _, rfl, by rw [T0.out], World.ownsRow_nil _ _ _ _, Bel.refl _⟩
    case round =>
      obtain ⟨k, hk, rfl, rfl, hrow, hB⟩ := hrel
      rename World => wr
      by_cases hlt : k < X0.length
      · have hwl := WL k hk
        have hzB := hB.size
        have hwt := WT.out k hlt
        generalize wideX (X0.take k) = Y at hrow hwl hwt
        obtain ⟨b, o, rfl, hb, hca⟩ := HC.out (by omega)
        obtain ⟨a0, a1, a2, a3, a4⟩ := (hca.stay hb hB) k hlt
        have LC := hidm (fun m (hm : m < X0.length) ww (q : Bel w ww) => (hca.stay hb q) m hm)
        have hbr : b < wr.heap.size := Nat.lt_of_lt_of_le hb hzB
        have hgo := fun ww => ret_goes (x := X0.getD k Ins.zero) ww
        have ROW := hidm hrow
        have HWT := hidm hwt
        have T1k := T1.out
        have hnew : u3.ownBlock ≠ some wr.heap.size := fun e => by have := (hrow.lt _ e).2; omega
        have hlow : ∀ g, u3.ownBlock = some g → w.heap.size ≤ g := fun g e => (hrow.lt g e).1
        clear hca T0 TE SX WT WE WL FV FW hrow hwt HC HX
        cases k with
        | zero =>
          rw [T1k.1]
          have HE := hidm T1k.2
          generalize X0.getD 0 Ins.zero = x at a0 a1 a2 a3 a4 hgo HWT
          clear T1 TS T1k hgo
          simp only [Nat.zero_mul, Nat.add_zero] at a0 a1 a2 a3 a4
          go_wp2_with (first
            | (at_builtin; refine append_pair _ rfl (.tmp 20) (.tmp 23) rfl w.heap.size u3 Y x Ins.zero rfl (rowC_bel ROW.out (((Bel.refl wr).alloc _).alloc _)) (wr.heap.size + 1) 2 rfl (pair_lit wr x) (by omega) (by simp; omega) ?_; intro v3 w3 own3 hg3; have B3 : Bel w w3 := ((hB.alloc _).alloc _).grown hg3 (fun k hk => hlow k hk); clear hg3))
          go_roundw
          case rel => exact ⟨0 + 1, by omega, by go_num, by rw [HE.out], by rw [HWT.out]; exact own3, B3⟩
          case measure => simp [intOf] <;> omega
        | succ m =>
          have hS := TS.out m
          clear T1 TS T1k
          have hgp := fun ww => ret_goes (x := X0.getD m Ins.zero) ww
          have LM := hidm (LC.out m (by omega))
          generalize twoN X0 (m + 1) = t at hS ⊢
          generalize (X0.getD (m + 1) Ins.zero).goes = gi at hgo hS
          generalize (X0.getD m Ins.zero).goes = gp at hgp hS
          generalize X0.getD m Ins.zero = z at LM hgp
          generalize X0.getD (m + 1) Ins.zero = x at a0 a1 a2 a3 a4 hgo HWT
          have hm1 : (m : Int) < X0.length := by omega
          have hm2 : (0 : Int) < (m : Int) + 1 := by omega
          have HBX := hidm (Box5.new wr x.o x.a x.b x.c x.i 31)
          clear LC
          have HS := hidm hS
          clear hS
          rcases HS.out with ⟨rfl, h⟩ | ⟨rfl, rfl, h⟩ | ⟨rfl, rfl, rfl, h⟩ | ⟨rfl, rfl, rfl, h⟩
          case inl =>
            have HE := hidm h
            clear h HS hgo hgp LM HBX
            go_wp2_with (first
              | (at_builtin; refine append_pair _ rfl (.tmp 20) (.tmp 23) rfl w.heap.size u3 Y x Ins.zero rfl (rowC_bel ROW.out (((Bel.refl wr).alloc _).alloc _)) (wr.heap.size + 1) 2 rfl (pair_lit wr x) (by omega) (by simp; omega) ?_; intro v3 w3 own3 hg3; have B3 : Bel w w3 := ((hB.alloc _).alloc _).grown hg3 (fun k hk => hlow k hk); clear hg3))
            go_roundw
            case rel => exact ⟨m + 1 + 1, by omega, by go_num, by rw [HE.out], by rw [HWT.out]; exact own3, B3⟩
            case measure => simp [intOf] <;> omega
          all_goals
            have HE := hidm h
            clear h HS
            go_wp2_with (first
              | (have q := t1; go_at_call 13; refine (hgp _).mono ?_; rintro e w5 ⟨rfl, g5⟩; have B5 := btrans B4 g5; have R5 := rowC_bel R4 g5)
              | (go_at_call 13; refine (hgo _).mono ?_; rintro e w4 ⟨rfl, g4⟩; have B4 := btrans B3 g4; have B5 := B4; have R4 := rowC_bel own3 g4; have R5 := R4; obtain ⟨d0, d1, d2, d3, d4⟩ := LM.out w4 B4; have t1 : Hid True := True.intro)
              | (at_builtin; refine append_pair _ rfl (.tmp 20) (.tmp 23) rfl w.heap.size u3 Y x Ins.zero rfl (rowC_bel ROW.out (((Bel.refl wr).alloc _).alloc _)) (wr.heap.size + 1) 2 rfl (pair_lit wr x) (by omega) (by simp; omega) ?_; intro v3 w3 own3 hg3; have B3 : Bel w w3 := ((hB.alloc _).alloc _).grown hg3 (fun k hk => hlow k hk); obtain ⟨c0, c1, c2, c3, c4⟩ := box_grown (wr := wr) (x := x) hg3 hnew; clear hg3))
            go_roundw
            case rel => exact ⟨m + 1 + 1, by omega, by go_num, by rw [HE.out], by rw [HWT.out]; exact R5, B5⟩
            case measure => simp [intOf] <;> omega
      · obtain rfl : k = X0.length := by omega
        rw [WE.out] at hrow
        have I1 := hidm (code_row hrow)
        have hT := TE.out _ rfl
        have HT := hidm hT
        clear hT hrow T0 T1 TS TE WT WE WL HC
        generalize fstF (wideX X0) (wideX X0).length = p at FV FW
        generalize safeB X0 = s0 at SX HT
        generalize twoN X0 X0.length = t at HT ⊢
        have hp := FW.out
        obtain ⟨p1, p2⟩ := p
        simp only at hp FV
        have FV2 := FV _ wr I1.out
        clear FV FW
        have HP := hidm hp
        clear hp
        rcases HP.out with rfl | rfl <;> rcases HT.out with rfl | ⟨rfl, rfl⟩
        all_goals
          clear HP HT
          go_wp2_with (first
            | (go_at_call 11; refine FV2.mono ?_; rintro e w1 ⟨rfl, b1⟩; have b2 : Bel w1 w1 := Bel.refl _)
            | (go_at_call 12; refine (SX _ (btrans hB b1)).mono ?_; rintro e w2 ⟨rfl, b2⟩)
            | (go_at_call 8; refine (awake_any _).mono ?_; rintro e w7 ⟨rfl, b7⟩))
          go_ret
          exact ⟨rfl, btrans hB (btrans b1 (btrans b2 b7))⟩
  · have hl' : 100 < X0.length := by omega
    clear hl HC
    go_enter Try.func5, Try.ntmps5
    go_wp2_with (go_at_call 8; refine (awake_any _).mono ?_; rintro e w7 ⟨rfl, b7⟩)
    go_ret
    exact ⟨rfl, b7⟩

set_option maxRecDepth 100000 in
theorem lifted (os : Os) (started : os.Started) (H : Type) (enc : TypeId × Value → H) :
    ReturnsInHanded {} Try.checked os 5 .any (Rows.hazardSpacedSpec.pre6 enc Try.prog Try.f5 Rows.hazardSpacedRow.domain false) (Rows.hazardSpacedSpec.post enc Try.prog Try.f5 false true false false) := by
  refine returnsInHanded_of_change (C := Try.checked) own started (by kernel_rfl) Try.func5
    (ChangeSpec.witness6 (enc := enc) (C := Try.checked) false ⟨#[], #[.slice none 0 0], []⟩ 8 (by kernel_rfl) (by kernel_rfl) (by kernel_rfl) (by kernel_rfl)) ?_
  intro W base args ds gs before hval0 hW hcnd _
  have hval : ∀ (j : Nat) t v, Try.f5.params[j]? = some t → args[j]? = some v → Value.okWide Try.prog W .any base t v := hval0
  have hW' := hW
  obtain ⟨p, q, hA0, hV, rfl, hfz, hnd⟩ := hW
  have hA : DataW.TrodAll enc Try.prog W 0 (fun _ => true) true Try.f5.params.toList args.toList ds p := hA0
  rw [Try.params5] at hA hval
  obtain ⟨v0, vs0, d0, ds0, p0, q0, hargs, rfl, rfl, h0, r0⟩ := trodAll_cons hA
  obtain ⟨rfl, rfl, rfl⟩ := trodAll_nil r0
  obtain rfl : args = #[v0] := by cases args; simp_all
  obtain ⟨rfl, rfl⟩ := trodVars_none hV
  have k0 := h0
  have lt0 : ∀ x ∈ p0, x.block < W.heap.size := by obtain ⟨m, hm⟩ := k0; exact DataW.trod_lt m _ _ _ hm
  obtain ⟨X0, wy0⟩ := open_code (hval 0 22 v0 rfl rfl) h0
  clear hA0 hval0
  refine (walk W v0 X0 wy0).mono fun e W' ⟨he, bel⟩ => ?_
  subst he
  exact ⟨_, rfl, _, _, _, [], _, [], hW', trodAll_mk1 (shut_bool Try.underlying4 _), (trodAll_cons_mk (Below.trod laidOut (by kernel_rfl) (of_decide_eq_true (by kernel_rfl)) k0 bel.out lt0) trodAll_mk0), rfl, bel.out.frame _, fun h => by cases h⟩

theorem over : Rows.hazardSpacedRow.holds Try.pinned (OpenSpec.ofChange Rows.hazardSpacedSpec) :=
  OpenClaim.holds_of_wide 5 Try.f5 rfl rfl rfl rfl rfl rfl rfl ⟨rfl, rfl, rfl, rfl, rfl⟩ rfl rfl rfl rfl rfl (by kernel_rfl) Try.func5 (by kernel_rfl)
    (of_decide_eq_true (by kernel_rfl)) (by unfold Func.isWrapper; first | (rw [if_pos (by decide +kernel)]; kernel_rfl) | (rw [if_neg (by decide +kernel)]; exact ⟨rfl, rfl⟩))
    (fun os started H enc _ => lifted os started H enc)

theorem proved : Rows.HazardSpacedSaid :=
  over
#print axioms proved
end Go.Proofs.Ytfhepjjebadpdaa.hazardSpaced
