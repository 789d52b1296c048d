/-
  The law 'HazardPlain' of delayslotlaw12 returns true at all code and instructions: right code of which none goes, and none is late, is safe; one instruction alone is, if it is right and does not go.
  Conditions: none.
-/
import Derived.Test.YtfhepjjebadpdaaRows
import Derived.WalkKit
import Derived.ProofKit
import Derived.OpenShut
import Derived.ShutString
import Derived.ChangeOld
import Derived.Below
import Derived.Carry
import Derived.Test.YtfhepjjebadpdaaAwk12
import Derived.Test.YtfhepjjebadpdaaRgs
namespace Go.Proofs.Ytfhepjjebadpdaa.hazardPlain
open Go.ChangeShapes Go.WideShapes Go.ChangeAt Go.RowKit
open Go.ChangeMaps (open_string shut_string)
set_option linter.unusedVariables false

theorem laidOut : laidOutB Try.prog = true := by kernel_rfl
theorem own : ownKnob Try.prog.godebug = none := by kernel_rfl
theorem cells31 : Try.prog.cellsOf 31 = 5 := by kernel_rfl
def plainN (X : List Ins) (k : Nat) : Bool := (List.range k).all fun j => (X.getD j Ins.zero).right && !(X.getD j Ins.zero).goes && !(X.getD j Ins.zero).late
theorem plainN_zero (X : List Ins) : plainN X 0 = true := rfl
theorem plainN_succ (X : List Ins) (k : Nat) : plainN X (k + 1) = (plainN X k && ((X.getD k Ins.zero).right && !(X.getD k Ins.zero).goes && !(X.getD k Ins.zero).late)) := by
  unfold plainN
  simp [List.range_succ]
theorem plainN_safe {X : List Ins} (h : plainN X X.length = true) : safeB X = true := safe_plain fun k hk => by
  unfold plainN at h
  have := List.all_eq_true.1 h k (List.mem_range.2 hk)
  simpa [and_assoc] using this
theorem plain_step {X : List Ins} {k : Nat} :
    (plainN X k = false ∧ plainN X (k + 1) = false) ∨ (plainN X k = true ∧ (X.getD k Ins.zero).right = false ∧ plainN X (k + 1) = false) ∨ (plainN X k = true ∧ (X.getD k Ins.zero).right = true ∧ (X.getD k Ins.zero).goes = true ∧ plainN X (k + 1) = false) ∨
    (plainN X k = true ∧ (X.getD k Ins.zero).right = true ∧ (X.getD k Ins.zero).goes = false ∧ (X.getD k Ins.zero).late = true ∧ plainN X (k + 1) = false) ∨ (plainN X k = true ∧ (X.getD k Ins.zero).right = true ∧ (X.getD k Ins.zero).goes = false ∧ (X.getD k Ins.zero).late = false ∧ plainN X (k + 1) = true) := by
  rw [plainN_succ]
  cases plainN X k <;> cases (X.getD k Ins.zero).right <;> cases (X.getD k Ins.zero).goes <;> cases (X.getD k Ins.zero).late <;> simp
theorem plain_end {X : List Ins} (p : Bool) (h : plainN X X.length = p) : (p = false) ∨ (p = true ∧ safeB X = true) := by
  cases p
  · exact .inl rfl
  · exact .inr ⟨rfl, plainN_safe h⟩

set_option maxRecDepth 20000 in
set_option maxHeartbeats 2000000 in
theorem walk (w : World) (y0 : Value) (X0 : List Ins) (wy0 : Code w y0 X0) (o1 a1 b1 c1 i1 : Int) (wo1 : (Lit.int .i64 o1).wf = true) (wa1 : (Lit.int .i64 a1).wf = true) (wb1 : (Lit.int .i64 b1).wf = true) (wc1 : (Lit.int .i64 c1).wf = true) (wi1 : (Lit.int .i64 i1).wf = true) :
    Calls Try.prog 6 #[y0, .agg #[.int .i64 o1, .int .i64 a1, .int .i64 b1, .int .i64 c1, .int .i64 i1]] w fun e w' => e = .returned (.bool true) ∧ Bel w w' := by
  have HX := hidm wy0
  obtain ⟨ao, cap, rfl, hc⟩ := wy0
  have HC := hidm hc
  clear hc
  by_cases hl : X0.length ≤ 100
  · have P0 := hidm (plainN_zero X0)
    have PS := hidm (fun k => @plain_step X0 k)
    have PE := hidm (fun p => @plain_end X0 p)
    have hri : ∀ ww, Calls Try.prog 15 #[.agg #[.int .i64 o1, .int .i64 a1, .int .i64 b1, .int .i64 c1, .int .i64 i1]] ww fun e w' => e = .returned (.bool (Ins.mk o1 a1 b1 c1 i1).right) ∧ Bel ww w' := fun ww => ret_right (x := ⟨o1, a1, b1, c1, i1⟩) ww
    have hgo : ∀ ww, Calls Try.prog 13 #[.agg #[.int .i64 o1, .int .i64 a1, .int .i64 b1, .int .i64 c1, .int .i64 i1]] ww fun e w' => e = .returned (.bool (Ins.mk o1 a1 b1 c1 i1).goes) ∧ Bel ww w' := fun ww => ret_goes (x := ⟨o1, a1, b1, c1, i1⟩) ww
    have S1 := fun v ww hv => safe_any [⟨o1, a1, b1, c1, i1⟩] v ww (by simp) hv
    have SX := fun ww (q : Bel w ww) => safe_any X0 _ ww (by omega) (HX.out.stay q)
    rw [safe_one] at S1
    generalize (Ins.mk o1 a1 b1 c1 i1).right = r1 at hri S1
    generalize (Ins.mk o1 a1 b1 c1 i1).goes = g1 at hgo S1
    have HB0 := hidm (Box5.new w o1 a1 b1 c1 i1 31)
    have B0 := (Bel.refl w).alloc (Obj.cells #[.int .i64 o1, .int .i64 a1, .int .i64 b1, .int .i64 c1, .int .i64 i1] 31)
    have hz0 : w.heap.size < (w.alloc (Obj.cells #[.int .i64 o1, .int .i64 a1, .int .i64 b1, .int .i64 c1, .int .i64 i1] 31)).heap.size := by simp
    go_enter Try.func6, Try.ntmps6
    go_wp2
    generalize (w.alloc (Obj.cells #[.int .i64 o1, .int .i64 a1, .int .i64 b1, .int .i64 c1, .int .i64 i1] 31)) = wB at HB0 B0 hz0 ⊢
    go_loopw [5, 15] (fun p i wr => ∃ k : Nat, k ≤ X0.length ∧ i = .int .i64 k ∧ p = .bool (plainN X0 k) ∧ Bel wB wr) (fun _ i _ => X0.length - (intOf i).toNat)
    case atStart => exact ⟨0, Nat.zero_le _, rfl, by rw [P0.out], Bel.refl _⟩
    case round =>
      obtain ⟨k, hk, rfl, rfl, hB⟩ := hrel
      rename World => wr
      by_cases hlt : k < X0.length
      · obtain ⟨b, o, rfl, hb, hca⟩ := HC.out (by omega)
        obtain ⟨a0, a1', a2, a3, a4⟩ := (hca.stay hb (btrans B0 hB)) k hlt
        have hbr : b < wr.heap.size := Nat.lt_of_lt_of_le hb (btrans B0 hB).size
        have hR : ∀ ww, _ := fun ww => ret_right (x := X0.getD k Ins.zero) ww
        have hG : ∀ ww, _ := fun ww => ret_goes (x := X0.getD k Ins.zero) ww
        have hL : ∀ ww, _ := fun ww => ret_late (x := X0.getD k Ins.zero) ww
        have hS := hidm (PS.out k)
        clear hca P0 PS PE S1 SX hri hgo
        generalize plainN X0 k = pk at hS ⊢
        generalize (X0.getD k Ins.zero).right = r at hR hS
        generalize (X0.getD k Ins.zero).goes = g at hG hS
        generalize (X0.getD k Ins.zero).late = l at hL hS
        generalize X0.getD k Ins.zero = x at a0 a1' a2 a3 a4 hR hG hL
        have hbx := Box5.new wr x.o x.a x.b x.c x.i 31
        have hbz : wr.heap.size < (wr.alloc (Obj.cells #[.int .i64 x.o, .int .i64 x.a, .int .i64 x.b, .int .i64 x.c, .int .i64 x.i] 31)).heap.size := by simp
        have HBX := hidm hbx
        clear hbx
        rcases hS.out with ⟨rfl, h⟩ | ⟨rfl, rfl, h⟩ | ⟨rfl, rfl, rfl, h⟩ | ⟨rfl, rfl, rfl, rfl, h⟩ | ⟨rfl, rfl, rfl, rfl, h⟩
        case inl =>
          have HE := hidm h
          clear h hS HBX hbz hR hG hL
          go_wp2
          go_roundw
          case rel => exact ⟨k + 1, by omega, by go_num, by rw [HE.out], hB.alloc _⟩
          case measure => simp [intOf]; omega
        all_goals
          have HE := hidm h
          clear h hS
          go_wp2_with (first
            | (go_at_call 15; refine (hR _).mono ?_; rintro e w1 ⟨rfl, b1⟩; have BB := btrans (hB.alloc _) b1; have z1 : wr.heap.size < w1.heap.size := Nat.lt_of_lt_of_le hbz b1.size; obtain ⟨c0, c1', c2, c3, c4⟩ := HBX.out.bel b1 hbz)
            | (go_at_call 13; refine (hG _).mono ?_; rintro e w2 ⟨rfl, b2⟩; have BB := btrans (hB.alloc _) (btrans b1 b2); obtain ⟨d0, d1, d2, d3, d4⟩ := HBX.out.bel (btrans b1 b2) hbz)
            | (go_at_call 14; refine (hL _).mono ?_; rintro e w3 ⟨rfl, b3⟩; have BB := btrans (hB.alloc _) (btrans b1 (btrans b2 b3))))
          go_roundw
          case rel => exact ⟨k + 1, by omega, by go_num, by rw [HE.out], BB⟩
          case measure => simp [intOf]; omega
      · obtain rfl : k = X0.length := by omega
        have hP := PE.out _ rfl
        clear P0 PS PE HC
        generalize plainN X0 X0.length = pk at hP ⊢
        generalize safeB X0 = sx at SX hP
        obtain ⟨f0, f1, f2, f3, f4⟩ := HB0.out.bel hB hz0
        have zr : w.heap.size < wr.heap.size := Nat.lt_of_lt_of_le hz0 hB.size
        have HP := hidm hP
        clear hP
        haveI := Later.ne wr
        have F0 := later_cell f0 zr
        have F1 := later_cell f1 zr
        have F2 := later_cell f2 zr
        have F3 := later_cell f3 zr
        have F4 := later_cell f4 zr
        have Z0 := later_size zr
        have SX2 := fun (u : Later wr) => SX u.at_ (btrans B0 (btrans hB u.is_))
        obtain ⟨u1, e1⟩ := later_start wr
        have hBw : Bel w wr := btrans B0 hB
        clear SX f0 f1 f2 f3 f4 hB zr
        rw [← e1]
        clear e1
        have D : (r1 = false) ∨ (r1 = true ∧ g1 = true) ∨ (r1 = true ∧ g1 = false) := by cases r1 <;> cases g1 <;> simp
        have DD := hidm D
        clear D
        rcases HP.out with rfl | ⟨rfl, rfl⟩
        all_goals
          rcases DD.out with rfl | ⟨rfl, rfl⟩ | ⟨rfl, rfl⟩
          all_goals
            clear DD HP
            go_wp2_with (first
              | (have q := t5; go_at_call 12; refine (later_of (SX2 _)).mono ?_; rintro e _ ⟨rfl, u6, rfl⟩)
              | (go_at_call 12; refine (S1 _ _ (code_lit (X := [⟨o1, a1, b1, c1, i1⟩]) (heap_new _ _) 1 1 rfl)).mono ?_; rintro e _ ⟨rfl, g5⟩; obtain ⟨u5, rfl⟩ := later_next (btrans ((Bel.refl _).alloc _) g5); have t5 : Hid True := True.intro)
              | (go_at_call 15; refine (later_of (hri _)).mono ?_; rintro e _ ⟨rfl, u2, rfl⟩)
              | (go_at_call 13; refine (later_of (hgo _)).mono ?_; rintro e _ ⟨rfl, u3, rfl⟩)
              | (go_at_call 8; refine (later_of (awake_any _)).mono ?_; rintro e _ ⟨rfl, u9, rfl⟩))
            go_ret
            exact ⟨rfl, btrans hBw (Later.is_ _)⟩
  · have hl' : 100 < X0.length := by omega
    clear hl HC
    go_enter Try.func6, Try.ntmps6
    go_wp2_with (go_at_call 8; refine (awake_any _).mono ?_; rintro e w7 ⟨rfl, b7⟩)
    go_ret
    exact ⟨rfl, btrans ((Bel.refl w).alloc _) b7⟩

set_option maxRecDepth 100000 in
theorem lifted (os : Os) (started : os.Started) (H : Type) (enc : TypeId × Value → H) :
    ReturnsInHanded {} Try.checked os 6 .any (Rows.hazardPlainSpec.pre6 enc Try.prog Try.f6 Rows.hazardPlainRow.domain false) (Rows.hazardPlainSpec.post enc Try.prog Try.f6 false true false false) := by
  refine returnsInHanded_of_change (C := Try.checked) own started (by kernel_rfl) Try.func6
    (ChangeSpec.witness6 (enc := enc) (C := Try.checked) false ⟨#[], #[.slice none 0 0, .agg #[.int .i64 0, .int .i64 0, .int .i64 0, .int .i64 0, .int .i64 0]], []⟩ 8 (by kernel_rfl) (by kernel_rfl) (by kernel_rfl) (by kernel_rfl)) ?_
  intro W base args ds gs before hval0 hW hcnd _
  have hval : ∀ (j : Nat) t v, Try.f6.params[j]? = some t → args[j]? = some v → Value.okWide Try.prog W .any base t v := hval0
  have hW' := hW
  obtain ⟨p, q, hA0, hV, rfl, hfz, hnd⟩ := hW
  have hA : DataW.TrodAll enc Try.prog W 0 (fun _ => true) true Try.f6.params.toList args.toList ds p := hA0
  rw [Try.params6] at hA hval
  obtain ⟨v0, vs0, d0, ds0, p0, q0, hargs, rfl, rfl, h0, r0⟩ := trodAll_cons hA
  obtain ⟨v1, vs1, d1, ds1, p1, q1, rfl, rfl, rfl, h1, r1⟩ := trodAll_cons r0
  obtain ⟨rfl, rfl, rfl⟩ := trodAll_nil r1
  obtain rfl : args = #[v0, v1] := by cases args; simp_all
  obtain ⟨rfl, rfl⟩ := trodVars_none hV
  have k0 := h0
  have lt0 : ∀ x ∈ p0, x.block < W.heap.size := by obtain ⟨m, hm⟩ := k0; exact DataW.trod_lt m _ _ _ hm
  obtain ⟨X0, wy0⟩ := open_code (hval 0 22 v0 rfl rfl) h0
  obtain ⟨o1, a1, b1, c1, i1, rfl, rfl, rfl, wo1, wa1, wb1, wc1, wi1⟩ := open_agg5i Try.underlying31 (by kernel_rfl) cells31 Try.underlying3 rfl rfl rfl rfl rfl (hval 1 31 v1 rfl rfl) h1
  clear hA0 hval0
  refine (walk W v0 X0 wy0 o1 a1 b1 c1 i1 wo1 wa1 wb1 wc1 wi1).mono fun e W' ⟨he, bel⟩ => ?_
  subst he
  exact ⟨_, rfl, _, _, _, [], _, [], hW', trodAll_mk1 (shut_bool Try.underlying4 _), (trodAll_cons_mk (Below.trod laidOut (by kernel_rfl) (of_decide_eq_true (by kernel_rfl)) k0 bel.out lt0) (trodAll_cons_mk (shut_agg5i Try.underlying31 (by kernel_rfl) cells31 Try.underlying3 rfl rfl rfl rfl rfl wo1 wa1 wb1 wc1 wi1) trodAll_mk0)), rfl, bel.out.frame _, fun h => by cases h⟩

theorem over : Rows.hazardPlainRow.holds Try.pinned (OpenSpec.ofChange Rows.hazardPlainSpec) :=
  OpenClaim.holds_of_wide 6 Try.f6 rfl rfl rfl rfl rfl rfl rfl ⟨rfl, rfl, rfl, rfl, rfl⟩ rfl rfl rfl rfl rfl (by kernel_rfl) Try.func6 (by kernel_rfl)
    (of_decide_eq_true (by kernel_rfl)) (by unfold Func.isWrapper; first | (rw [if_pos (by decide +kernel)]; kernel_rfl) | (rw [if_neg (by decide +kernel)]; exact ⟨rfl, rfl⟩))
    (fun os started H enc _ => lifted os started H enc)

theorem proved : Rows.HazardPlainSaid :=
  over
#print axioms proved
end Go.Proofs.Ytfhepjjebadpdaa.hazardPlain
