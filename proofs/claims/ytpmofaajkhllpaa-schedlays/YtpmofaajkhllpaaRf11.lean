/-
  The reference of layer 11: where, Ready.
-/
import Derived.Test.YtpmofaajkhllpaaAwk11
import Derived.Test.YtpmofaajkhllpaaRg
import Derived.Test.YtpmofaajkhllpaaRw10
import Derived.RegionTactic
namespace Go.Proofs.Ytpmofaajkhllpaa
set_option maxRecDepth 20000
set_option linter.unusedVariables false
open Go.ChangeShapes Go.WideShapes Go.ChangeAt Go.RowKit

theorem later_intsR {w : World} {v : Value} {Z : List Int} (h : Ints .i64 w v Z) (u : Later w) : Ints .i64 u.at_ v Z := h.bel u.is_
set_option maxHeartbeats 1000000 in
theorem where11_any (Z : List Int) (x : Int) (v : Value) (w : World) (hZ : Z.length ≤ 10000) (hv : Ints .i64 w v Z) :
    Calls Try.prog 42 #[v, .int .i64 x] w fun e w' => e = .returned (.int .i64 (whereI Z x)) ∧ Bel w w' := by
  obtain ⟨ao, cap, rfl, hz⟩ := hv
  have HZ := hidm hz
  have HY := hidm (fun p h1 h2 h3 => where_first (Z := Z) (x := x) (p := p) ⟨h1, h2, h3⟩)
  have HN := hidm (where_none (Z := Z) (x := x))
  clear hz
  go_enter Try.func42, Try.ntmps42
  go_wp2
  go_loopw [5] (fun i wr => ∃ k : Nat, k ≤ Z.length ∧ i = .int .i64 k ∧ Hid (∀ i, i < k → Z.getD i 0 ≠ x) ∧ Bel w wr) (fun i _ => Z.length - (intOf i).toNat)
  case atStart => exact ⟨0, Nat.zero_le _, rfl, fun i h => absurd h (Nat.not_lt_zero _), Bel.refl _⟩
  case round =>
    obtain ⟨k, hk, rfl, hno, hB⟩ := hrel
    rename World => wr
    by_cases hlt : k < Z.length
    · obtain ⟨b, o, rfl, hb, hcell⟩ := HZ.out (by omega)
      have hc := ((bcell hB).1 b (o + k) hb).trans (hcell k hlt)
      rw [show Z[k]?.getD 0 = Z.getD k 0 from rfl] at hc
      have HYk := hidm (fun e => HY.out k hlt e hno.out)
      have HNk : Hid (Z.getD k 0 ≠ x → ∀ i, i < k + 1 → Z.getD i 0 ≠ x) := fun e i hi => by
        by_cases q : i = k
        · subst q; exact e
        · exact hno.out i (by omega)
      clear hcell HY HN hno HZ
      generalize Z.getD k 0 = y at hc HYk HNk
      by_cases e : y = x
      · have e' : (y == x) = true := by simp [e]
        have HF := hidm (HYk.out e)
        clear HYk HNk e
        go_wp2
        go_ret
        exact ⟨ret_intA HF.out.symm, hB⟩
      · have e' : (y == x) = false := beq_eq_false_iff_ne.2 e
        have HF := hidm (HNk.out e)
        clear HYk HNk e
        go_wp2
        go_roundw
        case rel => exact ⟨k + 1, by omega, by go_num, HF.out, hB⟩
        case measure => simp [intOf]; omega
    · obtain rfl : k = Z.length := by omega
      have HF := hidm (HN.out hno.out)
      go_wp2
      go_ret
      exact ⟨ret_intA HF.out.symm, hB⟩
/-- So many of those ahead of one are far enough. -/
def RdyK (X : List Ins) (Z : List Int) (j k : Nat) : Prop := ∀ i, i < k → 0 < farI (xAt X i) (xAt X j) → 0 ≤ whereI Z i ∧ farI (xAt X i) (xAt X j) ≤ Z.length - whereI Z i
theorem rdyK_zero (X : List Ins) (Z : List Int) (j : Nat) : RdyK X Z j 0 := fun i h => absurd h (Nat.not_lt_zero _)
theorem rdyK_step {X : List Ins} {Z : List Int} {j k : Nat} (h : RdyK X Z j k) (hk : 0 < farI (xAt X k) (xAt X j) → 0 ≤ whereI Z k ∧ farI (xAt X k) (xAt X j) ≤ Z.length - whereI Z k) : RdyK X Z j (k + 1) := fun i hi => by
  by_cases e : i = k
  · subst e; exact hk
  · exact h i (by omega)
theorem rdyK_bad {X : List Ins} {Z : List Int} {j k : Nat} (hkj : k < j) (h1 : 0 < farI (xAt X k) (xAt X j)) (h2 : ¬ (0 ≤ whereI Z k ∧ farI (xAt X k) (xAt X j) ≤ Z.length - whereI Z k)) : readyB X Z j = false := by
  rw [Bool.eq_false_iff]
  intro h
  exact h2 (((readyB_iff X Z j).1 h).2 k hkj h1)
theorem rdyK_stands {X : List Ins} {Z : List Int} {j : Nat} (h : 0 ≤ whereI Z j) : readyB X Z j = false := by
  rw [Bool.eq_false_iff]
  intro q
  exact ((readyB_iff X Z j).1 q).1 h
theorem rdyK_end {X : List Ins} {Z : List Int} {j : Nat} (h0 : ¬ 0 ≤ whereI Z j) (h : RdyK X Z j j) : readyB X Z j = true := (readyB_iff X Z j).2 ⟨h0, h⟩

set_option maxHeartbeats 4000000 in
theorem refReady_any (X : List Ins) (Z : List Int) (j : Nat) (v u : Value) (w : World) (hX : X.length ≤ 1000) (hZ : Z.length ≤ 10000) (hj : j < X.length) (hv : Code w v X) (hu : Ints .i64 w u Z) :
    Calls Try.prog 24 #[v, u, .int .i64 j] w fun e w' => e = .returned (.bool (readyB X Z j)) ∧ Bel w w' := by
  have hwh := fun (x : Int) (q : Later w) => where11_any Z x u q.at_ hZ (later_intsR hu q)
  have hwj := fun ww hv => where11_any Z j u ww hZ hv
  have HU := hidm hu
  have hbj := where_bd Z (j : Int)
  obtain ⟨ao, cap, rfl, hcode⟩ := hv
  obtain ⟨zo, zcap, rfl, hz⟩ := hu
  obtain ⟨b, o, rfl, hb, hca⟩ := hcode (by omega)
  have K0 := hidm (rdyK_zero X Z j)
  have K1 := hidm (fun k => @rdyK_step X Z j k)
  have KB := hidm (fun k => @rdyK_bad X Z j k)
  have KS := hidm (@rdyK_stands X Z j)
  have KE := hidm (@rdyK_end X Z j)
  clear hcode hz
  generalize hwI : whereI Z (j : Int) = rj at hbj hwj KS KE
  have HWI := hidm hwI
  clear hwI
  by_cases h0 : 0 ≤ rj
  · have HF := hidm (KS.out h0)
    clear K0 K1 KB KS KE hwh
    go_enter Try.func24, Try.ntmps24
    go_wp2_with (go_at_call 42; refine (hwj _ HU.out).mono ?_; rintro e w1 ⟨rfl, b1⟩)
    go_ret
    exact ⟨ret_bool HF.out.symm, b1⟩
  · have KE2 := hidm (KE.out h0)
    clear KS KE
    have hwj2 := fun (q : Later w) => hwj q.at_ (later_intsR HU.out q)
    haveI := Later.ne w
    obtain ⟨u0, e0⟩ := later_start w
    go_enter Try.func24, Try.ntmps24
    rw [← e0]
    have E0 := hidm e0
    clear e0 hwj
    go_wp2_with (go_at_call 42; refine (later_of (hwj2 _)).mono ?_; rintro e _ ⟨rfl, q1, rfl⟩)
    go_loopw [7] (fun i wr => ∃ (k : Nat) (q : Later w), k ≤ j ∧ i = .int .i64 k ∧ Hid (RdyK X Z j k) ∧ wr = q.at_) (fun i _ => j - (intOf i).toNat)
    case atStart => exact ⟨0, _, Nat.zero_le _, rfl, K0.out, rfl⟩
    case round =>
      obtain ⟨k, q, hk, rfl, hrk, rfl⟩ := hrel
      clear hwj2 K0
      by_cases hlt : k < j
      · obtain ⟨a0, a1, a2, a3, a4⟩ := hca k (by omega)
        obtain ⟨d0, d1, d2, d3, d4⟩ := hca j hj
        have A0 := later_cell a0 hb
        have A1 := later_cell a1 hb
        have A2 := later_cell a2 hb
        have A3 := later_cell a3 hb
        have A4 := later_cell a4 hb
        have D0 := later_cell d0 hb
        have D1 := later_cell d1 hb
        have D2 := later_cell d2 hb
        have D3 := later_cell d3 hb
        have D4 := later_cell d4 hb
        rw [show X.getD k Ins.zero = xAt X k from rfl] at A0 A1 A2 A3 A4
        rw [show X.getD j Ins.zero = xAt X j from rfl] at D0 D1 D2 D3 D4
        have S1 := hidm (fun h => K1.out k hrk.out h)
        have S2 := hidm (fun h1 h2 => KB.out k hlt h1 h2)
        have hfb := farI_bd (xAt X k) (xAt X j)
        have hfar := fun ww => refFar_any (xAt X k) (xAt X j) ww
        unfold Ins.val at hfar
        have hwk := hwh k
        have hbk := where_bd Z (k : Int)
        clear a0 a1 a2 a3 a4 d0 d1 d2 d3 d4 hca K1 KB KE2 hrk HU hwh
        generalize xAt X k = x at A0 A1 A2 A3 A4 S1 S2 hfb hfar
        generalize xAt X j = y at D0 D1 D2 D3 D4 S1 S2 hfb hfar
        generalize farI x y = d at S1 S2 hfb hfar
        generalize whereI Z (k : Int) = r at S1 S2 hwk hbk
        have hkI : (k : Int) < X.length := by omega
        have hjI : (j : Int) < X.length := by omega
        have hkj : (k : Int) < j := by omega
        by_cases h1 : 0 < d
        · by_cases h2 : 0 ≤ r ∧ d ≤ (Z.length : Int) - r
          · have HH := hidm (S1.out fun _ => h2)
            obtain ⟨h2, h3⟩ := h2
            clear S1 S2
            go_wp2
            refine wp_region_later (by kernel_rfl) (by kernel_rfl) ?_
            repeat (go_big_quiet_step (first | (go_at_call 20; exact later_of (hfar _))))
            refine wpQuiet_nil ?_
            rintro _ ⟨q2, rfl⟩
            go_wp2_with (go_at_call 42; refine (later_of (hwk q2)).mono ?_; rintro e _ ⟨rfl, q3, rfl⟩)
            go_roundw
            case rel => exact ⟨k + 1, q3, by omega, by go_num, HH.out, rfl⟩
            case measure => simp [intOf] <;> omega
          · have HH := hidm (S2.out h1 h2)
            clear S1 S2
            by_cases h3 : 0 ≤ r
            · have h4 : ¬ d ≤ (Z.length : Int) - r := fun e => h2 ⟨h3, e⟩
              clear h2
              go_wp2
              refine wp_region_later (by kernel_rfl) (by kernel_rfl) ?_
              repeat (go_big_quiet_step (first | (go_at_call 20; exact later_of (hfar _))))
              refine wpQuiet_nil ?_
              rintro _ ⟨q2, rfl⟩
              go_wp2_with (go_at_call 42; refine (later_of (hwk q2)).mono ?_; rintro e _ ⟨rfl, q3, rfl⟩)
              go_ret
              exact ⟨ret_bool HH.out.symm, by rw [E0.out]; exact q3.is_⟩
            · clear h2
              go_wp2
              refine wp_region_later (by kernel_rfl) (by kernel_rfl) ?_
              repeat (go_big_quiet_step (first | (go_at_call 20; exact later_of (hfar _))))
              refine wpQuiet_nil ?_
              rintro _ ⟨q2, rfl⟩
              go_wp2_with (go_at_call 42; refine (later_of (hwk q2)).mono ?_; rintro e _ ⟨rfl, q3, rfl⟩)
              go_ret
              exact ⟨ret_bool HH.out.symm, by rw [E0.out]; exact q3.is_⟩
        · have HH := hidm (S1.out fun e => absurd e h1)
          clear S1 S2
          obtain rfl : d = 0 := by omega
          clear h1
          go_wp2
          refine wp_region_later (by kernel_rfl) (by kernel_rfl) ?_
          repeat (go_big_quiet_step (first | (go_at_call 20; exact later_of (hfar _))))
          refine wpQuiet_nil ?_
          rintro _ ⟨q2, rfl⟩
          go_wp2_with (go_at_call 42; refine (later_of (hwk q2)).mono ?_; rintro e _ ⟨rfl, q3, rfl⟩)
          go_roundw
          case rel => exact ⟨k + 1, q3, by omega, by go_num, HH.out, rfl⟩
          case measure => simp [intOf] <;> omega
      · obtain rfl : k = j := by omega
        have HF := hidm (KE2.out hrk.out)
        clear K1 KB KE2 hca
        go_wp2
        go_ret
        exact ⟨ret_bool HF.out.symm, by rw [E0.out]; exact q.is_⟩
end Go.Proofs.Ytpmofaajkhllpaa
