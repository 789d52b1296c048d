/-
  The contract of the reference's Keeps.
-/
import Derived.Test.YtpmofaajkhllpaaRg
import Derived.Test.YtpmofaajkhllpaaRw10
import Derived.RegionTactic
namespace Go.Proofs.Ytpmofaajkhllpaa
set_option maxRecDepth 20000
set_option linter.unusedVariables false
open Go.ChangeShapes Go.WideShapes Go.ChangeAt Go.RowKit

theorem later_ints {w : World} {v : Value} {Z : List Int} (h : Ints .i64 w v Z) (u : Later w) : Ints .i64 u.at_ v Z := h.bel u.is_
set_option maxHeartbeats 4000000 in
theorem refKeeps_any (X : List Ins) (Z : List Int) (v u : Value) (w : World) (hl : X.length ≤ 1000) (hZ : Z.length ≤ 10000) (hv : Code w v X) (hu : Ints .i64 w u Z) :
    Calls Try.prog 17 #[v, u] w fun e w' => e = .returned (.bool (keepsB X Z)) ∧ Bel w w' := by
  have hwh := fun (x : Int) (q : Later w) => where_any Z x u q.at_ hZ (later_ints hu q)
  have hwb := where_bd Z
  obtain ⟨ao, cap, rfl, hcode⟩ := hv
  obtain ⟨zo, zcap, rfl, hz⟩ := hu
  have HC := hidm hcode
  have HZ := hidm hz
  clear hcode hz
  have GZ := hidm (goodK_zero Z X.length)
  have G1 := hidm (fun k h => goodK_skip (Z := Z) (m := X.length) (k := k) h)
  have G2 := hidm (fun k h => goodK_step (Z := Z) (m := X.length) (k := k) h)
  have B1 := hidm (fun k => bad_range (Z := Z) (m := X.length) (k := k))
  have B2 := hidm (fun k => bad_where (Z := Z) (m := X.length) (k := k))
  have SN := hidm (fun k => seen_snoc (Z := Z) (k := k))
  have KB := hidm (fun h : ¬ OrdOk Z X.length => keepsB_no (X := X) (Z := Z) fun q => h q.1)
  haveI := Later.ne w
  obtain ⟨u0, e0⟩ := later_start w
  go_enter Try.func17, Try.ntmps17
  rw [← e0]
  have E0 := hidm e0
  clear e0
  go_wp2
  go_loopw [5, 6] (fun c i wr => ∃ (k : Nat) (q : Later w), k ≤ Z.length ∧ i = .int .i64 k ∧ c = .int .i64 ((seen Z k).length : Nat) ∧ Hid (GoodK Z X.length k) ∧ wr = q.at_) (fun _ i _ => Z.length - (intOf i).toNat)
  case atStart => exact ⟨0, _, Nat.zero_le _, rfl, rfl, GZ.out, rfl⟩
  case round =>
    obtain ⟨k, q, hk, rfl, rfl, hgk, rfl⟩ := hrel
    by_cases hlt : k < Z.length
    · obtain ⟨b, o, rfl, hb, hcell⟩ := HZ.out (by omega)
      have hc := later_cell (hcell k hlt) hb
      rw [show Z[k]?.getD 0 = Z.getD k 0 from rfl] at hc
      have S1 := hidm (G1.out k hgk.out)
      have S2 := hidm (fun h1 h2 h3 => G2.out k hgk.out hlt h1 h2 h3)
      have S3 := hidm (fun h1 h2 => KB.out (B1.out k hlt h1 h2))
      have S4 := hidm (fun h1 h2 => KB.out (B2.out k hlt h1 h2))
      have hsn := SN.out k hlt
      have hsl : (seen Z k).length ≤ k := by
        unfold seen
        refine Nat.le_trans (List.length_filter_le _ _) ?_
        rw [List.length_take]
        omega
      have hwk := hwh (Z.getD k 0)
      have hwb := hwb (Z.getD k 0)
      clear hcell GZ G1 G2 B1 B2 SN KB HC HZ hgk hwh
      generalize Z.getD k 0 = y at hc S1 S2 S3 S4 hsn hwk hwb
      generalize whereI Z y = r at S2 S4 hwk hwb
      by_cases e1 : y = -1
      · have e1' : (y == -1) = true := by simp [e1]
        have HH := hidm (S1.out e1)
        have HL : Hid (((seen Z (k + 1)).length : Nat) = (seen Z k).length) := by rw [hsn, if_pos e1, List.append_nil]; exact rfl
        clear S1 S2 S3 S4 e1 hsn
        go_wp2
        go_roundw
        case rel => exact ⟨k + 1, q, by omega, by go_num, by rw [HL.out], HH.out, rfl⟩
        case measure => simp [intOf]; omega
      · have e1' : (y == -1) = false := beq_eq_false_iff_ne.2 e1
        by_cases e2 : y < 0
        · have HH := hidm (S3.out e1 (.inl e2))
          clear S1 S2 S3 S4 e1 hsn
          go_wp2
          go_ret
          exact ⟨ret_bool HH.out.symm, by rw [E0.out]; exact q.is_⟩
        · by_cases e3 : (X.length : Int) ≤ y
          · have HH := hidm (S3.out e1 (.inr e3))
            clear S1 S2 S3 S4 e1 hsn
            go_wp2
            go_ret
            exact ⟨ret_bool HH.out.symm, by rw [E0.out]; exact q.is_⟩
          · by_cases e4 : r = k
            · have HH := hidm (S2.out (by omega) (by omega) e4)
              have HL : Hid (((seen Z (k + 1)).length : Nat) = (seen Z k).length + 1) := by rw [hsn, if_neg e1, List.length_append]; exact rfl
              have e4' : (r != (k : Int)) = false := by simp [e4]
              clear S1 S2 S3 S4 e1 hsn e4
              go_wp2_with (go_at_call 29; refine (later_of (hwk q)).mono ?_; rintro e _ ⟨rfl, q2, rfl⟩)
              go_roundw
              case rel => exact ⟨k + 1, q2, by omega, by go_num, by rw [HL.out]; rfl, HH.out, rfl⟩
              case measure => simp [intOf]; omega
            · have HH := hidm (S4.out e1 e4)
              have e4' : (r != (k : Int)) = true := by simp [e4]
              clear S1 S2 S3 S4 e1 hsn e4
              go_wp2_with (go_at_call 29; refine (later_of (hwk q)).mono ?_; rintro e _ ⟨rfl, q2, rfl⟩)
              go_ret
              exact ⟨ret_bool HH.out.symm, by rw [E0.out]; exact q2.is_⟩
    · obtain rfl : k = Z.length := by omega
      have hoc := ord_count hgk.out
      clear hgk GZ G1 G2 B1 B2 SN
      by_cases ho : (seen Z Z.length).length = X.length
      · have hord := hoc.2 ho
        have HF := hidm (keeps_where (X := X) hord)
        have HB := hidm (fun i j (hij : i < j) hj h => keeps_bad (X := X) hord hij hj h)
        have R1 := hidm (rowOk_start X Z)
        have R2 := hidm (fun i j => @rowOk_step X Z i j)
        have R3 := hidm (fun i => @allOk_step X Z i)
        have HO := hidm ho
        rw [ho]
        have hne : ((X.length : Int) != (X.length : Int)) = false := by simp
        clear hoc hord ho KB
        go_wp2
        go_loopw [7] (fun i wr => ∃ (k : Nat) (q : Later w), k ≤ X.length ∧ i = .int .i64 k ∧ Hid (AllOk X Z k) ∧ wr = q.at_) (fun i _ => X.length - (intOf i).toNat)
        case atStart => exact ⟨0, q, Nat.zero_le _, rfl, fun k h => absurd h (Nat.not_lt_zero _), rfl⟩
        case round =>
          obtain ⟨i, q, hi, rfl, hall, rfl⟩ := hrel
          by_cases hil : i < X.length
          · obtain ⟨b, o, rfl, hb, hca⟩ := HC.out (by omega)
            obtain ⟨a0, a1, a2, a3, a4⟩ := hca i hil
            have A0 := later_cell a0 hb
            have A1 := later_cell a1 hb
            have A2 := later_cell a2 hb
            have A3 := later_cell a3 hb
            have A4 := later_cell a4 hb
            clear a0 a1 a2 a3 a4
            have HCA := hidm hca
            clear hca
            go_wp2
            go_loopw [8] (fun n wr => ∃ (j : Nat) (q : Later w), i < j ∧ j ≤ X.length ∧ n = .int .i64 j ∧ Hid (RowOk X Z i j) ∧ wr = q.at_) (fun n _ => X.length - (intOf n).toNat)
            case atStart => exact ⟨i + 1, q, by omega, by omega, by go_num, R1.out i, rfl⟩
            case round =>
              obtain ⟨j, q, hij, hjl, rfl, hro, rfl⟩ := hrel
              by_cases hj : j < X.length
              · obtain ⟨b0, b1, b2, b3, b4⟩ := HCA.out j hj
                have D0 := later_cell b0 hb
                have D1 := later_cell b1 hb
                have D2 := later_cell b2 hb
                have D3 := later_cell b3 hb
                have D4 := later_cell b4 hb
                have S1 := hidm (fun h => R2.out i j hro.out h)
                have S2 := hidm (fun h => HB.out i j hij hj h)
                have hfb := farI_bd (X.getD i Ins.zero) (X.getD j Ins.zero)
                have hfar := fun ww => refFar_any (X.getD i Ins.zero) (X.getD j Ins.zero) ww
                have hwi := hwh i
                have hwj := hwh j
                have hbi := hwb i
                have hbj := hwb j
                unfold Ins.val at hfar
                clear hwh hwb b0 b1 b2 b3 b4 HF HB R1 R2 R3 hall HZ HC hro HCA HO
                generalize X.getD i Ins.zero = x at A0 A1 A2 A3 A4 S1 S2 hfb hfar
                generalize X.getD j Ins.zero = y at D0 D1 D2 D3 D4 S1 S2 hfb hfar
                generalize farI x y = d at S1 S2 hfb hfar
                generalize whereI Z i = ri at S1 S2 hwi hbi
                generalize whereI Z j = rj at S1 S2 hwj hbj
                have hilI : (i : Int) < X.length := by omega
                have hjlI : (j : Int) < X.length := by omega
                by_cases h1 : 0 < d
                · by_cases h2 : rj < ri + d
                  · have HH := hidm (S2.out ⟨h1, h2⟩)
                    clear S1 S2
                    go_wp2
                    refine wp_region_later (by kernel_rfl) (by kernel_rfl) ?_
                    repeat (go_big_quiet_step (first | (go_at_call 20; exact later_of (hfar _))))
                    refine wpQuiet_nil ?_
                    rintro _ ⟨q2, rfl⟩
                    go_wp2_with (first
                      | (have t := tk; go_at_call 29; refine (later_of (hwi q3)).mono ?_; rintro e _ ⟨rfl, q4, rfl⟩)
                      | (go_at_call 29; refine (later_of (hwj q2)).mono ?_; rintro e _ ⟨rfl, q3, rfl⟩; have tk : Hid True := True.intro))
                    go_ret
                    exact ⟨ret_bool HH.out.symm, by rw [E0.out]; exact q4.is_⟩
                  · have HH := hidm (S1.out (fun q => h2 q.2))
                    clear S1 S2
                    go_wp2
                    refine wp_region_later (by kernel_rfl) (by kernel_rfl) ?_
                    repeat (go_big_quiet_step (first | (go_at_call 20; exact later_of (hfar _))))
                    refine wpQuiet_nil ?_
                    rintro _ ⟨q2, rfl⟩
                    go_wp2_with (first
                      | (have t := tk; go_at_call 29; refine (later_of (hwi q3)).mono ?_; rintro e _ ⟨rfl, q4, rfl⟩)
                      | (go_at_call 29; refine (later_of (hwj q2)).mono ?_; rintro e _ ⟨rfl, q3, rfl⟩; have tk : Hid True := True.intro))
                    go_roundw
                    case rel => exact ⟨j + 1, q4, by omega, by omega, by go_num, HH.out, rfl⟩
                    case measure => simp [intOf] <;> omega
                · have HH := hidm (S1.out (fun q => h1 q.1))
                  clear S1 S2
                  obtain rfl : d = 0 := by omega
                  clear h1
                  go_wp2
                  refine wp_region_later (by kernel_rfl) (by kernel_rfl) ?_
                  repeat (go_big_quiet_step (first | (go_at_call 20; exact later_of (hfar _))))
                  refine wpQuiet_nil ?_
                  rintro _ ⟨q2, rfl⟩
                  go_wp2
                  go_roundw
                  case rel => exact ⟨j + 1, q2, by omega, by omega, by go_num, HH.out, rfl⟩
                  case measure => simp [intOf] <;> omega
              · obtain rfl : j = X.length := by omega
                have HH := hidm (R3.out i hall.out hro.out)
                clear HF HB R1 R2 R3 HCA
                go_wp2
                go_roundw
                case rel => exact ⟨i + 1, q, by omega, by go_num, HH.out, rfl⟩
                case measure => simp [intOf] <;> omega
          · obtain rfl : i = X.length := by omega
            have HH : Hid (keepsB X Z = true) := (keepsB_iff X Z).2 (HF.out.2 hall.out)
            clear HF HB R1 R2 R3 HC HZ
            go_wp2
            go_ret
            exact ⟨ret_bool HH.out.symm, by rw [E0.out]; exact q.is_⟩
      · have HH := hidm (KB.out fun h => ho (hoc.1 h))
        have hne : (((seen Z Z.length).length : Int) != (X.length : Int)) = true := by simp; omega
        clear hoc ho KB HC HZ
        go_wp2
        go_ret
        exact ⟨ret_bool HH.out.symm, by rw [E0.out]; exact q.is_⟩
end Go.Proofs.Ytpmofaajkhllpaa
