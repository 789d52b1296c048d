/-
  The contracts of package hazard.
-/
import Derived.Test.YtfhepjjebadpdaaHz12
import Derived.Test.YtfhepjjebadpdaaRdl
import Derived.Test.YtfhepjjebadpdaaSl6
import Derived.Test.YtfhepjjebadpdaaLater
namespace Go.Proofs.Ytfhepjjebadpdaa
set_option maxRecDepth 20000
set_option linter.unusedVariables false
open Go.ChangeShapes Go.WideShapes Go.ChangeAt Go.RowKit

theorem goes_late {x : Ins} (h : x.goes = true) : x.late = false := by
  unfold Ins.goes goesB at h
  unfold Ins.late lateB
  rw [Bool.and_eq_true, decide_eq_true_eq] at h
  rw [show decide (x.o = 12 ∨ x.o = 20 ∧ x.i = 1) = false from decide_eq_false (by omega), Bool.and_false]
theorem mem_at {Z : List Int} {x : Int} {k : Nat} (hk : k < Z.length) (h : Z.getD k 0 = x) : x ∈ Z := by
  rw [← h, show Z.getD k 0 = Z[k] by simp [List.getD, hk]]
  exact List.getElem_mem hk
theorem mem_none {Z : List Int} {x : Int} (h : ∀ i, i < Z.length → Z.getD i 0 ≠ x) : x ∉ Z := fun m => by
  obtain ⟨i, hi, e⟩ := List.mem_iff_getElem.1 m
  exact h i hi (by rw [show Z.getD i 0 = Z[i] by simp [List.getD, hi]]; exact e)

set_option maxHeartbeats 1000000 in
/-- slices.Index: a place, or -1. -/
theorem indexZ_any (Z : List Int) (x : Int) (v : Value) (w : World) (hZ : Z.length ≤ 10000) (hv : Ints .i64 w v Z) :
    Calls Try.prog 30 #[v, .int .i64 x] w fun e w' => ∃ r : Int, e = .returned (.int .i64 r) ∧ (0 ≤ r ↔ x ∈ Z) ∧ Bel w w' := by
  obtain ⟨ao, cap, rfl, hz⟩ := hv
  have HZ := hidm hz
  have HY := hidm (fun k => @mem_at Z x k)
  have HN := hidm (@mem_none Z x)
  clear hz
  go_enter Try.func30, Try.ntmps30
  go_wp2
  go_loopw [8] (fun i wr => ∃ k : Nat, k ≤ Z.length ∧ i = .int .i64 k ∧ Hid (∀ i, i < k → Z.getD i 0 ≠ x) ∧ Bel w wr) (fun i _ => Z.length - (intOf i).toNat)
  case atStart => exact ⟨0, Nat.zero_le _, rfl, fun i h => absurd h (Nat.not_lt_zero _), Bel.refl _⟩
  case round =>
    obtain ⟨k, hk, rfl, hno, hB⟩ := hrel
    rename World => wr
    by_cases hlt : k < Z.length
    · obtain ⟨b, o, rfl, hb, hcell⟩ := HZ.out (by omega)
      have hc := ((bcell hB).1 b (o + k) hb).trans (hcell k hlt)
      rw [show Z[k]?.getD 0 = Z.getD k 0 from rfl] at hc
      have HYk := hidm (HY.out k hlt)
      have HNk : Hid (Z.getD k 0 ≠ x → ∀ i, i < k + 1 → Z.getD i 0 ≠ x) := fun e i hi => by
        by_cases q : i = k
        · subst q; exact e
        · exact hno.out i (by omega)
      clear hcell HY HN hno HZ
      generalize Z.getD k 0 = y at hc HYk HNk
      by_cases e : y = x
      · have e' : (x == y) = true := by simp [e]
        have HF := hidm (HYk.out e)
        clear HYk HNk e
        go_wp2
        go_ret
        exact ⟨_, rfl, ⟨fun _ => HF.out, fun _ => by omega⟩, hB⟩
      · have e' : (x == y) = false := beq_eq_false_iff_ne.2 fun q => e q.symm
        have HF := hidm (HNk.out e)
        clear HYk HNk e
        go_wp2
        go_roundw
        case rel => exact ⟨k + 1, by omega, by go_num, HF.out, hB⟩
        case measure => simp [intOf]; omega
    · obtain rfl : k = Z.length := by omega
      have HF := hidm (HN.out hno.out)
      go_wp2
      go_ret
      exact ⟨_, rfl, ⟨fun h => absurd h (by omega), fun m => absurd m HF.out⟩, hB⟩
theorem containsZ_any (Z : List Int) (x : Int) (v : Value) (w : World) (hZ : Z.length ≤ 10000) (hv : Ints .i64 w v Z) :
    Calls Try.prog 27 #[v, .int .i64 x] w fun e w' => e = .returned (.bool (decide (x ∈ Z))) ∧ Bel w w' := by
  go_enter Try.func27, Try.ntmps27
  go_wp2_with (go_at_call 30; refine (indexZ_any Z x v _ hZ hv).mono ?_; rintro e w1 ⟨r, rfl, hr, g1⟩)
  go_ret
  refine ⟨ret_bool ?_, g1⟩
  rw [Bool.eq_iff_iff, decide_eq_true_eq, ← hr]
end Go.Proofs.Ytfhepjjebadpdaa
