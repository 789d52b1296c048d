/-
  slices.Index, slices.Contains; mathematics of orders: where a number stands.
-/
import Derived.Test.YteldmfidcnlfkaaIb
import Derived.RegionTactic
namespace Go.Proofs.Yteldmfidcnlfkaa
set_option maxRecDepth 20000
open Go.ChangeShapes Go.WideShapes Go.ChangeAt Go.RowKit
set_option linter.unusedVariables false

/-- The first place at which a number stands in the first k cells. -/
def has_ (f : Nat → Int) (k : Nat) (x : Int) : Bool := (List.range k).any fun i => f i == x
theorem has_zero (f : Nat → Int) (x : Int) : has_ f 0 x = false := by simp [has_]
theorem has_succ (f : Nat → Int) (k : Nat) (x : Int) : has_ f (k + 1) x = (has_ f k x || (f k == x)) := by simp [has_, List.range_succ]
theorem has_iff (f : Nat → Int) (k : Nat) (x : Int) : has_ f k x = true ↔ ∃ i, i < k ∧ f i = x := by
  simp [has_]
theorem has_of {f : Nat → Int} {k n : Nat} {x : Int} (hk : k < n) (h : f k = x) : has_ f n x = true := (has_iff f n x).2 ⟨k, hk, h⟩

set_option maxHeartbeats 1000000 in
/-- slices.Index: a place, or -1. -/
theorem index_any (f : Nat → Int) (n : Nat) (x : Int) (g c : Nat) (W : World) (hn : n ≤ 100000) (h : W.heap[g]? = some (intB f n)) :
    Calls Try.prog 39 #[.slice (some ⟨g, 0, none⟩) n c, .int .i64 x] W fun e W' => ∃ r : Int, e = .returned (.int .i64 r) ∧ (0 ≤ r ↔ has_ f n x = true) ∧ Bel W W' := by
  have HY := hidm (fun k => has_of (f := f) (k := k) (n := n) (x := x))
  have HS := hidm (has_succ f)
  have HZ := hidm (has_zero f x)
  go_enter Try.func39, Try.ntmps39
  go_wp2
  go_loopw [8] (fun i wr => ∃ k : Nat, k ≤ n ∧ i = .int .i64 k ∧ Hid (has_ f k x = false) ∧ Bel W wr) (fun i _ => n - (intOf i).toNat)
  case atStart => exact ⟨0, Nat.zero_le _, rfl, HZ.out, Bel.refl _⟩
  case round =>
    obtain ⟨k, hk, rfl, hno, hB⟩ := hrel
    rename World => wr
    by_cases hlt : k < n
    · have hc := int_cell (bel_heap hB h) k hlt
      have HSk := hidm (HS.out k x)
      have HYk := hidm (HY.out k hlt)
      clear HS HY
      generalize f k = y at hc HSk HYk
      by_cases e : y = x
      · have e' : (x == y) = true := by simp [e]
        have HF := hidm (HYk.out e)
        clear HYk HSk e
        go_wp2
        go_ret
        exact ⟨_, rfl, ⟨fun _ => HF.out, fun _ => by omega⟩, hB⟩
      · have e' : (x == y) = false := beq_eq_false_iff_ne.2 fun q => e q.symm
        have HF : Hid (has_ f (k + 1) x = false) := by
          have := HSk.out
          rw [hno.out, beq_eq_false_iff_ne.2 e] at this
          exact this
        clear HYk HSk e
        go_wp2
        go_roundw
        case rel => exact ⟨k + 1, by omega, by go_num, HF, hB⟩
        case measure => simp [intOf]; omega
    · obtain rfl : k = n := by omega
      go_wp2
      go_ret
      refine ⟨_, rfl, ?_, hB⟩
      rw [hno.out]
      simp
theorem contains_any (f : Nat → Int) (n : Nat) (x : Int) (g c : Nat) (W : World) (hn : n ≤ 100000) (h : W.heap[g]? = some (intB f n)) :
    Calls Try.prog 34 #[.slice (some ⟨g, 0, none⟩) n c, .int .i64 x] W fun e W' => e = .returned (.bool (has_ f n x)) ∧ Bel W W' := by
  go_enter Try.func34, Try.ntmps34
  go_wp2_with (go_at_call 39; refine (index_any f n x g c _ hn h).mono ?_; rintro e w1 ⟨r, rfl, hr, g1⟩)
  go_ret
  refine ⟨ret_bool ?_, g1⟩
  rw [Bool.eq_iff_iff, ← hr]
end Go.Proofs.Yteldmfidcnlfkaa
