/-
  The reference's Same of lists of integers (of Rf5, over Sl6).
-/
import Derived.Test.YtpmofaajkhllpaaSl6
import Derived.Deep.AppendLies
namespace Go.Proofs.Ytpmofaajkhllpaa
set_option maxRecDepth 20000
set_option linter.unusedVariables false
open Go.ChangeShapes Go.WideShapes Go.ChangeAt Go.RowKit

theorem ret_boolS {a b : Bool} (h : a = b) : Ending.returned (.bool a) = .returned (.bool b) := by rw [h]
theorem Bel.drewN (w : World) (n : Nat) : Bel w (w.drewN n) := by
  induction n with
  | zero => exact Bel.refl w
  | succ n ih => exact ih.drew
def sameB (A B : List Int) : Bool := decide (A = B)
theorem sameB_self (A : List Int) : sameB A A = true := by simp [sameB]
theorem take_same (A B : List Int) (k : Nat) (hl : A.length = B.length) (h : k < A.length) (hp : A.take k = B.take k) (he : A[k]?.getD 0 = B[k]?.getD 0) : A.take (k + 1) = B.take (k + 1) := by
  have e1 : A[k]?.getD 0 = A[k] := by simp [h]
  have e2 : B[k]?.getD 0 = B[k] := by simp [hl ▸ h]
  rw [List.take_succ_eq_append_getElem h, List.take_succ_eq_append_getElem (hl ▸ h), hp, ← e1, ← e2, he]
set_option maxHeartbeats 1000000 in
theorem same_any (va vb : Value) (A B : List Int) (W : World) (ha : Ints .i64 W va A) (hb : Ints .i64 W vb B) (hlen : A.length < 1000000000) :
    Calls Try.prog 11 #[va, vb] W fun e W' => e = .returned (.bool (sameB A B)) ∧ Bel W W' := by
  obtain ⟨ao, cap, rfl, hva⟩ := ha
  obtain ⟨bo, cap', rfl, hvb⟩ := hb
  by_cases hl : A.length = B.length
  · go_enter Try.func11, Try.ntmps11
    go_wp2
    go_loopw [5] (fun i wr => ∃ k : Nat, k ≤ A.length ∧ i = .int .i64 k ∧ Hid (A.take k = B.take k) ∧ Bel W wr) (fun i _ => A.length - (intOf i).toNat)
    case atStart => exact ⟨0, Nat.zero_le _, rfl, rfl, Bel.refl _⟩
    case round =>
      obtain ⟨k, hk, rfl, hin, hB⟩ := hrel
      by_cases hlt : k < A.length
      · obtain ⟨b, o, rfl, hb, hc⟩ := hva (by omega)
        obtain ⟨b', o', rfl, hb', hc'⟩ := hvb (by omega)
        have hcx := ((bcell hB).1 b (o + k) hb).trans (hc k hlt)
        have hcy := ((bcell hB).1 b' (o' + k) hb').trans (hc' k (by omega))
        have hs := take_same A B k hl hlt hin.out
        have hneq : A = B → A[k]?.getD 0 = B[k]?.getD 0 := fun e => by rw [e]
        clear hc hc' hva hvb
        have hltB : k < B.length := by omega
        generalize A[k]?.getD 0 = z at hcx hs hneq
        generalize B[k]?.getD 0 = z' at hcy hs hneq
        by_cases hx : z = z'
        · have HS : Hid (A.take (k + 1) = B.take (k + 1)) := hs hx
          have hx' : (z != z') = false := by simp [hx]
          clear hs hneq hx
          go_wp2
          go_quiet (fail)
          go_wp2
          go_roundw
          case rel => exact ⟨k + 1, by omega, by simp, HS, btrans hB (Bel.drewN _ _)⟩
          case measure => simp [intOf]; omega
        · have HS : Hid (A ≠ B) := fun e => hx (hneq e)
          have hx' : (z != z') = true := by simp [hx]
          clear hs hneq hx
          go_wp2
          go_quiet (fail)
          go_wp2
          go_ret
          refine ⟨?_, btrans hB (Bel.drewN _ _)⟩
          rw [show sameB A B = false from by simp only [sameB, decide_eq_false_iff_not]; exact HS.out]
          rfl
      · go_wp2
        go_ret
        have : A = B := by
          have := hin.out
          rwa [List.take_of_length_le (by omega), List.take_of_length_le (by omega)] at this
        rw [show sameB A B = true from by simp only [sameB, decide_eq_true_eq]; exact this]
        exact ⟨rfl, hB⟩
  · have hl' : ((A.length : Int) != (B.length : Int)) = true := by simp; omega
    have hf : sameB A B = false := by
      simp only [sameB, decide_eq_false_iff_not]
      intro e
      exact hl (by rw [e])
    go_enter Try.func11, Try.ntmps11
    go_wp2
    go_ret
    rw [hf]
    exact ⟨rfl, Bel.refl _⟩
end Go.Proofs.Ytpmofaajkhllpaa
