/-
  The reference's functions over lists: Same, In, Without.
-/
import Derived.Test.YtfgejepjiifmlaaSl
import Derived.Deep.AppendLies
namespace Go.Proofs.Ytfgejepjiifmlaa
set_option linter.unusedVariables false
open Go.ChangeShapes Go.WideShapes Go.ChangeAt Go.RowKit

theorem Bel.drewN (w : World) (n : Nat) : Bel w (w.drewN n) := by
  induction n with
  | zero => exact Bel.refl w
  | succ n ih => exact ih.drew
def sameB (A B : List Int) : Bool := decide (A = B)
theorem sameB_self (A : List Int) : sameB A A = true := by simp [sameB]
theorem inB_take_snoc (L : List Int) (x : Int) (k : Nat) (h : k < L.length) : inB (L.take (k + 1)) x = (inB (L.take k) x || (L[k]?.getD 0 == x)) := by
  have e : L[k]?.getD 0 = L[k] := by simp [h]
  rw [e, List.take_succ_eq_append_getElem h, Bool.eq_iff_iff, Bool.or_eq_true, inB_iff, inB_iff, List.mem_append, List.mem_singleton, beq_iff_eq]
  exact ⟨fun h => h.imp id Eq.symm, fun h => h.imp id Eq.symm⟩
theorem take_same (A B : List Int) (k : Nat) (hl : A.length = B.length) (h : k < A.length) (hp : A.take k = B.take k) (he : A[k]?.getD 0 = B[k]?.getD 0) : A.take (k + 1) = B.take (k + 1) := by
  have e1 : A[k]?.getD 0 = A[k] := by simp [h]
  have e2 : B[k]?.getD 0 = B[k] := by simp [hl ▸ h]
  rw [List.take_succ_eq_append_getElem h, List.take_succ_eq_append_getElem (hl ▸ h), hp, ← e1, ← e2, he]

set_option maxHeartbeats 1000000 in
theorem in_any (v : Value) (L : List Int) (x : Int) (W : World) (h : Ints .i64 W v L) (hlen : L.length < 1000000000) :
    Calls Try.prog 16 #[v, .int .i64 x] W fun e W' => e = .returned (.bool (inB L x)) ∧ W' = W := by
  obtain ⟨ao, cap, rfl, hv⟩ := h
  go_enter Try.func16, Try.ntmps16
  go_wp2
  go_loop [5] (fun i => ∃ k : Nat, k ≤ L.length ∧ i = .int .i64 k ∧ Hid (inB (L.take k) x = false)) (fun i => L.length - (intOf i).toNat)
  case atStart => exact ⟨0, Nat.zero_le _, rfl, rfl⟩
  case round =>
    obtain ⟨k, hk, rfl, hin⟩ := hrel
    by_cases hlt : k < L.length
    · obtain ⟨b, o, rfl, hb, hc⟩ := hv (by omega)
      have hcx := hc k hlt
      clear hc hv
      have hs := inB_take_snoc L x k hlt
      rw [hin.out, Bool.false_or] at hs
      generalize L[k]?.getD 0 = z at hs hcx
      by_cases hx : (z == x) = true
      · rw [hx] at hs
        have HS : Hid (inB (L.take (k + 1)) x = true) := hs
        clear hs
        go_wp2
        go_ret
        refine ⟨?_, rfl⟩
        have : inB L x = true := by
          rw [inB_iff]
          exact List.mem_of_mem_take ((inB_iff _ _).1 HS.out)
        rw [this]
        rfl
      · rw [Bool.not_eq_true] at hx
        rw [hx] at hs
        have HS : Hid (inB (L.take (k + 1)) x = false) := hs
        clear hs
        go_wp2
        go_round
        case rel => exact ⟨k + 1, by omega, by simp, HS⟩
        case measure => simp [intOf]; omega
    · go_wp2
      go_ret
      have : inB L x = false := by
        have := hin.out
        rwa [List.take_of_length_le (by omega)] at this
      rw [this]
      exact ⟨rfl, rfl⟩

set_option maxHeartbeats 1000000 in
theorem same_any (va vb : Value) (A B : List Int) (W : World) (ha : Ints .i64 W va A) (hb : Ints .i64 W vb B) (hlen : A.length < 1000000000) :
    Calls Try.prog 13 #[va, vb] W fun e W' => e = .returned (.bool (sameB A B)) ∧ Bel W W' := by
  obtain ⟨ao, cap, rfl, hva⟩ := ha
  obtain ⟨bo, cap', rfl, hvb⟩ := hb
  by_cases hl : A.length = B.length
  · go_enter Try.func13, Try.ntmps13
    go_wp2
    go_loopw [5] (fun i wr => ∃ k : Nat, k ≤ A.length ∧ i = .int .i64 k ∧ Hid (A.take k = B.take k) ∧ Bel W wr) (fun i _ => A.length - (intOf i).toNat)
    case atStart => exact ⟨0, Nat.zero_le _, rfl, rfl, Bel.refl _⟩
    case round =>
      obtain ⟨k, hk, rfl, hin, hB⟩ := hrel
      by_cases hlt : k < A.length
      · obtain ⟨b, o, rfl, hb, hc⟩ := hva (by omega)
        obtain ⟨b', o', rfl, hb', hc'⟩ := hvb (by omega)
        have hcx := ((bcell hB).1 b (o + k) hb).trans (hc k hlt)
        have hcy := ((bcell hB).1 b' (o' + k) hb').trans (hc' k (by omega))
        have hs := take_same A B k hl hlt hin.out
        have hneq : A = B → A[k]?.getD 0 = B[k]?.getD 0 := fun e => by rw [e]
        clear hc hc' hva hvb
        have hltB : k < B.length := by omega
        generalize A[k]?.getD 0 = z at hcx hs hneq
        generalize B[k]?.getD 0 = z' at hcy hs hneq
        by_cases hx : z = z'
        · have HS : Hid (A.take (k + 1) = B.take (k + 1)) := hs hx
          have hx' : (z != z') = false := by simp [hx]
          clear hs hneq hx
          go_wp2
          go_quiet (fail)
          go_wp2
          go_roundw
          case rel => exact ⟨k + 1, by omega, by simp, HS, btrans hB (Bel.drewN _ _)⟩
          case measure => simp [intOf]; omega
        · have HS : Hid (A ≠ B) := fun e => hx (hneq e)
          have hx' : (z != z') = true := by simp [hx]
          clear hs hneq hx
          go_wp2
          go_quiet (fail)
          go_wp2
          go_ret
          refine ⟨?_, btrans hB (Bel.drewN _ _)⟩
          rw [show sameB A B = false from by simp only [sameB, decide_eq_false_iff_not]; exact HS.out]
          rfl
      · go_wp2
        go_ret
        have : A = B := by
          have := hin.out
          rwa [List.take_of_length_le (by omega), List.take_of_length_le (by omega)] at this
        rw [show sameB A B = true from by simp only [sameB, decide_eq_true_eq]; exact this]
        exact ⟨rfl, hB⟩
  · have hl' : ((A.length : Int) != (B.length : Int)) = true := by simp; omega
    have hf : sameB A B = false := by
      simp only [sameB, decide_eq_false_iff_not]
      intro e
      exact hl (by rw [e])
    go_enter Try.func13, Try.ntmps13
    go_wp2
    go_ret
    rw [hf]
    exact ⟨rfl, Bel.refl _⟩
theorem tail_take_snoc (L : List Int) (k : Nat) (h : k + 1 < L.length) : L.tail.take (k + 1) = L.tail.take k ++ [L[k + 1]?.getD 0] := by
  have h' : k < L.tail.length := by simp; omega
  rw [List.take_succ_eq_append_getElem h']
  congr 2
  simp [List.getElem_tail, h]

set_option maxHeartbeats 1000000 in
theorem without_any (v : Value) (L : List Int) (W : World) (h : Ints .i64 W v L) (hlen : L.length < 1000000) :
    Calls Try.prog 10 #[v] W fun e W' => ∃ v', e = .returned v' ∧ W'.ownsRow W.heap.size 3 1 v' L.tail.length (L.tail.map (Value.int .i64)) ∧ Bel W W' := by
  obtain ⟨i0, hi, hz0, hz1, hz2⟩ := info_parts intInfo
  obtain ⟨ao, cap, rfl, hv⟩ := h
  have hTl : L.tail.length = L.length - 1 := by simp
  have hTs := tail_take_snoc L
  generalize L.tail = T at hTl hTs ⊢
  have HTs : Hid (∀ k, k + 1 < L.length → T.take (k + 1) = T.take k ++ [L[k + 1]?.getD 0]) := hTs
  clear hTs
  go_enter Try.func10, Try.ntmps10
  go_wp2
  go_loopw [3, 4] (fun u i wr => ∃ k : Nat, k ≤ T.length ∧ i = .int .i64 (k + 1) ∧ wr.ownsRow W.heap.size 3 1 u k ((T.take k).map (Value.int .i64)) ∧ Bel W wr) (fun _ i _ => L.length - (intOf i).toNat)
  case atStart => exact ⟨0, Nat.zero_le _, rfl, World.ownsRow_nil _ _ _ _, Bel.refl _⟩
  case round =>
    obtain ⟨k, hk, rfl, hrow, hB⟩ := hrel
    have hsz := hB.size
    by_cases hlt : k + 1 < L.length
    · obtain ⟨b, o, rfl, hb, hc⟩ := hv (by omega)
      have hcx := ((bcell hB).1 b (o + (k + 1)) hb).trans (hc (k + 1) hlt)
      have hs := HTs.out k hlt
      clear hc hv
      generalize L[k + 1]?.getD 0 = z at hcx hs
      have HS : Hid (T.take (k + 1) = T.take k ++ [z]) := hs
      clear hs
      have hlti : (k : Int) + 1 < L.length := by omega
      go_wp2_with (at_builtin; refine wpList_append_own _ rfl _ _ 22 rfl W.heap.size 3 i0 (.int .i64 0) 1 8 Try.underlying22 hi hz0 hz1 hz2 rfl (by decide) _ _ _ rfl (hrow.alloc _) ⟨wr.heap.size, 0, none⟩ 1 1 [.int .i64 z] rfl rfl (cell_one_new _ _ _) (by intro u hu; simp at hu; subst hu; rfl) (by unfold maxLen; omega) (by omega) (by simp; omega) ?_; intro v1 w1 hown1 hgrow1 _)
      go_roundw
      case rel =>
        refine ⟨k + 1, by omega, by simp, ?_, (hB.alloc _).grown hgrow1 (fun g hg => (hrow.lt g hg).1)⟩
        rw [HS.out, List.map_append]
        exact hown1
      case measure => simp only [intOf]; omega
    · have hlti : ¬ ((k : Int) + 1 < L.length) := by omega
      go_wp2
      go_ret
      refine ⟨_, rfl, ?_, hB⟩
      have e : L.length - 1 = k := by omega
      rw [List.take_of_length_le (by omega)] at hrow
      rw [e]
      exact hrow
end Go.Proofs.Ytfgejepjiifmlaa
