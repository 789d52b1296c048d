/-
  The reference's functions: Wrap, Stored, Used; Same.
-/
import Derived.Test.YtpmjkdhnoknhlaaGen6
import Derived.Deep.AppendLies
import Derived.Maps.AppendAt
namespace Go.Proofs.Ytpmjkdhnoknhlaa
set_option linter.unusedVariables false
open Go.ChangeShapes Go.WideShapes Go.ChangeAt Go.RowKit

theorem ret_int {k : IntKind} {a b : Int} (h : a = b) : Ending.returned (.int k a) = .returned (.int k b) := by rw [h]
theorem tmod_form (n k : Int) (hk : 0 < k) : n.tmod k = n - k * n.tdiv k ∧ -k < n.tmod k ∧ n.tmod k < k := ⟨Int.tmod_def n k, Int.lt_tmod_of_pos n hk, Int.tmod_lt_of_pos n hk⟩
theorem refWrap_any (n : Int) (w : World) (h1 : -9223372036854775808 ≤ n) (h2 : n ≤ 9223372036854775807) :
    Calls Try.prog 21 #[.int .i64 n] w fun e w' => e = .returned (.int .i64 (wrap32 n)) ∧ w' = w := by
  obtain ⟨h3, h4, h5⟩ := tmod_form n 4294967296 (by omega)
  have H : Hid (n.tmod 4294967296 = n - 4294967296 * n.tdiv 4294967296) := h3
  clear h3
  go_enter Try.func21, Try.ntmps21
  go_wp2
  all_goals
    go_ret
    have h3 := H.out
    exact ⟨ret_int (by unfold wrap32; omega), rfl⟩
theorem row_base {n₀ n₁ : Nat} {e : TypeId} {W : World} {v : Value} {n : Nat} {xs : List Value} (h : W.ownsRow n₁ e 1 v n xs) (hn : n₀ ≤ n₁) : W.ownsRow n₀ e 1 v n xs := by
  refine ⟨h.1, ?_⟩
  rcases h.2 with hz | ⟨g, cap, cur, e1, hb, rest⟩
  · exact .inl hz
  · exact .inr ⟨g, cap, cur, e1, Nat.le_trans hn hb, rest⟩
theorem put_snoc (L : List Int) (z v : Int) (k : Nat) (hk : k < L.length) (x : Int) (hx : x = if (k : Int) = z then wrap32 v else L[k]?.getD 0) :
    (putM L z v).take (k + 1) = (putM L z v).take k ++ [x] := by
  have hk' : k < (putM L z v).length := by rw [put_len]; exact hk
  rw [List.take_succ_eq_append_getElem hk']
  congr 2
  have e : (putM L z v)[k] = (putM L z v)[k]?.getD 0 := by simp [hk']
  rw [e, get_nat hk', hx]
  split
  · rename_i h
    subst h
    exact get_put_same (inM_yes (by omega) (by omega))
  · rename_i h
    rw [get_put_other h, get_nat hk]

set_option maxHeartbeats 1000000 in
theorem stored_any (u : Value) (L : List Int) (z v : Int) (wv : (Lit.int .i64 v).wf = true) (W : World) (h : Ints .i64 W u L) (hlen : L.length ≤ 1000) :
    Calls Try.prog 12 #[u, .int .i64 z, .int .i64 v] W fun e W' => ∃ v', e = .returned v' ∧ W'.ownsRow W.heap.size 3 1 v' (putM L z v).length ((putM L z v).map (Value.int .i64)) ∧ Bel W W' := by
  obtain ⟨i0, hi, hz0, hz1, hz2⟩ := info_parts intInfo
  obtain ⟨ao, cap, rfl, hv⟩ := h
  have hwv := wf_i64 wv
  have hTl := put_len L z v
  have HTs : Hid (∀ (k : Nat), k < L.length → ∀ x, x = (if (k : Int) = z then wrap32 v else L[k]?.getD 0) → (putM L z v).take (k + 1) = (putM L z v).take k ++ [x]) := put_snoc L z v
  generalize putM L z v = T at hTl HTs ⊢
  go_enter Try.func12, Try.ntmps12
  go_wp2
  go_loopw [7, 8] (fun u i wr => ∃ k : Nat, k ≤ L.length ∧ i = .int .i64 k ∧ wr.ownsRow W.heap.size 3 1 u k ((T.take k).map (Value.int .i64)) ∧ Bel W wr) (fun _ i _ => L.length - (intOf i).toNat)
  case atStart => exact ⟨0, Nat.zero_le _, rfl, World.ownsRow_nil _ _ _ _, Bel.refl _⟩
  case round =>
    obtain ⟨k, hk, rfl, hrow, hB⟩ := hrel
    have hsz := hB.size
    by_cases hlt : k < L.length
    · obtain ⟨b, o, rfl, hb, hc⟩ := hv (by omega)
      have hcx := ((bcell hB).1 b (o + k) hb).trans (hc k hlt)
      have hs := HTs.out k hlt
      clear hc hv
      generalize L[k]?.getD 0 = x at hcx hs
      have hlti : (k : Int) < L.length := by omega
      by_cases hkz : (k : Int) = z
      · have HS : Hid (T.take (k + 1) = T.take k ++ [wrap32 v]) := hs _ (by rw [if_pos hkz])
        have t1 : ((k : Int) == z) = true := by simp [hkz]
        clear hs hkz
        go_wp2_with (first
          | (go_at_call 21; refine (refWrap_any _ _ (by omega) (by omega)).mono ?_; rintro e w' ⟨rfl, e'⟩; subst e'; generalize wrap32 v = y at HS ⊢)
          | (at_builtin; refine wpList_append_own _ rfl _ _ 26 rfl W.heap.size 3 i0 (.int .i64 0) 1 8 Try.underlying26 hi hz0 hz1 hz2 rfl (by decide) _ _ _ rfl (hrow.alloc _) ⟨_, 0, none⟩ 1 1 [.int .i64 y] rfl rfl (cell_one_new _ _ _) (by intro u hu; simp at hu; subst hu; rfl) (by unfold maxLen; omega) (by omega) (by simp; omega) ?_; intro v1 w1 hown1 hgrow1 _))
        go_roundw
        case rel =>
          refine ⟨k + 1, by omega, by simp, ?_, (hB.alloc _).grown hgrow1 (fun g hg => (hrow.lt g hg).1)⟩
          rw [HS.out, List.map_append]
          exact hown1
        case measure => simp only [intOf]; omega
      · have HS : Hid (T.take (k + 1) = T.take k ++ [x]) := hs _ (by rw [if_neg hkz])
        have t1 : ((k : Int) == z) = false := by simp [hkz]
        clear hs hkz
        go_wp2_with (at_builtin; refine wpList_append_own _ rfl _ _ 26 rfl W.heap.size 3 i0 (.int .i64 0) 1 8 Try.underlying26 hi hz0 hz1 hz2 rfl (by decide) _ _ _ rfl (hrow.alloc _) ⟨wr.heap.size, 0, none⟩ 1 1 [.int .i64 x] rfl rfl (cell_one_new _ _ _) (by intro u hu; simp at hu; subst hu; rfl) (by unfold maxLen; omega) (by omega) (by simp; omega) ?_; intro v1 w1 hown1 hgrow1 _)
        go_roundw
        case rel =>
          refine ⟨k + 1, by omega, by simp, ?_, (hB.alloc _).grown hgrow1 (fun g hg => (hrow.lt g hg).1)⟩
          rw [HS.out, List.map_append]
          exact hown1
        case measure => simp only [intOf]; omega
    · have hlti : ¬ ((k : Int) < L.length) := by omega
      go_wp2
      go_ret
      refine ⟨_, rfl, ?_, hB⟩
      have e : k = L.length := by omega
      rw [List.take_of_length_le (by omega), e] at hrow
      exact hrow
theorem Bel.drewN (w : World) (n : Nat) : Bel w (w.drewN n) := by
  induction n with
  | zero => exact Bel.refl w
  | succ n ih => exact ih.drew
def sameB (A B : List Int) : Bool := decide (A = B)
theorem sameB_self (A : List Int) : sameB A A = true := by simp [sameB]
theorem take_same (A B : List Int) (k : Nat) (hl : A.length = B.length) (h : k < A.length) (hp : A.take k = B.take k) (he : A[k]?.getD 0 = B[k]?.getD 0) : A.take (k + 1) = B.take (k + 1) := by
  have e1 : A[k]?.getD 0 = A[k] := by simp [h]
  have e2 : B[k]?.getD 0 = B[k] := by simp [hl ▸ h]
  rw [List.take_succ_eq_append_getElem h, List.take_succ_eq_append_getElem (hl ▸ h), hp, ← e1, ← e2, he]

set_option maxHeartbeats 1000000 in
theorem same_any (va vb : Value) (A B : List Int) (W : World) (ha : Ints .i64 W va A) (hb : Ints .i64 W vb B) (hlen : A.length < 1000000000) :
    Calls Try.prog 15 #[va, vb] W fun e W' => e = .returned (.bool (sameB A B)) ∧ Bel W W' := by
  obtain ⟨ao, cap, rfl, hva⟩ := ha
  obtain ⟨bo, cap', rfl, hvb⟩ := hb
  by_cases hl : A.length = B.length
  · go_enter Try.func15, Try.ntmps15
    go_wp2
    go_loopw [5] (fun i wr => ∃ k : Nat, k ≤ A.length ∧ i = .int .i64 k ∧ Hid (A.take k = B.take k) ∧ Bel W wr) (fun i _ => A.length - (intOf i).toNat)
    case atStart => exact ⟨0, Nat.zero_le _, rfl, rfl, Bel.refl _⟩
    case round =>
      obtain ⟨k, hk, rfl, hin, hB⟩ := hrel
      by_cases hlt : k < A.length
      · obtain ⟨b, o, rfl, hb, hc⟩ := hva (by omega)
        obtain ⟨b', o', rfl, hb', hc'⟩ := hvb (by omega)
        have hcx := ((bcell hB).1 b (o + k) hb).trans (hc k hlt)
        have hcy := ((bcell hB).1 b' (o' + k) hb').trans (hc' k (by omega))
        have hs := take_same A B k hl hlt hin.out
        have hneq : A = B → A[k]?.getD 0 = B[k]?.getD 0 := fun e => by rw [e]
        clear hc hc' hva hvb
        have hltB : k < B.length := by omega
        generalize A[k]?.getD 0 = z at hcx hs hneq
        generalize B[k]?.getD 0 = z' at hcy hs hneq
        by_cases hx : z = z'
        · have HS : Hid (A.take (k + 1) = B.take (k + 1)) := hs hx
          have hx' : (z != z') = false := by simp [hx]
          clear hs hneq hx
          go_wp2
          go_quiet (fail)
          go_wp2
          go_roundw
          case rel => exact ⟨k + 1, by omega, by simp, HS, btrans hB (Bel.drewN _ _)⟩
          case measure => simp [intOf]; omega
        · have HS : Hid (A ≠ B) := fun e => hx (hneq e)
          have hx' : (z != z') = true := by simp [hx]
          clear hs hneq hx
          go_wp2
          go_quiet (fail)
          go_wp2
          go_ret
          refine ⟨?_, btrans hB (Bel.drewN _ _)⟩
          rw [show sameB A B = false from by simp only [sameB, decide_eq_false_iff_not]; exact HS.out]
          rfl
      · go_wp2
        go_ret
        have : A = B := by
          have := hin.out
          rwa [List.take_of_length_le (by omega), List.take_of_length_le (by omega)] at this
        rw [show sameB A B = true from by simp only [sameB, decide_eq_true_eq]; exact this]
        exact ⟨rfl, hB⟩
  · have hl' : ((A.length : Int) != (B.length : Int)) = true := by simp; omega
    have hf : sameB A B = false := by
      simp only [sameB, decide_eq_false_iff_not]
      intro e
      exact hl (by rw [e])
    go_enter Try.func15, Try.ntmps15
    go_wp2
    go_ret
    rw [hf]
    exact ⟨rfl, Bel.refl _⟩

/-- What the reference's loop knows behind k rounds. -/
def EndTo (L : List Int) (k d : Nat) : Prop := d ≤ k ∧ (∀ j, d ≤ j → j < k → L[j]?.getD 0 = 0) ∧ (d = 0 ∨ L[d - 1]?.getD 0 ≠ 0)
theorem endTo_yes {L : List Int} {k d : Nat} (h : EndTo L k d) (hx : L[k]?.getD 0 ≠ 0) : EndTo L (k + 1) (k + 1) := ⟨Nat.le_refl _, fun j h1 h2 => by omega, .inr hx⟩
theorem endTo_no {L : List Int} {k d : Nat} (h : EndTo L k d) (hx : L[k]?.getD 0 = 0) : EndTo L (k + 1) d := by
  refine ⟨by have := h.1; omega, fun j h1 h2 => ?_, h.2.2⟩
  rcases Nat.lt_or_ge j k with h3 | h3
  · exact h.2.1 j h1 h3
  · obtain rfl : j = k := by omega
    exact hx
set_option maxHeartbeats 1000000 in
theorem refUsed_some (g cap : Nat) (L : List Int) (W : World) (hcap : L.length ≤ cap) (hv : ∀ j, j < L.length → W.cell? ⟨g, j, none⟩ = some (.int .i64 (L[j]?.getD 0))) (hlen : L.length ≤ 1000) :
    Calls Try.prog 18 #[.slice (some ⟨g, 0, none⟩) L.length cap] W fun e W' => ∃ d, e = .returned (.slice (some ⟨g, 0, none⟩) d cap) ∧ EndAt L d ∧ W' = W := by
  have HV : Hid (∀ j, j < L.length → W.cell? ⟨g, j, none⟩ = some (.int .i64 (L[j]?.getD 0))) := hv
  clear hv
  go_enter Try.func18, Try.ntmps18
  go_wp2
  go_loop [3, 4] (fun n i => ∃ k d : Nat, k ≤ L.length ∧ n = .int .i64 d ∧ i = .int .i64 k ∧ Hid (EndTo L k d)) (fun _ i => L.length - (intOf i).toNat)
  case atStart => exact ⟨0, 0, Nat.zero_le _, rfl, rfl, ⟨Nat.le_refl _, fun j h1 h2 => by omega, .inl rfl⟩⟩
  case round =>
    obtain ⟨k, d, hk, rfl, rfl, hin⟩ := hrel
    by_cases hlt : k < L.length
    · have hcx := HV.out k hlt
      have hlti : (k : Int) < L.length := by omega
      by_cases hx : L[k]?.getD 0 = 0
      · have HN : Hid (EndTo L (k + 1) d) := endTo_no hin.out hx
        rw [hx] at hcx
        clear hx
        go_wp2
        go_round
        case rel => exact ⟨k + 1, d, by omega, rfl, by simp, HN⟩
        case measure => simp only [intOf]; omega
      · have HN : Hid (EndTo L (k + 1) (k + 1)) := endTo_yes hin.out hx
        have hx' : (L[k]?.getD 0 != 0) = true := by simpa using hx
        generalize L[k]?.getD 0 = x at hcx hx'
        clear hx
        go_wp2
        go_round
        case rel => exact ⟨k + 1, k + 1, by omega, by simp, by simp, HN⟩
        case measure => simp only [intOf]; omega
    · have hlti : ¬ ((k : Int) < L.length) := by omega
      obtain rfl : k = L.length := by omega
      have hd := hin.out.1
      have hdc : (d : Int) ≤ cap := by omega
      go_wp2
      go_ret
      exact ⟨d, rfl, hin.out, rfl⟩
theorem refUsed_nil (W : World) : Calls Try.prog 18 #[.slice none 0 0] W fun e W' => e = .returned (.slice none 0 0) ∧ W' = W := by
  go_enter Try.func18, Try.ntmps18
  go_wp2
  refine wp_loop_rounds 1 ?_
  rw [rounds_succ]
  go_wp2
  go_ret
  exact ⟨rfl, rfl⟩
theorem refUsed_row {n : Nat} {u : Value} {L : List Int} {W : World} (h : W.ownsRow n 3 1 u L.length (L.map (Value.int .i64))) (hlen : L.length ≤ 1000) :
    Calls Try.prog 18 #[u] W fun e W' => ∃ d v, e = .returned v ∧ EndAt L d ∧ Ints .i64 W v (L.take d) ∧ W' = W := by
  have hI := ints_of_row h
  rcases h.2 with ⟨rfl, e⟩ | ⟨g, cap, cur, rfl, hb, hg, hle, _⟩
  · obtain rfl : L = [] := List.length_eq_zero_iff.1 e
    refine (refUsed_nil W).mono ?_
    rintro e w' ⟨rfl, rfl⟩
    exact ⟨0, _, rfl, ⟨Nat.le_refl _, fun j h1 h2 => by simp at h2, .inl rfl⟩, hI, rfl⟩
  · refine (refUsed_some g cap L W hle (fun j hj => ?_) hlen).mono ?_
    · obtain ⟨b, o, e, _, hc⟩ := hI.cells.2 (by omega)
      injection e with e
      injection e with e1 e2 _
      subst e1 e2
      have := hc j hj
      rwa [Nat.zero_add] at this
    · rintro e w' ⟨d, rfl, hE, rfl⟩
      refine ⟨d, _, rfl, hE, ?_, rfl⟩
      have hd := hE.1
      have hl : (L.take d).length = d := by rw [List.length_take]; omega
      refine ⟨_, cap, by rw [hl], fun hn => ?_⟩
      obtain ⟨b, o, e, hb', hc⟩ := hI.cells.2 (by omega)
      refine ⟨b, o, e, hb', fun j hj => ?_⟩
      rw [hc j (by omega), List.getElem?_take, if_pos (by omega)]
end Go.Proofs.Ytpmjkdhnoknhlaa
