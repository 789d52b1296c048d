/-
  What a memory tells: Used (Mem2 without Words, for seats that do not reach it).
-/
import Derived.Test.YtmgpfhmodjmcdaaMem
import Derived.Lib.SliceRun
import Derived.Deep.AppendLies
namespace Go.Proofs.Ytmgpfhmodjmcdaa
set_option maxRecDepth 20000
set_option linter.unusedVariables false
open Go.ChangeShapes Go.WideShapes Go.ChangeAt Go.RowKit

set_option maxHeartbeats 1000000 in
theorem clone_any (g cap n : Nat) (X : List Int) (W : World) (hn : n = X.length) (hg : g < W.heap.size) (hc : ∀ j, j < X.length → W.cell? ⟨g, j, none⟩ = some (.int .i64 (X[j]?.getD 0))) (hlen : X.length ≤ 32000) :
    Calls Try.prog 56 #[.slice (some ⟨g, 0, none⟩) n cap] W fun e W' => ∃ v, e = .returned v ∧ W'.ownsRow W.heap.size 3 1 v X.length (X.map (Value.int .i64)) ∧ Bel W W' := by
  subst hn
  obtain ⟨i0, hi, hz0, hz1, hz2⟩ := info_parts intInfo
  have q22 : ∀ (w : World) (a : Option Addr) (n c n' c' : Nat), (binOp .eql 23 (.slice a n c) (.slice none n' c')).run Try.prog w = .ok (.bool a.isNone) w := fun w a n c n' c' => Lib.run_eql_slice_nil w _ _ a n c n' c' Try.underlying23
  have Hc : Hid (∀ j, j < X.length → W.cell? ⟨g, j, none⟩ = some (.int .i64 (X[j]?.getD 0))) := hc
  clear hc
  have hcell : ∀ j u, (X.map (Value.int .i64))[j]? = some u → (W.alloc (.cells #[] 3)).cell? ((⟨g, 0, none⟩ : Addr).add j) = some u := by
    intro j u hj
    have hjn : j < X.length := by simpa using (List.getElem?_eq_some_iff.1 hj).1
    have e : (⟨g, 0, none⟩ : Addr).add j = ⟨g, j, none⟩ := by unfold Addr.add; split <;> simp_all
    rw [e, (bcell ((Bel.refl W).alloc _)).1 g j hg, Hc.out j hjn]
    rw [← hj]
    simp [hjn]
  have hone : ∀ u ∈ X.map (Value.int .i64), u.oneCell' = true := by intro u hu; obtain ⟨x, _, rfl⟩ := List.mem_map.1 hu; rfl
  have Hcell : Hid (∀ j u, (X.map (Value.int .i64))[j]? = some u → (W.alloc (.cells #[] 3)).cell? ((⟨g, 0, none⟩ : Addr).add j) = some u) := hcell
  have Hone : Hid (∀ u ∈ X.map (Value.int .i64), u.oneCell' = true) := hone
  clear hcell hone
  go_enter Try.func56, Try.ntmps56
  go_wp2_with (at_builtin; refine wpList_append_own _ rfl _ _ 23 rfl W.heap.size 3 i0 (.int .i64 0) 1 8 Try.underlying23 hi hz0 hz1 hz2 rfl (by decide) _ _ _ rfl (World.ownsRow_made W #[] 0 (Nat.le_refl _) (Nat.zero_le _) rfl) ⟨g, 0, none⟩ X.length cap (X.map (Value.int .i64)) rfl (by simp) Hcell.out Hone.out (by unfold maxLen; omega) (by omega) (by simp) ?_; intro v1 w1 hown1 hgrow1 _)
  go_ret
  refine ⟨v1, rfl, by simpa using hown1, ((Bel.refl W).alloc _).grown hgrow1 (fun k hk => by injection (show some W.heap.size = some k from hk) with e; omega)⟩

set_option maxHeartbeats 1000000 in
theorem upTo_zero (p : Option Addr) (W : World) : Calls Try.prog 39 #[.pointer p, .int .i64 0] W fun e W' => e = .returned (.slice none 0 0) ∧ W' = W := by
  go_enter Try.func39, Try.ntmps39
  go_wp2
  go_ret
  exact ⟨rfl, rfl⟩
theorem row_nil (n : Nat) (W : World) : W.ownsRow n 3 1 (.slice none 0 0) ([] : List Int).length (([] : List Int).map (Value.int .i64)) := World.ownsRow_nil _ _ _ _
set_option maxHeartbeats 1000000 in
theorem upTo_any {n₀ b g : Nat} {W : World} {L : List Int} (h : IsM n₀ W b g L) (k : Nat) (hk : k ≤ L.length) (hlen : L.length ≤ 32000) :
    Calls Try.prog 39 #[.pointer (some ⟨b, 0, none⟩), .int .i64 (k : Int)] W fun e W' => ∃ v, e = .returned v ∧ W'.ownsRow W.heap.size 3 1 v (L.take k).length ((L.take k).map (Value.int .i64)) ∧ Bel W W' := by
  by_cases hk0 : k = 0
  · subst hk0
    refine (upTo_zero _ W).mono ?_
    rintro e w' ⟨rfl, rfl⟩
    exact ⟨_, rfl, row_nil _ _, Bel.refl _⟩
  · have c0 : W.cell? ⟨b, 0, none⟩ = some (.slice (some ⟨g, 0, none⟩) L.length L.length) := cell_of h.box 0
    have hkp : 0 < k := by omega
    have hg := lt_of_heap h.row
    have hl : k = (L.take k).length := by rw [List.length_take]; omega
    have hc : ∀ j, j < (L.take k).length → W.cell? ⟨g, j, none⟩ = some (.int .i64 ((L.take k)[j]?.getD 0)) := fun j hj => by
      rw [h.cell (by omega), List.getElem?_take, if_pos (by omega)]
    have hkl : ((k : Int) == 0) = false := by simp; omega
    have HL : Hid (k = (L.take k).length) := hl
    have HC : Hid (∀ j, j < (L.take k).length → W.cell? ⟨g, j, none⟩ = some (.int .i64 ((L.take k)[j]?.getD 0))) := hc
    clear hl hc
    generalize L.take k = X at HL HC ⊢
    go_enter Try.func39, Try.ntmps39
    go_wp2_with (go_at_call 56; refine (clone_any g _ _ X _ HL.out hg HC.out (by rw [← HL.out]; omega)).mono ?_; rintro e w' ⟨v', rfl, hown, hB⟩)
    go_ret
    exact ⟨v', rfl, hown, hB⟩

/-- k is the place behind the last word that is not 0. -/
def EndAt (L : List Int) (k : Nat) : Prop := k ≤ L.length ∧ (∀ j, k ≤ j → j < L.length → L[j]?.getD 0 = 0) ∧ (k = 0 ∨ L[k - 1]?.getD 0 ≠ 0)
theorem endAt_one {L : List Int} {j k : Nat} (h1 : EndAt L j) (h2 : EndAt L k) : j = k := by
  obtain ⟨a1, a2, a3⟩ := h1
  obtain ⟨b1, b2, b3⟩ := h2
  rcases Nat.lt_trichotomy j k with h | h | h
  · rcases b3 with b3 | b3
    · omega
    · exact absurd (a2 (k - 1) (by omega) (by omega)) b3
  · exact h
  · rcases a3 with a3 | a3
    · omega
    · exact absurd (b2 (j - 1) (by omega) (by omega)) a3
theorem used_nil (W : World) : Calls Try.prog 24 #[.pointer none] W fun e W' => e = .returned (.slice none 0 0) ∧ W' = W := by
  go_enter Try.func24, Try.ntmps24
  go_wp2_with (first
    | (go_at_call 38; refine (len_nil _).mono ?_; rintro e w' ⟨rfl, rfl⟩)
    | fail)
  refine wp_loop_rounds 1 ?_
  rw [rounds_succ]
  go_wp2_with (first
    | (go_at_call 39; refine (upTo_zero _ _).mono ?_; rintro e w' ⟨rfl, rfl⟩))
  go_ret
  exact ⟨rfl, rfl⟩
set_option maxHeartbeats 1000000 in
theorem used_any {n₀ b g : Nat} {W : World} {L : List Int} (h : IsM n₀ W b g L) (hlen : L.length ≤ 32000) :
    Calls Try.prog 24 #[.pointer (some ⟨b, 0, none⟩)] W fun e W' => ∃ k v, EndAt L k ∧ e = .returned v ∧ W'.ownsRow W.heap.size 3 1 v (L.take k).length ((L.take k).map (Value.int .i64)) ∧ Bel W W' := by
  have c0 : W.cell? ⟨b, 0, none⟩ = some (.slice (some ⟨g, 0, none⟩) L.length L.length) := cell_of h.box 0
  go_enter Try.func24, Try.ntmps24
  go_wp2_with (go_at_call 38; refine (len_any h).mono ?_; rintro e w' ⟨rfl, rfl⟩)
  go_loop [3] (fun i => ∃ k : Nat, k ≤ L.length ∧ i = .int .i64 k ∧ Hid (∀ j, k ≤ j → j < L.length → L[j]?.getD 0 = 0)) (fun i => (intOf i).toNat)
  case atStart => exact ⟨L.length, Nat.le_refl _, rfl, fun j h1 h2 => by omega⟩
  case round =>
    obtain ⟨k, hk, rfl, hin⟩ := hrel
    cases k with
    | zero =>
      go_wp2_with (go_at_call 39; refine (upTo_any h 0 (Nat.zero_le _) hlen).mono ?_; rintro e w2 ⟨v', rfl, hown, hB⟩)
      go_ret
      exact ⟨0, v', ⟨hk, hin.out, .inl rfl⟩, rfl, hown, hB⟩
    | succ k =>
      have hcx := h.cell (k := k) (by omega)
      have hlt : (k : Int) < L.length := by omega
      have hnx := hin.out
      by_cases hx : L[k]?.getD 0 = 0
      · have HN : Hid (∀ j, k ≤ j → j < L.length → L[j]?.getD 0 = 0) := fun j h1 h2 => by
          rcases Nat.lt_or_ge k j with h3 | h3
          · exact hnx j (by omega) h2
          · obtain rfl : j = k := by omega
            exact hx
        rw [hx] at hcx
        clear hnx hx
        go_wp2
        go_round
        case rel => exact ⟨k, by omega, by simp, HN⟩
        case measure => simp [intOf]
      · have HE : Hid (EndAt L (k + 1)) := ⟨hk, hnx, .inr hx⟩
        have hx' : (L[k]?.getD 0 == 0) = false := by simpa using hx
        generalize L[k]?.getD 0 = x at hcx hx'
        clear hnx hx
        go_wp2_with (go_at_call 39; refine (upTo_any h (k + 1) hk hlen).mono ?_; rintro e w2 ⟨v', rfl, hown, hB⟩)
        go_ret
        exact ⟨k + 1, v', HE.out, rfl, hown, hB⟩
end Go.Proofs.Ytmgpfhmodjmcdaa
