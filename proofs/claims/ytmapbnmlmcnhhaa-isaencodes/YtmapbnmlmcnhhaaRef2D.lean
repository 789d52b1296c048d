/-
  Contracts of the reference's Encode and Decode of layer 2.
-/
import Derived.Test.YtmapbnmlmcnhhaaRef2R
namespace Go.Proofs.Ytmapbnmlmcnhhaa
open Go.ChangeShapes Go.WideShapes Go.ChangeAt Go.RowKit

theorem refRight_any (op a b c imm : Int) (w : World) :
    Calls Try.prog 10 #[.agg #[.int .i64 op, .int .i64 a, .int .i64 b, .int .i64 c, .int .i64 imm]] w fun e w' => e = .returned (.bool (rightB op a b c imm)) ∧ Grown w w' := by
  by_cases h : 0 ≤ op ∧ op ≤ 20
  · exact refRight_yes op a b c imm w h
  · exact refRight_no op a b c imm w (by omega)
theorem refEncode_yes (op a b c imm : Int) (w : World) (h : rightB op a b c imm = true) :
    Calls Try.prog 14 #[.agg #[.int .i64 op, .int .i64 a, .int .i64 b, .int .i64 c, .int .i64 imm]] w fun e w' => e = .returned (.int .i64 (encW op a b c imm)) ∧ Grown w w' := by
  obtain ⟨b1, b2, b3, b4, b5, b6, b7, b8, b9, b10⟩ := right_bd h
  clear h
  by_cases hi : imm < 0
  · go_enter Try.func14, Try.ntmps14
    go_wp2
    go_ret
    exact ⟨ret_int (by unfold encW; omega), (Grown.refl _).alloc _ _⟩
  · go_enter Try.func14, Try.ntmps14
    go_wp2
    go_ret
    exact ⟨ret_int (by unfold encW; omega), (Grown.refl _).alloc _ _⟩

theorem decB_far {n : Int} (h : n < 0 ∨ 4294967295 < n) : decB n = false := by
  cases hb : decB n
  · rfl
  · unfold decB at hb
    simp only [Bool.and_eq_true, decide_eq_true_eq] at hb
    have := (back_any hb.1).2.2.2.2.2.2
    omega
theorem decB_none {n : Int} (h : shapeOf (n / 67108864) < 0) : decB n = false := by
  cases hb : decB n
  · rfl
  · unfold decB at hb
    simp only [Bool.and_eq_true, decide_eq_true_eq] at hb
    have h1 := right_bd hb.1
    have := shape_bd (op := n / 67108864) (by omega)
    omega
theorem decB_imm {n : Int} (h0 : 0 ≤ n) (h1 : n ≤ 4294967295) (h : 8 ≤ shapeOf (n / 67108864)) : dC n = 0 ∧ dImm n = (n + 32768) % 65536 - 32768 ∧ decB n = rightB (n / 67108864) (n / 2097152 % 32) (n / 65536 % 32) 0 ((n + 32768) % 65536 - 32768) := by
  have hop : 0 ≤ n / 67108864 ∧ n / 67108864 ≤ 20 := by
    refine ⟨by omega, ?_⟩
    rcases Int.lt_or_le 20 (n / 67108864) with h2 | h2
    · exfalso; unfold shapeOf at h; omega
    · exact h2
  have hr : regsOf (n / 67108864) ≤ 2 := by
    rcases classes _ hop with h2 | h2 | h2 | h2 | h2 | h2 | h2 | h2 <;> omega
  obtain ⟨e1, e2⟩ := decB_less hr
  refine ⟨e1, e2, ?_⟩
  unfold decB
  rw [e1, e2]
  have : encW (n / 67108864) (n / 2097152 % 32) (n / 65536 % 32) 0 ((n + 32768) % 65536 - 32768) = n := by unfold encW; omega
  rw [this]
  simp
theorem decB_regs {n : Int} (h0 : 0 ≤ n) (h1 : n ≤ 4294967295) (h : shapeOf (n / 67108864) < 8) (hs : 0 ≤ shapeOf (n / 67108864)) :
    (n % 2048 ≠ 0 → decB n = false) ∧ (n % 2048 = 0 → decB n = rightB (n / 67108864) (n / 2097152 % 32) (n / 65536 % 32) (n / 2048 % 32) 0) ∧ (decB n = true → dC n = n / 2048 % 32 ∧ dImm n = 0) := by
  have hop : 0 ≤ n / 67108864 ∧ n / 67108864 ≤ 20 := by
    refine ⟨by omega, ?_⟩
    rcases Int.lt_or_le 20 (n / 67108864) with h2 | h2
    · exfalso; unfold shapeOf at hs; omega
    · exact h2
  by_cases h3 : 2 < regsOf (n / 67108864)
  · obtain ⟨e1, e2⟩ := decB_three h3
    refine ⟨fun hm => ?_, fun hm => ?_, fun _ => ⟨e1, e2⟩⟩
    · unfold decB; rw [e1, e2]
      have : ¬ encW (n / 67108864) (n / 2097152 % 32) (n / 65536 % 32) (n / 2048 % 32) 0 = n := by unfold encW; omega
      simp [this]
    · unfold decB; rw [e1, e2]
      have : encW (n / 67108864) (n / 2097152 % 32) (n / 65536 % 32) (n / 2048 % 32) 0 = n := by unfold encW; omega
      simp [this]
  · obtain ⟨e1, e2⟩ := decB_less (n := n) (by omega)
    have hm : leastOf (n / 67108864) = 0 ∧ mostOf (n / 67108864) = 0 := by
      rcases classes _ hop with h2 | h2 | h2 | h2 | h2 | h2 | h2 | h2 <;> omega
    have hi := right_iff (n / 67108864) (n / 2097152 % 32) (n / 65536 % 32) 0 ((n + 32768) % 65536 - 32768)
    have hj := right_iff (n / 67108864) (n / 2097152 % 32) (n / 65536 % 32) (n / 2048 % 32) 0
    have hw : encW (n / 67108864) (n / 2097152 % 32) (n / 65536 % 32) 0 ((n + 32768) % 65536 - 32768) = n := by unfold encW; omega
    have hd : decB n = rightB (n / 67108864) (n / 2097152 % 32) (n / 65536 % 32) 0 ((n + 32768) % 65536 - 32768) := by
      unfold decB; rw [e1, e2, hw]; simp
    rw [hd, e1, e2]
    refine ⟨fun hm' => ?_, fun hm' => ?_, fun hb => ?_⟩
    · cases hb : rightB (n / 67108864) (n / 2097152 % 32) (n / 65536 % 32) 0 ((n + 32768) % 65536 - 32768)
      · rfl
      · have := hi.1 hb; omega
    · rw [Bool.eq_iff_iff, hi, hj]; omega
    · have := hi.1 hb; omega

theorem end3 {n : Int} (hn : 0 ≤ n ∧ n ≤ 4294967295) (h : 8 ≤ shapeOf (n / 67108864)) (h2 : 32767 < n % 65536) : dC n = 0 ∧ dImm n = n % 65536 - 65536 ∧ decB n = rightB (n / 67108864) (n / 2097152 % 32) (n / 65536 % 32) 0 (n % 65536 - 65536) := by
  obtain ⟨e1, e2, e3⟩ := decB_imm hn.1 hn.2 h
  have e : (n + 32768) % 65536 - 32768 = n % 65536 - 65536 := by omega
  rw [e] at e2 e3
  exact ⟨e1, e2, e3⟩
theorem end4 {n : Int} (hn : 0 ≤ n ∧ n ≤ 4294967295) (h : 8 ≤ shapeOf (n / 67108864)) (h2 : n % 65536 ≤ 32767) : dC n = 0 ∧ dImm n = n % 65536 ∧ decB n = rightB (n / 67108864) (n / 2097152 % 32) (n / 65536 % 32) 0 (n % 65536) := by
  obtain ⟨e1, e2, e3⟩ := decB_imm hn.1 hn.2 h
  have e : (n + 32768) % 65536 - 32768 = n % 65536 := by omega
  rw [e] at e2 e3
  exact ⟨e1, e2, e3⟩
theorem end5 {n : Int} (hn : 0 ≤ n ∧ n ≤ 4294967295) (h : 0 ≤ shapeOf (n / 67108864)) (h1 : shapeOf (n / 67108864) < 8) (h2 : (n % 2048 != 0) = true) : decB n = false :=
  (decB_regs hn.1 hn.2 h1 h).1 (by simpa using h2)
theorem end6 {n : Int} (hn : 0 ≤ n ∧ n ≤ 4294967295) (h : 0 ≤ shapeOf (n / 67108864)) (h1 : shapeOf (n / 67108864) < 8) (h2 : (n % 2048 != 0) = false) : decB n = rightB (n / 67108864) (n / 2097152 % 32) (n / 65536 % 32) (n / 2048 % 32) 0 :=
  (decB_regs hn.1 hn.2 h1 h).2.1 (by simpa using h2)
theorem not_tt {b : Bool} (h : (!b) = true) : b = false := by simpa using h
theorem not_ff {b : Bool} (h : (!b) = false) : b = true := by simpa using h

set_option maxHeartbeats 2000000 in
theorem refDecode_any (n : Int) (w : World) :
    Calls Try.prog 15 #[.int .i64 n] w fun e w' => (decB n = true → e = .returned (.tuple #[.agg #[.int .i64 (n / 67108864), .int .i64 (n / 2097152 % 32), .int .i64 (n / 65536 % 32), .int .i64 (dC n), .int .i64 (dImm n)], .bool true])) ∧
      (decB n = false → e = .returned (.tuple #[.agg #[.int .i64 0, .int .i64 0, .int .i64 0, .int .i64 0, .int .i64 0], .bool false])) ∧ Grown w w' := by
  go_enter Try.func15, Try.ntmps15
  go_wp2_with (first | (go_at_call 16; refine (shape_any _ _).mono ?_; rintro e w1 ⟨rfl, hg1⟩; obtain ⟨hc, hf⟩ := gcell hg1; have hz : w.heap.size + 1 < w1.heap.size := (by have := hg1.2.2; simp at this; omega); obtain ⟨p0, p1, p2, p3, p4⟩ : w1.cell? ⟨w.heap.size, 0, none⟩ = some (.int .i64 0) ∧ w1.cell? ⟨w.heap.size, 1, none⟩ = some (.int .i64 0) ∧ w1.cell? ⟨w.heap.size, 2, none⟩ = some (.int .i64 0) ∧ w1.cell? ⟨w.heap.size, 3, none⟩ = some (.int .i64 0) ∧ w1.cell? ⟨w.heap.size, 4, none⟩ = some (.int .i64 0) := (by refine ⟨?_, ?_, ?_, ?_, ?_⟩ <;> (rw [hc _ _ (by simp <;> omega)]; go_simp)); obtain ⟨r0, r1, r2, r3, r4⟩ : w1.cell? ⟨w.heap.size + 1, 0, none⟩ = some (.int .i64 (n / 67108864)) ∧ w1.cell? ⟨w.heap.size + 1, 1, none⟩ = some (.int .i64 (n / 2097152 % 32)) ∧ w1.cell? ⟨w.heap.size + 1, 2, none⟩ = some (.int .i64 (n / 65536 % 32)) ∧ w1.cell? ⟨w.heap.size + 1, 3, none⟩ = some (.int .i64 0) ∧ w1.cell? ⟨w.heap.size + 1, 4, none⟩ = some (.int .i64 0) := (by refine ⟨?_, ?_, ?_, ?_, ?_⟩ <;> (rw [hc _ _ (by simp <;> omega)]; go_simp)); clear hc) | (go_at_call 10; refine (refRight_any _ _ _ _ _ _).mono ?_; rintro e w2 ⟨rfl, hg2⟩; obtain ⟨hc2, hf2⟩ := gcell hg2; have hz2 : w.heap.size + 1 < w2.heap.size := (by have := hg2.2.2; simp at this; omega); obtain ⟨q0, q1, q2, q3, q4⟩ : w2.cell? ⟨w.heap.size, 0, none⟩ = some (.int .i64 0) ∧ w2.cell? ⟨w.heap.size, 1, none⟩ = some (.int .i64 0) ∧ w2.cell? ⟨w.heap.size, 2, none⟩ = some (.int .i64 0) ∧ w2.cell? ⟨w.heap.size, 3, none⟩ = some (.int .i64 0) ∧ w2.cell? ⟨w.heap.size, 4, none⟩ = some (.int .i64 0) := (by refine ⟨?_, ?_, ?_, ?_, ?_⟩ <;> (rw [hc2 _ _ (by simp <;> omega)]; go_simp)); have hs2 := fun o => hc2 (w.heap.size + 1) o (by simp <;> omega); clear hc2))
  all_goals
    refine bodyPost_ret (v := ?_) ?_ rfl ⟨?_, ?_, ?_⟩
    rotate_left 1
    · simp only [results, Try.results15]; go_simp; rfl
    · intro hd
      first
        | (have hn : decB n = false := (by first | exact decB_far (by omega) | exact decB_none ‹_› | exact (end3 ‹_› ‹_› ‹_›).2.2.trans (not_tt ‹_›) | exact (end4 ‹_› ‹_› ‹_›).2.2.trans (not_tt ‹_›) | exact end5 ‹_› ‹_› ‹_› ‹_› | exact (end6 ‹_› ‹_› ‹_› ‹_›).trans (not_tt ‹_›))
           rw [hn] at hd; exact absurd hd (by decide))
        | (obtain ⟨e1, e2, _⟩ := end3 ‹_› ‹_› ‹_›
           exact agg5 rfl rfl rfl e1.symm e2.symm rfl)
        | (obtain ⟨e1, e2, _⟩ := end4 ‹_› ‹_› ‹_›
           exact agg5 rfl rfl rfl e1.symm e2.symm rfl)
        | (obtain ⟨e1, e2⟩ := (decB_regs (n := n) (by omega) (by omega) ‹_› ‹_›).2.2 hd
           exact agg5 rfl rfl rfl e1.symm e2.symm rfl)
    · intro hd
      first
        | (have hn : decB n = true := (by first | exact (end3 ‹_› ‹_› ‹_›).2.2.trans (not_ff ‹_›) | exact (end4 ‹_› ‹_› ‹_›).2.2.trans (not_ff ‹_›) | exact (end6 ‹_› ‹_› ‹_› ‹_›).trans (not_ff ‹_›))
           rw [hn] at hd; exact absurd hd (by decide))
        | rfl
    · first
        | (have hG' := gtrans (((Grown.refl w).alloc _ _).alloc _ _) hg1
           have hG2 : Grown w w2 := gtrans (by repeat (first | with_reducible exact hG' | with_reducible apply Grown.alloc | (with_reducible refine Grown.setCell ?_ ?_ _; rotate_left 1; (simp <;> omega)))) hg2
           repeat (first | with_reducible exact hG2 | with_reducible apply Grown.alloc | (with_reducible refine Grown.setCell ?_ ?_ _; rotate_left 1; (simp <;> omega))))
        | (have hG := gtrans (((Grown.refl w).alloc _ _).alloc _ _) hg1
           repeat (first | with_reducible exact hG | with_reducible apply Grown.alloc | (with_reducible refine Grown.setCell ?_ ?_ _; rotate_left 1; (simp <;> omega))))
        | (have hG := Grown.refl w
           repeat (first | with_reducible exact hG | with_reducible apply Grown.alloc | (with_reducible refine Grown.setCell ?_ ?_ _; rotate_left 1; (simp <;> omega))))
theorem refDecode_yes (n : Int) (w : World) (h : decB n = true) :
    Calls Try.prog 15 #[.int .i64 n] w fun e w' => e = .returned (.tuple #[.agg #[.int .i64 (n / 67108864), .int .i64 (n / 2097152 % 32), .int .i64 (n / 65536 % 32), .int .i64 (dC n), .int .i64 (dImm n)], .bool true]) ∧ Grown w w' :=
  (refDecode_any n w).mono fun _ _ ⟨h1, _, h3⟩ => ⟨h1 h, h3⟩
theorem refDecode_no (n : Int) (w : World) (h : decB n = false) :
    Calls Try.prog 15 #[.int .i64 n] w fun e w' => e = .returned (.tuple #[.agg #[.int .i64 0, .int .i64 0, .int .i64 0, .int .i64 0, .int .i64 0], .bool false]) ∧ Grown w w' :=
  (refDecode_any n w).mono fun _ _ ⟨_, h2, h3⟩ => ⟨h2 h, h3⟩
end Go.Proofs.Ytmapbnmlmcnhhaa
