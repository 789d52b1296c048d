/-
  The reference's division, by bits, is division: its contract over the given program.
-/
import Derived.Test.YtmgpfhmodjmcdaaWd
namespace Go.Proofs.Ytmgpfhmodjmcdaa
set_option maxRecDepth 20000
open Go.ChangeShapes Go.WideShapes Go.ChangeAt Go.RowKit

theorem quo_unique (x y q : Int) (hy : 0 < y) (h0 : 0 ≤ x) (h1 : q * y ≤ x) (h2 : x < (q + 1) * y) : x.tdiv y = q ∧ x.tmod y = x - q * y := by
  have e : x.tdiv y = q := by
    rw [Int.tdiv_eq_ediv_of_nonneg h0]
    have g1 : q ≤ x / y := (Int.le_ediv_iff_mul_le hy).2 h1
    have g2 : x / y < q + 1 := (Int.ediv_lt_iff_lt_mul hy).2 h2
    omega
  refine ⟨e, ?_⟩
  rw [Int.tmod_def, e, Int.mul_comm]
theorem ret_two {a a' b b' : Int} (h1 : a = a') (h2 : b = b') : Ending.returned (.tuple #[.int .i64 a, .int .i64 b]) = .returned (.tuple #[.int .i64 a', .int .i64 b']) := by rw [h1, h2]
/-- What a round of the search does, and what its end says. -/
theorem search_step (X Y Q B : Int) (j : Nat) (hY0 : 0 < Y) (hY : Y ≤ 2147483648) (hQ : 0 ≤ Q) (hB : 0 < B) (hj : B = 2 ^ j / 2) (hQj : Q + 2 ^ j ≤ 4294967296) (h2 : X < (Q + 2 ^ j) * Y) :
    1 ≤ j ∧ 2 ^ (j - 1) = B ∧ B / 2 = 2 ^ (j - 1) / 2 ∧ (Q + B) + 2 ^ (j - 1) ≤ 4294967296 ∧ X < (Q + B + 2 ^ (j - 1)) * Y ∧ Q + B ≤ 4294967295 ∧ 0 ≤ (Q + B) * Y ∧ (Q + B) * Y ≤ 9223372034707292160 ∧ (Q + B) ≤ (Q + B) * Y := by
  have h1 : 1 ≤ j := by
    rcases Nat.eq_zero_or_pos j with h | h
    · subst h; simp at hj; omega
    · exact h
  have hp := pow_half h1
  have hb : (2 : Int) ^ (j - 1) = B := by omega
  have hq : Q + B ≤ 4294967295 := by omega
  have m1 : (Q + B) * Y ≤ 4294967295 * 2147483648 := Int.mul_le_mul hq hY (by omega) (by omega)
  have m2 : (Q + B) * 1 ≤ (Q + B) * Y := Int.mul_le_mul_of_nonneg_left (by omega) (by omega)
  refine ⟨h1, hb, by rw [hb], by omega, ?_, hq, Int.mul_nonneg (by omega) (by omega), by omega, by omega⟩
  rw [show Q + B + 2 ^ (j - 1) = Q + 2 ^ j from by omega]; exact h2

theorem refDiv_00 (a b : Int) (w : World) (g1 : -9223372036854775808 ≤ a) (g2 : a ≤ 9223372036854775807) (g3 : -9223372036854775808 ≤ b) (g4 : b ≤ 9223372036854775807) (ha : 0 ≤ wrap32 a) (hb : 0 < wrap32 b) :
    Calls Try.prog 34 #[.int .i64 a, .int .i64 b] w fun e w' => e = .returned (.tuple #[.int .i64 (wrap32 ((wrap32 a).tdiv (wrap32 b))), .int .i64 ((wrap32 a).tmod (wrap32 b))]) ∧ w' = w := by
  have a1 := w32_lo a
  have a2 := w32_hi a
  have b1 := w32_lo b
  have b2 := w32_hi b
  have da : decide (wrap32 a < 0) = false := by simp; omega
  have db : decide (wrap32 b < 0) = false := by simp; omega
  go_enter Try.func34, Try.ntmps34
  go_wp2_with (go_at_call 21; refine (refWrap_any _ _ (by omega) (by omega)).mono ?_; rintro e w' ⟨rfl, rfl⟩)
  go_loop [8, 9] (fun q t => ∃ (Q B : Int) (j : Nat), q = .int .i64 Q ∧ t = .int .i64 B ∧ 0 ≤ Q ∧ 0 ≤ B ∧ B = 2 ^ j / 2 ∧ Q + 2 ^ j ≤ 4294967296 ∧ Q * (wrap32 b) ≤ (wrap32 a) ∧ (wrap32 a) < (Q + 2 ^ j) * (wrap32 b)) (fun _ t => (intOf t).toNat)
  case atStart => exact ⟨0, 2147483648, 32, rfl, rfl, by omega, by omega, by decide, by decide, by omega, by rw [show (2 : Int) ^ 32 = 4294967296 from by decide]; omega⟩
  case round =>
    obtain ⟨Q, B, j, rfl, rfl, hQ, hB0, hj, hQj, hlo, hhi⟩ := hrel
    by_cases hB : 0 < B
    · obtain ⟨s1, s2, s3, s4, s5, s6, s7, s8, s9⟩ := search_step (wrap32 a) (wrap32 b) Q B j (by omega) (by omega) hQ hB hj hQj hhi
      have S3 : Hid (B / 2 = 2 ^ (j - 1) / 2) := s3
      have S2 : Hid ((2 : Int) ^ (j - 1) = B) := s2
      have S4 : Hid (Q + B + 2 ^ (j - 1) ≤ 4294967296) := s4
      have S5 : Hid ((wrap32 a) < (Q + B + 2 ^ (j - 1)) * (wrap32 b)) := s5
      clear s2 s3 s4 s5 hj hQj hhi
      by_cases hc : (Q + B) * (wrap32 b) ≤ (wrap32 a)
      · go_wp2
        go_round
        case rel => exact ⟨Q + B, B / 2, j - 1, rfl, rfl, by omega, by omega, S3.out, S4.out, hc, S5.out⟩
        case measure => simp [intOf]; omega
      · go_wp2
        go_round
        case rel => exact ⟨Q, B / 2, j - 1, rfl, rfl, hQ, by omega, S3.out, by have := S4.out; omega, hlo, by rw [S2.out]; omega⟩
        case measure => simp [intOf]; omega
    · have e1 : (2 : Int) ^ j = 1 := by have := pow_pos2 j; omega
      rw [e1] at hhi
      have h0 : 0 ≤ Q * (wrap32 b) := Int.mul_nonneg hQ (by omega)
      obtain ⟨u1, u2⟩ := quo_unique (wrap32 a) (wrap32 b) Q (by omega) (by omega) hlo hhi
      have U1 : Hid ((wrap32 a).tdiv (wrap32 b) = Q) := u1
      have U2 : Hid ((wrap32 a).tmod (wrap32 b) = (wrap32 a) - Q * (wrap32 b)) := u2
      have hQ2 : Q ≤ 4294967296 := by have := pow_pos2 j; omega
      clear u1 u2 hhi hj hQj e1
      go_wp2_with (go_at_call 21; refine (refWrap_any _ _ (by omega) (by omega)).mono ?_; rintro e w' ⟨rfl, rfl⟩)
      go_ret2
      exact ⟨ret_two (by rw [← U1.out]) (by rw [← U2.out]), rfl⟩

theorem refDiv_01 (a b : Int) (w : World) (g1 : -9223372036854775808 ≤ a) (g2 : a ≤ 9223372036854775807) (g3 : -9223372036854775808 ≤ b) (g4 : b ≤ 9223372036854775807) (ha : 0 ≤ wrap32 a) (hb : wrap32 b < 0) :
    Calls Try.prog 34 #[.int .i64 a, .int .i64 b] w fun e w' => e = .returned (.tuple #[.int .i64 (wrap32 ((wrap32 a).tdiv (wrap32 b))), .int .i64 ((wrap32 a).tmod (wrap32 b))]) ∧ w' = w := by
  have a1 := w32_lo a
  have a2 := w32_hi a
  have b1 := w32_lo b
  have b2 := w32_hi b
  have da : decide (wrap32 a < 0) = false := by simp; omega
  have db : decide (wrap32 b < 0) = true := by simp; omega
  go_enter Try.func34, Try.ntmps34
  go_wp2_with (go_at_call 21; refine (refWrap_any _ _ (by omega) (by omega)).mono ?_; rintro e w' ⟨rfl, rfl⟩)
  go_loop [8, 9] (fun q t => ∃ (Q B : Int) (j : Nat), q = .int .i64 Q ∧ t = .int .i64 B ∧ 0 ≤ Q ∧ 0 ≤ B ∧ B = 2 ^ j / 2 ∧ Q + 2 ^ j ≤ 4294967296 ∧ Q * (-wrap32 b) ≤ (wrap32 a) ∧ (wrap32 a) < (Q + 2 ^ j) * (-wrap32 b)) (fun _ t => (intOf t).toNat)
  case atStart => exact ⟨0, 2147483648, 32, rfl, rfl, by omega, by omega, by decide, by decide, by omega, by rw [show (2 : Int) ^ 32 = 4294967296 from by decide]; omega⟩
  case round =>
    obtain ⟨Q, B, j, rfl, rfl, hQ, hB0, hj, hQj, hlo, hhi⟩ := hrel
    by_cases hB : 0 < B
    · obtain ⟨s1, s2, s3, s4, s5, s6, s7, s8, s9⟩ := search_step (wrap32 a) (-wrap32 b) Q B j (by omega) (by omega) hQ hB hj hQj hhi
      have S3 : Hid (B / 2 = 2 ^ (j - 1) / 2) := s3
      have S2 : Hid ((2 : Int) ^ (j - 1) = B) := s2
      have S4 : Hid (Q + B + 2 ^ (j - 1) ≤ 4294967296) := s4
      have S5 : Hid ((wrap32 a) < (Q + B + 2 ^ (j - 1)) * (-wrap32 b)) := s5
      clear s2 s3 s4 s5 hj hQj hhi
      by_cases hc : (Q + B) * (-wrap32 b) ≤ (wrap32 a)
      · go_wp2
        go_round
        case rel => exact ⟨Q + B, B / 2, j - 1, rfl, rfl, by omega, by omega, S3.out, S4.out, hc, S5.out⟩
        case measure => simp [intOf]; omega
      · go_wp2
        go_round
        case rel => exact ⟨Q, B / 2, j - 1, rfl, rfl, hQ, by omega, S3.out, by have := S4.out; omega, hlo, by rw [S2.out]; omega⟩
        case measure => simp [intOf]; omega
    · have e1 : (2 : Int) ^ j = 1 := by have := pow_pos2 j; omega
      rw [e1] at hhi
      have h0 : 0 ≤ Q * (-wrap32 b) := Int.mul_nonneg hQ (by omega)
      obtain ⟨u1, u2⟩ := quo_unique (wrap32 a) (-wrap32 b) Q (by omega) (by omega) hlo hhi
      have U1 : Hid ((wrap32 a).tdiv (-wrap32 b) = Q) := u1
      have U2 : Hid ((wrap32 a).tmod (-wrap32 b) = (wrap32 a) - Q * (-wrap32 b)) := u2
      have hQ2 : Q ≤ 4294967296 := by have := pow_pos2 j; omega
      clear u1 u2 hhi hj hQj e1
      go_wp2_with (go_at_call 21; refine (refWrap_any _ _ (by omega) (by omega)).mono ?_; rintro e w' ⟨rfl, rfl⟩)
      go_ret2
      exact ⟨ret_two (by rw [← U1.out] <;> simp [Int.tdiv_neg]) (by rw [← U2.out] <;> simp [Int.tmod_neg]), rfl⟩

theorem refDiv_10 (a b : Int) (w : World) (g1 : -9223372036854775808 ≤ a) (g2 : a ≤ 9223372036854775807) (g3 : -9223372036854775808 ≤ b) (g4 : b ≤ 9223372036854775807) (ha : wrap32 a < 0) (hb : 0 < wrap32 b) :
    Calls Try.prog 34 #[.int .i64 a, .int .i64 b] w fun e w' => e = .returned (.tuple #[.int .i64 (wrap32 ((wrap32 a).tdiv (wrap32 b))), .int .i64 ((wrap32 a).tmod (wrap32 b))]) ∧ w' = w := by
  have a1 := w32_lo a
  have a2 := w32_hi a
  have b1 := w32_lo b
  have b2 := w32_hi b
  have da : decide (wrap32 a < 0) = true := by simp; omega
  have db : decide (wrap32 b < 0) = false := by simp; omega
  go_enter Try.func34, Try.ntmps34
  go_wp2_with (go_at_call 21; refine (refWrap_any _ _ (by omega) (by omega)).mono ?_; rintro e w' ⟨rfl, rfl⟩)
  go_loop [8, 9] (fun q t => ∃ (Q B : Int) (j : Nat), q = .int .i64 Q ∧ t = .int .i64 B ∧ 0 ≤ Q ∧ 0 ≤ B ∧ B = 2 ^ j / 2 ∧ Q + 2 ^ j ≤ 4294967296 ∧ Q * (wrap32 b) ≤ (-wrap32 a) ∧ (-wrap32 a) < (Q + 2 ^ j) * (wrap32 b)) (fun _ t => (intOf t).toNat)
  case atStart => exact ⟨0, 2147483648, 32, rfl, rfl, by omega, by omega, by decide, by decide, by omega, by rw [show (2 : Int) ^ 32 = 4294967296 from by decide]; omega⟩
  case round =>
    obtain ⟨Q, B, j, rfl, rfl, hQ, hB0, hj, hQj, hlo, hhi⟩ := hrel
    by_cases hB : 0 < B
    · obtain ⟨s1, s2, s3, s4, s5, s6, s7, s8, s9⟩ := search_step (-wrap32 a) (wrap32 b) Q B j (by omega) (by omega) hQ hB hj hQj hhi
      have S3 : Hid (B / 2 = 2 ^ (j - 1) / 2) := s3
      have S2 : Hid ((2 : Int) ^ (j - 1) = B) := s2
      have S4 : Hid (Q + B + 2 ^ (j - 1) ≤ 4294967296) := s4
      have S5 : Hid ((-wrap32 a) < (Q + B + 2 ^ (j - 1)) * (wrap32 b)) := s5
      clear s2 s3 s4 s5 hj hQj hhi
      by_cases hc : (Q + B) * (wrap32 b) ≤ (-wrap32 a)
      · go_wp2
        go_round
        case rel => exact ⟨Q + B, B / 2, j - 1, rfl, rfl, by omega, by omega, S3.out, S4.out, hc, S5.out⟩
        case measure => simp [intOf]; omega
      · go_wp2
        go_round
        case rel => exact ⟨Q, B / 2, j - 1, rfl, rfl, hQ, by omega, S3.out, by have := S4.out; omega, hlo, by rw [S2.out]; omega⟩
        case measure => simp [intOf]; omega
    · have e1 : (2 : Int) ^ j = 1 := by have := pow_pos2 j; omega
      rw [e1] at hhi
      have h0 : 0 ≤ Q * (wrap32 b) := Int.mul_nonneg hQ (by omega)
      obtain ⟨u1, u2⟩ := quo_unique (-wrap32 a) (wrap32 b) Q (by omega) (by omega) hlo hhi
      have U1 : Hid ((-wrap32 a).tdiv (wrap32 b) = Q) := u1
      have U2 : Hid ((-wrap32 a).tmod (wrap32 b) = (-wrap32 a) - Q * (wrap32 b)) := u2
      have hQ2 : Q ≤ 4294967296 := by have := pow_pos2 j; omega
      clear u1 u2 hhi hj hQj e1
      go_wp2_with (go_at_call 21; refine (refWrap_any _ _ (by omega) (by omega)).mono ?_; rintro e w' ⟨rfl, rfl⟩)
      go_ret2
      exact ⟨ret_two (by rw [← U1.out] <;> simp [Int.neg_tdiv]) (by rw [← U2.out] <;> simp [Int.neg_tmod]), rfl⟩

theorem refDiv_11 (a b : Int) (w : World) (g1 : -9223372036854775808 ≤ a) (g2 : a ≤ 9223372036854775807) (g3 : -9223372036854775808 ≤ b) (g4 : b ≤ 9223372036854775807) (ha : wrap32 a < 0) (hb : wrap32 b < 0) :
    Calls Try.prog 34 #[.int .i64 a, .int .i64 b] w fun e w' => e = .returned (.tuple #[.int .i64 (wrap32 ((wrap32 a).tdiv (wrap32 b))), .int .i64 ((wrap32 a).tmod (wrap32 b))]) ∧ w' = w := by
  have a1 := w32_lo a
  have a2 := w32_hi a
  have b1 := w32_lo b
  have b2 := w32_hi b
  have da : decide (wrap32 a < 0) = true := by simp; omega
  have db : decide (wrap32 b < 0) = true := by simp; omega
  go_enter Try.func34, Try.ntmps34
  go_wp2_with (go_at_call 21; refine (refWrap_any _ _ (by omega) (by omega)).mono ?_; rintro e w' ⟨rfl, rfl⟩)
  go_loop [8, 9] (fun q t => ∃ (Q B : Int) (j : Nat), q = .int .i64 Q ∧ t = .int .i64 B ∧ 0 ≤ Q ∧ 0 ≤ B ∧ B = 2 ^ j / 2 ∧ Q + 2 ^ j ≤ 4294967296 ∧ Q * (-wrap32 b) ≤ (-wrap32 a) ∧ (-wrap32 a) < (Q + 2 ^ j) * (-wrap32 b)) (fun _ t => (intOf t).toNat)
  case atStart => exact ⟨0, 2147483648, 32, rfl, rfl, by omega, by omega, by decide, by decide, by omega, by rw [show (2 : Int) ^ 32 = 4294967296 from by decide]; omega⟩
  case round =>
    obtain ⟨Q, B, j, rfl, rfl, hQ, hB0, hj, hQj, hlo, hhi⟩ := hrel
    by_cases hB : 0 < B
    · obtain ⟨s1, s2, s3, s4, s5, s6, s7, s8, s9⟩ := search_step (-wrap32 a) (-wrap32 b) Q B j (by omega) (by omega) hQ hB hj hQj hhi
      have S3 : Hid (B / 2 = 2 ^ (j - 1) / 2) := s3
      have S2 : Hid ((2 : Int) ^ (j - 1) = B) := s2
      have S4 : Hid (Q + B + 2 ^ (j - 1) ≤ 4294967296) := s4
      have S5 : Hid ((-wrap32 a) < (Q + B + 2 ^ (j - 1)) * (-wrap32 b)) := s5
      clear s2 s3 s4 s5 hj hQj hhi
      by_cases hc : (Q + B) * (-wrap32 b) ≤ (-wrap32 a)
      · go_wp2
        go_round
        case rel => exact ⟨Q + B, B / 2, j - 1, rfl, rfl, by omega, by omega, S3.out, S4.out, hc, S5.out⟩
        case measure => simp [intOf]; omega
      · go_wp2
        go_round
        case rel => exact ⟨Q, B / 2, j - 1, rfl, rfl, hQ, by omega, S3.out, by have := S4.out; omega, hlo, by rw [S2.out]; omega⟩
        case measure => simp [intOf]; omega
    · have e1 : (2 : Int) ^ j = 1 := by have := pow_pos2 j; omega
      rw [e1] at hhi
      have h0 : 0 ≤ Q * (-wrap32 b) := Int.mul_nonneg hQ (by omega)
      obtain ⟨u1, u2⟩ := quo_unique (-wrap32 a) (-wrap32 b) Q (by omega) (by omega) hlo hhi
      have U1 : Hid ((-wrap32 a).tdiv (-wrap32 b) = Q) := u1
      have U2 : Hid ((-wrap32 a).tmod (-wrap32 b) = (-wrap32 a) - Q * (-wrap32 b)) := u2
      have hQ2 : Q ≤ 4294967296 := by have := pow_pos2 j; omega
      clear u1 u2 hhi hj hQj e1
      go_wp2_with (go_at_call 21; refine (refWrap_any _ _ (by omega) (by omega)).mono ?_; rintro e w' ⟨rfl, rfl⟩)
      go_ret2
      exact ⟨ret_two (by rw [← U1.out] <;> simp [Int.neg_tdiv, Int.tdiv_neg]) (by rw [← U2.out] <;> simp [Int.neg_tmod, Int.tmod_neg]), rfl⟩

theorem refDiv_any (a b : Int) (w : World) (g1 : -9223372036854775808 ≤ a) (g2 : a ≤ 9223372036854775807) (g3 : -9223372036854775808 ≤ b) (g4 : b ≤ 9223372036854775807) (h : wrap32 b ≠ 0) :
    Calls Try.prog 34 #[.int .i64 a, .int .i64 b] w fun e w' => e = .returned (.tuple #[.int .i64 (wrap32 ((wrap32 a).tdiv (wrap32 b))), .int .i64 ((wrap32 a).tmod (wrap32 b))]) ∧ w' = w := by
  by_cases ha : wrap32 a < 0
  · by_cases hb : wrap32 b < 0
    · exact refDiv_11 a b w g1 g2 g3 g4 ha hb
    · exact refDiv_10 a b w g1 g2 g3 g4 ha (by omega)
  · by_cases hb : wrap32 b < 0
    · exact refDiv_01 a b w g1 g2 g3 g4 (by omega) hb
    · exact refDiv_00 a b w g1 g2 g3 g4 (by omega) (by omega)
end Go.Proofs.Ytmgpfhmodjmcdaa
