/-
  Contracts of package word's functions, and of the reference's (stage 7 on: over Mem, which has Wrap's).
-/
import Derived.Test.YtmgpfhmodjmcdaaMem
import Derived.Deep.QuietTactic
import Derived.BigQuiet
namespace Go.Proofs.Ytmgpfhmodjmcdaa
set_option maxRecDepth 20000
set_option linter.unusedVariables false
open Go.ChangeShapes Go.WideShapes Go.ChangeAt Go.RowKit

theorem w32_lo (n : Int) : -2147483648 ≤ wrap32 n := by unfold wrap32; omega
theorem w32_hi (n : Int) : wrap32 n ≤ 2147483647 := by unfold wrap32; omega
theorem w32_w64 (n : Int) : wrap32 (wrap64 n) = wrap32 n := by unfold wrap32 wrap64; omega

theorem add_any (a b : Int) (w : World) :
    Calls Try.prog 44 #[.int .i64 a, .int .i64 b] w fun e w' => e = .returned (.int .i64 (wrap32 (a + b))) ∧ w' = w := by
  have e := w32_w64 (a + b)
  rw [← e]; clear e
  go_enter Try.func44, Try.ntmps44
  go_wp2_with (go_at_call 31; refine (wrap_any _ _).mono ?_; rintro e w' ⟨rfl, rfl⟩)
  go_ret
  exact ⟨rfl, rfl⟩

theorem sub_any (a b : Int) (w : World) :
    Calls Try.prog 45 #[.int .i64 a, .int .i64 b] w fun e w' => e = .returned (.int .i64 (wrap32 (a - b))) ∧ w' = w := by
  have e := w32_w64 (a - b)
  rw [← e]; clear e
  go_enter Try.func45, Try.ntmps45
  go_wp2_with (go_at_call 31; refine (wrap_any _ _).mono ?_; rintro e w' ⟨rfl, rfl⟩)
  go_ret
  exact ⟨rfl, rfl⟩

theorem mul_any (a b : Int) (w : World) :
    Calls Try.prog 46 #[.int .i64 a, .int .i64 b] w fun e w' => e = .returned (.int .i64 (wrap32 (a * b))) ∧ w' = w := by
  have e := w32_w64 (a * b)
  rw [← e]; clear e
  go_enter Try.func46, Try.ntmps46
  go_wp2_with (go_at_call 31; refine (wrap_any _ _).mono ?_; rintro e w' ⟨rfl, rfl⟩)
  go_ret
  exact ⟨rfl, rfl⟩

theorem ret_int {k : IntKind} {a b : Int} (h : a = b) : Ending.returned (.int k a) = .returned (.int k b) := by rw [h]
theorem tmod_form (n k : Int) (hk : 0 < k) : n.tmod k = n - k * n.tdiv k ∧ -k < n.tmod k ∧ n.tmod k < k ∧ (0 ≤ n → 0 ≤ n.tmod k) ∧ (n ≤ 0 → n.tmod k ≤ 0) := by
  refine ⟨Int.tmod_def n k, Int.lt_tmod_of_pos n hk, Int.tmod_lt_of_pos n hk, fun h => Int.tmod_nonneg k h, fun h => ?_⟩
  have := Int.tmod_nonneg (a := -n) k (by omega)
  rw [Int.neg_tmod] at this
  omega

theorem refWrap_any (n : Int) (w : World) (h1 : -9223372036854775808 ≤ n) (h2 : n ≤ 9223372036854775807) :
    Calls Try.prog 21 #[.int .i64 n] w fun e w' => e = .returned (.int .i64 (wrap32 n)) ∧ w' = w := by
  obtain ⟨h3, h4, h5, _, _⟩ := tmod_form n 4294967296 (by omega)
  have H : Hid (n.tmod 4294967296 = n - 4294967296 * n.tdiv 4294967296) := h3
  clear h3
  go_enter Try.func21, Try.ntmps21
  go_wp2
  all_goals
    go_ret
    have h3 := H.out
    exact ⟨ret_int (by unfold wrap32; omega), rfl⟩

theorem tmod_bd (n k : Int) (hk : 0 < k) : -k < n.tmod k ∧ n.tmod k < k := ⟨(tmod_form n k hk).2.1, (tmod_form n k hk).2.2.1⟩
theorem w32_def (n : Int) : wrap32 n = (n + 2147483648) % 4294967296 - 2147483648 := by unfold wrap32; rfl
theorem w32_mul (a b c : Int) (h : ∃ k, c = a * b + 4294967296 * k) : wrap32 c = wrap32 (a * b) := by
  obtain ⟨k, rfl⟩ := h; unfold wrap32; omega
theorem w32_form (n : Int) : ∃ k, wrap32 n = n + 4294967296 * k := ⟨-((n + 2147483648) / 4294967296), by unfold wrap32; omega⟩
theorem abs_mul {a b A B : Int} (h1 : -A ≤ a) (h2 : a ≤ A) (h3 : -B ≤ b) (h4 : b ≤ B) : -(A * B) ≤ a * b ∧ a * b ≤ A * B := by
  have hA : 0 ≤ A := by omega
  have hB : 0 ≤ B := by omega
  have e : (a * b).natAbs ≤ (A * B).natAbs := by
    rw [Int.natAbs_mul, Int.natAbs_mul]; exact Nat.mul_le_mul (by omega) (by omega)
  have : 0 ≤ A * B := Int.mul_nonneg hA hB
  omega
theorem tdiv_form (n : Int) (h1 : -2147483648 ≤ n) (h2 : n ≤ 2147483647) : -32768 ≤ n.tdiv 65536 ∧ n.tdiv 65536 ≤ 32768 := by
  obtain ⟨h3, h4, h5, _, _⟩ := tmod_form n 65536 (by omega)
  omega
theorem w32_halves (a b A B : Int) (hA : A = wrap32 a) (hB : B = wrap32 b) :
    wrap32 (A * B.tmod 65536 + (wrap32 (A * B.tdiv 65536)).tmod 65536 * 65536) = wrap32 (a * b) := by
  obtain ⟨h3, _⟩ := tmod_form B 65536 (by omega)
  obtain ⟨h4, _⟩ := tmod_form (wrap32 (A * B.tdiv 65536)) 65536 (by omega)
  obtain ⟨k, hk⟩ := w32_form a
  obtain ⟨l, hl⟩ := w32_form b
  obtain ⟨m, hm⟩ := w32_form (A * B.tdiv 65536)
  refine w32_mul a b _ ?_
  rw [h4, hm]
  generalize (A * B.tdiv 65536 + 4294967296 * m).tdiv 65536 = t
  rw [h3]
  generalize B.tdiv 65536 = s
  rw [← hA] at hk
  rw [← hB] at hl
  refine ⟨65536 * m - t + k * b + a * l + 4294967296 * k * l, ?_⟩
  subst hk hl
  grind

theorem refMul_any (a b : Int) (w : World) (h1 : -9223372036854775808 ≤ a) (h2 : a ≤ 9223372036854775807) (h3 : -9223372036854775808 ≤ b) (h4 : b ≤ 9223372036854775807) :
    Calls Try.prog 33 #[.int .i64 a, .int .i64 b] w fun e w' => e = .returned (.int .i64 (wrap32 (a * b))) ∧ w' = w := by
  have HE := w32_halves a b _ _ rfl rfl
  have a1 := w32_lo a
  have a2 := w32_hi a
  have b1 := w32_lo b
  have b2 := w32_hi b
  obtain ⟨b3, b4⟩ := tmod_bd (wrap32 b) 65536 (by omega)
  obtain ⟨b5, b6⟩ := tdiv_form (wrap32 b) b1 b2
  obtain ⟨c1, c2⟩ := abs_mul (a := wrap32 a) (b := (wrap32 b).tmod 65536) (A := 2147483648) (B := 65536) (by omega) (by omega) (by omega) (by omega)
  obtain ⟨c3, c4⟩ := abs_mul (a := wrap32 a) (b := (wrap32 b).tdiv 65536) (A := 2147483648) (B := 32768) (by omega) (by omega) (by omega) (by omega)
  obtain ⟨d1, d2⟩ := tmod_bd (wrap32 (wrap32 a * (wrap32 b).tdiv 65536)) 65536 (by omega)
  rw [← HE]; clear HE
  go_enter Try.func33, Try.ntmps33
  go_wp2_with (go_at_call 21; refine (refWrap_any _ _ (by omega) (by omega)).mono ?_; rintro e w' ⟨rfl, rfl⟩)
  go_ret
  exact ⟨rfl, rfl⟩

theorem ret_three {a a' b b' : Int} {c c' : Bool} (h1 : a = a') (h2 : b = b') (h3 : c = c') : Ending.returned (.tuple #[.int .i64 a, .int .i64 b, .bool c]) = .returned (.tuple #[.int .i64 a', .int .i64 b', .bool c']) := by rw [h1, h2, h3]
theorem div_zero (a b : Int) (w : World) (h : wrap32 b = 0) :
    Calls Try.prog 57 #[.int .i64 a, .int .i64 b] w fun e w' => e = .returned (.tuple #[.int .i64 0, .int .i64 0, .bool false]) ∧ w' = w := by
  go_enter Try.func57, Try.ntmps57
  go_wp2_with (go_at_call 31; refine (wrap_any _ _).mono ?_; rintro e w' ⟨rfl, rfl⟩)
  go_ret3
  exact ⟨rfl, rfl⟩
theorem tdiv_bd (n k : Int) (h1 : -2147483648 ≤ n) (h2 : n ≤ 2147483647) : -2147483648 ≤ n.tdiv k ∧ n.tdiv k ≤ 2147483648 := by
  have := Int.natAbs_tdiv_le_natAbs n k
  omega
theorem div_any (a b : Int) (w : World) (h : wrap32 b ≠ 0) :
    Calls Try.prog 57 #[.int .i64 a, .int .i64 b] w fun e w' => e = .returned (.tuple #[.int .i64 (wrap32 ((wrap32 a).tdiv (wrap32 b))), .int .i64 ((wrap32 a).tmod (wrap32 b)), .bool true]) ∧ ∃ n, w' = w.drewN n := by
  have a1 := w32_lo a
  have a2 := w32_hi a
  have b1 := w32_lo b
  have b2 := w32_hi b
  have hb : (wrap32 b == 0) = false := by simpa using h
  obtain ⟨c1, c2⟩ := tdiv_bd (wrap32 a) (wrap32 b) a1 a2
  go_enter Try.func57, Try.ntmps57
  go_wp2_with (go_at_call 31; refine (wrap_any _ _).mono ?_; rintro e w' ⟨rfl, rfl⟩)
  go_quiet ((go_at_call 31; exact Calls.quiet_of_same (wrap_any _ _)))
  go_wp2
  go_ret3
  exact ⟨rfl, _, rfl⟩

theorem pow_pos2 (k : Nat) : (0 : Int) < 2 ^ k := Int.pow_pos (by decide)
theorem pow_mono2 {j k : Nat} (h : j ≤ k) : (2 : Int) ^ j ≤ 2 ^ k := by
  have := Nat.pow_le_pow_right (n := 2) (by decide) h
  exact_mod_cast this
theorem pow_le61 {k : Nat} (h : k ≤ 61) : (2 : Int) ^ k ≤ 2305843009213693952 := by
  have := pow_mono2 h
  rwa [show (2 : Int) ^ 61 = 2305843009213693952 from by decide] at this
theorem pow_le32 {k : Nat} (h : k ≤ 32) : (2 : Int) ^ k ≤ 4294967296 := by
  have := pow_mono2 h
  rwa [show (2 : Int) ^ 32 = 4294967296 from by decide] at this
theorem pow_half {k : Nat} (h : 1 ≤ k) : (2 : Int) ^ k = 2 * 2 ^ (k - 1) := by
  obtain ⟨j, rfl⟩ : ∃ j, k = j + 1 := ⟨k - 1, by omega⟩
  rw [Int.pow_succ, Nat.add_sub_cancel]; omega
theorem pow_split {k : Nat} (h : k ≤ 32) : (2 : Int) ^ (32 - k) * 2 ^ k = 4294967296 := by
  rw [← Int.pow_add, Nat.sub_add_cancel h]; decide
end Go.Proofs.Ytmgpfhmodjmcdaa
