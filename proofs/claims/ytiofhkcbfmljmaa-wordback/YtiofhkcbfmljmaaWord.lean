/-
  Contracts of package word's functions, and of the reference's, over the given program.
-/
import Derived.Test.YtiofhkcbfmljmaaRows
import Derived.WalkKit
import Derived.ProofKit
import Derived.OpenShut
import Derived.Deep.QuietTactic
import Derived.BigQuiet
namespace Go.Proofs.Ytiofhkcbfmljmaa
open Go.ChangeShapes Go.WideShapes Go.ChangeAt Go.RowKit

theorem Grown.drewN {W w' : World} (h : Grown W w') (n : Nat) : Grown W (w'.drewN n) := h
theorem w32_lo (n : Int) : -2147483648 ≤ wrap32 n := by unfold wrap32; omega
theorem w32_hi (n : Int) : wrap32 n ≤ 2147483647 := by unfold wrap32; omega
theorem w32_w64 (n : Int) : wrap32 (wrap64 n) = wrap32 n := by unfold wrap32 wrap64; omega

theorem wrap_any (n : Int) (w : World) :
    Calls Try.prog 13 #[.int .i64 n] w fun e w' => e = .returned (.int .i64 (wrap32 n)) ∧ w' = w := by
  have h1 := w32_lo n
  have h2 := w32_hi n
  go_enter Try.func13, Try.ntmps13
  go_wp2
  go_ret
  exact ⟨rfl, rfl⟩

theorem add_any (a b : Int) (w : World) :
    Calls Try.prog 14 #[.int .i64 a, .int .i64 b] w fun e w' => e = .returned (.int .i64 (wrap32 (a + b))) ∧ w' = w := by
  have e := w32_w64 (a + b)
  rw [← e]; clear e
  go_enter Try.func14, Try.ntmps14
  go_wp2_with (go_at_call 13; refine (wrap_any _ _).mono ?_; rintro e w' ⟨rfl, rfl⟩)
  go_ret
  exact ⟨rfl, rfl⟩

theorem sub_any (a b : Int) (w : World) :
    Calls Try.prog 15 #[.int .i64 a, .int .i64 b] w fun e w' => e = .returned (.int .i64 (wrap32 (a - b))) ∧ w' = w := by
  have e := w32_w64 (a - b)
  rw [← e]; clear e
  go_enter Try.func15, Try.ntmps15
  go_wp2_with (go_at_call 13; refine (wrap_any _ _).mono ?_; rintro e w' ⟨rfl, rfl⟩)
  go_ret
  exact ⟨rfl, rfl⟩

theorem mul_any (a b : Int) (w : World) :
    Calls Try.prog 16 #[.int .i64 a, .int .i64 b] w fun e w' => e = .returned (.int .i64 (wrap32 (a * b))) ∧ w' = w := by
  have e := w32_w64 (a * b)
  rw [← e]; clear e
  go_enter Try.func16, Try.ntmps16
  go_wp2_with (go_at_call 13; refine (wrap_any _ _).mono ?_; rintro e w' ⟨rfl, rfl⟩)
  go_ret
  exact ⟨rfl, rfl⟩

theorem ret_int {k : IntKind} {a b : Int} (h : a = b) : Ending.returned (.int k a) = .returned (.int k b) := by rw [h]
theorem tmod_form (n k : Int) (hk : 0 < k) : n.tmod k = n - k * n.tdiv k ∧ -k < n.tmod k ∧ n.tmod k < k ∧ (0 ≤ n → 0 ≤ n.tmod k) ∧ (n ≤ 0 → n.tmod k ≤ 0) := by
  refine ⟨Int.tmod_def n k, Int.lt_tmod_of_pos n hk, Int.tmod_lt_of_pos n hk, fun h => Int.tmod_nonneg k h, fun h => ?_⟩
  have := Int.tmod_nonneg (a := -n) k (by omega)
  rw [Int.neg_tmod] at this
  omega

theorem refWrap_any (n : Int) (w : World) (h1 : -9223372036854775808 ≤ n) (h2 : n ≤ 9223372036854775807) :
    Calls Try.prog 12 #[.int .i64 n] w fun e w' => e = .returned (.int .i64 (wrap32 n)) ∧ w' = w := by
  obtain ⟨h3, h4, h5, _, _⟩ := tmod_form n 4294967296 (by omega)
  have H : Hid (n.tmod 4294967296 = n - 4294967296 * n.tdiv 4294967296) := h3
  clear h3
  go_enter Try.func12, Try.ntmps12
  go_wp2
  all_goals
    go_ret
    have h3 := H.out
    exact ⟨ret_int (by unfold wrap32; omega), rfl⟩

theorem tmod_bd (n k : Int) (hk : 0 < k) : -k < n.tmod k ∧ n.tmod k < k := ⟨(tmod_form n k hk).2.1, (tmod_form n k hk).2.2.1⟩
theorem w32_def (n : Int) : wrap32 n = (n + 2147483648) % 4294967296 - 2147483648 := by unfold wrap32; rfl
theorem w32_mul (a b c : Int) (h : ∃ k, c = a * b + 4294967296 * k) : wrap32 c = wrap32 (a * b) := by
  obtain ⟨k, rfl⟩ := h; unfold wrap32; omega
theorem w32_form (n : Int) : ∃ k, wrap32 n = n + 4294967296 * k := ⟨-((n + 2147483648) / 4294967296), by unfold wrap32; omega⟩
theorem abs_mul {a b A B : Int} (h1 : -A ≤ a) (h2 : a ≤ A) (h3 : -B ≤ b) (h4 : b ≤ B) : -(A * B) ≤ a * b ∧ a * b ≤ A * B := by
  have hA : 0 ≤ A := by omega
  have hB : 0 ≤ B := by omega
  have e : (a * b).natAbs ≤ (A * B).natAbs := by
    rw [Int.natAbs_mul, Int.natAbs_mul]; exact Nat.mul_le_mul (by omega) (by omega)
  have : 0 ≤ A * B := Int.mul_nonneg hA hB
  omega
theorem tdiv_form (n : Int) (h1 : -2147483648 ≤ n) (h2 : n ≤ 2147483647) : -32768 ≤ n.tdiv 65536 ∧ n.tdiv 65536 ≤ 32768 := by
  obtain ⟨h3, h4, h5, _, _⟩ := tmod_form n 65536 (by omega)
  omega
theorem w32_halves (a b A B : Int) (hA : A = wrap32 a) (hB : B = wrap32 b) :
    wrap32 (A * B.tmod 65536 + (wrap32 (A * B.tdiv 65536)).tmod 65536 * 65536) = wrap32 (a * b) := by
  obtain ⟨h3, _⟩ := tmod_form B 65536 (by omega)
  obtain ⟨h4, _⟩ := tmod_form (wrap32 (A * B.tdiv 65536)) 65536 (by omega)
  obtain ⟨k, hk⟩ := w32_form a
  obtain ⟨l, hl⟩ := w32_form b
  obtain ⟨m, hm⟩ := w32_form (A * B.tdiv 65536)
  refine w32_mul a b _ ?_
  rw [h4, hm]
  generalize (A * B.tdiv 65536 + 4294967296 * m).tdiv 65536 = t
  rw [h3]
  generalize B.tdiv 65536 = s
  rw [← hA] at hk
  rw [← hB] at hl
  refine ⟨65536 * m - t + k * b + a * l + 4294967296 * k * l, ?_⟩
  subst hk hl
  grind

theorem refMul_any (a b : Int) (w : World) (h1 : -9223372036854775808 ≤ a) (h2 : a ≤ 9223372036854775807) (h3 : -9223372036854775808 ≤ b) (h4 : b ≤ 9223372036854775807) :
    Calls Try.prog 17 #[.int .i64 a, .int .i64 b] w fun e w' => e = .returned (.int .i64 (wrap32 (a * b))) ∧ w' = w := by
  have HE := w32_halves a b _ _ rfl rfl
  have a1 := w32_lo a
  have a2 := w32_hi a
  have b1 := w32_lo b
  have b2 := w32_hi b
  obtain ⟨b3, b4⟩ := tmod_bd (wrap32 b) 65536 (by omega)
  obtain ⟨b5, b6⟩ := tdiv_form (wrap32 b) b1 b2
  obtain ⟨c1, c2⟩ := abs_mul (a := wrap32 a) (b := (wrap32 b).tmod 65536) (A := 2147483648) (B := 65536) (by omega) (by omega) (by omega) (by omega)
  obtain ⟨c3, c4⟩ := abs_mul (a := wrap32 a) (b := (wrap32 b).tdiv 65536) (A := 2147483648) (B := 32768) (by omega) (by omega) (by omega) (by omega)
  obtain ⟨d1, d2⟩ := tmod_bd (wrap32 (wrap32 a * (wrap32 b).tdiv 65536)) 65536 (by omega)
  rw [← HE]; clear HE
  go_enter Try.func17, Try.ntmps17
  go_wp2_with (go_at_call 12; refine (refWrap_any _ _ (by omega) (by omega)).mono ?_; rintro e w' ⟨rfl, rfl⟩)
  go_ret
  exact ⟨rfl, rfl⟩

theorem ret_three {a a' b b' : Int} {c c' : Bool} (h1 : a = a') (h2 : b = b') (h3 : c = c') : Ending.returned (.tuple #[.int .i64 a, .int .i64 b, .bool c]) = .returned (.tuple #[.int .i64 a', .int .i64 b', .bool c']) := by rw [h1, h2, h3]
theorem div_zero (a b : Int) (w : World) (h : wrap32 b = 0) :
    Calls Try.prog 19 #[.int .i64 a, .int .i64 b] w fun e w' => e = .returned (.tuple #[.int .i64 0, .int .i64 0, .bool false]) ∧ w' = w := by
  go_enter Try.func19, Try.ntmps19
  go_wp2_with (go_at_call 13; refine (wrap_any _ _).mono ?_; rintro e w' ⟨rfl, rfl⟩)
  go_ret3
  exact ⟨rfl, rfl⟩
theorem tdiv_bd (n k : Int) (h1 : -2147483648 ≤ n) (h2 : n ≤ 2147483647) : -2147483648 ≤ n.tdiv k ∧ n.tdiv k ≤ 2147483648 := by
  have := Int.natAbs_tdiv_le_natAbs n k
  omega
theorem div_any (a b : Int) (w : World) (h : wrap32 b ≠ 0) :
    Calls Try.prog 19 #[.int .i64 a, .int .i64 b] w fun e w' => e = .returned (.tuple #[.int .i64 (wrap32 ((wrap32 a).tdiv (wrap32 b))), .int .i64 ((wrap32 a).tmod (wrap32 b)), .bool true]) ∧ ∃ n, w' = w.drewN n := by
  have a1 := w32_lo a
  have a2 := w32_hi a
  have b1 := w32_lo b
  have b2 := w32_hi b
  have hb : (wrap32 b == 0) = false := by simpa using h
  obtain ⟨c1, c2⟩ := tdiv_bd (wrap32 a) (wrap32 b) a1 a2
  go_enter Try.func19, Try.ntmps19
  go_wp2_with (go_at_call 13; refine (wrap_any _ _).mono ?_; rintro e w' ⟨rfl, rfl⟩)
  go_quiet ((go_at_call 13; exact Calls.quiet_of_same (wrap_any _ _)))
  go_wp2
  go_ret3
  exact ⟨rfl, _, rfl⟩

theorem div_awake (w : World) :
    Calls Try.prog 19 #[.int .i64 (-7), .int .i64 2] w fun e w' => e = .returned (.tuple #[.int .i64 (-3), .int .i64 (-1), .bool true]) ∧ ∃ n, w' = w.drewN n := by
  have e1 : wrap32 (-7) = -7 := by unfold wrap32; decide
  have e2 : wrap32 2 = 2 := by unfold wrap32; decide
  have e3 : wrap32 (-3) = -3 := by unfold wrap32; decide
  refine (div_any (-7) 2 w (by rw [e2]; decide)).mono fun e w' ⟨h, hn⟩ => ⟨?_, hn⟩
  rw [h, e1, e2]
  exact ret_three e3 rfl rfl
theorem awake_any (w : World) :
    Calls Try.prog 18 #[] w fun e w' => e = .returned (.bool true) ∧ ∃ n, w' = w.drewN n := by
  have f1 : wrap32 2147483648 = -2147483648 := by unfold wrap32; decide
  have f2 : wrap32 4294901760 = -65536 := by unfold wrap32; decide
  go_enter Try.func18, Try.ntmps18
  go_wp2_with (first | (go_at_call 19; refine (div_awake _).mono ?_; rintro e w' ⟨rfl, n, rfl⟩) | go_in)
  go_ret
  exact ⟨rfl, _, rfl⟩

theorem fits_no (n b : Int) (w : World) (h : b < 1 ∨ 62 < b) :
    Calls Try.prog 21 #[.int .i64 n, .int .i64 b] w fun e w' => e = .returned (.bool false) ∧ w' = w := by
  by_cases h1 : b < 1
  · go_enter Try.func21, Try.ntmps21
    go_wp2
    go_ret
    exact ⟨rfl, rfl⟩
  · have h2 : 62 < b := by omega
    clear h
    go_enter Try.func21, Try.ntmps21
    go_wp2
    go_ret
    exact ⟨rfl, rfl⟩
theorem pow_pos2 (k : Nat) : (0 : Int) < 2 ^ k := Int.pow_pos (by decide)
theorem pow_mono2 {j k : Nat} (h : j ≤ k) : (2 : Int) ^ j ≤ 2 ^ k := by
  have := Nat.pow_le_pow_right (n := 2) (by decide) h
  exact_mod_cast this
theorem pow_le61 {k : Nat} (h : k ≤ 61) : (2 : Int) ^ k ≤ 2305843009213693952 := by
  have := pow_mono2 h
  rwa [show (2 : Int) ^ 61 = 2305843009213693952 from by decide] at this
theorem pow_le32 {k : Nat} (h : k ≤ 32) : (2 : Int) ^ k ≤ 4294967296 := by
  have := pow_mono2 h
  rwa [show (2 : Int) ^ 32 = 4294967296 from by decide] at this
theorem pow_half {k : Nat} (h : 1 ≤ k) : (2 : Int) ^ k = 2 * 2 ^ (k - 1) := by
  obtain ⟨j, rfl⟩ : ∃ j, k = j + 1 := ⟨k - 1, by omega⟩
  rw [Int.pow_succ, Nat.add_sub_cancel]; omega
theorem pow_split {k : Nat} (h : k ≤ 32) : (2 : Int) ^ (32 - k) * 2 ^ k = 4294967296 := by
  rw [← Int.pow_add, Nat.sub_add_cancel h]; decide
def fitsB (n : Int) (k : Nat) : Bool := decide (-2 ^ (k - 1) ≤ n ∧ n < 2 ^ (k - 1))
def ext (n : Int) (k : Nat) : Int := (n + 2 ^ (k - 1)) % 2 ^ k - 2 ^ (k - 1)
theorem ret_bool {a b : Bool} (h : a = b) : Ending.returned (.bool a) = .returned (.bool b) := by rw [h]
theorem fits_any (n : Int) (k : Nat) (w : World) (h1 : 1 ≤ k) (h2 : k ≤ 62) :
    Calls Try.prog 21 #[.int .i64 n, .int .i64 k] w fun e w' => e = .returned (.bool (fitsB n k)) ∧ w' = w := by
  have p1 := pow_pos2 (k - 1)
  have p2 := pow_le61 (k := k - 1) (by omega)
  go_enter Try.func21, Try.ntmps21
  go_wp2
  all_goals
    go_ret
    exact ⟨ret_bool (by unfold fitsB; rw [Bool.eq_iff_iff]; simp; omega), rfl⟩
theorem ext_unique (n : Int) (k : Nat) (r q : Int) (h : 1 ≤ k) (e : r = n + 2 ^ k * q) (h1 : -2 ^ (k - 1) ≤ r) (h2 : r < 2 ^ (k - 1)) : r = ext n k := by
  unfold ext
  have hp := pow_half h
  have e1 : n + 2 ^ (k - 1) = (r + 2 ^ (k - 1)) + 2 ^ k * (-q) := by rw [e]; grind
  rw [e1, Int.add_mul_emod_self_left, Int.emod_eq_of_lt (by omega) (by omega)]
  omega
theorem ext_shifts (n : Int) (k : Nat) (h1 : 1 ≤ k) (h2 : k ≤ 32) : wrap32 (wrap32 n * 2 ^ (32 - k)) / 2 ^ (32 - k) = ext n k := by
  have hm := pow_pos2 (32 - k)
  have hp := pow_half h1
  have hs := pow_split h2
  obtain ⟨j, hj⟩ := w32_form n
  have e0 : (2147483648 : Int) = 2 ^ (32 - k) * 2 ^ (k - 1) := by
    have : (2 : Int) ^ (32 - k) * (2 * 2 ^ (k - 1)) = 4294967296 := by rw [← hp]; exact hs
    rw [Int.mul_left_comm] at this
    omega
  have e1 : wrap32 (wrap32 n * 2 ^ (32 - k)) = 2 ^ (32 - k) * ext (wrap32 n) k := by
    unfold ext
    rw [w32_def (wrap32 n * 2 ^ (32 - k)), ← hs]
    conv => lhs; rw [e0]
    rw [show wrap32 n * 2 ^ (32 - k) + 2 ^ (32 - k) * 2 ^ (k - 1) = 2 ^ (32 - k) * (wrap32 n + 2 ^ (k - 1)) from by grind]
    rw [Int.mul_emod_mul_of_pos _ _ hm, Int.mul_sub]
  rw [e1, Int.mul_ediv_cancel_left _ (by omega)]
  unfold ext
  rw [hj, ← hs, show n + 2 ^ (32 - k) * 2 ^ k * j + 2 ^ (k - 1) = (n + 2 ^ (k - 1)) + 2 ^ k * (2 ^ (32 - k) * j) from by grind, Int.add_mul_emod_self_left]
theorem ext_bd (n : Int) (k : Nat) (h : 1 ≤ k) : -2 ^ (k - 1) ≤ ext n k ∧ ext n k < 2 ^ (k - 1) := by
  have hp := pow_half h
  have h1 := Int.emod_nonneg (n + 2 ^ (k - 1)) (b := 2 ^ k) (by have := pow_pos2 k; omega)
  have h2 := Int.emod_lt_of_pos (n + 2 ^ (k - 1)) (pow_pos2 k)
  unfold ext
  omega
theorem ext_form (n : Int) (k : Nat) : ∃ q, ext n k = n + 2 ^ k * q := by
  refine ⟨-((n + 2 ^ (k - 1)) / 2 ^ k), ?_⟩
  unfold ext
  have := Int.emod_def (n + 2 ^ (k - 1)) (2 ^ k)
  grind
theorem extend_any (n : Int) (k : Nat) (w : World) (h1 : 1 ≤ k) (h2 : k ≤ 32) :
    Calls Try.prog 23 #[.int .i64 n, .int .i64 k] w fun e w' => e = .returned (.int .i64 (ext n k)) ∧ w' = w := by
  have HE := ext_shifts n k h1 h2
  obtain ⟨b1, b2⟩ := ext_bd n k h1
  have p2 := pow_le61 (k := k - 1) (by omega)
  rw [← HE] at b1 b2
  rw [← HE]
  clear HE
  go_enter Try.func23, Try.ntmps23
  go_wp2
  go_ret
  exact ⟨rfl, rfl⟩
theorem extend_no (n b : Int) (w : World) (h : b < 1 ∨ 32 < b) :
    Calls Try.prog 23 #[.int .i64 n, .int .i64 b] w fun e w' => e = .returned (.int .i64 0) ∧ w' = w := by
  by_cases h1 : b < 1
  · go_enter Try.func23, Try.ntmps23
    go_wp2
    go_ret
    exact ⟨rfl, rfl⟩
  · have h2 : 32 < b := by omega
    clear h
    go_enter Try.func23, Try.ntmps23
    go_wp2
    go_ret
    exact ⟨rfl, rfl⟩

theorem fits_int (n b : Int) (w : World) (h : 1 ≤ b ∧ b ≤ 62) :
    Calls Try.prog 21 #[.int .i64 n, .int .i64 b] w fun e w' => e = .returned (.bool (fitsB n b.toNat)) ∧ w' = w := by
  obtain ⟨k, rfl⟩ : ∃ k : Nat, b = k := ⟨b.toNat, by omega⟩
  exact fits_any n k w (by omega) (by omega)
theorem extend_int (n b : Int) (w : World) (h : 1 ≤ b ∧ b ≤ 32) :
    Calls Try.prog 23 #[.int .i64 n, .int .i64 b] w fun e w' => e = .returned (.int .i64 (ext n b.toNat)) ∧ w' = w := by
  obtain ⟨k, rfl⟩ : ∃ k : Nat, b = k := ⟨b.toNat, by omega⟩
  exact extend_any n k w (by omega) (by omega)
theorem refFits_no (n b : Int) (w : World) (h : b < 1 ∨ 62 < b) :
    Calls Try.prog 22 #[.int .i64 n, .int .i64 b] w fun e w' => e = .returned (.bool false) ∧ w' = w := by
  by_cases h1 : b < 1
  · go_enter Try.func22, Try.ntmps22
    go_wp2
    go_ret
    exact ⟨rfl, rfl⟩
  · have h2 : 62 < b := by omega
    clear h
    go_enter Try.func22, Try.ntmps22
    go_wp2
    go_ret
    exact ⟨rfl, rfl⟩
theorem refFits_any (n : Int) (k : Nat) (w : World) (h1 : 1 ≤ k) (h2 : k ≤ 62) :
    Calls Try.prog 22 #[.int .i64 n, .int .i64 k] w fun e w' => e = .returned (.bool (fitsB n k)) ∧ w' = w := by
  go_enter Try.func22, Try.ntmps22
  go_wp2
  go_loop [5, 6] (fun p i => ∃ j : Nat, 1 ≤ j ∧ j ≤ k ∧ i = .int .i64 j ∧ p = .int .i64 (2 ^ (j - 1))) (fun _ i => k - (intOf i).toNat)
  case atStart => exact ⟨1, by omega, by omega, rfl, rfl⟩
  case round =>
    obtain ⟨j, hj1, hj2, rfl, rfl⟩ := hrel
    have p1 := pow_pos2 (j - 1)
    by_cases hlt : j < k
    · have p2 := pow_mono2 (j := j - 1) (k := 60) (by omega)
      rw [show (2 : Int) ^ 60 = 1152921504606846976 from by decide] at p2
      have HP : Hid ((2 : Int) ^ j = 2 * 2 ^ (j - 1)) := pow_half hj1
      go_wp2
      go_round
      case rel => exact ⟨j + 1, by omega, by omega, by go_num, by rw [Nat.add_sub_cancel, HP.out]; go_num⟩
      case measure => simp [intOf]; omega
    · have p2 := pow_le61 (k := j - 1) (by omega)
      have HJ : Hid (j = k) := by show j = k; omega
      go_wp2
      all_goals
        go_ret
        exact ⟨ret_bool (by rw [← HJ.out]; unfold fitsB; rw [Bool.eq_iff_iff]; simp; omega), rfl⟩
theorem refExtend_no (n b : Int) (w : World) (h : b < 1 ∨ 32 < b) :
    Calls Try.prog 24 #[.int .i64 n, .int .i64 b] w fun e w' => e = .returned (.int .i64 0) ∧ w' = w := by
  by_cases h1 : b < 1
  · go_enter Try.func24, Try.ntmps24
    go_wp2
    go_ret
    exact ⟨rfl, rfl⟩
  · have h2 : 32 < b := by omega
    clear h
    go_enter Try.func24, Try.ntmps24
    go_wp2
    go_ret
    exact ⟨rfl, rfl⟩
theorem refExtend_any (n : Int) (k : Nat) (w : World) (h1 : 1 ≤ k) (h2 : k ≤ 32) :
    Calls Try.prog 24 #[.int .i64 n, .int .i64 k] w fun e w' => e = .returned (.int .i64 (ext n k)) ∧ w' = w := by
  have hx := ext_unique n k
  go_enter Try.func24, Try.ntmps24
  go_wp2
  go_loop [5, 6] (fun p i => ∃ j : Nat, j ≤ k ∧ i = .int .i64 j ∧ p = .int .i64 (2 ^ j)) (fun _ i => k - (intOf i).toNat)
  case atStart => exact ⟨0, by omega, rfl, rfl⟩
  case round =>
    obtain ⟨j, hj2, rfl, rfl⟩ := hrel
    have p1 := pow_pos2 j
    have p2 := pow_le32 (k := j) (by omega)
    by_cases hlt : j < k
    · have HP : Hid ((2 : Int) ^ (j + 1) = 2 * 2 ^ j) := by have := pow_half (k := j + 1) (by omega); rwa [Nat.add_sub_cancel] at this
      clear hx
      go_wp2
      go_round
      case rel => exact ⟨j + 1, by omega, by go_num, by rw [HP.out]; go_num⟩
      case measure => simp [intOf]; omega
    · obtain rfl : j = k := by omega
      obtain ⟨t1, t2, t3, _, _⟩ := tmod_form n (2 ^ j) p1
      have HT : Hid (n.tmod (2 ^ j) = n - 2 ^ j * n.tdiv (2 ^ j)) := t1
      have HX : Hid (∀ r q : Int, 1 ≤ j → r = n + 2 ^ j * q → -2 ^ (j - 1) ≤ r → r < 2 ^ (j - 1) → r = ext n j) := hx
      have HH : Hid ((2 : Int) ^ j = 2 * 2 ^ (j - 1)) := pow_half h1
      clear t1 hx
      go_wp2
      all_goals
        go_ret
        refine ⟨ret_int ?_, rfl⟩
        have hh := HH.out
        have ht := HT.out
        first
          | exact HX.out _ (- n.tdiv (2 ^ j)) h1 (by rw [ht]; grind) (by omega) (by omega)
          | exact HX.out _ (- n.tdiv (2 ^ j) + 1) h1 (by rw [ht]; grind) (by omega) (by omega)
          | exact HX.out _ (- n.tdiv (2 ^ j) - 1) h1 (by rw [ht]; grind) (by omega) (by omega)

end Go.Proofs.Ytiofhkcbfmljmaa
