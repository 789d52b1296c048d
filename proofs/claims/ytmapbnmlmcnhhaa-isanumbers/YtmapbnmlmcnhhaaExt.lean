/-
  The contract of package word's Extend.
-/
import Derived.Test.YtmapbnmlmcnhhaaRows
import Derived.WalkKit
import Derived.ProofKit
import Derived.OpenShut
namespace Go.Proofs.Ytmapbnmlmcnhhaa
open Go.ChangeShapes Go.WideShapes Go.ChangeAt Go.RowKit

theorem w32_form (n : Int) : ∃ k, wrap32 n = n + 4294967296 * k := ⟨-((n + 2147483648) / 4294967296), by unfold wrap32; omega⟩
theorem w32_def (n : Int) : wrap32 n = (n + 2147483648) % 4294967296 - 2147483648 := by unfold wrap32; rfl
theorem pow_pos2 (k : Nat) : (0 : Int) < 2 ^ k := Int.pow_pos (by decide)
theorem pow_mono2 {j k : Nat} (h : j ≤ k) : (2 : Int) ^ j ≤ 2 ^ k := by
  have := Nat.pow_le_pow_right (n := 2) (by decide) h
  exact_mod_cast this
theorem pow_le61 {k : Nat} (h : k ≤ 61) : (2 : Int) ^ k ≤ 2305843009213693952 := by
  have := pow_mono2 h
  rwa [show (2 : Int) ^ 61 = 2305843009213693952 from by decide] at this
theorem pow_half {k : Nat} (h : 1 ≤ k) : (2 : Int) ^ k = 2 * 2 ^ (k - 1) := by
  obtain ⟨j, rfl⟩ : ∃ j, k = j + 1 := ⟨k - 1, by omega⟩
  rw [Int.pow_succ, Nat.add_sub_cancel]; omega
theorem pow_split {k : Nat} (h : k ≤ 32) : (2 : Int) ^ (32 - k) * 2 ^ k = 4294967296 := by
  rw [← Int.pow_add, Nat.sub_add_cancel h]; decide
def ext (n : Int) (k : Nat) : Int := (n + 2 ^ (k - 1)) % 2 ^ k - 2 ^ (k - 1)
theorem ext_shifts (n : Int) (k : Nat) (h1 : 1 ≤ k) (h2 : k ≤ 32) : wrap32 (wrap32 n * 2 ^ (32 - k)) / 2 ^ (32 - k) = ext n k := by
  have hm := pow_pos2 (32 - k)
  have hp := pow_half h1
  have hs := pow_split h2
  obtain ⟨j, hj⟩ := w32_form n
  have e0 : (2147483648 : Int) = 2 ^ (32 - k) * 2 ^ (k - 1) := by
    have : (2 : Int) ^ (32 - k) * (2 * 2 ^ (k - 1)) = 4294967296 := by rw [← hp]; exact hs
    rw [Int.mul_left_comm] at this
    omega
  have e1 : wrap32 (wrap32 n * 2 ^ (32 - k)) = 2 ^ (32 - k) * ext (wrap32 n) k := by
    unfold ext
    rw [w32_def (wrap32 n * 2 ^ (32 - k)), ← hs]
    conv => lhs; rw [e0]
    rw [show wrap32 n * 2 ^ (32 - k) + 2 ^ (32 - k) * 2 ^ (k - 1) = 2 ^ (32 - k) * (wrap32 n + 2 ^ (k - 1)) from by grind]
    rw [Int.mul_emod_mul_of_pos _ _ hm, Int.mul_sub]
  rw [e1, Int.mul_ediv_cancel_left _ (by omega)]
  unfold ext
  rw [hj, ← hs, show n + 2 ^ (32 - k) * 2 ^ k * j + 2 ^ (k - 1) = (n + 2 ^ (k - 1)) + 2 ^ k * (2 ^ (32 - k) * j) from by grind, Int.add_mul_emod_self_left]
theorem ext_bd (n : Int) (k : Nat) (h : 1 ≤ k) : -2 ^ (k - 1) ≤ ext n k ∧ ext n k < 2 ^ (k - 1) := by
  have hp := pow_half h
  have h1 := Int.emod_nonneg (n + 2 ^ (k - 1)) (b := 2 ^ k) (by have := pow_pos2 k; omega)
  have h2 := Int.emod_lt_of_pos (n + 2 ^ (k - 1)) (pow_pos2 k)
  unfold ext
  omega
theorem extend_any (n : Int) (k : Nat) (w : World) (h1 : 1 ≤ k) (h2 : k ≤ 32) :
    Calls Try.prog 20 #[.int .i64 n, .int .i64 k] w fun e w' => e = .returned (.int .i64 (ext n k)) ∧ w' = w := by
  have HE := ext_shifts n k h1 h2
  obtain ⟨b1, b2⟩ := ext_bd n k h1
  have p2 := pow_le61 (k := k - 1) (by omega)
  rw [← HE] at b1 b2
  rw [← HE]
  clear HE
  go_enter Try.func20, Try.ntmps20
  go_wp2
  go_ret
  exact ⟨rfl, rfl⟩
end Go.Proofs.Ytmapbnmlmcnhhaa
