/-
  The reference's values: bits, Value; the program's Reckon.
-/
import Derived.Test.YtmgpfhmodjmcdaaMc2
import Derived.Test.YtmgpfhmodjmcdaaLater
namespace Go.Proofs.Ytmgpfhmodjmcdaa
set_option maxRecDepth 20000
set_option linter.unusedVariables false
open Go.ChangeShapes Go.WideShapes Go.ChangeAt Go.RowKit

theorem half_any (n : Int) (W : World) (h : Wd n) : Calls Try.prog 49 #[.int .i64 n] W fun e W' => e = .returned (.int .i64 (n / 2)) ∧ W' = W := by
  obtain ⟨h1, h2⟩ := h
  by_cases hn : n < 0
  · go_enter Try.func49, Try.ntmps49
    go_wp2
    go_ret
    exact ⟨ret_int (by omega), rfl⟩
  · have hn0 : 0 ≤ n := by omega
    go_enter Try.func49, Try.ntmps49
    go_wp2
    go_ret
    exact ⟨ret_int (by omega), rfl⟩
/-- Two words, bit by bit: and, or or. -/
def opV (or : Bool) (x y : Int) : BitVec 32 := if or = true then BitVec.ofInt 32 x ||| BitVec.ofInt 32 y else BitVec.ofInt 32 x &&& BitVec.ofInt 32 y
def bitB (x : Int) (i : Nat) : Bool := decide (x / 2 ^ i % 2 ≠ 0)
def opB (or a b : Bool) : Bool := if or = true then a || b else a && b
theorem bit_shift (x : Int) (i : Nat) (hi : i < 32) : x % 4294967296 / 2 ^ i % 2 = x / 2 ^ i % 2 := by
  have hpos : (0 : Int) < 2 ^ i := Int.pow_pos (by decide)
  have hsplit : (4294967296 : Int) = 2 ^ i * (2 * 2 ^ (31 - i)) := by
    rw [← Int.pow_succ', ← Int.pow_add, show i + (31 - i + 1) = 32 by omega]
    rfl
  have hd : x % 4294967296 = x + 2 ^ i * (-(2 * (2 ^ (31 - i) * (x / 4294967296)))) := by
    have h1 : 2 ^ i * (2 * 2 ^ (31 - i)) * (x / 4294967296) = 2 ^ i * (2 * (2 ^ (31 - i) * (x / 4294967296))) := by rw [Int.mul_assoc, Int.mul_assoc]
    have h2 : 4294967296 * (x / 4294967296) = 2 ^ i * (2 * (2 ^ (31 - i) * (x / 4294967296))) := by rw [← h1, ← hsplit]
    rw [Int.mul_neg, ← h2]
    omega
  rw [hd, Int.add_mul_ediv_left _ _ (by omega)]
  omega
theorem lsb_of (x : Int) (i : Nat) (hi : i < 32) : (BitVec.ofInt 32 x).getLsbD i = bitB x i := by
  have e1 : (BitVec.ofInt 32 x).getLsbD i = ((x % 4294967296).toNat).testBit i := rfl
  rw [e1, Nat.testBit_eq_decide_div_mod_eq]
  unfold bitB
  have hk := bit_shift x i hi
  have hn : ((x % 4294967296).toNat : Int) = x % 4294967296 := Int.toNat_of_nonneg (by omega)
  have key : (((x % 4294967296).toNat / 2 ^ i % 2 : Nat) : Int) = x / 2 ^ i % 2 := by
    rw [Int.natCast_emod, Int.natCast_ediv, hn, Int.natCast_pow]
    exact hk
  rw [← key]
  have hm : (x % 4294967296).toNat / 2 ^ i % 2 < 2 := Nat.mod_lt _ (by decide)
  generalize (x % 4294967296).toNat / 2 ^ i % 2 = m at hm ⊢
  rw [Bool.eq_iff_iff, decide_eq_true_iff, decide_eq_true_iff]
  omega
theorem tmod_bit (a : Int) : (a.tmod 2 != 0) = decide (a % 2 ≠ 0) := by
  have h : a.tmod 2 = 0 ↔ a % 2 = 0 := by rw [← Int.dvd_iff_tmod_eq_zero, ← Int.dvd_iff_emod_eq_zero]
  rw [Bool.eq_iff_iff]
  simp [h]
theorem op_lsb (or : Bool) (x y : Int) (i : Nat) (hi : i < 32) : (opV or x y).getLsbD i = opB or (bitB x i) (bitB y i) := by
  unfold opV opB
  cases or
  · simp only [Bool.false_eq_true, if_false]
    rw [BitVec.getLsbD_and, lsb_of x i hi, lsb_of y i hi]
  · simp only [if_true]
    rw [BitVec.getLsbD_or, lsb_of x i hi, lsb_of y i hi]
theorem op_step (or : Bool) (x y : Int) (i : Nat) (hi : i < 32) : ((opV or x y).toNat % 2 ^ (i + 1) : Nat) = (opV or x y).toNat % 2 ^ i + (if opB or (bitB x i) (bitB y i) = true then 2 ^ i else 0) := by
  have h := Nat.mod_mul (x := (opV or x y).toNat) (a := 2 ^ i) (b := 2)
  have e1 : (opV or x y).toNat.testBit i = (opV or x y).getLsbD i := rfl
  rw [Nat.testBit_eq_decide_div_mod_eq, op_lsb or x y i hi] at e1
  rw [Nat.pow_succ, h, ← e1]
  rcases Nat.mod_two_eq_zero_or_one ((opV or x y).toNat / 2 ^ i) with e | e <;> rw [e] <;> simp
theorem wd_shift {x : Int} (h : Wd x) (i : Nat) : Wd (x / 2 ^ i) := by
  obtain ⟨h1, h2⟩ := h
  have hpos : (0 : Int) < 2 ^ i := Int.pow_pos (by decide)
  constructor
  · rw [Int.le_ediv_iff_mul_le hpos]
    have : (-2147483648 : Int) * 2 ^ i ≤ -2147483648 * 1 := Int.mul_le_mul_of_nonpos_left (by omega) (by omega)
    omega
  · have : x / 2 ^ i < 2147483648 := by
      rw [Int.ediv_lt_iff_lt_mul hpos]
      have : (2147483648 : Int) * 1 ≤ 2147483648 * 2 ^ i := Int.mul_le_mul_of_nonneg_left (by omega) (by omega)
      omega
    omega
theorem shift_succ (x : Int) (i : Nat) : x / 2 ^ i / 2 = x / 2 ^ (i + 1) := by
  rw [Int.pow_succ, Int.ediv_ediv_of_nonneg (Int.le_of_lt (Int.pow_pos (by decide)))]
set_option maxHeartbeats 2000000 in
theorem bits_any (or : Bool) (x y : Int) (W : World) (hx : Wd x) (hy : Wd y) : Calls Try.prog 35 #[.int .i64 x, .int .i64 y, .bool or] W fun e W' => e = .returned (.int .i64 ((opV or x y).toNat : Int)) ∧ W' = W := by
  go_enter Try.func35, Try.ntmps35
  go_wp2_with fail
  go_loop [0, 1, 7, 8, 9] (fun a b o t i => ∃ k : Nat, k ≤ 32 ∧ i = .int .i64 k ∧ a = .int .i64 (x / 2 ^ k) ∧ b = .int .i64 (y / 2 ^ k) ∧ o = .int .i64 (((opV or x y).toNat % 2 ^ k : Nat) : Int) ∧ t = .int .i64 (2 ^ k)) (fun _ _ _ _ i => 32 - (intOf i).toNat)
  case atStart => exact ⟨0, by omega, rfl, by simp, by simp, by simp [Nat.mod_one], rfl⟩
  case round =>
    obtain ⟨k, hk, rfl, rfl, rfl, rfl, rfl⟩ := hrel
    by_cases hlt : k < 32
    · have hst := op_step or x y k hlt
      have wa := wd_shift hx k
      have wb := wd_shift hy k
      have ea := shift_succ x k
      have eb := shift_succ y k
      have ha : ((x / 2 ^ k).tmod 2 != 0) = bitB x k := by
        exact tmod_bit _
      have hb : ((y / 2 ^ k).tmod 2 != 0) = bitB y k := by
        exact tmod_bit _
      have ht : ((2 : Int) ^ k) * 2 = 2 ^ (k + 1) := (Int.pow_succ 2 k).symm
      have ht1 : (0 : Int) < 2 ^ k := Int.pow_pos (by decide)
      have ht2 : (2 : Int) ^ k ≤ 2147483648 := by
        have := pow_mono2 (show k ≤ 31 by omega)
        exact this
      have ho : (((opV or x y).toNat % 2 ^ k : Nat) : Int) < 2 ^ k := by
        have := Nat.mod_lt (opV or x y).toNat (Nat.two_pow_pos k)
        exact_mod_cast this
      have hst2 : (((opV or x y).toNat % 2 ^ (k + 1) : Nat) : Int) = ((opV or x y).toNat % 2 ^ k : Nat) + (if opB or (bitB x k) (bitB y k) = true then (2 : Int) ^ k else 0) := by
        rw [hst]
        push_cast
        split <;> simp
      have HST := hidm hst2
      have EA := hidm ea
      have EB := hidm eb
      have HT := hidm ht
      have ho0 : (0 : Int) ≤ (((opV or x y).toNat % 2 ^ k : Nat) : Int) := Int.natCast_nonneg _
      clear hst hst2 ea eb ht
      generalize x / 2 ^ k = A at *
      generalize y / 2 ^ k = B at *
      generalize (2 : Int) ^ k = T at *
      generalize (((opV or x y).toNat % 2 ^ k : Nat) : Int) = U at *
      obtain ⟨wa1, wa2⟩ := id wa
      obtain ⟨wb1, wb2⟩ := id wb
      cases hpa : bitB x k <;> cases hpb : bitB y k <;> cases or
      all_goals
        rw [hpa] at ha HST
        rw [hpb] at hb HST
        clear hpa hpb
        go_wp2_with (go_at_call 49; refine (half_any _ _ ?_).mono ?_; (first | exact wa | exact wb); rintro e w' ⟨rfl, rfl⟩)
        go_round
        case rel =>
          refine ⟨k + 1, by omega, by go_num, ?_, ?_, ?_, ?_⟩
          · rw [← Hid.out EA]
          · rw [← Hid.out EB]
          · rw [Hid.out HST]; simp [opB]
          · rw [← Hid.out HT]
        case measure => simp [intOf]; omega
    · obtain rfl : k = 32 := by omega
      have HM := hidm (opV or x y).isLt
      go_wp2
      go_ret
      exact ⟨ret_int (by have := Hid.out HM; omega), rfl⟩
end Go.Proofs.Ytmgpfhmodjmcdaa
