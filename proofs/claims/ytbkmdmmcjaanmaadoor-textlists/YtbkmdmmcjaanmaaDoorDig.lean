/-
  The contracts of the reference's Digits, reg and Text of layer 4.
-/
import Derived.Test.YtbkmdmmcjaanmaaDoorTx
namespace Go.Proofs.YtbkmdmmcjaanmaaDoor
set_option maxRecDepth 20000
open Go.ChangeShapes Go.WideShapes Go.ChangeAt Go.RowKit
open Go.Lib hiding intOf

theorem one_byte (w : World) (d : Int) (c : UInt8) (h : d = (c.toNat : Int)) :
    (convert 51 9 (.slice (some ⟨w.heap.size, 0, none⟩) 1 1)).run Tryd.prog (w.alloc (.cells #[.int .u8 d] 5)) = .ok (.string (bs [c])) (w.alloc (.cells #[.int .u8 d] 5)) :=
  run_convert_bytes_back (P := Tryd.prog) (w.alloc (.cells #[.int .u8 d] 5)) 51 9 5 ⟨w.heap.size, 0, none⟩ 1 [c] Tryd.underlying51 Tryd.underlying5 Tryd.underlying9 (by
    intro j hj
    have : j = 0 := by simpa using hj
    subst this
    simp [Addr.add, h])
theorem ofNat_dig (d : Nat) (h : d < 10) : (UInt8.ofNat (48 + d)).toNat = 48 + d := by
  have : ∀ d : Fin 10, (UInt8.ofNat (48 + d.val)).toNat = 48 + d.val := by decide
  exact this ⟨d, h⟩
set_option maxHeartbeats 1000000 in
set_option maxRecDepth 20000 in
theorem dig_nat (u : Nat) : ∀ (w : World), u ≤ 99999999 →
    Calls Tryd.prog 15 #[.int .i64 u] w fun e w' => e = .returned (.string (bs (decDigits u))) ∧ Bel w w' := by
  induction u using Nat.strongRecOn with
  | _ u ih =>
    intro w hu
    by_cases h9 : u < 10
    · obtain ⟨c, hc⟩ : ∃ c, c = UInt8.ofNat (48 + u % 10) := ⟨_, rfl⟩
      have hcv := one_byte w (48 + (u : Int) % 10) c (by rw [hc, ofNat_dig _ (by omega)]; omega)
      have HC : Hid _ := hc
      clear hc
      go_enter Tryd.func15, Tryd.ntmps15
      go_wp2
      go_ret
      exact ⟨ret_str (by rw [decDigits_one h9, HC.out, Nat.mod_eq_of_lt h9]), (Bel.refl w).alloc _⟩
    · obtain ⟨c, hc⟩ : ∃ c, c = UInt8.ofNat (48 + u % 10) := ⟨_, rfl⟩
      have hcv := one_byte w (48 + (u : Int) % 10) c (by rw [hc, ofNat_dig _ (by omega)]; omega)
      have hih : ∀ w, Calls Tryd.prog 15 #[.int .i64 ((u : Int) / 10)] w fun e w' => e = .returned (.string (bs (decDigits (u / 10)))) ∧ Bel w w' := fun w => ih (u / 10) (by omega) w (by omega)
      have hdl : (decDigits (u / 10)).length ≤ 8 := by rw [decDigits_length]; exact nDigits_le _ 8 (by omega) (by simp; omega)
      have hadd := add_bs (x := bs (decDigits (u / 10))) (y := bs [c]) rfl rfl (by simp; omega)
      have hd : Hid (decDigits u = decDigits (u / 10) ++ [c]) := by
        show _ = _
        rw [decDigits, dif_neg h9, hc]
      clear ih hc
      go_enter Tryd.func15, Tryd.ntmps15
      go_wp2_with (go_at_call 15; refine (hih _).mono ?_; rintro e w1 ⟨rfl, b1⟩)
      go_ret
      exact ⟨ret_str (by rw [hd.out]), btrans ((Bel.refl w).alloc _) b1⟩
set_option maxHeartbeats 1000000 in
theorem dig_any (n : Int) (w : World) (h0 : -99999 ≤ n) (h1 : n ≤ 99999) :
    Calls Tryd.prog 15 #[.int .i64 n] w fun e w' => e = .returned (.string (bs (itoa n))) ∧ Bel w w' := by
  by_cases hn : n < 0
  · have hi : Hid (itoa n = 45 :: decDigits n.natAbs) := by show _ = _; unfold itoa; rw [if_pos hn]
    have hc : ∀ w, Calls Tryd.prog 15 #[.int .i64 (-n)] w fun e w' => e = .returned (.string (bs (decDigits n.natAbs))) ∧ Bel w w' := fun w => by
      have := dig_nat n.natAbs w (by omega)
      rwa [show ((n.natAbs : Nat) : Int) = -n by omega] at this
    have hl : (decDigits n.natAbs).length ≤ 5 := by rw [decDigits_length]; exact nDigits_le _ 5 (by omega) (by simp; omega)
    have hadd := add_bs (x := ⟨#[45]⟩) (y := bs (decDigits n.natAbs)) (a := [45]) rfl rfl (by simp; omega)
    go_enter Tryd.func15, Tryd.ntmps15
    go_wp2_with (go_at_call 15; refine (hc _).mono ?_; rintro e w1 ⟨rfl, b1⟩)
    go_ret
    exact ⟨ret_str (by rw [hi.out]), b1⟩
  · have := dig_nat n.toNat w (by omega)
    rw [show ((n.toNat : Nat) : Int) = n by omega] at this
    unfold itoa
    rw [if_neg hn]
    exact this
theorem rg_any (n : Int) (w : World) (h0 : 0 ≤ n) (h1 : n ≤ 99999) :
    Calls Tryd.prog 25 #[.int .i64 n] w fun e w' => e = .returned (.string (bs (regL n))) ∧ Bel w w' := by
  have hl := itoa_len n (by omega) h1
  have hadd := add_bs (x := ⟨#[114]⟩) (y := bs (itoa n)) (a := [114]) rfl rfl (by simp; omega)
  go_enter Tryd.func25, Tryd.ntmps25
  go_wp2_with (go_at_call 15; refine (dig_any _ _ (by omega) h1).mono ?_; rintro e w1 ⟨rfl, b1⟩)
  go_ret
  exact ⟨ret_str rfl, b1⟩
end Go.Proofs.YtbkmdmmcjaanmaaDoor
