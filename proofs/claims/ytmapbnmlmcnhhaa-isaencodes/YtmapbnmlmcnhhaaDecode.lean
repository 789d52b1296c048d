/-
  Contracts of package isa's register and Decode.
-/
import Derived.Test.YtmapbnmlmcnhhaaRight
import Derived.Test.YtmapbnmlmcnhhaaExt
namespace Go.Proofs.Ytmapbnmlmcnhhaa
open Go.ChangeShapes Go.WideShapes Go.ChangeAt Go.RowKit

theorem register_any (n : Int) (k : Nat) (w : World) (hk : k ≤ 62) :
    Calls Try.prog 19 #[.int .i64 n, .int .i64 k] w fun e w' => e = .returned (.int .i64 (n / 2 ^ k % 32)) ∧ w' = w := by
  have hm := and_31 (n / 2 ^ k)
  go_enter Try.func19, Try.ntmps19
  go_wp2
  go_ret
  exact ⟨rfl, rfl⟩
theorem register_int (n p : Int) (w : World) (h : 0 ≤ p ∧ p ≤ 62) : Calls Try.prog 19 #[.int .i64 n, .int .i64 p] w fun e w' => e = .returned (.int .i64 (n / 2 ^ p.toNat % 32)) ∧ w' = w := by
  obtain ⟨k, rfl⟩ : ∃ k : Nat, p = k := ⟨p.toNat, by omega⟩
  exact register_any n k w (by omega)
theorem ext_16 (n : Int) : ext n 16 = (n + 32768) % 65536 - 32768 := by unfold ext; rfl
theorem extend_16 (n : Int) (w : World) : Calls Try.prog 20 #[.int .i64 n, .int .i64 16] w fun e w' => e = .returned (.int .i64 ((n + 32768) % 65536 - 32768)) ∧ w' = w := by
  have := extend_any n 16 w (by decide) (by decide)
  rw [ext_16] at this
  exact this

def dC (n : Int) : Int := if 2 < regsOf (n / 67108864) then n / 2048 % 32 else 0
def dImm (n : Int) : Int := if 2 < regsOf (n / 67108864) then 0 else (n + 32768) % 65536 - 32768
def decB (n : Int) : Bool := rightB (n / 67108864) (n / 2097152 % 32) (n / 65536 % 32) (dC n) (dImm n) && decide (encW (n / 67108864) (n / 2097152 % 32) (n / 65536 % 32) (dC n) (dImm n) = n)

theorem agg5 {a a' b b' c c' d d' i i' : Int} {o o' : Bool} (h1 : a = a') (h2 : b = b') (h3 : c = c') (h4 : d = d') (h5 : i = i') (h6 : o = o') :
    Ending.returned (.tuple #[.agg #[.int .i64 a, .int .i64 b, .int .i64 c, .int .i64 d, .int .i64 i], .bool o]) = .returned (.tuple #[.agg #[.int .i64 a', .int .i64 b', .int .i64 c', .int .i64 d', .int .i64 i'], .bool o']) := by rw [h1, h2, h3, h4, h5, h6]
theorem decB_op {n : Int} (h : (!okOp (n / 67108864)) = true) : decB n = false := by
  unfold decB rightB; simp_all
theorem decB_three {n : Int} (h : 2 < regsOf (n / 67108864)) : dC n = n / 2048 % 32 ∧ dImm n = 0 := by
  unfold dC dImm; simp [h]
theorem decB_less {n : Int} (h : regsOf (n / 67108864) ≤ 2) : dC n = 0 ∧ dImm n = (n + 32768) % 65536 - 32768 := by
  unfold dC dImm; simp [show ¬ 2 < regsOf (n / 67108864) by omega]
theorem decB_of {n c imm : Int} (h : dC n = c ∧ dImm n = imm) : (rightB (n / 67108864) (n / 2097152 % 32) (n / 65536 % 32) c imm = true → (encV (n / 67108864) (n / 2097152 % 32) (n / 65536 % 32) c imm != n) = false → decB n = true) ∧
    (rightB (n / 67108864) (n / 2097152 % 32) (n / 65536 % 32) c imm = true → (encV (n / 67108864) (n / 2097152 % 32) (n / 65536 % 32) c imm != n) = true → decB n = false) ∧
    (¬ rightB (n / 67108864) (n / 2097152 % 32) (n / 65536 % 32) c imm = true → decB n = false) := by
  obtain ⟨rfl, rfl⟩ := h
  unfold decB encV
  refine ⟨fun h1 h2 => ?_, fun h1 h2 => ?_, fun h1 => ?_⟩ <;> simp_all

set_option maxHeartbeats 2000000 in
theorem decode_any (n : Int) (w : World) :
    Calls Try.prog 13 #[.int .i64 n] w fun e w' => (decB n = true → e = .returned (.tuple #[.agg #[.int .i64 (n / 67108864), .int .i64 (n / 2097152 % 32), .int .i64 (n / 65536 % 32), .int .i64 (dC n), .int .i64 (dImm n)], .bool true])) ∧
      (decB n = false → e = .returned (.tuple #[.agg #[.int .i64 0, .int .i64 0, .int .i64 0, .int .i64 0, .int .i64 0], .bool false])) ∧ Grown w w' := by
  have e26 : n / 2 ^ 26 = n / 67108864 := by rfl
  go_enter Try.func13, Try.ntmps13
  go_wp2_with (first | (go_at_call 17; refine (parts_any _ _).mono ?_; rintro e w1 ⟨rfl, hg⟩; obtain ⟨hc, hf⟩ := gcell hg; have hz : w.heap.size < w1.heap.size := by have := hg.2.2; simp at this; omega) | (go_at_call 19; refine (register_int _ _ _ (by omega)).mono ?_; rintro e w' ⟨rfl, rfl⟩) | (go_at_call 20; refine (extend_16 _ _).mono ?_; rintro e w' ⟨rfl, rfl⟩) | (go_at_call 9; refine (encode_any _ _ _ _ _ _).mono ?_; rintro e w2 ⟨rfl, hg2⟩; obtain ⟨hc2, hf2⟩ := gcell hg2; obtain ⟨q0, q1, q2, q3, q4⟩ : w2.cell? ⟨w.heap.size, 0, none⟩ = some (.int .i64 0) ∧ w2.cell? ⟨w.heap.size, 1, none⟩ = some (.int .i64 0) ∧ w2.cell? ⟨w.heap.size, 2, none⟩ = some (.int .i64 0) ∧ w2.cell? ⟨w.heap.size, 3, none⟩ = some (.int .i64 0) ∧ w2.cell? ⟨w.heap.size, 4, none⟩ = some (.int .i64 0) := (by refine ⟨?_, ?_, ?_, ?_, ?_⟩ <;> (rw [hc2 _ _ (by simp; omega)]; go_simp)); have hz2 : w1.heap.size + 1 < w2.heap.size := by have := hg2.2.2; simp at this; omega))
  all_goals
    refine bodyPost_ret (v := ?_) ?_ rfl ⟨?_, ?_, ?_⟩
    rotate_left 1
    · simp only [results, Try.results13]; go_simp; rfl
    · intro hd
      first
        | (rw [decB_op ‹_›] at hd; exact absurd hd (by decide))
        | (exact agg5 rfl rfl rfl (decB_three ‹_›).1.symm (decB_three ‹_›).2.symm rfl)
        | (exact agg5 rfl rfl rfl (decB_less ‹_›).1.symm (decB_less ‹_›).2.symm rfl)
        | (rw [(decB_of (decB_three ‹_›)).2.1 ‹_› ‹_›] at hd; exact absurd hd (by decide))
        | (rw [(decB_of (decB_less ‹_›)).2.1 ‹_› ‹_›] at hd; exact absurd hd (by decide))
        | (rw [(decB_of (decB_three ‹_›)).2.2 ‹_›] at hd; exact absurd hd (by decide))
        | (rw [(decB_of (decB_less ‹_›)).2.2 ‹_›] at hd; exact absurd hd (by decide))
    · intro hd
      first
        | (rw [(decB_of (decB_three ‹_›)).1 ‹_› ‹_›] at hd; exact absurd hd (by decide))
        | (rw [(decB_of (decB_less ‹_›)).1 ‹_› ‹_›] at hd; exact absurd hd (by decide))
        | rfl
    · have hg' := gtrans ((Grown.refl w).alloc _ _) hg
      first
        | (have hg2' := gtrans (by repeat (first | with_reducible exact hg' | with_reducible apply Grown.alloc | (with_reducible refine Grown.setCell ?_ ?_ _; rotate_left 1; (simp <;> omega)))) hg2
           repeat (first | with_reducible exact hg2' | with_reducible apply Grown.alloc | (with_reducible refine Grown.setCell ?_ ?_ _; rotate_left 1; (simp <;> omega))))
        | repeat (first | with_reducible exact hg' | with_reducible apply Grown.alloc | (with_reducible refine Grown.setCell ?_ ?_ _; rotate_left 1; (simp <;> omega)))
end Go.Proofs.Ytmapbnmlmcnhhaa
