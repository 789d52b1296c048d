/-
  Contracts of package isa's Right and Encode.
-/
import Derived.Test.YtmapbnmlmcnhhaaIsa
import Derived.Test.YtmapbnmlmcnhhaaBits
namespace Go.Proofs.Ytmapbnmlmcnhhaa
open Go.ChangeShapes Go.WideShapes Go.ChangeAt Go.RowKit

def rightB (op a b c imm : Int) : Bool :=
  okOp op && regB a (decide (0 < regsOf op)) && regB b (decide (1 < regsOf op)) && regB c (decide (2 < regsOf op)) && decide (leastOf op ≤ imm ∧ imm ≤ mostOf op)

set_option maxHeartbeats 1000000 in
theorem right_any (op a b c imm : Int) (w : World) :
    Calls Try.prog 11 #[.agg #[.int .i64 op, .int .i64 a, .int .i64 b, .int .i64 c, .int .i64 imm]] w fun e w' => e = .returned (.bool (rightB op a b c imm)) ∧ Grown w w' := by
  go_enter Try.func11, Try.ntmps11
  go_wp2_with (first | (go_at_call 17; refine (parts_any _ _).mono ?_; rintro e w' ⟨rfl, hg⟩; obtain ⟨hc, hf⟩ := gcell hg; have hz : w.heap.size < w'.heap.size := by have := hg.2.2; simp at this; omega) | (go_at_call 18; refine (reg_any _ _ _).mono ?_; rintro e w' ⟨rfl, rfl⟩))
  all_goals
    go_ret
    refine ⟨ret_bool ?_, ?_⟩
    · unfold rightB
      rw [Bool.eq_iff_iff]; simp_all <;> omega
    · have hg' := gtrans ((Grown.refl w).alloc _ _) hg
      repeat (first | exact hg' | apply Grown.alloc | (refine Grown.setCell ?_ (by simp; omega) _))

def encW (op a b c imm : Int) : Int := op * 67108864 + a * 2097152 + b * 65536 + c * 2048 + imm % 65536
theorem right_bd {op a b c imm : Int} (h : rightB op a b c imm = true) : 0 ≤ op ∧ op ≤ 20 ∧ 0 ≤ a ∧ a ≤ 31 ∧ 0 ≤ b ∧ b ≤ 31 ∧ 0 ≤ c ∧ c ≤ 31 ∧ -32768 ≤ imm ∧ imm ≤ 32767 := by
  have hm : mostOf op ≤ 32767 ∧ -32768 ≤ leastOf op := by unfold mostOf leastOf; omega
  have hr : ∀ n x, regB n x = true → 0 ≤ n ∧ n ≤ 31 := by intro n x; unfold regB; cases x <;> simp <;> omega
  unfold rightB at h
  simp only [Bool.and_eq_true, decide_eq_true_eq] at h
  obtain ⟨⟨⟨⟨h1, h2⟩, h3⟩, h4⟩, h5⟩ := h
  have := hr _ _ h2
  have := hr _ _ h3
  have := hr _ _ h4
  have h6 : 0 ≤ op ∧ op ≤ 20 := by simpa [okOp] using h1
  omega
theorem encode_no (op a b c imm : Int) (w : World) (h : rightB op a b c imm = false) :
    Calls Try.prog 9 #[.agg #[.int .i64 op, .int .i64 a, .int .i64 b, .int .i64 c, .int .i64 imm]] w fun e w' => e = .returned (.tuple #[.int .i64 0, .bool false]) ∧ Grown w w' := by
  go_enter Try.func9, Try.ntmps9
  go_wp2_with (go_at_call 11; refine (right_any _ _ _ _ _ _).mono ?_; rintro e w' ⟨rfl, hg⟩; obtain ⟨hc, hf⟩ := gcell hg)
  go_ret2
  exact ⟨rfl, gtrans ((Grown.refl _).alloc _ _) hg⟩
theorem encode_yes (op a b c imm : Int) (w : World) (h : rightB op a b c imm = true) :
    Calls Try.prog 9 #[.agg #[.int .i64 op, .int .i64 a, .int .i64 b, .int .i64 c, .int .i64 imm]] w fun e w' => e = .returned (.tuple #[.int .i64 (encW op a b c imm), .bool true]) ∧ Grown w w' := by
  obtain ⟨b1, b2, b3, b4, b5, b6, b7, b8, b9, b10⟩ := right_bd h
  have hm := and_65535 imm
  go_enter Try.func9, Try.ntmps9
  go_wp2_with (go_at_call 11; refine (right_any _ _ _ _ _ _).mono ?_; rintro e w' ⟨rfl, hg⟩; obtain ⟨hc, hf⟩ := gcell hg)
  go_ret2
  exact ⟨rfl, gtrans ((Grown.refl _).alloc _ _) hg⟩
def encV (op a b c imm : Int) : Int := if rightB op a b c imm = true then encW op a b c imm else 0
theorem encode_any (op a b c imm : Int) (w : World) :
    Calls Try.prog 9 #[.agg #[.int .i64 op, .int .i64 a, .int .i64 b, .int .i64 c, .int .i64 imm]] w fun e w' => e = .returned (.tuple #[.int .i64 (encV op a b c imm), .bool (rightB op a b c imm)]) ∧ Grown w w' := by
  cases h : rightB op a b c imm
  · refine (encode_no op a b c imm w h).mono fun e w' hh => ?_
    rw [show encV op a b c imm = 0 from by unfold encV; simp [h]]
    exact hh
  · refine (encode_yes op a b c imm w h).mono fun e w' hh => ?_
    rw [show encV op a b c imm = encW op a b c imm from by unfold encV; simp [h]]
    exact hh
end Go.Proofs.Ytmapbnmlmcnhhaa
