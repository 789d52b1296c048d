/-
  The fixed answer at the end of each statement of package isa; and what a word is made of.
-/
import Derived.Test.YtmapbnmlmcnhhaaDecode
namespace Go.Proofs.Ytmapbnmlmcnhhaa
open Go.ChangeShapes Go.WideShapes Go.ChangeAt Go.RowKit

theorem decode_yes (n : Int) (w : World) (h : decB n = true) :
    Calls Try.prog 13 #[.int .i64 n] w fun e w' => e = .returned (.tuple #[.agg #[.int .i64 (n / 67108864), .int .i64 (n / 2097152 % 32), .int .i64 (n / 65536 % 32), .int .i64 (dC n), .int .i64 (dImm n)], .bool true]) ∧ Grown w w' :=
  (decode_any n w).mono fun _ _ ⟨h1, _, h3⟩ => ⟨h1 h, h3⟩
theorem decode_no (n : Int) (w : World) (h : decB n = false) :
    Calls Try.prog 13 #[.int .i64 n] w fun e w' => e = .returned (.tuple #[.agg #[.int .i64 0, .int .i64 0, .int .i64 0, .int .i64 0, .int .i64 0], .bool false]) ∧ Grown w w' :=
  (decode_any n w).mono fun _ _ ⟨_, h2, h3⟩ => ⟨h2 h, h3⟩
theorem awake_any (w : World) :
    Calls Try.prog 12 #[] w fun e w' => e = .returned (.bool true) ∧ Grown w w' := by
  have e1 : encV 1 1 2 3 0 = 69343232 := by decide
  have e2 : rightB 1 1 2 3 0 = true := by decide
  have e3 : decB 1409286144 = false := by decide
  have e4 : rightB 12 31 1 0 (-32768) = true := by decide
  go_enter Try.func12, Try.ntmps12
  go_wp2_with (first | (go_at_call 9; refine (encode_any _ _ _ _ _ _).mono ?_; rintro e w1 ⟨rfl, hg1⟩) | (go_at_call 13; refine (decode_no _ _ e3).mono ?_; rintro e w2 ⟨rfl, hg2⟩) | (go_at_call 11; refine (right_any _ _ _ _ _ _).mono ?_; rintro e w3 ⟨rfl, hg3⟩))
  go_ret
  exact ⟨rfl, gtrans (gtrans (gtrans hg1 hg2) ((Grown.refl _).alloc _ _)) hg3⟩
theorem back_any {op a b c imm : Int} (h : rightB op a b c imm = true) :
    encW op a b c imm / 67108864 = op ∧ encW op a b c imm / 2097152 % 32 = a ∧ encW op a b c imm / 65536 % 32 = b ∧ dC (encW op a b c imm) = c ∧ dImm (encW op a b c imm) = imm ∧ decB (encW op a b c imm) = true ∧ 0 ≤ encW op a b c imm ∧ encW op a b c imm < 4294967296 := by
  obtain ⟨b1, b2, b3, b4, b5, b6, b7, b8, b9, b10⟩ := right_bd h
  have hci : (2 < regsOf op → imm = 0) ∧ (¬ 2 < regsOf op → c = 0) := by
    unfold rightB at h
    simp only [Bool.and_eq_true, decide_eq_true_eq] at h
    obtain ⟨⟨⟨⟨h1, h2⟩, h3⟩, h4⟩, h5⟩ := h
    refine ⟨fun hr => ?_, fun hr => ?_⟩
    · have : 1 ≤ op ∧ op ≤ 9 := by unfold regsOf at hr; omega
      unfold leastOf mostOf at h5
      omega
    · simpa [regB, hr] using h4
  have e1 : encW op a b c imm / 67108864 = op := by unfold encW; omega
  have e2 : encW op a b c imm / 2097152 % 32 = a := by unfold encW; omega
  have e3 : encW op a b c imm / 65536 % 32 = b := by unfold encW; omega
  have e4 : dC (encW op a b c imm) = c := by
    unfold dC
    rw [e1]
    split
    · have := hci.1 ‹_›; unfold encW; omega
    · have := hci.2 ‹_›; omega
  have e5 : dImm (encW op a b c imm) = imm := by
    unfold dImm
    rw [e1]
    split
    · have := hci.1 ‹_›; omega
    · have := hci.2 ‹_›; unfold encW; omega
  refine ⟨e1, e2, e3, e4, e5, ?_, ?_, ?_⟩
  · unfold decB
    rw [e1, e2, e3, e4, e5, h]
    simp
  · unfold encW; omega
  · unfold encW; omega
end Go.Proofs.Ytmapbnmlmcnhhaa
