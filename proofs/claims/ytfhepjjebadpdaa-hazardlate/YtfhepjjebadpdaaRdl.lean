/-
  The registers that are read, as the program lists them.
-/
import Derived.Test.YtfhepjjebadpdaaIx
import Derived.Test.YtfhepjjebadpdaaRk
namespace Go.Proofs.Ytfhepjjebadpdaa
set_option maxRecDepth 20000
set_option linter.unusedVariables false
open Go.ChangeShapes Go.WideShapes Go.ChangeAt Go.RowKit

/-- The registers that are read, as the program lists them. -/
def Ins.rdl (x : Ins) : List Int := rdL x.o x.a x.b x.c x.i
theorem rdl_forms (x : Ins) :
    (x.rdl = [] ∧ x.rd1 = 0 ∧ x.rd2 = 0) ∨
    (∃ p, x.rdl = [p] ∧ 1 ≤ p ∧ p ≤ 31 ∧ (x.rd1 = p ∨ x.rd1 = 0) ∧ (x.rd2 = p ∨ x.rd2 = 0) ∧ (x.rd1 = p ∨ x.rd2 = p)) ∨
    (∃ p q, x.rdl = [p, q] ∧ 1 ≤ p ∧ p < q ∧ q ≤ 31 ∧ (x.rd1 = p ∧ x.rd2 = q ∨ x.rd1 = q ∧ x.rd2 = p)) := by
  obtain ⟨h1, h2, h3, h4, _, _⟩ := ins_bd x
  have e : x.rdl = pairL (lo2 x.rd1 x.rd2) (hi2 x.rd1 x.rd2) := rfl
  rw [e]
  generalize x.rd1 = r1 at *
  generalize x.rd2 = r2 at *
  have hl : lo2 r1 r2 ≤ hi2 r1 r2 ∧ (lo2 r1 r2 = r1 ∧ hi2 r1 r2 = r2 ∨ lo2 r1 r2 = r2 ∧ hi2 r1 r2 = r1) := by unfold lo2 hi2; omega
  generalize lo2 r1 r2 = l at *
  generalize hi2 r1 r2 = h at *
  by_cases e1 : l = 0
  · by_cases e2 : h = l
    · exact .inl ⟨by simp [pairL, e1, e2], by omega, by omega⟩
    · exact .inr (.inl ⟨h, by subst e1; simp [pairL, e2], by omega, by omega, by omega, by omega, by omega⟩)
  · by_cases e2 : h = l
    · exact .inr (.inl ⟨l, by simp [pairL, e1, e2], by omega, by omega, by omega, by omega, by omega⟩)
    · exact .inr (.inr ⟨l, h, by simp [pairL, e1, e2], by omega, by omega, by omega, by omega⟩)
theorem rdl_mem (x : Ins) (n : Int) : n ∈ x.rdl ↔ x.rds n = true := by
  rw [rds_iff]
  rcases rdl_forms x with ⟨h, h1, h2⟩ | ⟨p, h, h1, h2, h3⟩ | ⟨p, q, h, h1, h2, h3, h4⟩ <;> rw [h] <;> simp <;> omega
theorem rdl_len (x : Ins) : x.rdl.length ≤ 2 := by
  rcases rdl_forms x with ⟨h, _⟩ | ⟨p, h, _⟩ | ⟨p, q, h, _⟩ <;> rw [h] <;> simp
theorem rdl_bd (x : Ins) (k : Nat) (hk : k < x.rdl.length) : ∃ n : Nat, x.rdl.getD k 0 = n ∧ n < 32 := by
  have hm : x.rdl.getD k 0 ∈ x.rdl := by
    rw [show x.rdl.getD k 0 = x.rdl[k] by simp [List.getD, hk]]
    exact List.getElem_mem hk
  have hb := ins_bd x
  have := (rds_iff _ _).1 ((rdl_mem x _).1 hm)
  exact ⟨(x.rdl.getD k 0).toNat, by omega, by omega⟩
end Go.Proofs.Ytfhepjjebadpdaa
