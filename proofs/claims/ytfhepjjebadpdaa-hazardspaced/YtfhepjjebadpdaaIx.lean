/-
  What an instruction reads, writes and does, as plain mathematics.
-/
import Derived.Test.YtfhepjjebadpdaaCd
import Derived.Test.YtfhepjjebadpdaaEff
namespace Go.Proofs.Ytfhepjjebadpdaa
set_option maxRecDepth 20000
set_option linter.unusedVariables false
open Go.ChangeShapes Go.WideShapes Go.ChangeAt Go.RowKit

def Ins.rd1 (x : Ins) : Int := _root_.Go.Proofs.Ytfhepjjebadpdaa.rd1 x.o x.a x.b x.c x.i
def Ins.rd2 (x : Ins) : Int := _root_.Go.Proofs.Ytfhepjjebadpdaa.rd2 x.o x.a x.b x.c x.i
def Ins.wr (x : Ins) : Int := wr1 x.o x.a x.b x.c x.i
def Ins.act (x : Ins) : Bool := actsB x.o x.a x.b x.c x.i
def Ins.late (x : Ins) : Bool := lateB x.o x.a x.b x.c x.i
def Ins.goes (x : Ins) : Bool := goesB x.o x.a x.b x.c x.i
/-- Does it read a register? -/
def Ins.rds (x : Ins) (n : Int) : Bool := decide (n ≠ 0 ∧ (n = x.rd1 ∨ n = x.rd2))
theorem rds_iff (x : Ins) (n : Int) : x.rds n = true ↔ n ≠ 0 ∧ (n = x.rd1 ∨ n = x.rd2) := by simp [Ins.rds]
theorem rds_zero (x : Ins) : x.rds 0 = false := by simp [Ins.rds]
theorem ins_bd (x : Ins) : 0 ≤ x.rd1 ∧ x.rd1 ≤ 31 ∧ 0 ≤ x.rd2 ∧ x.rd2 ≤ 31 ∧ 0 ≤ x.wr ∧ x.wr ≤ 31 := by
  unfold Ins.rd1 Ins.rd2 Ins.wr
  cases h : rightB x.o x.a x.b x.c x.i
  · simp [Go.Proofs.Ytfhepjjebadpdaa.rd1, Go.Proofs.Ytfhepjjebadpdaa.rd2, wr1, h]
  · obtain ⟨b1, b2, b3, b4, b5, b6, b7, b8, b9, b10⟩ := right_bd h
    have h1 : _root_.Go.Proofs.Ytfhepjjebadpdaa.rd1 x.o x.a x.b x.c x.i = rA x.o x.a x.b x.i := by simp [Go.Proofs.Ytfhepjjebadpdaa.rd1, h]
    have h2 : _root_.Go.Proofs.Ytfhepjjebadpdaa.rd2 x.o x.a x.b x.c x.i = rB x.o x.b x.c := by simp [Go.Proofs.Ytfhepjjebadpdaa.rd2, h]
    have h3 : wr1 x.o x.a x.b x.c x.i = wA x.o x.a x.i := by simp [wr1, h]
    rw [h1, h2, h3]
    have : 0 ≤ sR x.i ∧ sR x.i ≤ 31 := by unfold sR; omega
    have : 0 ≤ sW x.i ∧ sW x.i ≤ 31 := by unfold sW; omega
    unfold rA rB wA
    omega
end Go.Proofs.Ytfhepjjebadpdaa
