/-
  The machine of five stages, as plain mathematics.
-/
import Derived.Test.YthkhlkcdhalkfaaSq
import Derived.Test.YthkhlkcdhalkfaaEff
namespace Go.Proofs.Ythkhlkcdhalkfaa
set_option maxRecDepth 20000
set_option linter.unusedVariables false
open Go.ChangeShapes Go.WideShapes Go.ChangeAt Go.RowKit

/-- What layer 7's machine has, the place behind the next one, what is late. -/
structure Pt where
  st : St
  next : Int
  lr : Int
  lv : Int
def setP (r v : Int) (p : Pt) : Pt := { p with st := { p.st with regs := setR p.st.regs r v } }
def aheadP (p : Pt) : Pt := { p with st := { p.st with place := p.next }, next := p.next + 1 }
def arriveP (p : Pt) : Pt := { setP p.lr p.lv p with lr := 0, lv := 0 }
def Ins.wr (x : Ins) : Int := wr1 x.o x.a x.b x.c x.i
def Ins.late (x : Ins) : Bool := lateB x.o x.a x.b x.c x.i
def writeP (x : Ins) (v : Int) (p : Pt) : Pt := if x.late = true then { p with lr := x.wr, lv := v } else setP x.wr v p
def toP (x : Ins) (here a b : Int) : Int := if x.o = 15 ∨ x.o = 16 then here + 1 + x.i else if x.o = 19 then a else x.i
def takenP (x : Ins) (a b : Int) : Bool := if x.o = 15 then a == b else if x.o = 16 then a != b else true
def linkP (x : Ins) (here : Int) (p : Pt) : Pt := if x.o = 18 then writeP x (here + 2) p else p
def leaveP (x : Ins) (here a b : Int) (p : Pt) : Pt := if takenP x a b = true then { linkP x here p with next := toP x here a b } else linkP x here p
def finishP (x : Ins) (v t : Int) (p : Pt) : Pt := if t = 0 then writeP x v p else p
def loadP (x : Ins) (z : Int) (p : Pt) : Int × Pt := if inM p.st.mem z = true then (0, writeP x (getM p.st.mem z) p) else (3, p)
def storeP (z v : Int) (p : Pt) : Int × Pt := if inM p.st.mem z = true then (0, { p with st := { p.st with mem := putM p.st.mem z v } }) else (3, p)
def takeP (x : Ins) (p : Pt) : Int × Pt := match p.st.inp with
  | [] => (6, p)
  | n :: r => (0, { writeP x (wrap32 n) p with st := { (writeP x (wrap32 n) p).st with inp := r } })
def tellP (v : Int) (p : Pt) : Int × Pt := if 10000 ≤ p.st.out.length then (9, p) else (0, { p with st := { p.st with out := p.st.out ++ [v] } })
def sysP (x : Ins) (v : Int) (p : Pt) : Int × Pt := if x.i = 1 then takeP x p else if x.i = 2 then tellP v p else (1, p)
def actP (x : Ins) (a b v : Int) (p : Pt) : Int × Pt :=
  if x.o = 12 then loadP x (wrap32 (b + x.i)) p
  else if x.o = 13 then storeP (wrap32 (b + x.i)) a p
  else if x.o = 14 then (chkT a x.i x.b, p)
  else if x.o = 20 then sysP x v p
  else (0, p)
def doP (x : Ins) (here a b c v : Int) (p : Pt) : Int × Pt :=
  if 15 ≤ x.o ∧ x.o ≤ 19 then (0, leaveP x here a b p)
  else if reckonsB x.o = true then (recT x.o c, finishP x (recV x.o x.i b c) (recT x.o c) p)
  else actP x a b v p
def stepP (X : List Ins) (p : Pt) : Int × Pt :=
  if p.st.place < 0 ∨ X.length ≤ p.st.place then (2, p)
  else if (X.getD p.st.place.toNat Ins.zero).right = true then
    doP (X.getD p.st.place.toNat Ins.zero) p.st.place (reg p.st.regs (X.getD p.st.place.toNat Ins.zero).a) (reg p.st.regs (X.getD p.st.place.toNat Ins.zero).b) (reg p.st.regs (X.getD p.st.place.toNat Ins.zero).c) (reg p.st.regs 4) (arriveP (aheadP p))
  else (8, p)
/-- Behind k instructions, or where it stopped. -/
def runP (X : List Ins) (p : Pt) : Nat → Int × Pt
  | 0 => (0, p)
  | k + 1 => if (runP X p k).1 = 0 then stepP X (runP X p k).2 else runP X p k
/-- With room for F of them it does k. -/
def EndsP (X : List Ins) (p : Pt) (F k : Nat) : Prop := k ≤ F ∧ (∀ j, j < k → (runP X p j).1 = 0) ∧ ((runP X p k).1 ≠ 0 ∨ k = F)
def startP (n : Nat) (I : List Int) : Pt := ⟨start n I, 1, 0, 0⟩
structure OkP (p : Pt) : Prop where
  ok : Ok p.st
  lr : 0 ≤ p.lr ∧ p.lr ≤ 31
  lv : Wd p.lv
  place : Wd p.st.place
  next : Wd p.next ∨ p.next = p.st.place + 1
theorem startP_ok (n : Nat) (I : List Int) : OkP (startP n I) := ⟨start_ok n I, by simp [startP], wd_zero, wd_zero, .inl wd_one⟩
theorem wr_bd (x : Ins) : 0 ≤ x.wr ∧ x.wr ≤ 31 := by
  unfold Ins.wr wr1
  split
  · rename_i h
    obtain ⟨b1, b2, b3, b4, b5, b6, b7, b8, b9, b10⟩ := right_bd h
    unfold wA sW
    omega
  · omega
theorem ok_setP {p : Pt} (h : OkP p) (r v : Int) (hr : 0 ≤ r) (hv : Wd v) : OkP (setP r v p) := ⟨ok_set h.ok r v hr hv, h.lr, h.lv, h.place, h.next⟩
theorem ok_lateP {p : Pt} (h : OkP p) (r v : Int) (hr : 0 ≤ r ∧ r ≤ 31) (hv : Wd v) : OkP { p with lr := r, lv := v } := ⟨h.ok, hr, hv, h.place, h.next⟩
theorem ok_writeP {p : Pt} (h : OkP p) (x : Ins) (v : Int) (hv : Wd v) : OkP (writeP x v p) := by
  have hw := wr_bd x
  unfold writeP
  split
  · exact ok_lateP h _ _ hw hv
  · exact ok_setP h _ _ hw.1 hv
theorem ok_arriveP {p : Pt} (h : OkP p) : OkP (arriveP p) := ok_lateP (ok_setP h _ _ h.lr.1 h.lv) 0 0 (by omega) wd_zero
theorem ok_aheadP {p : Pt} (h : OkP p) (hn : Wd p.next) : OkP (aheadP p) := ⟨ok_place h.ok _, h.lr, h.lv, hn, .inr rfl⟩
theorem ok_nextP {p : Pt} (h : OkP p) (n : Int) (hn : Wd n) : OkP { p with next := n } := ⟨h.ok, h.lr, h.lv, h.place, .inl hn⟩
theorem ok_memP {p : Pt} (h : OkP p) (z v : Int) : OkP { p with st := { p.st with mem := putM p.st.mem z v } } := ⟨⟨h.ok.len, h.ok.words, put_wd h.ok.cells _ _, h.ok.zero⟩, h.lr, h.lv, h.place, h.next⟩
theorem ok_inpP {p : Pt} (h : OkP p) (r : List Int) : OkP { p with st := { p.st with inp := r } } := ⟨⟨h.ok.len, h.ok.words, h.ok.cells, h.ok.zero⟩, h.lr, h.lv, h.place, h.next⟩
theorem ok_outP {p : Pt} (h : OkP p) (r : List Int) : OkP { p with st := { p.st with out := r } } := ⟨⟨h.ok.len, h.ok.words, h.ok.cells, h.ok.zero⟩, h.lr, h.lv, h.place, h.next⟩
end Go.Proofs.Ythkhlkcdhalkfaa
