/-
  What is done in the slot of a Jmp; what is late: two runs, as plain mathematics.
-/
import Derived.Test.YthkhlkcdhalkfaaPz
namespace Go.Proofs.Ythkhlkcdhalkfaa
set_option maxRecDepth 20000
set_option linter.unusedVariables false
open Go.ChangeShapes Go.WideShapes Go.ChangeAt Go.RowKit

def lateX (b : Bool) : List Ins := [⟨20, 0, 0, 0, 1⟩, ⟨0, 0, 0, 0, 0⟩, ⟨13, 4, 0, 0, 0⟩, ⟨20, 0, 0, 0, 1⟩, ⟨0, 0, 0, 0, 0⟩] ++ [if b = true then ⟨20, 0, 0, 0, 1⟩ else ⟨12, 4, 0, 0, 0⟩, ⟨20, 0, 0, 0, 2⟩, ⟨20, 0, 0, 0, 2⟩, ⟨20, 0, 0, 0, 0⟩]
def lateI (b : Bool) (old v : Int) : List Int := if b = true then [v, old, v] else [v, old]
theorem late_all (b : Bool) (old v : Int) (j : Nat) (hj : j < 9) : (runP (lateX b) (startP 1 (lateI b old v)) j).1 = 0 := by
  cases b
  all_goals
    rcases j with _ | _ | _ | _ | _ | _ | _ | _ | _ | j
    all_goals first | (exfalso; omega) | kernel_rfl
theorem late_end (b : Bool) (old v : Int) : (runP (lateX b) (startP 1 (lateI b old v)) 9).1 = 1 := by cases b <;> kernel_rfl
theorem late_out (b : Bool) (old v : Int) : (runP (lateX b) (startP 1 (lateI b old v)) 9).2.st.out = [wrap32 old, if b = true then wrap32 v else wrap32 (wrap32 v)] := by cases b <;> kernel_rfl
theorem said_late {b : Bool} {old v t s : Int} {O M : List Int} (ho : Wd old) (hv : Wd v) (h : SaidP (lateX b) 1 (lateI b old v) 50 t s O M) : t = 1 ∧ s = 12 ∧ O = [old, v] := by
  have e1 : (Int.toNat 1) = 1 := rfl
  obtain ⟨r1, r2, r3, _⟩ := psaid_at 9 (by omega) (by decide) (by omega) (late_all b old v) (by rw [e1, late_end]; decide) h
  rw [e1] at r1 r3
  rw [late_end] at r1
  rw [late_out, wd_wrap_id ho, wd_wrap_id hv, wd_wrap_id hv] at r3
  refine ⟨r1, r2, ?_⟩
  rw [r3]
  cases b <;> rfl
def slotX (n : Nat) (x y : Int) : List Ins := ([⟨17, 0, 0, 0, (n : Int) + 2⟩, ⟨10, 4, 0, 0, x⟩] ++ List.replicate n ⟨20, 0, 0, 0, 2⟩) ++ [⟨20, 0, 0, 0, 2⟩, ⟨10, 4, 0, 0, y⟩, ⟨20, 0, 0, 0, 2⟩, ⟨20, 0, 0, 0, 0⟩]
theorem slot_len (n : Nat) (x y : Int) : (slotX n x y).length = n + 6 := by simp [slotX]
theorem slot_tail (n : Nat) (x y : Int) (i : Nat) (hi : i < 4) : (slotX n x y).getD (n + 2 + i) Ins.zero = ([⟨20, 0, 0, 0, 2⟩, ⟨10, 4, 0, 0, y⟩, ⟨20, 0, 0, 0, 2⟩, ⟨20, 0, 0, 0, 0⟩] : List Ins).getD i Ins.zero := by
  unfold slotX
  rw [List.getD_eq_getElem?_getD, List.getD_eq_getElem?_getD, List.getElem?_append_right (by simp <;> omega)]
  simp only [List.length_append, List.length_cons, List.length_nil, List.length_replicate]
  rw [show n + 2 + i - (0 + 1 + 1 + n) = i by omega]
theorem right17 (n : Nat) (hn : n ≤ 50) : (⟨17, 0, 0, 0, (n : Int) + 2⟩ : Ins).right = true := by
  show rightB 17 0 0 0 ((n : Int) + 2) = true
  rw [right_imm (i' := 0) (by unfold leastOf mostOf; omega)]
  decide
theorem right10 (x : Int) (hx : 0 ≤ x ∧ x ≤ 32767) : (⟨10, 4, 0, 0, x⟩ : Ins).right = true := by
  show rightB 10 4 0 0 x = true
  rw [right_imm (i' := 0) (by unfold leastOf mostOf; omega)]
  decide
def R0 : List Int := List.replicate 32 0
theorem slot_run (n : Nat) (x y : Int) (hn : n ≤ 50) (hx : 0 ≤ x ∧ x ≤ 32767) (hy : 0 ≤ y ∧ y ≤ 32767) :
    (∀ j, j < 6 → (runP (slotX n x y) (startP 0 []) j).1 = 0) ∧ (runP (slotX n x y) (startP 0 []) 6).1 = 1 ∧ (runP (slotX n x y) (startP 0 []) 6).2.st.out = [x, y] := by
  have wx : wrap32 (0 + x) = x := by unfold wrap32; omega
  have wy : wrap32 (0 + y) = y := by unfold wrap32; omega
  have hl := slot_len n x y
  have h0 : runP (slotX n x y) (startP 0 []) 0 = (0, ⟨⟨R0, [], 0, [], []⟩, 1, 0, 0⟩) := rfl
  have h1 : runP (slotX n x y) (startP 0 []) 1 = (0, ⟨⟨R0, [], 1, [], []⟩, (n : Int) + 2, 0, 0⟩) := by
    rw [runP_succ (by rw [h0]), h0, step_at (k := 0) (x := ⟨17, 0, 0, 0, (n : Int) + 2⟩) rfl (by omega) rfl (right17 n hn), do_jmp rfl]
    rfl
  have h2 : runP (slotX n x y) (startP 0 []) 2 = (0, ⟨⟨R0.set 4 x, [], (n : Int) + 2, [], []⟩, (n : Int) + 2 + 1, 0, 0⟩) := by
    rw [runP_succ (by rw [h1]), h1, step_at (k := 1) (x := ⟨10, 4, 0, 0, x⟩) rfl (by omega) rfl (right10 x hx), do_rec (right10 x hx) ⟨by show (1 : Int) ≤ 10; decide, by show (10 : Int) ≤ 11; decide⟩]
    show (0, (⟨⟨setR R0 4 (wrap32 (0 + x)), [], (n : Int) + 2, [], []⟩, (n : Int) + 2 + 1, 0, 0⟩ : Pt)) = _
    rw [wx]
    rfl
  have h3 : runP (slotX n x y) (startP 0 []) 3 = (0, ⟨⟨R0.set 4 x, [], (n : Int) + 2 + 1, [], [x]⟩, (n : Int) + 2 + 1 + 1, 0, 0⟩) := by
    rw [runP_succ (by rw [h2]), h2, step_at (k := n + 2 + 0) (x := ⟨20, 0, 0, 0, 2⟩) (by show (n : Int) + 2 = _; omega) (by omega) (slot_tail n x y 0 (by omega)) (by decide), do_sys (by decide) rfl]
    rfl
  have h4 : runP (slotX n x y) (startP 0 []) 4 = (0, ⟨⟨(R0.set 4 x).set 4 y, [], (n : Int) + 2 + 1 + 1, [], [x]⟩, (n : Int) + 2 + 1 + 1 + 1, 0, 0⟩) := by
    rw [runP_succ (by rw [h3]), h3, step_at (k := n + 2 + 1) (x := ⟨10, 4, 0, 0, y⟩) (by show (n : Int) + 2 + 1 = _; omega) (by omega) (slot_tail n x y 1 (by omega)) (right10 y hy), do_rec (right10 y hy) ⟨by show (1 : Int) ≤ 10; decide, by show (10 : Int) ≤ 11; decide⟩]
    show (0, (⟨⟨setR (R0.set 4 x) 4 (wrap32 (0 + y)), [], (n : Int) + 2 + 1 + 1, [], [x]⟩, (n : Int) + 2 + 1 + 1 + 1, 0, 0⟩ : Pt)) = _
    rw [wy]
    rfl
  have h5 : runP (slotX n x y) (startP 0 []) 5 = (0, ⟨⟨(R0.set 4 x).set 4 y, [], (n : Int) + 2 + 1 + 1 + 1, [], [x, y]⟩, (n : Int) + 2 + 1 + 1 + 1 + 1, 0, 0⟩) := by
    rw [runP_succ (by rw [h4]), h4, step_at (k := n + 2 + 2) (x := ⟨20, 0, 0, 0, 2⟩) (by show (n : Int) + 2 + 1 + 1 = _; omega) (by omega) (slot_tail n x y 2 (by omega)) (by decide), do_sys (by decide) rfl]
    rfl
  have h6 : ∃ p, runP (slotX n x y) (startP 0 []) 6 = (1, p) ∧ p.st.out = [x, y] := by
    refine ⟨⟨⟨(R0.set 4 x).set 4 y, [], (n : Int) + 2 + 1 + 1 + 1 + 1, [], [x, y]⟩, (n : Int) + 2 + 1 + 1 + 1 + 1 + 1, 0, 0⟩, ?_, rfl⟩
    · rw [runP_succ (by rw [h5]), h5, step_at (k := n + 2 + 3) (x := ⟨20, 0, 0, 0, 0⟩) (by show (n : Int) + 2 + 1 + 1 + 1 = _; omega) (by omega) (slot_tail n x y 3 (by omega)) (by decide), do_sys (by decide) rfl]
      rfl
  obtain ⟨p, e1, e2⟩ := h6
  refine ⟨fun j hj => ?_, by rw [e1], by rw [e1]; exact e2⟩
  obtain rfl | rfl | rfl | rfl | rfl | rfl : j = 0 ∨ j = 1 ∨ j = 2 ∨ j = 3 ∨ j = 4 ∨ j = 5 := by omega
  · rw [h0]
  · rw [h1]
  · rw [h2]
  · rw [h3]
  · rw [h4]
  · rw [h5]
theorem said_slot {n : Nat} {x y t s : Int} {O M : List Int} (hn : n ≤ 50) (hx : 0 ≤ x ∧ x ≤ 32767) (hy : 0 ≤ y ∧ y ≤ 32767) (h : SaidP (slotX n x y) 0 [] 50 t s O M) : t = 1 ∧ s = 9 ∧ O = [x, y] := by
  obtain ⟨a1, a2, a3⟩ := slot_run n x y hn hx hy
  have e1 : (Int.toNat 0) = 0 := rfl
  obtain ⟨r1, r2, r3, _⟩ := psaid_at 6 (by omega) (by decide) (by omega) a1 (by rw [e1, a2]; decide) h
  rw [e1] at r1 r3
  rw [a2] at r1
  rw [a3] at r3
  exact ⟨r1, r2, r3⟩
end Go.Proofs.Ythkhlkcdhalkfaa
