/-
  What follows of runs of the machine of five stages, as plain mathematics: more cycles, more memory, more input.
-/
import Derived.Test.YthkhlkcdhalkfaaPn
import Derived.Test.YthkhlkcdhalkfaaSd
namespace Go.Proofs.Ythkhlkcdhalkfaa
set_option maxRecDepth 20000
set_option linter.unusedVariables false
open Go.ChangeShapes Go.WideShapes Go.ChangeAt Go.RowKit

theorem ends_oneP {X : List Ins} {s : Pt} {F j k : Nat} (h1 : EndsP X s F j) (h2 : EndsP X s F k) : j = k := by
  obtain ⟨a1, a2, a3⟩ := h1
  obtain ⟨b1, b2, b3⟩ := h2
  rcases Nat.lt_trichotomy j k with h | h | h
  · rcases a3 with a3 | a3
    · exact absurd (b2 j h) a3
    · omega
  · exact h
  · rcases b3 with b3 | b3
    · exact absurd (a2 k h) b3
    · omega
theorem ends_moreP {X : List Ins} {s : Pt} {F G j k : Nat} (h1 : EndsP X s F j) (h2 : EndsP X s G k) (hFG : F ≤ G) : ((runP X s j).1 ≠ 0 → j = k) ∧ ((runP X s j).1 = 0 → j = F ∧ j ≤ k) := by
  obtain ⟨a1, a2, a3⟩ := h1
  obtain ⟨b1, b2, b3⟩ := h2
  have hjk : j ≤ k := by
    rcases Nat.lt_or_ge k j with h | h
    · rcases b3 with b3 | b3
      · exact absurd (a2 k h) b3
      · omega
    · exact h
  refine ⟨fun h => ?_, fun h => ⟨?_, hjk⟩⟩
  · rcases Nat.lt_or_ge j k with h' | h'
    · exact absurd (b2 j h') h
    · omega
  · rcases a3 with a3 | a3
    · exact absurd h a3
    · exact a3
/-- One machine goes beside another one, till that stops by what is bad. -/
theorem besideP {X X' : List Ins} {s s' : Pt} (R : Pt → Pt → Prop) (bad : Int) (hbad : bad ≠ 0) (h0 : R s s')
    (hstep : ∀ u u', R u u' → (stepP X u).1 ≠ bad → (stepP X' u').1 = (stepP X u).1 ∧ R (stepP X u).2 (stepP X' u').2) {F k : Nat} (hE : EndsP X s F k) (hk : (runP X s k).1 ≠ bad) :
    EndsP X' s' F k ∧ (runP X' s' k).1 = (runP X s k).1 ∧ R (runP X s k).2 (runP X' s' k).2 := by
  obtain ⟨a1, a2, a3⟩ := hE
  have main : ∀ j, j ≤ k → (runP X' s' j).1 = (runP X s j).1 ∧ R (runP X s j).2 (runP X' s' j).2 := by
    intro j
    induction j with
    | zero => exact fun _ => ⟨rfl, h0⟩
    | succ j ih =>
      intro hj
      obtain ⟨i1, i2⟩ := ih (by omega)
      have z : (runP X s j).1 = 0 := a2 j (by omega)
      have z' : (runP X' s' j).1 = 0 := i1.trans z
      have hne : (runP X s (j + 1)).1 ≠ bad := by
        rcases Nat.lt_or_ge (j + 1) k with h | h
        · rw [a2 (j + 1) h]; exact fun e => hbad e.symm
        · obtain rfl : k = j + 1 := by omega
          exact hk
      rw [runP_succ z] at hne ⊢
      rw [runP_succ z']
      exact hstep _ _ i2 hne
  obtain ⟨m1, m2⟩ := main k (Nat.le_refl _)
  refine ⟨⟨a1, fun j hj => (main j (by omega)).1.trans (a2 j hj), ?_⟩, m1, m2⟩
  rw [m1]
  exact a3
theorem writeP_out (x : Ins) (v : Int) (p : Pt) : (writeP x v p).st.out = p.st.out := by unfold writeP setP; split <;> rfl
theorem leaveP_out (x : Ins) (h a b : Int) (p : Pt) : (leaveP x h a b p).st.out = p.st.out := by
  unfold leaveP linkP
  repeat' split
  all_goals first | rfl | exact writeP_out _ _ _
theorem doP_out (x : Ins) (h a b c v : Int) (p : Pt) : p.st.out <+: (doP x h a b c v p).2.st.out := by
  unfold doP
  split
  · rw [leaveP_out]; exact List.prefix_refl _
  split
  · unfold finishP
    dsimp only
    split
    · rw [writeP_out]; exact List.prefix_refl _
    · exact List.prefix_refl _
  unfold actP
  repeat' split
  · unfold loadP
    split
    · dsimp only; rw [writeP_out]; exact List.prefix_refl _
    · exact List.prefix_refl _
  · unfold storeP
    split <;> exact List.prefix_refl _
  · exact List.prefix_refl _
  · unfold sysP
    repeat' split
    · unfold takeP
      split
      · exact List.prefix_refl _
      · dsimp only; rw [writeP_out]; exact List.prefix_refl _
    · unfold tellP
      split
      · exact List.prefix_refl _
      · exact List.prefix_append _ _
    · exact List.prefix_refl _
  · exact List.prefix_refl _
theorem stepP_out (X : List Ins) (p : Pt) : p.st.out <+: (stepP X p).2.st.out := by
  unfold stepP
  split
  · exact List.prefix_refl _
  split
  · exact doP_out _ _ _ _ _ _ (arriveP (aheadP p))
  · exact List.prefix_refl _
theorem runP_out_mono (X : List Ins) (s : Pt) (j d : Nat) : (runP X s j).2.st.out <+: (runP X s (j + d)).2.st.out := by
  induction d with
  | zero => exact List.prefix_refl _
  | succ d ih =>
    refine List.IsPrefix.trans ih ?_
    show _ <+: (if (runP X s (j + d)).1 = 0 then stepP X (runP X s (j + d)).2 else runP X s (j + d)).2.st.out
    split
    · exact stepP_out X _
    · exact List.prefix_refl _
/-- The same, but for more cells; more input. -/
def chgR (n : Nat) (p : Pt) : Pt := { p with st := { p.st with mem := p.st.mem ++ List.replicate n 0 } }
def chgI (N : List Int) (p : Pt) : Pt := { p with st := { p.st with inp := p.st.inp ++ N } }
theorem writeP_R (n : Nat) (x : Ins) (v : Int) (p : Pt) : writeP x v (chgR n p) = chgR n (writeP x v p) := by unfold writeP; split <;> rfl
theorem writeP_I (N : List Int) (x : Ins) (v : Int) (p : Pt) : writeP x v (chgI N p) = chgI N (writeP x v p) := by unfold writeP; split <;> rfl
theorem leaveP_R (n : Nat) (x : Ins) (h a b : Int) (p : Pt) : leaveP x h a b (chgR n p) = chgR n (leaveP x h a b p) := by
  unfold leaveP linkP
  repeat' split
  all_goals (try rw [writeP_R]) <;> rfl
theorem leaveP_I (N : List Int) (x : Ins) (h a b : Int) (p : Pt) : leaveP x h a b (chgI N p) = chgI N (leaveP x h a b p) := by
  unfold leaveP linkP
  repeat' split
  all_goals (try rw [writeP_I]) <;> rfl
theorem finishP_R (n : Nat) (x : Ins) (v t : Int) (p : Pt) : finishP x v t (chgR n p) = chgR n (finishP x v t p) := by
  unfold finishP
  split
  · exact writeP_R n x v p
  · rfl
theorem finishP_I (N : List Int) (x : Ins) (v t : Int) (p : Pt) : finishP x v t (chgI N p) = chgI N (finishP x v t p) := by
  unfold finishP
  split
  · exact writeP_I N x v p
  · rfl
theorem doP_R (n : Nat) (x : Ins) (h a b c v : Int) (p : Pt) (hne : (doP x h a b c v p).1 ≠ 3) : doP x h a b c v (chgR n p) = ((doP x h a b c v p).1, chgR n (doP x h a b c v p).2) := by
  revert hne
  unfold doP
  split
  · intro _; rw [leaveP_R]
  split
  · intro _; rw [finishP_R]
  unfold actP
  repeat' split
  · unfold loadP
    by_cases hz : inM p.st.mem (wrap32 (b + x.i)) = true
    · rw [if_pos hz, if_pos (show inM (chgR n p).st.mem (wrap32 (b + x.i)) = true from inM_more n hz)]
      intro _
      show (0, writeP x (getM (p.st.mem ++ List.replicate n 0) _) (chgR n p)) = _
      rw [get_more n hz, writeP_R]
    · rw [if_neg hz]; exact fun h => absurd rfl h
  · unfold storeP
    by_cases hz : inM p.st.mem (wrap32 (b + x.i)) = true
    · rw [if_pos hz, if_pos (show inM (chgR n p).st.mem (wrap32 (b + x.i)) = true from inM_more n hz)]
      intro _
      show (0, ({ chgR n p with st := { (chgR n p).st with mem := putM (p.st.mem ++ List.replicate n 0) _ a } } : Pt)) = _
      rw [put_more n hz]
      rfl
    · rw [if_neg hz]; exact fun h => absurd rfl h
  · exact fun _ => rfl
  · intro _
    unfold sysP
    repeat' split
    · show takeP x (chgR n p) = _
      unfold takeP
      show (match p.st.inp with | [] => _ | n :: r => _) = _
      cases p.st.inp with
      | nil => rfl
      | cons y r => dsimp only; rw [writeP_R]; rfl
    · unfold tellP
      show (if 10000 ≤ p.st.out.length then _ else _) = _
      split <;> rfl
    · rfl
  · exact fun _ => rfl
theorem room_stepP (X : List Ins) (n : Nat) (u u' : Pt) (h : u' = chgR n u) (hne : (stepP X u).1 ≠ 3) : (stepP X u').1 = (stepP X u).1 ∧ (stepP X u').2 = chgR n (stepP X u).2 := by
  subst h
  have e : stepP X (chgR n u) = if u.st.place < 0 ∨ X.length ≤ u.st.place then (2, chgR n u)
    else if (X.getD u.st.place.toNat Ins.zero).right = true then
      doP (X.getD u.st.place.toNat Ins.zero) u.st.place (reg u.st.regs (X.getD u.st.place.toNat Ins.zero).a) (reg u.st.regs (X.getD u.st.place.toNat Ins.zero).b) (reg u.st.regs (X.getD u.st.place.toNat Ins.zero).c) (reg u.st.regs 4) (chgR n (arriveP (aheadP u)))
    else (8, chgR n u) := rfl
  rw [e]
  clear e
  revert hne
  unfold stepP
  split
  · exact fun _ => ⟨rfl, rfl⟩
  split
  · intro hne
    have := doP_R n _ _ _ _ _ _ _ hne
    rw [this]; exact ⟨rfl, rfl⟩
  · exact fun _ => ⟨rfl, rfl⟩
theorem doP_I (N : List Int) (x : Ins) (h a b c v : Int) (p : Pt) (hne : (doP x h a b c v p).1 ≠ 6) : doP x h a b c v (chgI N p) = ((doP x h a b c v p).1, chgI N (doP x h a b c v p).2) := by
  revert hne
  unfold doP
  split
  · intro _; rw [leaveP_I]
  split
  · intro _; rw [finishP_I]
  unfold actP
  repeat' split
  · intro _
    unfold loadP
    show (if inM p.st.mem _ = true then (0, writeP x _ (chgI N p)) else _) = _
    rw [writeP_I]
    split <;> rfl
  · intro _
    unfold storeP
    show (if inM p.st.mem _ = true then _ else _) = _
    split <;> rfl
  · exact fun _ => rfl
  · unfold sysP
    repeat' split
    · show (takeP x p).1 ≠ 6 → takeP x (chgI N p) = _
      unfold takeP
      show _ → (match p.st.inp ++ N with | [] => _ | n :: r => _) = _
      cases p.st.inp with
      | nil => exact fun h => absurd rfl h
      | cons y r => intro _; dsimp only [List.cons_append]; rw [writeP_I]; rfl
    · intro _
      unfold tellP
      show (if 10000 ≤ p.st.out.length then _ else _) = _
      split <;> rfl
    · exact fun _ => rfl
  · exact fun _ => rfl
theorem more_stepP (X : List Ins) (N : List Int) (u u' : Pt) (h : u' = chgI N u) (hne : (stepP X u).1 ≠ 6) : (stepP X u').1 = (stepP X u).1 ∧ (stepP X u').2 = chgI N (stepP X u).2 := by
  subst h
  have e : stepP X (chgI N u) = if u.st.place < 0 ∨ X.length ≤ u.st.place then (2, chgI N u)
    else if (X.getD u.st.place.toNat Ins.zero).right = true then
      doP (X.getD u.st.place.toNat Ins.zero) u.st.place (reg u.st.regs (X.getD u.st.place.toNat Ins.zero).a) (reg u.st.regs (X.getD u.st.place.toNat Ins.zero).b) (reg u.st.regs (X.getD u.st.place.toNat Ins.zero).c) (reg u.st.regs 4) (chgI N (arriveP (aheadP u)))
    else (8, chgI N u) := rfl
  rw [e]
  clear e
  revert hne
  unfold stepP
  split
  · exact fun _ => ⟨rfl, rfl⟩
  split
  · intro hne
    have := doP_I N _ _ _ _ _ _ _ hne
    rw [this]; exact ⟨rfl, rfl⟩
  · exact fun _ => ⟨rfl, rfl⟩
end Go.Proofs.Ythkhlkcdhalkfaa
