/-
  What follows of runs, as plain mathematics: more fuel, more memory, more input, more code.
-/
import Derived.Test.YthkhlkcdhalkfaaRunC
namespace Go.Proofs.Ythkhlkcdhalkfaa
set_option maxRecDepth 20000
set_option linter.unusedVariables false
open Go.ChangeShapes Go.WideShapes Go.ChangeAt Go.RowKit

theorem step_out_mono (X : List Ins) (s : St) : s.out <+: (stepM X s).2.out := by
  unfold stepM
  split
  · exact List.prefix_refl _
  split
  · unfold actM
    split
    · unfold resM
      dsimp only
      split <;> exact List.prefix_refl _
    · unfold doM
      repeat' split
      · unfold loadM; split <;> exact List.prefix_refl _
      · unfold storeM; split <;> exact List.prefix_refl _
      · exact List.prefix_refl _
      · unfold goM; split <;> exact List.prefix_refl _
      · unfold goM; split <;> exact List.prefix_refl _
      · exact List.prefix_refl _
      · exact List.prefix_refl _
      · exact List.prefix_refl _
      · unfold sysM
        repeat' split
        · exact List.prefix_refl _
        · exact List.prefix_refl _
        · exact List.prefix_refl _
        · exact List.prefix_append _ _
        · exact List.prefix_refl _
      · exact List.prefix_refl _
  · exact List.prefix_refl _
theorem run_out_succ (X : List Ins) (s : St) (k : Nat) : (runK X s k).2.out <+: (runK X s (k + 1)).2.out := by
  show _ <+: (if (runK X s k).1 = 0 then stepM X (runK X s k).2 else runK X s k).2.out
  split
  · exact step_out_mono X _
  · exact List.prefix_refl _
theorem run_out_mono (X : List Ins) (s : St) (j d : Nat) : (runK X s j).2.out <+: (runK X s (j + d)).2.out := by
  induction d with
  | zero => exact List.prefix_refl _
  | succ d ih => exact List.IsPrefix.trans ih (run_out_succ X s (j + d))
theorem ends_more {X : List Ins} {s : St} {F G j k : Nat} (h1 : Ends X s F j) (h2 : Ends X s G k) (hFG : F ≤ G) : ((runK X s j).1 ≠ 0 → j = k) ∧ ((runK X s j).1 = 0 → j = F ∧ j ≤ k) := by
  obtain ⟨a1, a2, a3⟩ := h1
  obtain ⟨b1, b2, b3⟩ := h2
  have hjk : j ≤ k := by
    rcases Nat.lt_or_ge k j with h | h
    · rcases b3 with b3 | b3
      · exact absurd (a2 k h) b3
      · omega
    · exact h
  refine ⟨fun h => ?_, fun h => ⟨?_, hjk⟩⟩
  · rcases Nat.lt_or_ge j k with h' | h'
    · exact absurd (b2 j h') h
    · omega
  · rcases a3 with a3 | a3
    · exact absurd h a3
    · exact a3
/-- One machine goes beside another one, till that stops by what is bad. -/
theorem beside {X X' : List Ins} {s s' : St} (R : St → St → Prop) (bad : Int) (hbad : bad ≠ 0) (h0 : R s s')
    (hstep : ∀ u u', R u u' → (stepM X u).1 ≠ bad → (stepM X' u').1 = (stepM X u).1 ∧ R (stepM X u).2 (stepM X' u').2) {F k : Nat} (hE : Ends X s F k) (hk : (runK X s k).1 ≠ bad) :
    Ends X' s' F k ∧ (runK X' s' k).1 = (runK X s k).1 ∧ R (runK X s k).2 (runK X' s' k).2 := by
  obtain ⟨a1, a2, a3⟩ := hE
  have main : ∀ j, j ≤ k → (runK X' s' j).1 = (runK X s j).1 ∧ R (runK X s j).2 (runK X' s' j).2 := by
    intro j
    induction j with
    | zero => exact fun _ => ⟨rfl, h0⟩
    | succ j ih =>
      intro hj
      obtain ⟨i1, i2⟩ := ih (by omega)
      have z : (runK X s j).1 = 0 := a2 j (by omega)
      have z' : (runK X' s' j).1 = 0 := i1.trans z
      have hne : (runK X s (j + 1)).1 ≠ bad := by
        rcases Nat.lt_or_ge (j + 1) k with h | h
        · rw [a2 (j + 1) h]; exact fun e => hbad e.symm
        · obtain rfl : k = j + 1 := by omega
          exact hk
      rw [runK_succ z] at hne ⊢
      rw [runK_succ z']
      exact hstep _ _ i2 hne
  obtain ⟨m1, m2⟩ := main k (Nat.le_refl _)
  refine ⟨⟨a1, fun j hj => (main j (by omega)).1.trans (a2 j hj), ?_⟩, m1, m2⟩
  rw [m1]
  exact a3
/-- The same, but for more cells. -/
structure Room (n : Nat) (s s' : St) : Prop where
  regs : s'.regs = s.regs
  mem : s'.mem = s.mem ++ List.replicate n 0
  place : s'.place = s.place
  inp : s'.inp = s.inp
  out : s'.out = s.out
theorem inM_more {L : List Int} {z : Int} (n : Nat) (h : inM L z = true) : inM (L ++ List.replicate n 0) z = true := by
  obtain ⟨h0, h1⟩ := inM_iff.1 h
  exact inM_yes h0 (by simp; omega)
theorem get_more {L : List Int} {z : Int} (n : Nat) (h : inM L z = true) : getM (L ++ List.replicate n 0) z = getM L z := by
  obtain ⟨h0, h1⟩ := inM_iff.1 h
  unfold getM
  rw [if_pos (inM_more n h), if_pos h, List.getElem?_append_left (by omega)]
theorem put_more {L : List Int} {z v : Int} (n : Nat) (h : inM L z = true) : putM (L ++ List.replicate n 0) z v = putM L z v ++ List.replicate n 0 := by
  obtain ⟨h0, h1⟩ := inM_iff.1 h
  unfold putM
  rw [if_pos (inM_more n h), if_pos h, List.set_append_left _ _ (by omega)]
theorem room_step (X : List Ins) (n : Nat) (u u' : St) (h : Room n u u') (hne : (stepM X u).1 ≠ 3) : (stepM X u').1 = (stepM X u).1 ∧ Room n (stepM X u).2 (stepM X u').2 := by
  obtain ⟨R, M, p, I, O⟩ := u
  obtain ⟨R', M', p', I', O'⟩ := u'
  obtain ⟨e1, e2, e3, e4, e5⟩ := h
  dsimp only at e1 e2 e3 e4 e5
  subst e1 e2 e3 e4 e5
  revert hne
  unfold stepM
  dsimp only
  split
  · exact fun _ => ⟨rfl, rfl, rfl, rfl, rfl, rfl⟩
  split
  · unfold actM
    dsimp only
    split
    · unfold resM
      dsimp only
      intro _
      refine ⟨rfl, ?_⟩
      split <;> exact ⟨rfl, rfl, rfl, rfl, rfl⟩
    · unfold doM
      repeat' split
      · unfold loadM
        dsimp only
        split
        · rename_i hz
          intro _
          rw [if_pos (inM_more n hz), get_more n hz]
          exact ⟨rfl, rfl, rfl, rfl, rfl, rfl⟩
        · exact fun h => absurd rfl h
      · unfold storeM
        dsimp only
        split
        · rename_i hz
          intro _
          rw [if_pos (inM_more n hz), put_more n hz]
          exact ⟨rfl, rfl, rfl, rfl, rfl, rfl⟩
        · exact fun h => absurd rfl h
      · exact fun _ => ⟨rfl, rfl, rfl, rfl, rfl, rfl⟩
      · intro _
        unfold goM
        split <;> exact ⟨rfl, rfl, rfl, rfl, rfl, rfl⟩
      · intro _
        unfold goM
        split <;> exact ⟨rfl, rfl, rfl, rfl, rfl, rfl⟩
      · exact fun _ => ⟨rfl, rfl, rfl, rfl, rfl, rfl⟩
      · exact fun _ => ⟨rfl, rfl, rfl, rfl, rfl, rfl⟩
      · exact fun _ => ⟨rfl, rfl, rfl, rfl, rfl, rfl⟩
      · intro _
        unfold sysM
        dsimp only
        repeat' split
        all_goals exact ⟨rfl, rfl, rfl, rfl, rfl, rfl⟩
      · exact fun _ => ⟨rfl, rfl, rfl, rfl, rfl, rfl⟩
  · exact fun _ => ⟨rfl, rfl, rfl, rfl, rfl, rfl⟩
theorem used_more (L : List Int) (n : Nat) : usedL (L ++ List.replicate n 0) = usedL L := by
  obtain ⟨k, h⟩ : ∃ k, EndAt L k := ⟨_, end_of L⟩
  rw [← used_of h]
  obtain ⟨h1, h2, h3⟩ := h
  have e : EndAt (L ++ List.replicate n 0) k := by
    refine ⟨by simp; omega, fun j hj1 hj2 => ?_, ?_⟩
    · rcases Nat.lt_or_ge j L.length with h | h
      · rw [List.getElem?_append_left h]; exact h2 j hj1 h
      · rw [List.getElem?_append_right h, List.getElem?_replicate]; split <;> rfl
    · rcases h3 with h3 | h3
      · exact .inl h3
      · rcases Nat.eq_zero_or_pos k with h0 | h0
        · exact .inl h0
        · right; rw [List.getElem?_append_left (by omega)]; exact h3
  rw [← used_of e, List.take_append_of_le_length h1]
theorem room_start (m n : Nat) (I : List Int) : Room n (start m I) (start (m + n) I) := ⟨rfl, by simp [start], rfl, rfl, rfl⟩
/-- The same, but for more input. -/
structure More (N : List Int) (s s' : St) : Prop where
  regs : s'.regs = s.regs
  mem : s'.mem = s.mem
  place : s'.place = s.place
  inp : s'.inp = s.inp ++ N
  out : s'.out = s.out
theorem more_step (X : List Ins) (N : List Int) (u u' : St) (h : More N u u') (hne : (stepM X u).1 ≠ 6) : (stepM X u').1 = (stepM X u).1 ∧ More N (stepM X u).2 (stepM X u').2 := by
  obtain ⟨R, M, p, I, O⟩ := u
  obtain ⟨R', M', p', I', O'⟩ := u'
  obtain ⟨e1, e2, e3, e4, e5⟩ := h
  dsimp only at e1 e2 e3 e4 e5
  subst e1 e2 e3 e4 e5
  revert hne
  unfold stepM
  dsimp only
  split
  · exact fun _ => ⟨rfl, rfl, rfl, rfl, rfl, rfl⟩
  split
  · unfold actM
    dsimp only
    split
    · unfold resM
      dsimp only
      intro _
      refine ⟨rfl, ?_⟩
      split <;> exact ⟨rfl, rfl, rfl, rfl, rfl⟩
    · unfold doM
      repeat' split
      · intro _
        unfold loadM
        dsimp only
        split <;> exact ⟨rfl, rfl, rfl, rfl, rfl, rfl⟩
      · intro _
        unfold storeM
        dsimp only
        split <;> exact ⟨rfl, rfl, rfl, rfl, rfl, rfl⟩
      · exact fun _ => ⟨rfl, rfl, rfl, rfl, rfl, rfl⟩
      · intro _
        unfold goM
        split <;> exact ⟨rfl, rfl, rfl, rfl, rfl, rfl⟩
      · intro _
        unfold goM
        split <;> exact ⟨rfl, rfl, rfl, rfl, rfl, rfl⟩
      · exact fun _ => ⟨rfl, rfl, rfl, rfl, rfl, rfl⟩
      · exact fun _ => ⟨rfl, rfl, rfl, rfl, rfl, rfl⟩
      · exact fun _ => ⟨rfl, rfl, rfl, rfl, rfl, rfl⟩
      · unfold sysM
        dsimp only
        by_cases hi : (X.getD p'.toNat Ins.zero).i = 1
        · rw [if_pos hi, if_pos hi]
          cases I with
          | nil => exact fun h => absurd rfl h
          | cons a r => exact fun _ => ⟨rfl, rfl, rfl, rfl, rfl, rfl⟩
        · rw [if_neg hi, if_neg hi]
          intro _
          repeat' split
          all_goals exact ⟨rfl, rfl, rfl, rfl, rfl, rfl⟩
      · exact fun _ => ⟨rfl, rfl, rfl, rfl, rfl, rfl⟩
  · exact fun _ => ⟨rfl, rfl, rfl, rfl, rfl, rfl⟩
theorem behind_step (X Y : List Ins) (u u' : St) (h : u' = u) (hne : (stepM X u).1 ≠ 2) : (stepM (X ++ Y) u').1 = (stepM X u).1 ∧ (stepM (X ++ Y) u').2 = (stepM X u).2 := by
  subst h
  have e : stepM (X ++ Y) u' = stepM X u' := by
    revert hne
    unfold stepM
    split
    · exact fun h => absurd rfl h
    · rename_i hp
      intro _
      rw [if_neg (by simp; omega)]
      have hg : (X ++ Y).getD u'.place.toNat Ins.zero = X.getD u'.place.toNat Ins.zero := by
        simp only [List.getD_eq_getElem?_getD]
        rw [List.getElem?_append_left (by omega)]
      rw [hg]
  rw [e]
  exact ⟨rfl, rfl⟩
end Go.Proofs.Ythkhlkcdhalkfaa
