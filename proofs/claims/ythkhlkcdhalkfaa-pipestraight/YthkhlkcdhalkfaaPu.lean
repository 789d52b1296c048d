/-
  Code that only reckons, and then stores, as plain mathematics.
-/
import Derived.Test.YthkhlkcdhalkfaaPz
namespace Go.Proofs.Ythkhlkcdhalkfaa
set_option maxRecDepth 20000
set_option linter.unusedVariables false
open Go.ChangeShapes Go.WideShapes Go.ChangeAt Go.RowKit

def emb1 (s : St) : Pt := ⟨s, s.place + 1, 0, 0⟩
def Plain (x : Ins) : Prop := x.o ≤ 11 ∨ x.o = 13 ∨ (x.o = 20 ∧ x.i = 0)
def St1 (Y : List Ins) (s : St) (r : Int × St) : Prop :=
  (r.1 = 0 ∧ stepP Y (emb1 s) = (0, emb1 r.2) ∧ r.2.place = s.place + 1) ∨ (r.1 ≠ 0 ∧ ∃ p1, stepP Y (emb1 s) = (r.1, p1) ∧ p1.st.out = r.2.out ∧ p1.st.mem = r.2.mem)
theorem st_stop {Y : List Ins} {s s' : St} {t : Int} {p1 : Pt} (ht : t ≠ 0) (h : stepP Y (emb1 s) = (t, p1)) (ho : p1.st.out = s'.out) (hm : p1.st.mem = s'.mem) : St1 Y s (t, s') := .inr ⟨ht, p1, h, ho, hm⟩
theorem st_go {Y : List Ins} {s s' : St} (h1 : stepP Y (emb1 s) = (0, emb1 s')) (h2 : s'.place = s.place + 1) : St1 Y s (0, s') := .inl ⟨rfl, h1, h2⟩
theorem straight_step (X : List Ins) (s : St) (k : Nat) (hp : s.place = k) (hk : k < X.length) (hx : Plain (X.getD k Ins.zero)) : St1 X s (stepM X s) := by
  obtain ⟨R, M, q, I, O⟩ := s
  dsimp only at hp
  subst hp
  have hM : stepM X ⟨R, M, k, I, O⟩ = if (X.getD k Ins.zero).right = true then actM (X.getD k Ins.zero) ⟨R, M, k, I, O⟩ else (8, ⟨R, M, k, I, O⟩) := by
    unfold stepM
    rw [if_neg (by dsimp only; omega), Int.toNat_natCast]
  rw [hM]
  by_cases hr : (X.getD k Ins.zero).right = true
  · have hP := step_at (X := X) (p := emb1 ⟨R, M, k, I, O⟩) (k := k) rfl hk rfl hr
    rw [if_pos hr]
    generalize X.getD k Ins.zero = x at *
    have hbd := right_bd hr
    have hP' : stepP X (emb1 ⟨R, M, k, I, O⟩) = doP x k (reg R x.a) (reg R x.b) (reg R x.c) (reg R 4) (emb1 ⟨R, M, (k : Int) + 1, I, O⟩) := hP
    clear hP hM
    unfold actM
    by_cases ho : 1 ≤ x.o ∧ x.o ≤ 11
    · rw [do_rec hr ho] at hP'
      rw [if_pos (by simpa [reckonsB] using ho)]
      unfold resM
      dsimp only
      by_cases ht : recT x.o (reg R x.c) = 0
      · rw [if_pos ht] at hP' ⊢
        rw [ht] at hP' ⊢
        exact st_go hP' rfl
      · rw [if_neg ht] at hP' ⊢
        exact st_stop ht hP' rfl rfl
    · rw [if_neg (by simpa [reckonsB] using ho)]
      unfold doM
      dsimp only
      rcases hx with q | q | ⟨q1, q2⟩
      · rw [do_nop (by omega)] at hP'
        rw [if_neg (by omega), if_neg (by omega), if_neg (by omega), if_neg (by omega), if_neg (by omega), if_neg (by omega), if_neg (by omega), if_neg (by omega), if_neg (by omega)]
        exact st_go hP' rfl
      · rw [do_sw q] at hP'
        rw [if_neg (by omega), if_pos q]
        unfold storeM
        unfold storeP at hP'
        by_cases hz : inM M (wrap32 (reg R x.b + x.i)) = true
        · rw [if_pos (show inM (emb1 ⟨R, M, (k : Int) + 1, I, O⟩).st.mem (wrap32 (reg R x.b + x.i)) = true from hz)] at hP'
          rw [if_pos hz]
          exact st_go hP' rfl
        · rw [if_neg (show ¬ inM (emb1 ⟨R, M, (k : Int) + 1, I, O⟩).st.mem (wrap32 (reg R x.b + x.i)) = true from hz)] at hP'
          rw [if_neg hz]
          exact st_stop (by decide) hP' rfl rfl
      · rw [do_sys hr q1, if_neg (by omega), if_neg (by omega)] at hP'
        rw [if_neg (by omega), if_neg (by omega), if_neg (by omega), if_neg (by omega), if_neg (by omega), if_neg (by omega), if_neg (by omega), if_neg (by omega), if_pos q1]
        unfold sysM
        rw [if_neg (by omega), if_neg (by omega)]
        exact st_stop (by decide) hP' rfl rfl
  · rw [if_neg hr]
    have e2 : stepP X (emb1 ⟨R, M, k, I, O⟩) = (8, emb1 ⟨R, M, k, I, O⟩) := by
      unfold stepP
      rw [if_neg (by show ¬ ((k : Int) < 0 ∨ (X.length : Int) ≤ k); omega)]
      rw [show (emb1 ⟨R, M, k, I, O⟩).st.place.toNat = k from by show ((k : Int)).toNat = _; omega, if_neg hr]
    exact st_stop (by decide) e2 rfl rfl
theorem straight_run (X : List Ins) (hx : ∀ k, k < X.length → Plain (X.getD k Ins.zero)) (s : St) (hs : s.place = 0) : ∀ j, j ≤ X.length → (∀ i, i ≤ j → (runK X s i).1 = 0) → runP X (emb1 s) j = (0, emb1 (runK X s j).2) ∧ (runK X s j).2.place = j
  | 0, _, _ => ⟨rfl, hs⟩
  | j + 1, hj, h => by
    obtain ⟨h1, h2⟩ := straight_run X hx s hs j (by omega) (fun i hi => h i (by omega))
    have z0 := h j (by omega)
    have z1 := h (j + 1) (Nat.le_refl _)
    rw [runK_succ z0] at z1 ⊢
    rcases straight_step X (runK X s j).2 j h2 (by omega) (hx j (by omega)) with ⟨_, q1, q2⟩ | ⟨q0, _⟩
    · refine ⟨?_, by rw [q2, h2]; omega⟩
      rw [runP_succ (by rw [h1]), h1]
      exact q1
    · exact absurd z1 q0
theorem said_straight {X : List Ins} {t t' s' : Int} {k n : Nat} {O M O' M' : List Int} (hx : ∀ k, k < X.length → Plain (X.getD k Ins.zero)) (hl : X.length = n + 1) (hn : n ≤ 200) (hlast : X.getD n Ins.zero = ⟨20, 0, 0, 0, 0⟩) (h : Said X 9 [] 1000 t k O M) (h' : SaidP X 9 [] 1000 t' s' O' M') : t' = t ∧ s' = k + 3 ∧ O' = O ∧ M' = M := by
  unfold Said at h
  rw [if_neg (by omega)] at h
  obtain ⟨hE, rfl, rfl, rfl⟩ := h
  obtain ⟨a1, a2, a3⟩ := hE
  have hs : (start (Int.toNat 9) []).place = 0 := rfl
  have hk : k ≤ n + 1 := by
    rcases Nat.lt_or_ge (n + 1) k with q | q
    · exfalso
      obtain ⟨h1, h2⟩ := straight_run X hx (start (Int.toNat 9) []) hs n (by omega) (fun i hi => a2 i (by omega))
      have z := a2 (n + 1) q
      rw [runK_succ (a2 n (by omega))] at z
      unfold stepM at z
      rw [if_neg (by omega), h2, Int.toNat_natCast, hlast, if_pos (by decide)] at z
      revert z
      simp [actM, reckonsB, doM, sysM]
    · exact q
  have ht : (runK X (start (Int.toNat 9) []) k).1 ≠ 0 := by
    rcases a3 with q | q
    · exact q
    · exfalso; rw [q] at hk; have : (1000 : Int).toNat = 1000 := rfl; omega
  cases k with
  | zero => exact absurd rfl ht
  | succ j =>
    obtain ⟨h1, h2⟩ := straight_run X hx (start (Int.toNat 9) []) hs j (by omega) (fun i hi => a2 i (by omega))
    have z0 := a2 j (by omega)
    rw [runK_succ z0] at ht ⊢
    have hst : emb1 (start (Int.toNat 9) []) = startP (Int.toNat 9) [] := rfl
    rcases straight_step X (runK X (start (Int.toNat 9) []) j).2 j h2 (by omega) (hx j (by omega)) with ⟨q0, _⟩ | ⟨_, p1, q1, q2, q3⟩
    · exact absurd q0 ht
    · have hz : ∀ i, i < j + 1 → (runP X (startP (Int.toNat 9) []) i).1 = 0 := by
        intro i hi
        have := (straight_run X hx (start (Int.toNat 9) []) hs i (by omega) (fun i' hi' => a2 i' (by omega))).1
        rw [hst] at this
        rw [this]
      rw [hst] at h1
      have e1 : runP X (startP (Int.toNat 9) []) (j + 1) = ((stepM X (runK X (start (Int.toNat 9) []) j).2).1, p1) := by rw [runP_succ (by rw [h1]), h1]; exact q1
      obtain ⟨r1, r2, r3, r4⟩ := psaid_at (j + 1) (by omega) (by show j + 1 ≤ 997; omega) (by omega) hz (by rw [e1]; exact ht) h'
      rw [e1] at r1 r3 r4
      exact ⟨r1, by rw [r2]; omega, r3.trans q2, by rw [r4]; show usedL p1.st.mem = _; rw [q3]⟩
end Go.Proofs.Ythkhlkcdhalkfaa
