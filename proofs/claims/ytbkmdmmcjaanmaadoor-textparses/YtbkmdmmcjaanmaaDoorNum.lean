/-
  The contract of the reference's number of layer 4.
-/
import Derived.Test.YtbkmdmmcjaanmaaDoorStr
import Derived.Test.YtbkmdmmcjaanmaaDoorTxt2
namespace Go.Proofs.YtbkmdmmcjaanmaaDoor
set_option maxRecDepth 20000
open Go.ChangeShapes Go.WideShapes Go.ChangeAt Go.RowKit
open Go.Lib hiding intOf

theorem val_snoc (x : List UInt8) (b : UInt8) : ∀ acc, valOf acc (x ++ [b]) = 10 * valOf acc x + (b.toNat - 48) := by
  induction x with
  | nil => intro acc; rfl
  | cons c r ih => intro acc; exact ih _
theorem val_lt (x : List UInt8) : ∀ (acc : Nat), (∀ b ∈ x, isDig b = true) → valOf acc x < (acc + 1) * 10 ^ x.length := by
  induction x with
  | nil => intro acc _; show acc < (acc + 1) * 10 ^ 0; omega
  | cons c r ih =>
    intro acc hx
    have h1 := ih (10 * acc + (c.toNat - 48)) (fun b hb => hx b (by simp [hb]))
    have h2 : 48 ≤ c.toNat ∧ c.toNat ≤ 57 := by simpa [isDig] using hx c (by simp)
    show valOf (10 * acc + (c.toNat - 48)) r < _
    refine Nat.lt_of_lt_of_le h1 ?_
    rw [List.length_cons, Nat.pow_succ, ← Nat.mul_assoc, Nat.mul_right_comm]
    exact Nat.mul_le_mul_right _ (by omega)
theorem digs_len (T : List UInt8) : (digsOf T).length ≤ 6 := by
  have := (List.takeWhile_sublist (l := T.take 6) isDig).length_le
  unfold digsOf
  simp at this
  omega
theorem digs_mem (T : List UInt8) : ∀ b ∈ digsOf T, isDig b = true := fun b hb => by
  have := List.all_takeWhile (p := isDig) (l := T.take 6)
  exact List.all_eq_true.1 this b hb
theorem digs_prefix (T : List UInt8) : digsOf T <+: T := (List.takeWhile_prefix isDig).trans (List.take_prefix 6 T)
theorem digs_at (T : List UInt8) (j : Nat) (h : j < (digsOf T).length) : T[j]? = some ((digsOf T)[j]) := by
  obtain ⟨r, hr⟩ := digs_prefix T
  have e : T[j]? = (digsOf T ++ r)[j]? := by rw [hr]
  rw [e, List.getElem?_append_left h, List.getElem?_eq_getElem h]
theorem digs_end (T : List UInt8) : (digsOf T).length = 6 ∨ (digsOf T).length = T.length ∨ ∃ b, T[(digsOf T).length]? = some b ∧ isDig b = false := by
  have h6 := digs_len T
  by_cases e6 : (digsOf T).length = 6
  · exact Or.inl e6
  · right
    have hd : (T.take 6).dropWhile isDig = (T.take 6).drop (digsOf T).length := by
      have h := List.takeWhile_append_dropWhile (p := isDig) (l := T.take 6)
      have h2 : (T.take 6).takeWhile isDig = digsOf T := rfl
      rw [h2] at h
      have h4 := congrArg (List.drop (digsOf T).length) h
      rw [List.drop_left] at h4
      exact h4
    cases hc : (T.take 6).dropWhile isDig with
    | nil =>
      left
      rw [hc] at hd
      have h := congrArg List.length hd
      simp at h
      have := (digs_prefix T).length_le
      omega
    | cons b r =>
      right
      have hb : isDig b = false := by
        have := List.head_dropWhile_not (p := isDig) (l := T.take 6) (by rw [hc]; simp)
        simpa [hc] using this
      refine ⟨b, ?_, hb⟩
      rw [hc] at hd
      have h := congrArg (fun l : List UInt8 => l[0]?) hd
      simp only [List.getElem?_cons_zero, List.getElem?_drop] at h
      rw [Nat.add_zero, List.getElem?_take] at h
      split at h
      · exact h.symm
      · cases h
def numR (l : List UInt8) (p : Nat) : Int × Int := if (numAt (l.drop p)).2 = 0 then (0, -1) else ((numAt (l.drop p)).1, p + (numAt (l.drop p)).2)
theorem get_at (S : ByteArray) (p : Nat) (h : p < S.size) : S.data.toList[p]? = some S[p] := by
  rw [List.getElem?_eq_getElem (by simpa using h)]; rfl
/-- The facts of a round: from f on stands D, and behind it no digit (or there are six). -/
theorem num_round (S : ByteArray) (f p : Nat) (h1 : f ≤ p) (h2 : p < f + (digsOf (S.data.toList.drop f)).length) :
    ∃ h : p < S.size, 48 ≤ S[p].toNat ∧ S[p].toNat ≤ 57 ∧ p < f + 6 ∧ valOf 0 ((digsOf (S.data.toList.drop f)).take (p + 1 - f)) = 10 * valOf 0 ((digsOf (S.data.toList.drop f)).take (p - f)) + (S[p].toNat - 48) ∧ valOf 0 ((digsOf (S.data.toList.drop f)).take (p - f)) < 100000 := by
  have h6 := digs_len (S.data.toList.drop f)
  have ha := digs_at (S.data.toList.drop f) (p - f) (by omega)
  have hm := digs_mem (S.data.toList.drop f) _ (List.getElem_mem (l := digsOf (S.data.toList.drop f)) (n := p - f) (by omega))
  rw [List.getElem?_drop, show f + (p - f) = p by omega] at ha
  have hp : p < S.size := by
    rcases Nat.lt_or_ge p S.size with h | h
    · exact h
    · rw [List.getElem?_eq_none (by simpa using h)] at ha; cases ha
  rw [get_at S p hp] at ha
  injection ha with ha
  rw [← ha] at hm
  have hm' : 48 ≤ S[p].toNat ∧ S[p].toNat ≤ 57 := by simpa [isDig] using hm
  refine ⟨hp, hm'.1, hm'.2, by omega, ?_, ?_⟩
  · rw [show p + 1 - f = (p - f) + 1 by omega, List.take_succ_eq_append_getElem (by omega), val_snoc, ← ha]
  · have hv := val_lt ((digsOf (S.data.toList.drop f)).take (p - f)) 0 (fun b hb => digs_mem _ b (List.mem_of_mem_take hb))
    have hl : ((digsOf (S.data.toList.drop f)).take (p - f)).length ≤ 5 := by rw [List.length_take]; omega
    have : 10 ^ ((digsOf (S.data.toList.drop f)).take (p - f)).length ≤ 10 ^ 5 := Nat.pow_le_pow_right (by omega) hl
    omega
theorem num_stop (S : ByteArray) (f : Nat) (hf : f ≤ S.size) :
    f + (digsOf (S.data.toList.drop f)).length ≤ S.size ∧ ((digsOf (S.data.toList.drop f)).length = 6 ∨ f + (digsOf (S.data.toList.drop f)).length = S.size ∨ ∃ h : f + (digsOf (S.data.toList.drop f)).length < S.size, S[f + (digsOf (S.data.toList.drop f)).length].toNat < 48 ∨ 57 < S[f + (digsOf (S.data.toList.drop f)).length].toNat) ∧ valOf 0 (digsOf (S.data.toList.drop f)) < 1000000 := by
  have hlen : (S.data.toList.drop f).length = S.size - f := by rw [List.length_drop, Lib.size_eq]
  have hpl := (digs_prefix (S.data.toList.drop f)).length_le
  rw [hlen] at hpl
  refine ⟨by omega, ?_, ?_⟩
  · rcases digs_end (S.data.toList.drop f) with h | h | ⟨b, h, hb⟩
    · exact Or.inl h
    · rw [hlen] at h; exact Or.inr (Or.inl (by omega))
    · rw [List.getElem?_drop] at h
      have hp : f + (digsOf (S.data.toList.drop f)).length < S.size := by
        rcases Nat.lt_or_ge (f + (digsOf (S.data.toList.drop f)).length) S.size with h' | h'
        · exact h'
        · rw [List.getElem?_eq_none (by simpa using h')] at h; cases h
      rw [get_at S _ hp] at h
      injection h with h
      refine Or.inr (Or.inr ⟨hp, ?_⟩)
      rw [← h] at hb
      unfold isDig at hb
      simp at hb
      omega
  · have hv := val_lt (digsOf (S.data.toList.drop f)) 0 (digs_mem _)
    have : 10 ^ (digsOf (S.data.toList.drop f)).length ≤ 10 ^ 6 := Nat.pow_le_pow_right (by omega) (digs_len _)
    omega
end Go.Proofs.YtbkmdmmcjaanmaaDoor
