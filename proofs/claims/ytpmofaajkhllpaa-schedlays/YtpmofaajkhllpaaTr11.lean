/-
  Mathematics of trails: who wrote and read each register last, who acted; which must stay ahead of one, and of those that must.
-/
import Derived.Test.YtpmofaajkhllpaaAk
import Derived.Test.YtpmofaajkhllpaaDn
namespace Go.Proofs.Ytpmofaajkhllpaa
set_option maxRecDepth 20000
set_option linter.unusedVariables false
open Go.ChangeShapes Go.WideShapes Go.ChangeAt Go.RowKit

def xAt (X : List Ins) (k : Nat) : Ins := X.getD k Ins.zero
def trW (X : List Ins) : Nat → Int → List Int
  | 0, _ => []
  | k + 1, r => if (xAt X k).wr ≠ 0 ∧ r = (xAt X k).wr then [(k : Int)] else trW X k r
def trR (X : List Ins) : Nat → Int → List Int
  | 0, _ => []
  | k + 1, r => if (xAt X k).wr ≠ 0 ∧ r = (xAt X k).wr then [] else if (xAt X k).rds r = true then trR X k r ++ [(k : Int)] else trR X k r
def trA (X : List Ins) : Nat → List Int
  | 0 => []
  | k + 1 => if (xAt X k).act = true then [(k : Int)] else trA X k
/-- What of tells, of one at place k. -/
def ofL (X : List Ins) (k : Nat) : List Int := (xAt X k).rdl.flatMap (trW X k) ++ trW X k (xAt X k).wr ++ trR X k (xAt X k).wr ++ (if (xAt X k).act = true then trA X k else [])

theorem trW_zero (X : List Ins) : ∀ k, trW X k 0 = []
  | 0 => rfl
  | k + 1 => by unfold trW; rw [if_neg (by omega), trW_zero X k]
theorem trR_zero (X : List Ins) : ∀ k, trR X k 0 = []
  | 0 => rfl
  | k + 1 => by unfold trR; rw [if_neg (by omega), rds_zero, if_neg (by simp), trR_zero X k]
theorem trW_mem (X : List Ins) (r x : Int) : ∀ k, x ∈ trW X k r → ∃ a : Nat, x = a ∧ a < k ∧ (xAt X a).wr = r ∧ r ≠ 0
  | 0, h => by simp [trW] at h
  | k + 1, h => by
    unfold trW at h
    split at h
    · rename_i q
      simp only [List.mem_singleton] at h
      exact ⟨k, h, by omega, q.2.symm, by omega⟩
    · obtain ⟨a, h1, h2, h3⟩ := trW_mem X r x k h
      exact ⟨a, h1, by omega, h3⟩
theorem trR_mem (X : List Ins) (r x : Int) : ∀ k, x ∈ trR X k r → ∃ a : Nat, x = a ∧ a < k ∧ (xAt X a).rds r = true
  | 0, h => by simp [trR] at h
  | k + 1, h => by
    unfold trR at h
    split at h
    · simp at h
    · split at h
      · rename_i q
        rcases List.mem_append.1 h with h | h
        · obtain ⟨a, h1, h2, h3⟩ := trR_mem X r x k h
          exact ⟨a, h1, by omega, h3⟩
        · simp only [List.mem_singleton] at h
          exact ⟨k, h, by omega, q⟩
      · obtain ⟨a, h1, h2, h3⟩ := trR_mem X r x k h
        exact ⟨a, h1, by omega, h3⟩
theorem trA_mem (X : List Ins) (x : Int) : ∀ k, x ∈ trA X k → ∃ a : Nat, x = a ∧ a < k ∧ (xAt X a).act = true
  | 0, h => by simp [trA] at h
  | k + 1, h => by
    unfold trA at h
    split at h
    · rename_i q
      simp only [List.mem_singleton] at h
      exact ⟨k, h, by omega, q⟩
    · obtain ⟨a, h1, h2, h3⟩ := trA_mem X x k h
      exact ⟨a, h1, by omega, h3⟩
/-- Whoever writes a register is the last one, or one ahead of the last one. -/
theorem trW_last (X : List Ins) (r : Int) (hr : r ≠ 0) : ∀ k (a : Nat), a < k → (xAt X a).wr = r → ∃ c : Nat, (c : Int) ∈ trW X k r ∧ a ≤ c ∧ c < k ∧ (xAt X c).wr = r
  | 0, a, h, _ => by omega
  | k + 1, a, h, hw => by
    unfold trW
    by_cases q : (xAt X k).wr ≠ 0 ∧ r = (xAt X k).wr
    · rw [if_pos q]
      exact ⟨k, by simp, by omega, by omega, q.2.symm⟩
    · rw [if_neg q]
      have : a ≠ k := fun e => by subst e; exact q ⟨by omega, hw.symm⟩
      obtain ⟨c, h1, h2, h3, h4⟩ := trW_last X r hr k a (by omega) hw
      exact ⟨c, h1, h2, by omega, h4⟩
theorem trR_last (X : List Ins) (r : Int) (hr : r ≠ 0) : ∀ k (a : Nat), a < k → (xAt X a).rds r = true → (a : Int) ∈ trR X k r ∨ ∃ c : Nat, (c : Int) ∈ trW X k r ∧ a ≤ c ∧ c < k ∧ (xAt X c).wr = r
  | 0, a, h, _ => by omega
  | k + 1, a, h, hw => by
    by_cases q : (xAt X k).wr ≠ 0 ∧ r = (xAt X k).wr
    · right
      refine ⟨k, by unfold trW; rw [if_pos q]; simp, by omega, by omega, q.2.symm⟩
    · by_cases e : a = k
      · subst e
        left
        unfold trR
        rw [if_neg q, if_pos hw]
        simp
      · rcases trR_last X r hr k a (by omega) hw with h1 | ⟨c, h1, h2, h3, h4⟩
        · left
          unfold trR
          rw [if_neg q]
          split
          · exact List.mem_append.2 (.inl h1)
          · exact h1
        · right
          exact ⟨c, by unfold trW; rw [if_neg q]; exact h1, h2, by omega, h4⟩
theorem trA_last (X : List Ins) : ∀ k (a : Nat), a < k → (xAt X a).act = true → ∃ c : Nat, (c : Int) ∈ trA X k ∧ a ≤ c ∧ c < k ∧ (xAt X c).act = true
  | 0, a, h, _ => by omega
  | k + 1, a, h, hw => by
    unfold trA
    by_cases q : (xAt X k).act = true
    · rw [if_pos q]
      exact ⟨k, by simp, by omega, by omega, q⟩
    · rw [if_neg q]
      have : a ≠ k := fun e => by subst e; exact q hw
      obtain ⟨c, h1, h2, h3, h4⟩ := trA_last X k a (by omega) hw
      exact ⟨c, h1, h2, by omega, h4⟩
/-- What of tells must stay ahead. -/
theorem ofL_mem (X : List Ins) (k : Nat) (x : Int) (h : x ∈ ofL X k) : ∃ a : Nat, x = a ∧ a < k ∧ 0 < farI (xAt X a) (xAt X k) := by
  unfold ofL at h
  simp only [List.mem_append, List.mem_flatMap] at h
  rcases h with ((⟨r, hr, h⟩ | h) | h) | h
  · obtain ⟨a, h1, h2, h3, h4⟩ := trW_mem X r x k h
    rw [rdl_mem, rds_iff] at hr
    exact ⟨a, h1, h2, (farI_pos _ _).2 ((anyI_iff _ _).2 (.inr (.inl ⟨by omega, by omega⟩)))⟩
  · obtain ⟨a, h1, h2, h3, h4⟩ := trW_mem X _ x k h
    exact ⟨a, h1, h2, (farI_pos _ _).2 ((anyI_iff _ _).2 (.inr (.inr (.inl ⟨by omega, by omega⟩))))⟩
  · obtain ⟨a, h1, h2, h3⟩ := trR_mem X _ x k h
    rw [rds_iff] at h3
    exact ⟨a, h1, h2, (farI_pos _ _).2 ((anyI_iff _ _).2 (.inr (.inr (.inr h3))))⟩
  · split at h
    · rename_i q
      obtain ⟨a, h1, h2, h3⟩ := trA_mem X x k h
      exact ⟨a, h1, h2, (farI_pos _ _).2 ((anyI_iff _ _).2 (.inl ⟨h3, q⟩))⟩
    · simp at h
/-- Whoever must stay ahead is told, or must stay ahead of one that is. -/
theorem ofL_cover (X : List Ins) (k a : Nat) (ha : a < k) (h : 0 < farI (xAt X a) (xAt X k)) : (a : Int) ∈ ofL X k ∨ ∃ c : Nat, (c : Int) ∈ ofL X k ∧ a < c ∧ c < k ∧ 0 < farI (xAt X a) (xAt X c) := by
  have fin : ∀ c : Nat, (c : Int) ∈ ofL X k → a ≤ c → c < k → (a < c → anyI (xAt X a) (xAt X c) = true) → (a : Int) ∈ ofL X k ∨ ∃ c : Nat, (c : Int) ∈ ofL X k ∧ a < c ∧ c < k ∧ 0 < farI (xAt X a) (xAt X c) := by
    intro c h1 h2 h3 h4
    by_cases e : a = c
    · subst e; exact .inl h1
    · exact .inr ⟨c, h1, by omega, h3, (farI_pos _ _).2 (h4 (by omega))⟩
  rcases (anyI_iff _ _).1 ((farI_pos _ _).1 h) with ⟨h1, h2⟩ | ⟨h1, h2⟩ | ⟨h1, h2⟩ | ⟨h1, h2⟩
  · obtain ⟨c, c1, c2, c3, c4⟩ := trA_last X k a ha h1
    exact fin c (by unfold ofL; simp only [List.mem_append]; right; rw [if_pos h2]; exact c1) c2 c3 fun _ => (anyI_iff _ _).2 (.inl ⟨h1, c4⟩)
  · obtain ⟨c, c1, c2, c3, c4⟩ := trW_last X _ h1 k a ha rfl
    refine fin c ?_ c2 c3 fun _ => (anyI_iff _ _).2 (.inr (.inr (.inl ⟨h1, c4⟩)))
    unfold ofL
    simp only [List.mem_append, List.mem_flatMap]
    exact .inl (.inl (.inl ⟨_, (rdl_mem _ _).2 ((rds_iff _ _).2 ⟨h1, h2⟩), c1⟩))
  · obtain ⟨c, c1, c2, c3, c4⟩ := trW_last X _ h1 k a ha rfl
    refine fin c ?_ c2 c3 fun _ => (anyI_iff _ _).2 (.inr (.inr (.inl ⟨h1, c4⟩)))
    unfold ofL
    simp only [List.mem_append]
    rw [h2]
    exact .inl (.inl (.inr c1))
  · have hr := (rds_iff _ _).2 ⟨h1, h2⟩
    rcases trR_last X _ h1 k a ha hr with c1 | ⟨c, c1, c2, c3, c4⟩
    · left
      unfold ofL
      simp only [List.mem_append]
      exact .inl (.inr c1)
    · refine fin c ?_ c2 c3 fun _ => (anyI_iff _ _).2 (.inr (.inr (.inr ⟨by omega, by omega⟩)))
      unfold ofL
      simp only [List.mem_append]
      exact .inl (.inl (.inr c1))
theorem trW_len (X : List Ins) (r : Int) : ∀ k, (trW X k r).length ≤ 1
  | 0 => by simp [trW]
  | k + 1 => by unfold trW; split; simp; exact trW_len X r k
theorem trR_len (X : List Ins) (r : Int) : ∀ k, (trR X k r).length ≤ k
  | 0 => by simp [trR]
  | k + 1 => by
    have := trR_len X r k
    unfold trR
    split
    · simp
    · split
      · simp; exact this
      · omega
theorem trA_len (X : List Ins) : ∀ k, (trA X k).length ≤ 1
  | 0 => by simp [trA]
  | k + 1 => by unfold trA; split; simp; exact trA_len X k
theorem flatMap_len (f : Int → List Int) (h : ∀ r, (f r).length ≤ 1) : ∀ l : List Int, (l.flatMap f).length ≤ l.length
  | [] => by simp
  | x :: l => by
    have := flatMap_len f h l
    have := h x
    simp only [List.flatMap_cons, List.length_append, List.length_cons]
    omega
theorem ofL_len (X : List Ins) (k : Nat) : (ofL X k).length ≤ k + 4 := by
  have h1 := flatMap_len (trW X k) (fun r => trW_len X r k) (xAt X k).rdl
  have h2 := rdl_len (xAt X k)
  have h3 := trW_len X (xAt X k).wr k
  have h4 := trR_len X (xAt X k).wr k
  have h5 := trA_len X k
  unfold ofL
  simp only [List.length_append]
  split
  · omega
  · simp only [List.length_nil]; omega
end Go.Proofs.Ytpmofaajkhllpaa
