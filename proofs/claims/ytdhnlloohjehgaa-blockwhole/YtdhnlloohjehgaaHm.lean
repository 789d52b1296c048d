/-
  Where blocks begin: the plain mathematics.
-/
import Derived.Test.YtdhnlloohjehgaaFt
import Derived.Test.YtdhnlloohjehgaaSrt
import Derived.Test.YtdhnlloohjehgaaEff
namespace Go.Proofs.Ytdhnlloohjehgaa
set_option maxRecDepth 20000
set_option linter.unusedVariables false
open Go.ChangeShapes Go.WideShapes Go.ChangeAt Go.RowKit

def addL (L : List Int) (x : Int) : List Int := if inB L x = true then L else L ++ [x]
theorem mem_addL (L : List Int) (x y : Int) : y ∈ addL L x ↔ y ∈ L ∨ y = x := by
  unfold addL
  split
  · rename_i h
    rw [inB_iff] at h
    constructor
    · exact Or.inl
    · rintro (e | rfl)
      · exact e
      · exact h
  · simp
theorem addL_nodup {L : List Int} (h : L.Nodup) (x : Int) : (addL L x).Nodup := by
  unfold addL
  split
  · exact h
  · rename_i hx
    rw [inB_iff] at hx
    rw [List.nodup_append]
    refine ⟨h, by simp, ?_⟩
    intro a ha b hb e
    rw [List.mem_singleton] at hb
    subst hb e
    exact hx ha
theorem addL_len (L : List Int) (x : Int) : (addL L x).length ≤ L.length + 1 ∧ L.length ≤ (addL L x).length := by
  unfold addL
  split <;> simp

def Ins.goes (x : Ins) : Bool := goesB x.o x.a x.b x.c x.i
/-- Does a block begin at a place? -/
def hdB (X : List Ins) (n : Nat) : Bool :=
  decide (n = 0) || (decide (0 < n) && (X.getD (n - 1) Ins.zero).goes) || (List.range X.length).any fun j => (X.getD j Ins.zero).names && decide ((X.getD j Ins.zero).tgt j = (n : Int))
def hdL (X : List Ins) : List Int := ((List.range X.length).filter (hdB X)).map fun n : Nat => (n : Int)
def cutL (X : List Ins) : List Int := hdL X ++ [(X.length : Int)]
/-- What is a cut, as far as the first k instructions say. -/
def CutM (X : List Ins) (k : Nat) (x : Int) : Prop :=
  x = 0 ∨ x = X.length ∨ (∃ j, j < k ∧ (X.getD j Ins.zero).goes = true ∧ x = (j : Int) + 1) ∨ (∃ j, j < k ∧ (X.getD j Ins.zero).names = true ∧ x = (X.getD j Ins.zero).tgt j)
theorem cutM_step (X : List Ins) (k : Nat) (x : Int) : CutM X (k + 1) x ↔ CutM X k x ∨ ((X.getD k Ins.zero).goes = true ∧ x = (k : Int) + 1) ∨ ((X.getD k Ins.zero).names = true ∧ x = (X.getD k Ins.zero).tgt k) := by
  unfold CutM
  constructor
  · rintro (h | h | ⟨j, hj, h⟩ | ⟨j, hj, h⟩)
    · exact .inl (.inl h)
    · exact .inl (.inr (.inl h))
    · by_cases e : j = k
      · subst e; exact .inr (.inl h)
      · exact .inl (.inr (.inr (.inl ⟨j, by omega, h⟩)))
    · by_cases e : j = k
      · subst e; exact .inr (.inr h)
      · exact .inl (.inr (.inr (.inr ⟨j, by omega, h⟩)))
  · rintro ((h | h | ⟨j, hj, h⟩ | ⟨j, hj, h⟩) | h | h)
    · exact .inl h
    · exact .inr (.inl h)
    · exact .inr (.inr (.inl ⟨j, by omega, h⟩))
    · exact .inr (.inr (.inr ⟨j, by omega, h⟩))
    · exact .inr (.inr (.inl ⟨k, by omega, h⟩))
    · exact .inr (.inr (.inr ⟨k, by omega, h⟩))
theorem sorted_ext : ∀ (A B : List Int), A.Pairwise (· < ·) → B.Pairwise (· < ·) → (∀ x, x ∈ A ↔ x ∈ B) → A = B
  | [], [], _, _, _ => rfl
  | [], b :: B, _, _, h => absurd ((h b).2 (List.mem_cons_self)) (by simp)
  | a :: A, [], _, _, h => absurd ((h a).1 (List.mem_cons_self)) (by simp)
  | a :: A, b :: B, ha, hb, h => by
    rw [List.pairwise_cons] at ha hb
    have e : a = b := by
      have h1 := (h a).1 List.mem_cons_self
      have h2 := (h b).2 List.mem_cons_self
      rw [List.mem_cons] at h1 h2
      rcases h1 with h1 | h1
      · exact h1
      · rcases h2 with h2 | h2
        · exact h2.symm
        · have := hb.1 a h1
          have := ha.1 b h2
          omega
    subst e
    congr 1
    refine sorted_ext A B ha.2 hb.2 fun x => ?_
    constructor
    · intro hx
      have := (h x).1 (List.mem_cons_of_mem _ hx)
      rw [List.mem_cons] at this
      rcases this with e | e
      · have := ha.1 x hx; omega
      · exact e
    · intro hx
      have := (h x).2 (List.mem_cons_of_mem _ hx)
      rw [List.mem_cons] at this
      rcases this with e | e
      · have := hb.1 x hx; omega
      · exact e
theorem srt_lt {L : List Int} (h : L.Nodup) : (srt L).Pairwise (· < ·) := by
  have h1 := srt_sorted L
  have h2 := srt_nodup h
  rw [List.Nodup] at h2
  exact (h1.and h2).imp (by rintro a b ⟨h, k⟩; omega)
theorem mem_hdL (X : List Ins) (x : Int) : x ∈ hdL X ↔ ∃ n : Nat, n < X.length ∧ hdB X n = true ∧ x = n := by
  unfold hdL
  rw [List.mem_map]
  constructor
  · rintro ⟨n, hn, rfl⟩
    rw [List.mem_filter, List.mem_range] at hn
    exact ⟨n, hn.1, hn.2, rfl⟩
  · rintro ⟨n, h1, h2, rfl⟩
    exact ⟨n, List.mem_filter.2 ⟨List.mem_range.2 h1, h2⟩, rfl⟩
theorem hdL_lt (X : List Ins) : (hdL X).Pairwise (· < ·) := by
  unfold hdL
  rw [List.pairwise_map]
  exact (List.Pairwise.filter _ List.pairwise_lt_range).imp (by intro a b h; omega)
theorem hdL_len (X : List Ins) : (hdL X).length ≤ X.length := by
  unfold hdL
  rw [List.length_map]
  have := List.length_filter_le (hdB X) (List.range X.length)
  rw [List.length_range] at this
  exact this
theorem cutL_lt (X : List Ins) : (cutL X).Pairwise (· < ·) := by
  unfold cutL
  rw [List.pairwise_append]
  refine ⟨hdL_lt X, List.pairwise_singleton _ _, ?_⟩
  intro a ha b hb
  rw [List.mem_singleton] at hb
  obtain ⟨n, h1, _, rfl⟩ := (mem_hdL X a).1 ha
  omega
theorem fit_tgt {X : List Ins} (hf : fitB X = true) {j : Nat} (hj : j < X.length) (hn : (X.getD j Ins.zero).names = true) : 0 ≤ (X.getD j Ins.zero).tgt j ∧ (X.getD j Ins.zero).tgt j ≤ X.length := by
  have := ((fit_iff X).1 hf).2 j hj
  unfold okB at this
  rw [hn] at this
  simp only [Bool.not_true, Bool.false_or, Bool.and_eq_true, decide_eq_true_eq] at this
  exact this.2
theorem hdB_iff (X : List Ins) (n : Nat) : hdB X n = true ↔ n = 0 ∨ (0 < n ∧ (X.getD (n - 1) Ins.zero).goes = true) ∨ ∃ j, j < X.length ∧ (X.getD j Ins.zero).names = true ∧ (X.getD j Ins.zero).tgt j = n := by
  simp only [hdB, Bool.or_eq_true, Bool.and_eq_true, decide_eq_true_eq, List.any_eq_true, List.mem_range, or_assoc]
theorem mem_cutL {X : List Ins} (hf : fitB X = true) (x : Int) : x ∈ cutL X ↔ CutM X X.length x := by
  unfold cutL
  rw [List.mem_append, mem_hdL, List.mem_singleton]
  have up : ∀ n : Nat, n ≤ X.length → (n < X.length → hdB X n = true) → (∃ m : Nat, m < X.length ∧ hdB X m = true ∧ (n : Int) = m) ∨ (n : Int) = X.length := by
    intro n hn h
    by_cases e : n = X.length
    · exact .inr (by rw [e])
    · exact .inl ⟨n, by omega, h (by omega), rfl⟩
  constructor
  · rintro (⟨n, h1, h2, rfl⟩ | rfl)
    · rcases (hdB_iff X n).1 h2 with rfl | ⟨h3, h4⟩ | ⟨j, hj, h3, h4⟩
      · exact .inl rfl
      · exact .inr (.inr (.inl ⟨n - 1, by omega, h4, by omega⟩))
      · exact .inr (.inr (.inr ⟨j, hj, h3, h4.symm⟩))
    · exact .inr (.inl rfl)
  · rintro (rfl | rfl | ⟨j, hj, h1, rfl⟩ | ⟨j, hj, h1, h2⟩)
    · exact up 0 (Nat.zero_le _) (fun _ => (hdB_iff X 0).2 (.inl rfl))
    · exact .inr rfl
    · have := up (j + 1) hj (fun _ => (hdB_iff X _).2 (.inr (.inl ⟨by omega, h1⟩)))
      simpa using this
    · have hb := fit_tgt hf hj h1
      have := up ((X.getD j Ins.zero).tgt j).toNat (by omega) (fun _ => (hdB_iff X _).2 (.inr (.inr ⟨j, hj, h1, by omega⟩)))
      rw [Int.toNat_of_nonneg hb.1] at this
      rw [h2]
      exact this
theorem cut_srt {X : List Ins} (hf : fitB X = true) {L : List Int} (hn : L.Nodup) (hm : ∀ x, x ∈ L ↔ CutM X X.length x) : srt L = cutL X :=
  sorted_ext _ _ (srt_lt hn) (cutL_lt X) fun x => by rw [srt_mem, hm, mem_cutL hf]
end Go.Proofs.Ytdhnlloohjehgaa
