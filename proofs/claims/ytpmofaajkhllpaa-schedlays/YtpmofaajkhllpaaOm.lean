/-
  Mathematics of orders: which are orders of all places, and keep.
-/
import Derived.Test.YtpmofaajkhllpaaDn
namespace Go.Proofs.Ytpmofaajkhllpaa
set_option maxRecDepth 20000
set_option linter.unusedVariables false
open Go.ChangeShapes Go.WideShapes Go.ChangeAt Go.RowKit

/-- What the first k places of an order hold are places of a list of m, each once, or nothing (-1). -/
def GoodK (Z : List Int) (m k : Nat) : Prop := ∀ i, i < k → Z.getD i 0 ≠ -1 → 0 ≤ Z.getD i 0 ∧ Z.getD i 0 < m ∧ ∀ j, j < i → Z.getD j 0 ≠ Z.getD i 0
/-- An order of all places of a list of m. -/
def OrdOk (Z : List Int) (m : Nat) : Prop := GoodK Z m Z.length ∧ ∀ j, j < m → ∃ i, i < Z.length ∧ Z.getD i 0 = (j : Int)
/-- What the program's list holds, once k places have been looked at. -/
structure Fits (Z : List Int) (m k : Nat) (f : Nat → Int) : Prop where
  good : GoodK Z m k
  at_ : ∀ i, i < k → 0 ≤ Z.getD i 0 → f (Z.getD i 0).toNat = (Z.length : Int) - 1 - i
  no : ∀ j, j < m → (∀ i, i < k → Z.getD i 0 ≠ (j : Int)) → f j = -1
theorem fits_zero (Z : List Int) (m : Nat) : Fits Z m 0 (fun _ => -1) := ⟨fun i h => absurd h (Nat.not_lt_zero _), fun i h => absurd h (Nat.not_lt_zero _), fun _ _ _ => rfl⟩
theorem fits_skip {Z : List Int} {m k : Nat} {f : Nat → Int} (h : Fits Z m k f) (e : Z.getD k 0 = -1) : Fits Z m (k + 1) f := by
  refine ⟨fun i hi hn => ?_, fun i hi h0 => ?_, fun j hj hn => h.no j hj fun i hi => hn i (by omega)⟩
  · by_cases q : i = k
    · subst q; exact absurd e hn
    · exact h.good i (by omega) hn
  · by_cases q : i = k
    · subst q; rw [e] at h0; omega
    · exact h.at_ i (by omega) h0
theorem fits_step {Z : List Int} {m k : Nat} {f : Nat → Int} (h : Fits Z m k f) {n : Nat} (e : Z.getD k 0 = (n : Int)) (hn : n < m) (hk : k < Z.length) (hf : f n = -1) : Fits Z m (k + 1) (fun i => if i = n then (Z.length : Int) - 1 - k else f i) := by
  have hfree : ∀ i, i < k → Z.getD i 0 ≠ (n : Int) := by
    intro i hi q
    have h1 := h.at_ i hi (by omega)
    rw [q, Int.toNat_natCast, hf] at h1
    omega
  refine ⟨fun i hi hne => ?_, fun i hi h0 => ?_, fun j hj hno => ?_⟩
  · by_cases q : i = k
    · subst q
      rw [e]
      exact ⟨by omega, by omega, fun j hj => hfree j hj⟩
    · exact h.good i (by omega) hne
  · by_cases q : i = k
    · subst q
      rw [e, Int.toNat_natCast]
      simp
    · have h1 := hfree i (by omega)
      have h2 : ¬ (Z.getD i 0).toNat = n := by omega
      simp only [h2, if_false]
      exact h.at_ i (by omega) h0
  · have h1 := hno k (by omega)
    have h2 : ¬ j = n := by omega
    simp only [h2, if_false]
    exact h.no j hj fun i hi => hno i (by omega)
/-- A place that is none, or has been: no order. -/
theorem bad_range {Z : List Int} {m k : Nat} (hk : k < Z.length) (h1 : Z.getD k 0 ≠ -1) (h2 : Z.getD k 0 < 0 ∨ (m : Int) ≤ Z.getD k 0) : ¬ OrdOk Z m := by
  intro h
  have := h.1 k hk h1
  omega
theorem bad_twice {Z : List Int} {m k : Nat} {f : Nat → Int} (h : Fits Z m k f) (hk : k < Z.length) {n : Nat} (e : Z.getD k 0 = (n : Int)) (hn : n < m) (hf : f n ≠ -1) : ¬ OrdOk Z m := by
  intro ho
  apply hf
  exact h.no n hn fun i hi q => (ho.1 k hk (by omega)).2.2 i hi (by rw [q, e])
theorem fits_missing {Z : List Int} {m : Nat} {f : Nat → Int} (h : Fits Z m Z.length f) {j : Nat} (hj : j < m) (hf : f j = -1) : ¬ OrdOk Z m := by
  intro ho
  obtain ⟨i, hi, e⟩ := ho.2 j hj
  have := h.at_ i hi (by omega)
  rw [e, Int.toNat_natCast, hf] at this
  omega
theorem fits_all {Z : List Int} {m : Nat} {f : Nat → Int} (h : Fits Z m Z.length f) (hf : ∀ j, j < m → f j ≠ -1) : OrdOk Z m := by
  refine ⟨h.good, fun j hj => Classical.byContradiction fun hn => hf j hj (h.no j hj fun i hi e => hn ⟨i, hi, e⟩)⟩
theorem fits_bd {Z : List Int} {m : Nat} {f : Nat → Int} (h : Fits Z m Z.length f) (ho : OrdOk Z m) (j : Nat) (hj : j < m) : 0 ≤ f j ∧ f j ≤ Z.length := by
  obtain ⟨i, hi, e⟩ := ho.2 j hj
  have := h.at_ i hi (by omega)
  rw [e, Int.toNat_natCast] at this
  omega
/-- So many different numbers do not stand in fewer places. -/
theorem nodup_le : ∀ (m : Nat) (Z : List Int), (∀ j : Nat, j < m → (j : Int) ∈ Z) → m ≤ Z.length
  | 0, _, _ => Nat.zero_le _
  | m + 1, Z, h => by
    have h1 := nodup_le m (Z.erase (m : Int)) fun j hj => (List.mem_erase_of_ne (by omega)).2 (h j (by omega))
    have h2 := List.length_erase_of_mem (h m (by omega))
    have h3 := List.length_pos_of_mem (h m (by omega))
    omega
theorem bad_short {Z : List Int} {m : Nat} (h : Z.length < m) : ¬ OrdOk Z m := by
  intro ho
  have := nodup_le m Z fun j hj => by
    obtain ⟨i, hi, e⟩ := ho.2 j hj
    rw [← e, show Z.getD i 0 = Z[i] by simp [List.getD, hi]]
    exact List.getElem_mem hi
  omega
/-- An order that keeps. -/
def KeepsP (X : List Ins) (Z : List Int) : Prop := OrdOk Z X.length ∧ ∀ i j p q, i < j → j < X.length → p < Z.length → q < Z.length → Z.getD p 0 = (i : Int) → Z.getD q 0 = (j : Int) → 0 < farI (X.getD i Ins.zero) (X.getD j Ins.zero) → (p : Int) + farI (X.getD i Ins.zero) (X.getD j Ins.zero) ≤ q
def ordB (Z : List Int) (m : Nat) : Bool :=
  ((List.range Z.length).all fun i => (Z.getD i 0 == -1) || (decide (0 ≤ Z.getD i 0) && decide (Z.getD i 0 < m) && (List.range i).all fun j => !(Z.getD j 0 == Z.getD i 0))) &&
  (List.range m).all fun j => (List.range Z.length).any fun i => Z.getD i 0 == (j : Int)
theorem ordB_iff (Z : List Int) (m : Nat) : ordB Z m = true ↔ OrdOk Z m := by
  unfold ordB OrdOk GoodK
  simp only [Bool.and_eq_true, Bool.or_eq_true, List.all_eq_true, List.any_eq_true, List.mem_range, beq_iff_eq, decide_eq_true_eq, Bool.not_eq_true', beq_eq_false_iff_ne, ne_eq]
  constructor
  · rintro ⟨h1, h2⟩
    refine ⟨fun i hi hn => ?_, h2⟩
    rcases h1 i hi with h | ⟨⟨h3, h4⟩, h5⟩
    · exact absurd h hn
    · exact ⟨h3, h4, h5⟩
  · rintro ⟨h1, h2⟩
    refine ⟨fun i hi => ?_, h2⟩
    by_cases e : Z.getD i 0 = -1
    · exact .inl e
    · obtain ⟨h3, h4, h5⟩ := h1 i hi e
      exact .inr ⟨⟨h3, h4⟩, h5⟩
def keepsB (X : List Ins) (Z : List Int) : Bool :=
  ordB Z X.length && (List.range X.length).all fun j => (List.range j).all fun i => (List.range Z.length).all fun p => (List.range Z.length).all fun q =>
    !((Z.getD p 0 == (i : Int)) && (Z.getD q 0 == (j : Int)) && decide (0 < farI (X.getD i Ins.zero) (X.getD j Ins.zero))) || decide ((p : Int) + farI (X.getD i Ins.zero) (X.getD j Ins.zero) ≤ q)
theorem keepsB_iff (X : List Ins) (Z : List Int) : keepsB X Z = true ↔ KeepsP X Z := by
  unfold keepsB KeepsP
  rw [Bool.and_eq_true, ordB_iff]
  refine and_congr_right fun _ => ?_
  simp only [List.all_eq_true, List.mem_range]
  constructor
  · intro h i j p q hij hj hp hq ep eq hf
    have := h j hj i hij p hp q hq
    rw [ep, eq] at this
    have h2 : farI (X.getD i Ins.zero) (X.getD j Ins.zero) ≤ 0 ∨ (p : Int) + farI (X.getD i Ins.zero) (X.getD j Ins.zero) ≤ q := by simpa using this
    omega
  · intro h j hj i hij p hp q hq
    by_cases hc : Z.getD p 0 = (i : Int) ∧ Z.getD q 0 = (j : Int) ∧ 0 < farI (X.getD i Ins.zero) (X.getD j Ins.zero)
    · rw [Bool.or_eq_true]
      exact .inr (decide_eq_true (h i j p q hij hj hp hq hc.1 hc.2.1 hc.2.2))
    · rw [Bool.or_eq_true]
      left
      rw [Bool.not_eq_true', Bool.eq_false_iff]
      intro q2
      simp only [Bool.and_eq_true, beq_iff_eq, decide_eq_true_eq] at q2
      exact hc ⟨q2.1.1, q2.1.2, q2.2⟩
theorem keepsB_no {X : List Ins} {Z : List Int} (h : ¬ KeepsP X Z) : keepsB X Z = false := by
  rw [Bool.eq_false_iff]
  exact fun e => h ((keepsB_iff X Z).1 e)
theorem keeps_fits {X : List Ins} {Z : List Int} {f : Nat → Int} (h : Fits Z X.length Z.length f) (ho : OrdOk Z X.length) : KeepsP X Z ↔ keepM X f := by
  constructor
  · rintro ⟨_, h2⟩ i j hij hj hf
    obtain ⟨p, hp, ep⟩ := ho.2 i (by omega)
    obtain ⟨q, hq, eq⟩ := ho.2 j hj
    have h3 := h2 i j p q hij hj hp hq ep eq hf
    have h4 := h.at_ p hp (by omega)
    have h5 := h.at_ q hq (by omega)
    rw [ep, Int.toNat_natCast] at h4
    rw [eq, Int.toNat_natCast] at h5
    omega
  · intro hk
    refine ⟨ho, fun i j p q hij hj hp hq ep eq hf => ?_⟩
    have h3 := hk i j hij hj hf
    have h4 := h.at_ p hp (by omega)
    have h5 := h.at_ q hq (by omega)
    rw [ep, Int.toNat_natCast] at h4
    rw [eq, Int.toNat_natCast] at h5
    omega
end Go.Proofs.Ytpmofaajkhllpaa
