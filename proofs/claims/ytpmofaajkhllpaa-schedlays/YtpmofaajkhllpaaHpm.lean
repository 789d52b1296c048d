/-
  Mathematics of binary heaps of pairs: the greater second number first, of several the lower first number.
-/
import Derived.Test.YtpmofaajkhllpaaKpt
namespace Go.Proofs.Ytpmofaajkhllpaa
set_option maxRecDepth 20000
set_option linter.unusedVariables false

abbrev Pr := Int × Int
def pz : Pr := (0, 0)
/-- Does c come ahead of d? -/
def lt2 (c d : Pr) : Bool := decide (d.2 < c.2 ∨ (c.2 = d.2 ∧ c.1 < d.1))
def le2 (c d : Pr) : Prop := d.2 < c.2 ∨ (c.2 = d.2 ∧ c.1 ≤ d.1)
theorem le2_refl (c : Pr) : le2 c c := .inr ⟨rfl, Int.le_refl _⟩
theorem le2_trans {a b c : Pr} (h : le2 a b) (k : le2 b c) : le2 a c := by unfold le2 at *; omega
theorem lt2_le {a b : Pr} (h : lt2 a b = true) : le2 a b := by unfold lt2 at h; unfold le2; simp at h; omega
theorem not_lt2 {a b : Pr} (h : lt2 a b = false) : le2 b a := by unfold lt2 at h; unfold le2; simp at h; omega
/-- Two elements of a list change places. -/
def swp (R : List Pr) (i j : Nat) : List Pr := (R.set i (R.getD j pz)).set j (R.getD i pz)
theorem swp_len (R : List Pr) (i j : Nat) : (swp R i j).length = R.length := by simp [swp]
theorem set_getD (R : List Pr) (i k : Nat) (x : Pr) (hi : i < R.length) : (R.set i x).getD k pz = if k = i then x else R.getD k pz := by
  simp only [List.getD_eq_getElem?_getD, List.getElem?_set]
  by_cases e : i = k
  · subst e; simp [hi]
  · simp [e, show ¬ k = i from fun q => e q.symm]
theorem swp_at (R : List Pr) (i j k : Nat) (hi : i < R.length) (hj : j < R.length) : (swp R i j).getD k pz = if k = j then R.getD i pz else if k = i then R.getD j pz else R.getD k pz := by
  unfold swp
  rw [set_getD _ _ _ _ (by simpa using hj), set_getD _ _ _ _ hi]
theorem swp_perm (R : List Pr) (i j : Nat) (hi : i < R.length) (hj : j < R.length) : (swp R i j).Perm R := by
  unfold swp
  have e1 : R.getD i pz = R[i] := by simp [List.getD, hi]
  have e2 : R.getD j pz = R[j] := by simp [List.getD, hj]
  rw [e1, e2]
  exact List.set_set_perm hi hj
def par (k : Nat) : Nat := (k - 1) / 2
theorem par_lt {k : Nat} (h : 0 < k) : par k < k := by unfold par; omega
theorem par_kids {k i : Nat} (h : 0 < k) : par k = i ↔ k = 2 * i + 1 ∨ k = 2 * i + 2 := by unfold par; omega
/-- The first n elements are a heap. -/
def HeapOk (R : List Pr) (n : Nat) : Prop := ∀ k, 0 < k → k < n → le2 (R.getD (par k) pz) (R.getD k pz)
theorem heap_root {R : List Pr} {n : Nat} (h : HeapOk R n) (k : Nat) (hk : k < n) : le2 (R.getD 0 pz) (R.getD k pz) := by
  induction k using Nat.strongRecOn with
  | ind k ih =>
    rcases Nat.eq_zero_or_pos k with rfl | h0
    · exact le2_refl _
    · exact le2_trans (ih (par k) (par_lt h0) (Nat.lt_trans (par_lt h0) hk)) (h k h0 hk)
structure UpInv (R : List Pr) (j : Nat) : Prop where
  a : ∀ k, 0 < k → k < R.length → k ≠ j → le2 (R.getD (par k) pz) (R.getD k pz)
  b : ∀ k, 0 < k → k < R.length → par k = j → 0 < j → le2 (R.getD (par j) pz) (R.getD k pz)
theorem up_zero {R : List Pr} (h : UpInv R 0) : HeapOk R R.length := fun k h1 h2 => h.a k h1 h2 (by omega)
theorem up_done {R : List Pr} {j : Nat} (h : UpInv R j) (hl : lt2 (R.getD j pz) (R.getD (par j) pz) = false) : HeapOk R R.length := fun k h1 h2 => by
  by_cases e : k = j
  · subst e; exact not_lt2 hl
  · exact h.a k h1 h2 e
theorem up_step {R : List Pr} {j : Nat} (h : UpInv R j) (hj : 0 < j) (hn : j < R.length) (hl : lt2 (R.getD j pz) (R.getD (par j) pz) = true) : UpInv (swp R (par j) j) (par j) := by
  have hp := par_lt hj
  have hle := lt2_le hl
  have hpn : par j < R.length := by omega
  constructor
  · intro k h1 h2 h3
    rw [swp_len] at h2
    have hpk := par_lt h1
    rw [swp_at _ _ _ _ hpn hn, swp_at _ _ _ _ hpn hn]
    by_cases e : k = j
    · subst e
      rw [if_neg (by omega), if_pos rfl, if_pos rfl]
      exact hle
    · rw [if_neg e, if_neg h3]
      by_cases e1 : par k = j
      · rw [if_pos e1]
        exact h.b k h1 h2 e1 hj
      · rw [if_neg e1]
        by_cases e2 : par k = par j
        · rw [if_pos e2]
          have := h.a k h1 h2 e
          rw [e2] at this
          exact le2_trans hle this
        · rw [if_neg e2]
          exact h.a k h1 h2 e
  · intro k h1 h2 h3 h4
    rw [swp_len] at h2
    have hpp := par_lt h4
    rw [swp_at _ _ _ _ hpn hn, swp_at _ _ _ _ hpn hn, if_neg (by omega), if_neg (by omega)]
    have hi := h.a (par j) h4 hpn (by omega)
    by_cases e : k = j
    · rw [if_pos e]; exact hi
    · have hpk := par_lt h1
      rw [if_neg e, if_neg (by omega)]
      have := h.a k h1 h2 e
      rw [h3] at this
      exact le2_trans hi this
theorem up_start {R : List Pr} (c : Pr) (h : HeapOk R R.length) : UpInv (R ++ [c]) R.length := by
  have e : ∀ k, k < R.length → (R ++ [c]).getD k pz = R.getD k pz := fun k hk => by simp [List.getD, List.getElem?_append_left hk]
  constructor
  · intro k h1 h2 h3
    have hk : k < R.length := by simp at h2; omega
    have hp := par_lt h1
    rw [e k hk, e _ (by omega)]
    exact h k h1 hk
  · intro k h1 h2 h3 h4
    have := par_lt h1
    simp at h2
    omega
structure DnInv (R : List Pr) (i n : Nat) : Prop where
  a : ∀ k, 0 < k → k < n → par k ≠ i → le2 (R.getD (par k) pz) (R.getD k pz)
  b : ∀ k, 0 < k → k < n → par k = i → 0 < i → le2 (R.getD (par i) pz) (R.getD k pz)
theorem dn_leaf {R : List Pr} {i n : Nat} (h : DnInv R i n) (hl : n ≤ 2 * i + 1) : HeapOk R n := fun k h1 h2 => by
  by_cases e : par k = i
  · rw [par_kids h1] at e; omega
  · exact h.a k h1 h2 e
/-- The child that comes first. -/
structure Kid (R : List Pr) (i n j : Nat) : Prop where
  is_ : j = 2 * i + 1 ∨ j = 2 * i + 2
  lt : j < n
  least : ∀ k, k = 2 * i + 1 ∨ k = 2 * i + 2 → k < n → le2 (R.getD j pz) (R.getD k pz)
theorem kid_two {R : List Pr} {i n : Nat} (h : 2 * i + 2 < n) (hl : lt2 (R.getD (2 * i + 2) pz) (R.getD (2 * i + 1) pz) = true) : Kid R i n (2 * i + 2) :=
  ⟨.inr rfl, h, fun k hk _ => by rcases hk with rfl | rfl; exact lt2_le hl; exact le2_refl _⟩
theorem kid_one {R : List Pr} {i n : Nat} (h : 2 * i + 1 < n) (hl : 2 * i + 2 < n → lt2 (R.getD (2 * i + 2) pz) (R.getD (2 * i + 1) pz) = false) : Kid R i n (2 * i + 1) :=
  ⟨.inl rfl, h, fun k hk hn => by rcases hk with rfl | rfl; exact le2_refl _; exact not_lt2 (hl hn)⟩
theorem dn_done {R : List Pr} {i n j : Nat} (h : DnInv R i n) (hk : Kid R i n j) (hl : lt2 (R.getD j pz) (R.getD i pz) = false) : HeapOk R n := fun k h1 h2 => by
  by_cases e : par k = i
  · rw [e]
    exact le2_trans (not_lt2 hl) (hk.least k ((par_kids h1).1 e) h2)
  · exact h.a k h1 h2 e
theorem dn_step {R : List Pr} {i n j : Nat} (h : DnInv R i n) (hn : n ≤ R.length) (hk : Kid R i n j) (hl : lt2 (R.getD j pz) (R.getD i pz) = true) : DnInv (swp R i j) j n := by
  have hj := hk.is_
  have hjn := hk.lt
  have hle := lt2_le hl
  have hiR : i < R.length := by omega
  have hjR : j < R.length := by omega
  have hpj : par j = i := (par_kids (by omega)).2 hj
  constructor
  · intro k h1 h2 h3
    have hpk := par_lt h1
    rw [swp_at _ _ _ _ hiR hjR, swp_at _ _ _ _ hiR hjR, if_neg h3]
    by_cases e : k = j
    · subst e
      rw [if_pos rfl, if_pos hpj]
      exact hle
    · rw [if_neg e]
      by_cases e1 : k = i
      · subst e1
        rw [if_neg (by omega), if_pos rfl]
        exact h.b j (by omega) hjn hpj h1
      · rw [if_neg e1]
        by_cases e2 : par k = i
        · rw [if_pos e2]
          exact hk.least k ((par_kids h1).1 e2) h2
        · rw [if_neg e2]
          exact h.a k h1 h2 e2
  · intro k h1 h2 h3 h4
    have hpk := par_lt h1
    rw [swp_at _ _ _ _ hiR hjR, swp_at _ _ _ _ hiR hjR, hpj, if_neg (by omega), if_pos rfl, if_neg (by omega), if_neg (by omega)]
    have := h.a k h1 h2 (by omega)
    rwa [h3] at this
theorem dn_start {R : List Pr} {n : Nat} (h : HeapOk R R.length) (hn : R.length = n + 1) : DnInv (swp R 0 n) 0 n := by
  constructor
  · intro k h1 h2 h3
    have hpk := par_lt h1
    rw [swp_at _ _ _ _ (by omega) (by omega), swp_at _ _ _ _ (by omega) (by omega), if_neg (by omega), if_neg h3, if_neg (by omega), if_neg (by omega)]
    exact h k h1 (by omega)
  · intro k h1 h2 h3 h4
    omega
/-- What has been done to a list: some swaps of the first n. -/
structure Swd (R R' : List Pr) (n : Nat) : Prop where
  perm : R'.Perm R
  rest : ∀ k, n ≤ k → R'.getD k pz = R.getD k pz
theorem Swd.refl (R : List Pr) (n : Nat) : Swd R R n := ⟨List.Perm.refl _, fun _ _ => rfl⟩
theorem Swd.len {R R' : List Pr} {n : Nat} (h : Swd R R' n) : R'.length = R.length := h.perm.length_eq
theorem Swd.step {R R' : List Pr} {n i j : Nat} (h : Swd R R' n) (hi : i < n) (hj : j < n) (hn : n ≤ R.length) : Swd R (swp R' i j) n := by
  have hl := h.len
  refine ⟨(swp_perm R' i j (by omega) (by omega)).trans h.perm, fun k hk => ?_⟩
  rw [swp_at _ _ _ _ (by omega) (by omega), if_neg (by omega), if_neg (by omega)]
  exact h.rest k hk
/-- What Pop leaves, and tells. -/
theorem pop_what {R R' : List Pr} {n : Nat} (hR : HeapOk R R.length) (hn : R.length = n + 1) (h : Swd (swp R 0 n) R' n) (hh : HeapOk R' n) :
    R'.getD n pz = R.getD 0 pz ∧ (R.getD 0 pz :: R'.take n).Perm R ∧ HeapOk (R'.take n) (R'.take n).length ∧ ∀ c ∈ R, le2 (R.getD 0 pz) c := by
  have hl : R'.length = n + 1 := by rw [h.len, swp_len, hn]
  have e1 : R'.getD n pz = R.getD 0 pz := by
    rw [h.rest n (Nat.le_refl _), swp_at _ _ _ _ (by omega) (by omega), if_pos rfl]
  refine ⟨e1, ?_, ?_, ?_⟩
  · have e2 : R' = R'.take n ++ [R'.getD n pz] := by
      have := List.take_succ_eq_append_getElem (i := n) (l := R') (by omega)
      rw [List.take_of_length_le (by omega)] at this
      rw [show R'.getD n pz = R'[n] by simp [List.getD, show n < R'.length by omega]]
      exact this
    rw [← e1]
    have p1 : (R'.getD n pz :: R'.take n).Perm (R'.take n ++ [R'.getD n pz]) := (List.perm_append_singleton _ _).symm
    rw [← e2] at p1
    exact p1.trans (h.perm.trans (swp_perm R 0 n (by omega) (by omega)))
  · have hln : (R'.take n).length = n := by simp [hl]
    have e3 : ∀ k, k < n → (R'.take n).getD k pz = R'.getD k pz := fun k hk => by simp [List.getD, hk]
    rw [hln]
    intro k h1 h2
    have := par_lt h1
    rw [e3 k h2, e3 _ (by omega)]
    exact hh k h1 h2
  · intro c hc
    obtain ⟨k, hk, rfl⟩ := List.mem_iff_getElem.1 hc
    have := heap_root hR k hk
    rwa [show R.getD k pz = R[k] by simp [List.getD, hk]] at this
end Go.Proofs.Ytpmofaajkhllpaa
