/-
  Mathematics of where a number stands; the contract of the reference's where.
-/
import Derived.Test.YtpmofaajkhllpaaOm
import Derived.Test.YtpmofaajkhllpaaSl6
import Derived.Test.YtpmofaajkhllpaaAl
namespace Go.Proofs.Ytpmofaajkhllpaa
set_option maxRecDepth 20000
set_option linter.unusedVariables false
open Go.ChangeShapes Go.WideShapes Go.ChangeAt Go.RowKit

/-- The first place at which a number stands. -/
def First (Z : List Int) (x : Int) (p : Nat) : Prop := p < Z.length ∧ Z.getD p 0 = x ∧ ∀ i, i < p → Z.getD i 0 ≠ x
theorem first_one {Z : List Int} {x : Int} {p q : Nat} (h : First Z x p) (k : First Z x q) : p = q := by
  rcases Nat.lt_trichotomy p q with e | e | e
  · exact absurd h.2.1 (k.2.2 p e)
  · exact e
  · exact absurd k.2.1 (h.2.2 q e)
def whereFrom : List Int → Int → Nat → Int
  | [], _, _ => -1
  | y :: l, x, k => if y = x then (k : Int) else whereFrom l x (k + 1)
def whereI (Z : List Int) (x : Int) : Int := whereFrom Z x 0
theorem from_first (x : Int) : ∀ (Z : List Int) (k p : Nat), First Z x p → whereFrom Z x k = ((k + p : Nat) : Int)
  | [], _, p, h => absurd h.1 (by simp)
  | y :: l, k, p, h => by
    unfold whereFrom
    by_cases e : y = x
    · rw [if_pos e]
      have : p = 0 := by
        rcases Nat.eq_zero_or_pos p with h0 | h0
        · exact h0
        · exact absurd e (h.2.2 0 h0)
      rw [this, Nat.add_zero]
    · rw [if_neg e]
      cases p with
      | zero => exact absurd h.2.1 e
      | succ p =>
        rw [from_first x l (k + 1) p ⟨by have := h.1; simp at this; omega, h.2.1, fun i hi => h.2.2 (i + 1) (by omega)⟩]
        congr 1
        omega
theorem from_none (x : Int) : ∀ (Z : List Int) (k : Nat), (∀ i, i < Z.length → Z.getD i 0 ≠ x) → whereFrom Z x k = -1
  | [], _, _ => rfl
  | y :: l, k, h => by
    unfold whereFrom
    rw [if_neg (show ¬ y = x from h 0 (by simp)), from_none x l (k + 1) fun i hi => h (i + 1) (by simp; omega)]
theorem from_bd (x : Int) : ∀ (Z : List Int) (k : Nat), -1 ≤ whereFrom Z x k ∧ whereFrom Z x k < ((k + Z.length : Nat) : Int)
  | [], k => by unfold whereFrom; simp; omega
  | y :: l, k => by
    have := from_bd x l (k + 1)
    unfold whereFrom
    simp only [List.length_cons]
    split <;> omega
theorem where_first {Z : List Int} {x : Int} {p : Nat} (h : First Z x p) : whereI Z x = p := by
  unfold whereI
  rw [from_first x Z 0 p h, Nat.zero_add]
theorem where_none {Z : List Int} {x : Int} (h : ∀ i, i < Z.length → Z.getD i 0 ≠ x) : whereI Z x = -1 := from_none x Z 0 h
theorem where_bd (Z : List Int) (x : Int) : -1 ≤ whereI Z x ∧ whereI Z x < Z.length := by
  have := from_bd x Z 0
  rw [Nat.zero_add] at this
  exact this
theorem first_exists {Z : List Int} {x : Int} : ∀ {p : Nat}, p < Z.length → Z.getD p 0 = x → ∃ q, q ≤ p ∧ First Z x q
  | p, hp, e => by
    by_cases h : ∃ i, i < p ∧ Z.getD i 0 = x
    · obtain ⟨i, hi, ei⟩ := h
      obtain ⟨q, hq, hf⟩ := first_exists (p := i) (by omega) ei
      exact ⟨q, by omega, hf⟩
    · exact ⟨p, Nat.le_refl _, hp, e, fun i hi ei => h ⟨i, hi, ei⟩⟩
/-- A number that stands earlier too. -/
theorem where_early {Z : List Int} {k : Nat} (hk : k < Z.length) (h : whereI Z (Z.getD k 0) ≠ k) : ∃ j, j < k ∧ Z.getD j 0 = Z.getD k 0 := by
  obtain ⟨q, hq, hf⟩ := first_exists hk rfl
  by_cases e : q = k
  · subst e
    exact absurd (where_first hf) h
  · exact ⟨q, by omega, hf.2.1⟩
theorem where_here {Z : List Int} {k : Nat} (hk : k < Z.length) (h : whereI Z (Z.getD k 0) = k) : ∀ j, j < k → Z.getD j 0 ≠ Z.getD k 0 := by
  obtain ⟨q, hq, hf⟩ := first_exists hk rfl
  have h1 := where_first hf
  have h2 : q = k := by omega
  subst h2
  exact hf.2.2
theorem bad_where {Z : List Int} {m k : Nat} (hk : k < Z.length) (h0 : Z.getD k 0 ≠ -1) (h : whereI Z (Z.getD k 0) ≠ k) : ¬ OrdOk Z m := by
  intro ho
  obtain ⟨j, hj, e⟩ := where_early hk h
  exact (ho.1 k hk h0).2.2 j hj e
theorem goodK_zero (Z : List Int) (m : Nat) : GoodK Z m 0 := fun i h => absurd h (Nat.not_lt_zero _)
theorem goodK_skip {Z : List Int} {m k : Nat} (h : GoodK Z m k) (e : Z.getD k 0 = -1) : GoodK Z m (k + 1) := fun i hi hn => by
  by_cases q : i = k
  · subst q; exact absurd e hn
  · exact h i (by omega) hn
theorem goodK_step {Z : List Int} {m k : Nat} (h : GoodK Z m k) (hk : k < Z.length) (h1 : 0 ≤ Z.getD k 0) (h2 : Z.getD k 0 < m) (h3 : whereI Z (Z.getD k 0) = k) : GoodK Z m (k + 1) := fun i hi hn => by
  by_cases q : i = k
  · subst q; exact ⟨h1, h2, where_here hk h3⟩
  · exact h i (by omega) hn
/-- What stands in the first k places. -/
def seen (Z : List Int) (k : Nat) : List Int := (Z.take k).filter fun x => decide (x ≠ -1)
theorem seen_zero (Z : List Int) : seen Z 0 = [] := rfl
theorem seen_snoc {Z : List Int} {k : Nat} (hk : k < Z.length) : seen Z (k + 1) = seen Z k ++ (if Z.getD k 0 = -1 then [] else [Z.getD k 0]) := by
  unfold seen
  have e : Z.take (k + 1) = Z.take k ++ [Z.getD k 0] := by rw [List.take_succ_eq_append_getElem hk]; simp [List.getD, hk]
  rw [e, List.filter_append]
  congr 1
  by_cases h : Z.getD k 0 = -1
  · rw [h]; rfl
  · rw [if_neg h, List.filter_cons_of_pos (by simpa using h)]; rfl
theorem mem_seen {Z : List Int} {k : Nat} (hk : k ≤ Z.length) (x : Int) : x ∈ seen Z k ↔ x ≠ -1 ∧ ∃ i, i < k ∧ Z.getD i 0 = x := by
  induction k with
  | zero => simp [seen]
  | succ k ih =>
    rw [seen_snoc (by omega), List.mem_append, ih (by omega)]
    constructor
    · rintro (⟨h1, i, hi, e⟩ | h)
      · exact ⟨h1, i, by omega, e⟩
      · split at h
        · simp at h
        · rename_i h0
          simp only [List.mem_singleton] at h
          exact ⟨by rw [h]; exact h0, k, by omega, h.symm⟩
    · rintro ⟨h1, i, hi, e⟩
      by_cases q : i = k
      · subst q
        right
        rw [if_neg (by rw [e]; exact h1), e]
        exact List.mem_singleton.2 rfl
      · exact .inl ⟨h1, i, by omega, e⟩
theorem seen_nodup {Z : List Int} {m : Nat} : ∀ {k : Nat}, k ≤ Z.length → GoodK Z m k → (seen Z k).Nodup
  | 0, _, _ => by simp [seen]
  | k + 1, hk, h => by
    have ih := seen_nodup (k := k) (by omega) (fun i hi hn => h i (by omega) hn)
    rw [seen_snoc (by omega)]
    by_cases e : Z.getD k 0 = -1
    · rw [if_pos e, List.append_nil]; exact ih
    · rw [if_neg e, List.nodup_append]
      refine ⟨ih, by simp, fun a ha b hb => ?_⟩
      simp only [List.mem_singleton] at hb
      subst hb
      obtain ⟨_, i, hi, ei⟩ := (mem_seen (by omega) a).1 ha
      rw [← ei]
      exact (h k (by omega) e).2.2 i hi
theorem nodup_bound : ∀ (m : Nat) (F : List Int), F.Nodup → (∀ x ∈ F, 0 ≤ x ∧ x < m) → F.length ≤ m
  | 0, F, _, h => by
    cases F with
    | nil => simp
    | cons x l => have := h x (by simp); omega
  | m + 1, F, hn, h => by
    have h1 := nodup_bound m (F.erase (m : Int)) (hn.erase _) fun x hx => by
      rw [hn.mem_erase_iff] at hx
      have := h x hx.2
      omega
    have h2 := List.length_erase (a := (m : Int)) (l := F)
    split at h2 <;> omega
theorem ord_count {Z : List Int} {m : Nat} (h : GoodK Z m Z.length) : OrdOk Z m ↔ (seen Z Z.length).length = m := by
  have hn := seen_nodup (Nat.le_refl _) h
  have hb : ∀ x ∈ seen Z Z.length, 0 ≤ x ∧ x < (m : Int) := fun x hx => by
    obtain ⟨h1, i, hi, e⟩ := (mem_seen (Nat.le_refl _) x).1 hx
    have := h i hi (by rw [e]; exact h1)
    omega
  constructor
  · intro ho
    have h1 := nodup_bound m _ hn hb
    have h2 := nodup_le m (seen Z Z.length) fun j hj => (mem_seen (Nat.le_refl _) _).2 ⟨by omega, ho.2 j hj⟩
    omega
  · intro e
    refine ⟨h, fun j hj => Classical.byContradiction fun hno => ?_⟩
    have h1 : ((j : Int) :: seen Z Z.length).Nodup := List.nodup_cons.2 ⟨fun q => hno ((mem_seen (Nat.le_refl _) _).1 q).2, hn⟩
    have h2 := nodup_bound m _ h1 fun x hx => by
      rcases List.mem_cons.1 hx with rfl | hx
      · omega
      · exact hb x hx
    simp at h2
    omega
/-- One instruction ahead of all later ones, up to place j. -/
def RowOk (X : List Ins) (Z : List Int) (i j : Nat) : Prop := ∀ k, i < k → k < j → 0 < farI (X.getD i Ins.zero) (X.getD k Ins.zero) → whereI Z i + farI (X.getD i Ins.zero) (X.getD k Ins.zero) ≤ whereI Z k
theorem rowOk_start (X : List Ins) (Z : List Int) (i : Nat) : RowOk X Z i (i + 1) := fun k h1 h2 => by omega
theorem rowOk_step {X : List Ins} {Z : List Int} {i j : Nat} (h : RowOk X Z i j) (hj : ¬ (0 < farI (X.getD i Ins.zero) (X.getD j Ins.zero) ∧ whereI Z j < whereI Z i + farI (X.getD i Ins.zero) (X.getD j Ins.zero))) : RowOk X Z i (j + 1) := fun k h1 h2 h3 => by
  by_cases e : k = j
  · subst e; omega
  · exact h k h1 (by omega) h3
def AllOk (X : List Ins) (Z : List Int) (i : Nat) : Prop := ∀ k, k < i → RowOk X Z k X.length
theorem allOk_step {X : List Ins} {Z : List Int} {i : Nat} (h : AllOk X Z i) (hi : RowOk X Z i X.length) : AllOk X Z (i + 1) := fun k h1 => by
  by_cases e : k = i
  · subst e; exact hi
  · exact h k (by omega)
theorem ord_first {Z : List Int} {m : Nat} (ho : OrdOk Z m) {p : Nat} (hp : p < Z.length) {i : Nat} (hi : i < m) (e : Z.getD p 0 = (i : Int)) : whereI Z i = p :=
  where_first ⟨hp, e, fun j hj q => (ho.1 p hp (by omega)).2.2 j hj (by rw [q, e])⟩
theorem keeps_where {X : List Ins} {Z : List Int} (ho : OrdOk Z X.length) : KeepsP X Z ↔ AllOk X Z X.length := by
  constructor
  · rintro ⟨_, h⟩ i hi j h1 h2 h3
    obtain ⟨p, hp, ep⟩ := ho.2 i hi
    obtain ⟨q, hq, eq⟩ := ho.2 j h2
    rw [ord_first ho hp hi ep, ord_first ho hq h2 eq]
    exact h i j p q h1 h2 hp hq ep eq h3
  · intro h
    refine ⟨ho, fun i j p q hij hj hp hq ep eq hf => ?_⟩
    have := h i (by omega) j hij hj hf
    rwa [ord_first ho hp (by omega) ep, ord_first ho hq hj eq] at this
theorem keeps_bad {X : List Ins} {Z : List Int} (ho : OrdOk Z X.length) {i j : Nat} (hij : i < j) (hj : j < X.length) (h : 0 < farI (X.getD i Ins.zero) (X.getD j Ins.zero) ∧ whereI Z j < whereI Z i + farI (X.getD i Ins.zero) (X.getD j Ins.zero)) : keepsB X Z = false :=
  keepsB_no fun hk => by
    have := (keeps_where ho).1 hk i (by omega) j hij hj h.1
    omega

set_option maxHeartbeats 1000000 in
theorem where_any (Z : List Int) (x : Int) (v : Value) (w : World) (hZ : Z.length ≤ 10000) (hv : Ints .i64 w v Z) :
    Calls Try.prog 29 #[v, .int .i64 x] w fun e w' => e = .returned (.int .i64 (whereI Z x)) ∧ Bel w w' := by
  obtain ⟨ao, cap, rfl, hz⟩ := hv
  have HZ := hidm hz
  have HY := hidm (fun p h1 h2 h3 => where_first (Z := Z) (x := x) (p := p) ⟨h1, h2, h3⟩)
  have HN := hidm (where_none (Z := Z) (x := x))
  clear hz
  go_enter Try.func29, Try.ntmps29
  go_wp2
  go_loopw [5] (fun i wr => ∃ k : Nat, k ≤ Z.length ∧ i = .int .i64 k ∧ Hid (∀ i, i < k → Z.getD i 0 ≠ x) ∧ Bel w wr) (fun i _ => Z.length - (intOf i).toNat)
  case atStart => exact ⟨0, Nat.zero_le _, rfl, fun i h => absurd h (Nat.not_lt_zero _), Bel.refl _⟩
  case round =>
    obtain ⟨k, hk, rfl, hno, hB⟩ := hrel
    rename World => wr
    by_cases hlt : k < Z.length
    · obtain ⟨b, o, rfl, hb, hcell⟩ := HZ.out (by omega)
      have hc := ((bcell hB).1 b (o + k) hb).trans (hcell k hlt)
      rw [show Z[k]?.getD 0 = Z.getD k 0 from rfl] at hc
      have HYk := hidm (fun e => HY.out k hlt e hno.out)
      have HNk : Hid (Z.getD k 0 ≠ x → ∀ i, i < k + 1 → Z.getD i 0 ≠ x) := fun e i hi => by
        by_cases q : i = k
        · subst q; exact e
        · exact hno.out i (by omega)
      clear hcell HY HN hno HZ
      generalize Z.getD k 0 = y at hc HYk HNk
      by_cases e : y = x
      · have e' : (y == x) = true := by simp [e]
        have HF := hidm (HYk.out e)
        clear HYk HNk e
        go_wp2
        go_ret
        exact ⟨ret_intA HF.out.symm, hB⟩
      · have e' : (y == x) = false := beq_eq_false_iff_ne.2 e
        have HF := hidm (HNk.out e)
        clear HYk HNk e
        go_wp2
        go_roundw
        case rel => exact ⟨k + 1, by omega, by go_num, HF.out, hB⟩
        case measure => simp [intOf]; omega
    · obtain rfl : k = Z.length := by omega
      have HF := hidm (HN.out hno.out)
      go_wp2
      go_ret
      exact ⟨ret_intA HF.out.symm, hB⟩
end Go.Proofs.Ytpmofaajkhllpaa
