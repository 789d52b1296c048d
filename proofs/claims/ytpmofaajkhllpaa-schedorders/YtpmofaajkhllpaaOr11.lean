/-
  Mathematics of orders that are made place by place.
-/
import Derived.Test.YtpmofaajkhllpaaRw10
import Derived.Test.YtpmofaajkhllpaaTr11
import Derived.Test.YtpmofaajkhllpaaHpm
namespace Go.Proofs.Ytpmofaajkhllpaa
set_option maxRecDepth 20000
set_option linter.unusedVariables false
open Go.ChangeShapes Go.WideShapes Go.ChangeAt Go.RowKit

def hAt (X : List Ins) (k : Nat) : Int := (hgt X).getD k 0
/-- Behind one more place. -/
theorem from_snoc (x y : Int) : ∀ (Z : List Int) (k : Nat), whereFrom (Z ++ [x]) y k = if 0 ≤ whereFrom Z y k then whereFrom Z y k else if x = y then ((k + Z.length : Nat) : Int) else -1
  | [], k => by simp [whereFrom]
  | z :: Z, k => by
    have ih := from_snoc x y Z (k + 1)
    show (if z = y then (k : Int) else whereFrom (Z ++ [x]) y (k + 1)) = if 0 ≤ (if z = y then (k : Int) else whereFrom Z y (k + 1)) then (if z = y then (k : Int) else whereFrom Z y (k + 1)) else if x = y then ((k + (z :: Z).length : Nat) : Int) else -1
    by_cases e : z = y
    · rw [if_pos e, if_pos e, if_pos (by omega)]
    · rw [if_neg e, if_neg e, ih]
      simp only [List.length_cons, show k + 1 + Z.length = k + (Z.length + 1) by omega]
theorem where_snoc (Z : List Int) (x y : Int) : whereI (Z ++ [x]) y = if 0 ≤ whereI Z y then whereI Z y else if x = y then (Z.length : Int) else -1 := by
  unfold whereI
  rw [from_snoc, Nat.zero_add]
theorem where_nil (y : Int) : whereI [] y = -1 := rfl
theorem where_get {Z : List Int} {y : Int} (h : 0 ≤ whereI Z y) : ∃ p : Nat, p < Z.length ∧ whereI Z y = p ∧ Z.getD p 0 = y := by
  by_cases q : ∃ i, i < Z.length ∧ Z.getD i 0 = y
  · obtain ⟨i, hi, e⟩ := q
    obtain ⟨p, _, hp⟩ := first_exists hi e
    exact ⟨p, hp.1, where_first hp, hp.2.1⟩
  · rw [where_none (fun i hi e => q ⟨i, hi, e⟩)] at h
    omega
theorem where_mem {Z : List Int} {y : Int} : 0 ≤ whereI Z y ↔ y ∈ Z := by
  constructor
  · intro h
    obtain ⟨p, hp, _, e⟩ := where_get h
    rw [← e, show Z.getD p 0 = Z[p] by simp [List.getD, hp]]
    exact List.getElem_mem hp
  · intro h
    obtain ⟨p, hp, e⟩ := List.mem_iff_getElem.1 h
    obtain ⟨q, _, hq⟩ := first_exists (Z := Z) (x := y) hp (by simp [List.getD, hp, e])
    rw [where_first hq]
    omega
/-- Does one stand? -/
abbrev Stands (Z : List Int) (j : Nat) : Prop := 0 ≤ whereI Z j
theorem not_stands {Z : List Int} {j : Nat} (h : ¬ Stands Z j) : whereI Z j = -1 := by
  have := where_bd Z j
  unfold Stands at h
  omega
/-- May one stand behind an order? -/
def ReadyP (X : List Ins) (Z : List Int) (j : Nat) : Prop := ¬ Stands Z j ∧ ∀ i, i < j → 0 < farI (xAt X i) (xAt X j) → Stands Z i ∧ farI (xAt X i) (xAt X j) ≤ Z.length - whereI Z i
/-- The one that comes next. -/
def BestP (X : List Ins) (Z : List Int) (x : Int) : Prop :=
  (x = -1 ∧ ∀ j, j < X.length → ¬ ReadyP X Z j) ∨ ∃ j : Nat, x = j ∧ j < X.length ∧ ReadyP X Z j ∧ ∀ k, k < X.length → ReadyP X Z k → le2 ((j : Int), hAt X j) ((k : Int), hAt X k)
theorem best_one {X : List Ins} {Z : List Int} {x y : Int} (h : BestP X Z x) (k : BestP X Z y) : x = y := by
  rcases h with ⟨h1, h2⟩ | ⟨j, h1, h2, h3, h4⟩ <;> rcases k with ⟨k1, k2⟩ | ⟨i, k1, k2, k3, k4⟩
  · omega
  · exact absurd k3 (h2 i k2)
  · exact absurd h3 (k2 j h2)
  · have a := h4 i k2 k3
    have b := k4 j h2 h3
    unfold le2 at a b
    simp only at a b
    omega
def Steps (X : List Ins) (Z : List Int) : Prop := ∀ n, n < Z.length → (∃ j, j < X.length ∧ ¬ Stands (Z.take n) j) ∧ BestP X (Z.take n) (Z.getD n 0)
theorem Steps.nil {X : List Ins} : Steps X [] := fun n h => absurd h (by simp)
theorem Steps.snoc {X : List Ins} {Z : List Int} {x : Int} (hs : Steps X Z) (hn : ∃ j, j < X.length ∧ ¬ Stands Z j) (hb : BestP X Z x) : Steps X (Z ++ [x]) := fun n h => by
  by_cases q : n < Z.length
  · rw [List.take_append_of_le_length (Nat.le_of_lt q), show (Z ++ [x]).getD n 0 = Z.getD n 0 by simp [List.getD, List.getElem?_append_left q]]
    exact hs n q
  · obtain rfl : n = Z.length := by simp at h; omega
    rw [List.take_append_of_le_length (Nat.le_refl _), List.take_length, show (Z ++ [x]).getD Z.length 0 = x by simp [List.getD]]
    exact ⟨hn, hb⟩
theorem Steps.init {X : List Ins} {Z : List Int} {x : Int} (h : Steps X (Z ++ [x])) : Steps X Z ∧ (∃ j, j < X.length ∧ ¬ Stands Z j) ∧ BestP X Z x := by
  refine ⟨fun n q => ?_, ?_⟩
  · have := h n (by simp; omega)
    rwa [List.take_append_of_le_length (Nat.le_of_lt q), show (Z ++ [x]).getD n 0 = Z.getD n 0 by simp [List.getD, List.getElem?_append_left q]] at this
  · have := h Z.length (by simp)
    rwa [List.take_append_of_le_length (Nat.le_refl _), List.take_length, show (Z ++ [x]).getD Z.length 0 = x by simp [List.getD]] at this
theorem steps_ind {X : List Ins} {motive : (Z : List Int) → Steps X Z → Prop} (nil : motive [] Steps.nil) (snoc : ∀ {Z : List Int} {x : Int} (hs : Steps X Z) (hn : ∃ j, j < X.length ∧ ¬ Stands Z j) (hb : BestP X Z x), motive Z hs → motive (Z ++ [x]) (Steps.snoc hs hn hb)) {Z : List Int} (h : Steps X Z) : motive Z h := by
  have key : ∀ (n : Nat) (Z : List Int) (h : Steps X Z), Z.length = n → motive Z h := by
    intro n
    induction n with
    | zero =>
      intro Z h e
      obtain rfl := List.eq_nil_of_length_eq_zero e
      exact nil
    | succ n ih =>
      intro Z h e
      obtain ⟨A, x, rfl⟩ : ∃ A x, Z = A ++ [x] := ⟨Z.take n, Z[n]'(by omega), by rw [← List.take_succ_eq_append_getElem (by omega), List.take_of_length_le (by omega)]⟩
      obtain ⟨h1, h2, h3⟩ := h.init
      exact snoc h1 h2 h3 (ih A h1 (by simp at e; exact e))
  exact key _ Z h rfl
theorem steps_cases {X : List Ins} {motive : (Z : List Int) → Steps X Z → Prop} (nil : motive [] Steps.nil) (snoc : ∀ {Z : List Int} {x : Int} (hs : Steps X Z) (hn : ∃ j, j < X.length ∧ ¬ Stands Z j) (hb : BestP X Z x), motive (Z ++ [x]) (Steps.snoc hs hn hb)) {Z : List Int} (h : Steps X Z) : motive Z h :=
  steps_ind nil (fun hs hn hb _ => snoc hs hn hb) h
/-- The order of a list. -/
def OrdS (X : List Ins) (Z : List Int) : Prop := Steps X Z ∧ ∀ j, j < X.length → Stands Z j
theorem steps_take {X : List Ins} {Z : List Int} (h : Steps X Z) : ∀ n, Steps X (Z.take n) := by
  induction h using steps_ind with
  | nil => intro n; rw [List.take_nil]; exact .nil
  | @snoc Z x hs hn hb ih =>
    intro n
    by_cases q : n ≤ Z.length
    · rw [List.take_append_of_le_length q]; exact ih n
    · rw [List.take_of_length_le (by simp; omega)]; exact .snoc hs hn hb
theorem steps_one {X : List Ins} {Z : List Int} (h : Steps X Z) : ∀ {Y : List Int}, Steps X Y → Z.length = Y.length → Z = Y := by
  induction h using steps_ind with
  | nil => intro Y hY e; exact (List.eq_nil_of_length_eq_zero e.symm).symm
  | @snoc Z x hs hn hb ih =>
    intro Y hY e
    cases hY using steps_cases with
    | nil => simp at e
    | @snoc Y y ks kn kb =>
      have e2 := ih ks (by simp at e; exact e)
      subst e2
      rw [best_one hb kb]
/-- All stand: no more places. -/
theorem steps_end {X : List Ins} {Z Y : List Int} (h : OrdS X Z) (k : Steps X Y) : Y.length ≤ Z.length := by
  induction k using steps_ind with
  | nil => exact Nat.zero_le _
  | @snoc Y y ks kn kb ih =>
    rcases Nat.lt_or_ge Y.length Z.length with q | q
    · simp; omega
    · have e := steps_one h.1 ks (by omega)
      subst e
      obtain ⟨j, hj, hn⟩ := kn
      exact absurd (h.2 j hj) hn
theorem ord_one {X : List Ins} {Z Y : List Int} (h : OrdS X Z) (k : OrdS X Y) : Z = Y :=
  steps_one h.1 k.1 (Nat.le_antisymm (steps_end k h.1) (steps_end h k.1))
/-- Each that stands does so behind those that must stay ahead of it, far enough. -/
def KeepI (X : List Ins) (Z : List Int) : Prop := ∀ i j, i < j → j < X.length → 0 < farI (xAt X i) (xAt X j) → Stands Z j → Stands Z i ∧ whereI Z i + farI (xAt X i) (xAt X j) ≤ whereI Z j
theorem stands_snoc {Z : List Int} {x : Int} {j : Nat} (h : Stands Z j) : Stands (Z ++ [x]) j ∧ whereI (Z ++ [x]) j = whereI Z j := by
  have e := where_snoc Z x j
  rw [if_pos h] at e
  exact ⟨by unfold Stands; rw [e]; exact h, e⟩
theorem stands_new {Z : List Int} {x : Int} {j : Nat} (h : Stands (Z ++ [x]) j) (hn : ¬ Stands Z j) : x = j ∧ whereI (Z ++ [x]) j = Z.length := by
  have e := where_snoc Z x j
  rw [if_neg hn] at e
  unfold Stands at h
  by_cases q : x = (j : Int)
  · rw [if_pos q] at e; exact ⟨q, e⟩
  · rw [if_neg q] at e; omega
theorem steps_keep {X : List Ins} {Z : List Int} (h : Steps X Z) : KeepI X Z := by
  induction h using steps_ind with
  | nil => intro i j _ _ _ hs; unfold Stands at hs; rw [where_nil] at hs; omega
  | @snoc Z x hs hn hb ih =>
    intro i j hij hj hf hst
    by_cases q : Stands Z j
    · obtain ⟨h1, h2⟩ := ih i j hij hj hf q
      have e1 := stands_snoc (x := x) h1
      have e2 := stands_snoc (x := x) q
      exact ⟨e1.1, by rw [e1.2, e2.2]; exact h2⟩
    · obtain ⟨e1, e2⟩ := stands_new hst q
      rcases hb with ⟨b1, _⟩ | ⟨j', b1, b2, b3, _⟩
      · omega
      · obtain rfl : j' = j := by omega
        obtain ⟨h1, h2⟩ := b3.2 i hij hf
        have e3 := stands_snoc (x := x) h1
        exact ⟨e3.1, by rw [e3.2, e2]; omega⟩
/-- What steps hold: places of the list, each once, or nothing. -/
theorem steps_good {X : List Ins} {Z : List Int} (h : Steps X Z) : GoodK Z X.length Z.length := by
  induction h using steps_ind with
  | nil => intro i h; simp at h
  | @snoc Z x hs hn hb ih =>
    have e0 : ∀ i, i < Z.length → (Z ++ [x]).getD i 0 = Z.getD i 0 := fun i hi => by simp [List.getD, List.getElem?_append_left hi]
    have e1 : (Z ++ [x]).getD Z.length 0 = x := by simp [List.getD]
    intro i hi hne
    by_cases q : i = Z.length
    · subst q
      rw [e1] at hne ⊢
      rcases hb with ⟨b1, _⟩ | ⟨j, b1, b2, b3, _⟩
      · exact absurd b1 hne
      · refine ⟨by omega, by omega, fun k hk e => b3.1 ?_⟩
        rw [e0 k hk] at e
        unfold Stands
        rw [where_mem, ← b1, ← e, show Z.getD k 0 = Z[k] by simp [List.getD, hk]]
        exact List.getElem_mem hk
    · have hi2 : i < Z.length := by simp at hi; omega
      rw [e0 i hi2] at hne ⊢
      obtain ⟨h1, h2, h3⟩ := ih i hi2 hne
      exact ⟨h1, h2, fun j hj => by rw [e0 j (by omega)]; exact h3 j hj⟩
theorem ord_ok {X : List Ins} {Z : List Int} (h : OrdS X Z) : OrdOk Z X.length := by
  refine ⟨steps_good h.1, fun j hj => ?_⟩
  obtain ⟨p, hp, _, e⟩ := where_get (h.2 j hj)
  exact ⟨p, hp, e⟩
theorem ord_keeps {X : List Ins} {Z : List Int} (h : OrdS X Z) : KeepsP X Z := by
  rw [keeps_where (ord_ok h)]
  intro i hi j h1 h2 h3
  exact (steps_keep h.1 i j h1 h2 h3 (h.2 j h2)).2
/-- Where none may stand: the last one is late, and the one ahead of which it must stay is the first that does not stand. -/
theorem none_ready {X : List Ins} {Z : List Int} (hs : Steps X Z) (hn : ∃ j, j < X.length ∧ ¬ Stands Z j) (hb : ∀ j, j < X.length → ¬ ReadyP X Z j) :
    ∃ a : Nat, 0 < Z.length ∧ Z.getD (Z.length - 1) 0 = a ∧ a < X.length ∧ (xAt X a).late = true := by
  obtain ⟨j, hj, hnj⟩ := hn
  -- the first one that does not stand
  obtain ⟨m, hm, hnm, hle⟩ : ∃ m, m < X.length ∧ ¬ Stands Z m ∧ ∀ i, i < m → Stands Z i := by
    induction j using Nat.strongRecOn with
    | ind j ih =>
      by_cases q : ∃ i, i < j ∧ ¬ Stands Z i
      · obtain ⟨i, hi, hni⟩ := q
        exact ih i hi (by omega) hni
      · exact ⟨j, hj, hnj, fun i hi => Classical.byContradiction fun e => q ⟨i, hi, e⟩⟩
  have h1 := hb m hm
  obtain ⟨a, ha, hf, hfar⟩ : ∃ a, a < m ∧ 0 < farI (xAt X a) (xAt X m) ∧ ¬ farI (xAt X a) (xAt X m) ≤ Z.length - whereI Z a := by
    refine Classical.byContradiction fun q => h1 ⟨hnm, fun i hi hf => ⟨hle i hi, Classical.byContradiction fun e => q ⟨i, hi, hf, e⟩⟩⟩
  obtain ⟨p, hp, e1, e2⟩ := where_get (hle a ha)
  have h2 := farI_bd (xAt X a) (xAt X m)
  have h3 : p = Z.length - 1 := by omega
  refine ⟨a, by omega, by rw [← h3]; exact e2, by omega, ((farI_two (xAt X a) (xAt X m)).1 (by omega)).1⟩
def cnt (Z : List Int) : Nat := (seen Z Z.length).length
theorem cnt_snoc (Z : List Int) (x : Int) : cnt (Z ++ [x]) = cnt Z + if x = -1 then 0 else 1 := by
  unfold cnt seen
  rw [List.take_length, List.take_length, List.filter_append, List.length_append]
  congr 1
  by_cases e : x = -1 <;> simp [e]
theorem cnt_nil : cnt [] = 0 := rfl
theorem steps_cnt {X : List Ins} {Z : List Int} (h : Steps X Z) : cnt Z ≤ X.length ∧ (cnt Z = X.length ↔ ∀ j, j < X.length → Stands Z j) := by
  have hg := steps_good h
  have hn := seen_nodup (Nat.le_refl _) hg
  refine ⟨nodup_bound _ _ hn fun x hx => ?_, ?_⟩
  · obtain ⟨h1, i, hi, e⟩ := (mem_seen (Nat.le_refl _) x).1 hx
    have := hg i hi (by rw [e]; exact h1)
    omega
  · unfold cnt
    rw [← ord_count hg]
    constructor
    · intro ho j hj
      obtain ⟨i, hi, e⟩ := ho.2 j hj
      unfold Stands
      rw [where_mem, ← e, show Z.getD i 0 = Z[i] by simp [List.getD, hi]]
      exact List.getElem_mem hi
    · intro hst
      exact ord_ok ⟨h, hst⟩
/-- The last place of steps. -/
def lastI (Z : List Int) : Int := Z.getD (Z.length - 1) 0
theorem lastI_snoc (Z : List Int) (x : Int) : lastI (Z ++ [x]) = x := by simp [lastI, List.getD]
/-- Never two free places side by side; none at the beginning. -/
theorem steps_len {X : List Ins} {Z : List Int} (h : Steps X Z) : Z.length ≤ 2 * cnt Z ∧ (Z ≠ [] → lastI Z ≠ -1 → Z.length + 1 ≤ 2 * cnt Z) := by
  induction h using steps_ind with
  | nil => exact ⟨by simp, fun q => absurd rfl q⟩
  | @snoc Z x hs hn hb ih =>
    rw [cnt_snoc, lastI_snoc, List.length_append, List.length_singleton]
    rcases hb with ⟨b1, b2⟩ | ⟨j, b1, b2, b3, _⟩
    · subst b1
      obtain ⟨a, a1, a2, a3, a4⟩ := none_ready hs hn b2
      have h1 := ih.2 (by intro e; rw [e] at a1; simp at a1) (by unfold lastI; omega)
      refine ⟨by simp; omega, fun _ q => absurd rfl q⟩
    · rw [if_neg (by omega)]
      exact ⟨by omega, fun _ _ => by omega⟩
theorem steps_free {X : List Ins} {Z : List Int} (h : Steps X Z) : (∀ k, k < Z.length → Z.getD k 0 = -1 → 0 < k ∧ Z.getD (k - 1) 0 ≠ -1 ∧ ∃ a : Nat, Z.getD (k - 1) 0 = a ∧ a < X.length ∧ (xAt X a).late = true) := by
  induction h using steps_ind with
  | nil => intro k hk; simp at hk
  | @snoc Z x hs hn hb ih =>
    have e0 : ∀ i, i < Z.length → (Z ++ [x]).getD i 0 = Z.getD i 0 := fun i hi => by simp [List.getD, List.getElem?_append_left hi]
    have e1 : (Z ++ [x]).getD Z.length 0 = x := by simp [List.getD]
    intro k hk he
    by_cases q : k = Z.length
    · subst q
      rw [e1] at he
      rcases hb with ⟨b1, b2⟩ | ⟨j, b1, b2, b3, _⟩
      · obtain ⟨a, a1, a2, a3, a4⟩ := none_ready hs hn b2
        rw [e0 _ (by omega)]
        exact ⟨a1, by omega, a, a2, a3, a4⟩
      · omega
    · have hk2 : k < Z.length := by simp at hk; omega
      rw [e0 k hk2] at he
      rw [e0 (k - 1) (by omega)]
      exact ih k hk2 he
end Go.Proofs.Ytpmofaajkhllpaa
