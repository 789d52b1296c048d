/-
  How often each instruction stands in an order, and in what is laid.
-/
import Derived.Test.YtpmofaajkhllpaaLw11
import Derived.Test.YtpmofaajkhllpaaPk11
import Derived.Laws.StructEq
namespace Go.Proofs.Ytpmofaajkhllpaa
set_option maxRecDepth 20000
set_option linter.unusedVariables false
open Go.ChangeShapes Go.WideShapes Go.ChangeAt Go.RowKit

theorem seen_filter (Z : List Int) : seen Z Z.length = Z.filter fun x => decide (x ≠ -1) := by unfold seen; rw [List.take_length]
/-- What stands in an order: all places of the list, each once. -/
theorem ord_perm {X : List Ins} {Z : List Int} (h : OrdS X Z) : (Z.filter fun x => decide (x ≠ -1)).Perm ((List.range X.length).map fun i => ((i : Nat) : Int)) := by
  rw [← seen_filter]
  have hg := steps_good h.1
  refine (List.perm_ext_iff_of_nodup (seen_nodup (Nat.le_refl _) hg) ?_).2 fun x => ?_
  · rw [List.nodup_iff_pairwise_ne, List.pairwise_map]
    exact (List.nodup_iff_pairwise_ne.1 List.nodup_range).imp fun hab e => hab (by omega)
  · rw [mem_seen (Nat.le_refl _), List.mem_map]
    constructor
    · rintro ⟨h1, i, hi, e⟩
      have := hg i hi (by rw [e]; exact h1)
      rw [e] at this
      exact ⟨x.toNat, List.mem_range.2 (by omega), by omega⟩
    · rintro ⟨j, hj, rfl⟩
      rw [List.mem_range] at hj
      obtain ⟨p, hp, _, e⟩ := where_get (h.2 j hj)
      exact ⟨by omega, p, hp, e⟩
theorem pick_free (X : List Ins) (f : Ins → Bool) : ∀ Z : List Int, (Z.map (pickI X)).countP f = ((Z.filter fun x => decide (x ≠ -1)).map (pickI X)).countP f + if f Ins.zero = true then Z.count (-1) else 0
  | [] => by simp
  | x :: Z => by
    have ih := pick_free X f Z
    by_cases e : x = -1
    · subst e
      have e2 : pickI X (-1) = Ins.zero := by unfold pickI; rw [if_neg (by omega)]
      rw [List.map_cons, List.countP_cons, ih, e2, List.filter_cons_of_neg (by simp), List.count_cons_self]
      split <;> omega
    · rw [List.map_cons, List.countP_cons, ih, List.filter_cons_of_pos (by simpa using e), List.map_cons, List.countP_cons, List.count_cons_of_ne (by simpa using e)]
      omega
theorem pick_range (X : List Ins) : ((List.range X.length).map fun i => ((i : Nat) : Int)).map (pickI X) = X := by
  rw [List.map_map]
  apply List.ext_getElem
  · simp
  · intro i h1 h2
    simp only [List.getElem_map, List.getElem_range, Function.comp]
    unfold pickI
    rw [if_pos ⟨by omega, by omega⟩]
    simp [List.getD, h2]
/-- What is picked by an order is the list's, and a Nop for each free place. -/
theorem pick_count {X : List Ins} {Z : List Int} (h : OrdS X Z) (f : Ins → Bool) : (Z.map (pickI X)).countP f = X.countP f + if f Ins.zero = true then Z.count (-1) else 0 := by
  rw [pick_free, ((ord_perm h).map (pickI X)).countP_eq f, pick_range]
theorem ord_count1 {X : List Ins} {Z : List Int} (h : OrdS X Z) (j : Nat) (hj : j < X.length) : Z.count (j : Int) = 1 := by
  have e1 : (Z.filter fun x => decide (x ≠ -1)).count (j : Int) = Z.count (j : Int) := by
    rw [List.count_filter (by simp)]
  rw [← e1, (ord_perm h).count_eq, List.Nodup.count]
  · rw [if_pos (List.mem_map.2 ⟨j, List.mem_range.2 hj, rfl⟩)]
  · rw [List.nodup_iff_pairwise_ne, List.pairwise_map]
    exact (List.nodup_iff_pairwise_ne.1 List.nodup_range).imp fun hab e => hab (by omega)
theorem ord_in {X : List Ins} {Z : List Int} (h : OrdS X Z) : ∀ x ∈ Z, x = -1 ∨ ∃ j : Nat, x = j ∧ j < X.length := fun x hx => by
  obtain ⟨i, hi, e⟩ := List.mem_iff_getElem.1 hx
  have := ord_places h i hi
  rw [show Z.getD i 0 = x by simp [List.getD, hi, e]] at this
  exact this
theorem ord_free_len {X : List Ins} {Z : List Int} (h : OrdS X Z) : Z.length = X.length + Z.count (-1) := by
  have h1 := (ord_perm h).length_eq
  have h2 : (Z.filter fun x => decide (x ≠ -1)).length + Z.count (-1) = Z.length := by
    clear h h1
    induction Z with
    | nil => rfl
    | cons x Z ih =>
      by_cases e : x = -1
      · subst e
        rw [List.filter_cons_of_neg (by simp), List.count_cons_self]
        simp only [List.length_cons]
        omega
      · rw [List.filter_cons_of_pos (by simpa using e), List.count_cons_of_ne (by simpa using e)]
        simp only [List.length_cons]
        omega
  rw [List.length_map, List.length_range] at h1
  omega
/-- Late ones of an order so far. -/
def lateZ (X : List Ins) (Z : List Int) : Nat := Z.countP fun x => decide (0 ≤ x) && (xAt X x.toNat).late
theorem lateZ_snoc (X : List Ins) (Z : List Int) (x : Int) : lateZ X (Z ++ [x]) = lateZ X Z + if 0 ≤ x ∧ (xAt X x.toNat).late = true then 1 else 0 := by
  unfold lateZ
  rw [List.countP_append, List.countP_singleton]
  simp
theorem steps_late {X : List Ins} {Z : List Int} (h : Steps X Z) : Z.count (-1) + (if 0 < Z.length ∧ 0 ≤ lastI Z ∧ (xAt X (lastI Z).toNat).late = true then 1 else 0) ≤ lateZ X Z := by
  induction h using steps_ind with
  | nil => simp [lateZ]
  | @snoc Z x hs hn hb ih =>
    rw [lateZ_snoc, lastI_snoc, List.count_append, List.length_append, List.length_singleton]
    rcases hb with ⟨b1, b2⟩ | ⟨j, b1, b2, b3, _⟩
    · subst b1
      obtain ⟨a, a1, a2, a3, a4⟩ := none_ready hs hn b2
      have e : lastI Z = a := a2
      rw [if_pos ⟨a1, by omega, by rw [e, Int.toNat_natCast]; exact a4⟩] at ih
      rw [if_neg (by omega), if_neg (by omega)]
      have : List.count (-1 : Int) [-1] = 1 := by decide
      omega
    · have : List.count (-1 : Int) [x] = 0 := by rw [List.count_singleton]; simp; omega
      rw [this]
      by_cases q : 0 ≤ x ∧ (xAt X x.toNat).late = true
      · rw [if_pos ⟨by omega, q.1, q.2⟩, if_pos q]
        omega
      · rw [if_neg (fun s => q s.2), if_neg q]
        omega
def lateN (X : List Ins) (k : Nat) : Nat := (X.take k).countP Ins.late
theorem lateN_zero (X : List Ins) : lateN X 0 = 0 := by simp [lateN]
theorem lateN_step (X : List Ins) (k : Nat) (hk : k < X.length) : lateN X (k + 1) = lateN X k + if (xAt X k).late = true then 1 else 0 := by
  unfold lateN
  have e : X.take (k + 1) = X.take k ++ [xAt X k] := by rw [List.take_succ_eq_append_getElem hk]; simp [xAt, List.getD, hk]
  rw [e, List.countP_append, List.countP_singleton]
theorem lateN_le (X : List Ins) (k : Nat) : lateN X k ≤ k := by
  unfold lateN
  have h1 := List.countP_le_length (p := Ins.late) (l := X.take k)
  rw [List.length_take] at h1
  omega
theorem ord_late {X : List Ins} {Z : List Int} (h : OrdS X Z) : Z.length ≤ X.length + lateN X X.length ∧ X.length ≤ Z.length := by
  have h1 := steps_late h.1
  have h2 := ord_free_len h
  have h4 : Z.count (-1) ≤ lateZ X Z := Nat.le_trans (Nat.le_add_right _ _) h1
  have h3 : lateZ X Z = lateN X X.length := by
    unfold lateZ lateN
    rw [List.take_length]
    have e1 : (Z.countP fun x => decide (0 ≤ x) && (xAt X x.toNat).late) = ((Z.filter fun x => decide (x ≠ -1)).countP fun x => decide (0 ≤ x) && (xAt X x.toNat).late) := by
      rw [List.countP_filter]
      apply List.countP_congr
      intro x hx
      simp only [Bool.and_eq_true, decide_eq_true_eq]
      exact ⟨fun q => ⟨q, by omega⟩, fun q => q.1⟩
    rw [e1, (ord_perm h).countP_eq]
    have e2 : ∀ l : List Nat, (l.map fun i => ((i : Nat) : Int)).countP (fun x => decide (0 ≤ x) && (xAt X x.toNat).late) = (l.map (xAt X)).countP Ins.late := by
      intro l
      rw [List.countP_map, List.countP_map]
      apply List.countP_congr
      intro x _
      simp
    rw [e2]
    congr 1
    apply List.ext_getElem
    · simp
    · intro i h1 h2
      simp [xAt, List.getD, h2]
  omega
/-- Are two instructions the same? -/
def sameI (x y : Ins) : Bool := decide (x.o = y.o ∧ x.a = y.a ∧ x.b = y.b ∧ x.c = y.c ∧ x.i = y.i)
def cntS (x : Ins) (L : List Ins) (k : Nat) : Nat := (L.take k).countP (sameI x)
theorem cntS_zero (x : Ins) (L : List Ins) : cntS x L 0 = 0 := by simp [cntS]
theorem cntS_step (x : Ins) (L : List Ins) (k : Nat) (hk : k < L.length) : cntS x L (k + 1) = cntS x L k + if sameI x (L.getD k Ins.zero) = true then 1 else 0 := by
  unfold cntS
  have e : L.take (k + 1) = L.take k ++ [L.getD k Ins.zero] := by rw [List.take_succ_eq_append_getElem hk]; simp [List.getD, hk]
  rw [e, List.countP_append, List.countP_singleton]
theorem cntS_le (x : Ins) (L : List Ins) (k : Nat) : cntS x L k ≤ k := by
  unfold cntS
  have h1 := List.countP_le_length (p := sameI x) (l := L.take k)
  rw [List.length_take] at h1
  omega
theorem cntS_pick {X : List Ins} {Z : List Int} (h : OrdS X Z) (x : Ins) : cntS x X X.length ≤ cntS x (Z.map (pickI X)) Z.length ∧ (sameI x Ins.zero = false → cntS x (Z.map (pickI X)) Z.length = cntS x X X.length) := by
  unfold cntS
  have e : (Z.map (pickI X)).take Z.length = Z.map (pickI X) := List.take_of_length_le (by simp)
  rw [e, List.take_length, pick_count h]
  refine ⟨by omega, fun q => ?_⟩
  rw [q]
  simp
theorem sameI_six (x y : Ins) : (sameI x y = true ∧ (x.o == y.o) = true ∧ (x.a == y.a) = true ∧ (x.b == y.b) = true ∧ (x.c == y.c) = true ∧ (x.i == y.i) = true) ∨ (sameI x y = false ∧ (x.o == y.o) = false) ∨ (sameI x y = false ∧ (x.o == y.o) = true ∧ (x.a == y.a) = false) ∨
    (sameI x y = false ∧ (x.o == y.o) = true ∧ (x.a == y.a) = true ∧ (x.b == y.b) = false) ∨ (sameI x y = false ∧ (x.o == y.o) = true ∧ (x.a == y.a) = true ∧ (x.b == y.b) = true ∧ (x.c == y.c) = false) ∨
    (sameI x y = false ∧ (x.o == y.o) = true ∧ (x.a == y.a) = true ∧ (x.b == y.b) = true ∧ (x.c == y.c) = true ∧ (x.i == y.i) = false) := by
  unfold sameI
  simp only [beq_iff_eq, beq_eq_false_iff_ne, ne_eq, decide_eq_true_eq, decide_eq_false_iff_not]
  omega
theorem sameI_zero6 (x : Ins) : (sameI x Ins.zero = true ∧ (x.o == 0) = true ∧ (x.a == 0) = true ∧ (x.b == 0) = true ∧ (x.c == 0) = true ∧ (x.i == 0) = true) ∨ (sameI x Ins.zero = false ∧ (x.o == 0) = false) ∨ (sameI x Ins.zero = false ∧ (x.o == 0) = true ∧ (x.a == 0) = false) ∨
    (sameI x Ins.zero = false ∧ (x.o == 0) = true ∧ (x.a == 0) = true ∧ (x.b == 0) = false) ∨ (sameI x Ins.zero = false ∧ (x.o == 0) = true ∧ (x.a == 0) = true ∧ (x.b == 0) = true ∧ (x.c == 0) = false) ∨
    (sameI x Ins.zero = false ∧ (x.o == 0) = true ∧ (x.a == 0) = true ∧ (x.b == 0) = true ∧ (x.c == 0) = true ∧ (x.i == 0) = false) := sameI_six x Ins.zero
/-- What is laid. -/
theorem layS_slots {X : List Ins} {M : List Int} (h : LayS X M) (h0 : 0 < X.length) : M.length ≤ 2 * X.length + 1 ∧ X.length ≤ M.length ∧ (∀ x ∈ M, x = -1 ∨ ∃ j : Nat, x = j ∧ j < X.length) ∧ (∀ j : Nat, j < X.length → M.count (j : Int) = 1) ∧
    ∃ E, M.length = E + 1 ∧ (M.getD E 0 = -1 ∨ ∃ j : Nat, M.getD E 0 = j ∧ j < X.length ∧ (xAt X j).late = false) ∧ ((xAt X (X.length - 1)).goes = true → ∃ F, E = F + 1 ∧ M.getD F 0 = ((X.length - 1 : Nat) : Int)) := by
  rcases h with ⟨h, _⟩ | ⟨_, hg, Z, hZ, rfl⟩ | ⟨_, hg, Z, hZ, rfl⟩
  · rw [h] at h0; simp at h0
  · have el : (X.take (X.length - 1)).length = X.length - 1 := by rw [List.length_take]; omega
    have z1 := ord_len hZ
    have z2 := (ord_late hZ).2
    have z3 := ord_in hZ
    have z4 := ord_count1 hZ
    have z5 := fstN_le X Z
    have z6 : Z.count ((X.length - 1 : Nat) : Int) = 0 := List.count_eq_zero.2 fun q => by
      rcases z3 _ q with s | ⟨j, s, t⟩ <;> omega
    rw [el] at z1 z2 z3 z4
    unfold layG
    split
    · rename_i hc
      obtain ⟨c1, c2, c3⟩ := hc
      have eZ : Z = Z.take (Z.length - 1) ++ [lastI Z] := by
        have := List.take_succ_eq_append_getElem (l := Z) (i := Z.length - 1) (by omega)
        rw [show Z.length - 1 + 1 = Z.length by omega, List.take_length] at this
        have e2 : lastI Z = Z[Z.length - 1]'(by omega) := by simp [lastI, List.getD, show Z.length - 1 < Z.length by omega]
        rw [e2]
        exact this
      have hl : (Z.take (Z.length - 1)).length = Z.length - 1 := by rw [List.length_take]; omega
      have hin : lastI Z ∈ Z := by rw [eZ]; simp [lastI_snoc]
      refine ⟨by simp; omega, by simp; omega, fun x hx => ?_, fun j hj => ?_, Z.length, by simp; omega, ?_, fun _ => ⟨Z.length - 1, by omega, ?_⟩⟩
      · rcases List.mem_append.1 hx with q | q
        · rcases z3 x (List.mem_of_mem_take q) with s | ⟨j, s, t⟩
          · exact .inl s
          · exact .inr ⟨j, s, by omega⟩
        · simp at q
          rcases q with q | q
          · exact .inr ⟨X.length - 1, q, by omega⟩
          · rcases z3 _ hin with s | ⟨j, s, t⟩
            · exact .inl (by omega)
            · exact .inr ⟨j, by omega, by omega⟩
      · have e3 : Z.count (j : Int) = (Z.take (Z.length - 1)).count (j : Int) + [lastI Z].count (j : Int) := by
          rw [← List.count_append, ← eZ]
        rw [List.count_append, show [((X.length - 1 : Nat) : Int), lastI Z] = [((X.length - 1 : Nat) : Int)] ++ [lastI Z] from rfl, List.count_append, List.count_singleton]
        by_cases q : j = X.length - 1
        · subst q
          rw [z6] at e3
          simp
          omega
        · have := z4 j (by omega)
          rw [if_neg (by simp; omega)]
          omega
      · have e4 : (Z.take (Z.length - 1) ++ [((X.length - 1 : Nat) : Int), lastI Z]).getD Z.length 0 = lastI Z := by
          rw [List.getD, List.getElem?_append_right (by omega), hl, show Z.length - (Z.length - 1) = 1 by omega]
          rfl
        rw [e4]
        rcases z3 _ hin with s | ⟨j, s, t⟩
        · exact .inl s
        · refine .inr ⟨j, s, by omega, ?_⟩
          rw [s, Int.toNat_natCast] at c3
          exact c3
      · rw [List.getD, List.getElem?_append_right (by omega), hl, Nat.sub_self]
        rfl
    · have hl : (padZ X Z).length = Z.length + (fstN X Z - Z.length) := by simp [padZ]
      refine ⟨by simp; omega, by simp; omega, fun x hx => ?_, fun j hj => ?_, (padZ X Z).length + 1, by simp, .inl ?_, fun _ => ⟨(padZ X Z).length, rfl, ?_⟩⟩
      · unfold padZ at hx
        simp only [List.mem_append, List.mem_replicate, List.mem_cons, List.not_mem_nil, or_false] at hx
        rcases hx with (q | q) | q | q
        · rcases z3 x q with s | ⟨j, s, t⟩
          · exact .inl s
          · exact .inr ⟨j, s, by omega⟩
        · exact .inl q.2
        · exact .inr ⟨X.length - 1, q, by omega⟩
        · exact .inl q
      · unfold padZ
        have e5 : (List.replicate (fstN X Z - Z.length) (-1 : Int)).count (j : Int) = 0 := List.count_eq_zero.2 fun q => by
          have := (List.mem_replicate.1 q).2
          omega
        have e6 : [((X.length - 1 : Nat) : Int), -1].count (j : Int) = if j = X.length - 1 then 1 else 0 := by
          rw [show [((X.length - 1 : Nat) : Int), -1] = [((X.length - 1 : Nat) : Int)] ++ [-1] from rfl, List.count_append, List.count_singleton, List.count_singleton]
          by_cases q : j = X.length - 1
          · rw [if_pos (by simp; omega), if_neg (by simp), if_pos q]
          · rw [if_neg (by simp; omega), if_neg (by simp), if_neg q]
        rw [List.count_append, List.count_append, e5, e6]
        by_cases q : j = X.length - 1
        · rw [if_pos q, q, z6]
        · rw [if_neg q, z4 j (by omega)]
      · rw [List.getD, List.getElem?_append_right (by omega), show (padZ X Z).length + 1 - (padZ X Z).length = 1 by omega]
        rfl
      · rw [List.getD, List.getElem?_append_right (by omega), Nat.sub_self]
        rfl
  · have z1 := ord_len hZ
    have z2 := (ord_late hZ).2
    have z3 := ord_in hZ
    have z4 := ord_count1 hZ
    obtain ⟨j, hj, hjX⟩ := ord_last hZ (by omega)
    have hng : (xAt X (X.length - 1)).goes = true → ∀ p : Prop, p := fun q => by rw [hg] at q; cases q
    split
    · rename_i hl
      refine ⟨by simp; omega, by simp; omega, fun x hx => ?_, fun i hi => ?_, Z.length, by simp, .inl ?_, fun q => hng q _⟩
      · rcases List.mem_append.1 hx with q | q
        · exact z3 x q
        · exact .inl (by simpa using q)
      · rw [List.count_append, z4 i hi, List.count_singleton, if_neg (by simp)]
      · simp [List.getD]
    · rename_i hl
      refine ⟨by omega, z2, z3, z4, Z.length - 1, by omega, .inr ⟨j, hj, hjX, ?_⟩, fun q => hng q _⟩
      rw [hj, Int.toNat_natCast] at hl
      simpa using hl
end Go.Proofs.Ytpmofaajkhllpaa
