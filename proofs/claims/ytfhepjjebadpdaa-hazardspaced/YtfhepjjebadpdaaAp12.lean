/-
  Code that grows by two instructions at a time.
-/
import Derived.Test.YtfhepjjebadpdaaApp9
import Derived.Test.YtfhepjjebadpdaaHz12
namespace Go.Proofs.Ytfhepjjebadpdaa
set_option maxRecDepth 20000
set_option linter.unusedVariables false
open Go.ChangeShapes Go.WideShapes Go.ChangeAt Go.RowKit

theorem rowC_bel {n₀ : Nat} {e : TypeId} {W W' : World} {v : Value} {n : Nat} {xs : List Value} (h : W.ownsRow n₀ e 5 v n xs) (hb : Bel W W') : W'.ownsRow n₀ e 5 v n xs := by
  refine ⟨h.1, ?_⟩
  rcases h.2 with hn | ⟨g, cap, cur, rfl, hg, hgg, rest⟩
  · exact .inl hn
  · exact .inr ⟨g, cap, cur, rfl, hg, (hb.out.block g (lt_of_heap hgg)).trans hgg, rest⟩
theorem code_row {w : World} {base : Nat} {v : Value} {X : List Ins} (h : w.ownsRow base 31 5 v X.length (flatC X)) : Code w v X := by
  rcases h.2 with ⟨e, he⟩ | ⟨g, cap, cur, e, hrest⟩
  · subst e
    exact ⟨none, 0, by rw [he], fun hn => absurd hn (by omega)⟩
  · exact code_of_own h ⟨g, cap, e⟩
set_option maxRecDepth 100000 in
/-- One 'append(dst, x, y)', dst nil or a row of instructions that the call made. -/
theorem append_pair {ops : Array Oper} {rest : List Oper} {o : Oper} {a : Act} {Q : Exit → Act → World → Prop} (w : World) (hgd : o.guard = none) (s x : Operand)
    (ho : o.op = .call { callee := .builtin .append, args := #[s, x], argTypes := #[22, 22] })
    (base : Nat) (v : Value) (Y : List Ins) (p q : Ins) (hs : a.eval s = v) (hown : w.ownsRow base 31 5 v Y.length (flatC Y))
    (k c : Nat) (hx : a.eval x = .slice (some ⟨k, 0, none⟩) 2 c) (hcode : Code w (.slice (some ⟨k, 0, none⟩) 2 c) [p, q])
    (hlen : Y.length + 2 ≤ 10000) (hbase : base ≤ w.heap.size)
    (h : ∀ v' w', w'.ownsRow base 31 5 v' (Y ++ [p, q]).length (flatC (Y ++ [p, q])) → w.grownBy w' v.ownBlock → wpList Try.prog ops Q rest (a.put o.dst v') w') : wpList Try.prog ops Q (o :: rest) a w := by
  obtain ⟨i0, hi, hz0, hz1, hz2⟩ := info_parts instrInfo
  obtain ⟨ao, c', e, hca⟩ := hcode
  cases e
  obtain ⟨b, o', e, hb, hat⟩ := hca (by simp)
  injection e with e
  injection e with e1 e2 e3
  subst e1 e2
  refine wpList_append_own _ hgd s x 22 ho base 31 i0 _ 5 40 Try.underlying22 hi hz0 hz1 hz2 rfl (by decide) v Y.length (flatC Y) hs hown ⟨k, 0, none⟩ 2 c (flatC [p, q]) hx (flatC_len [p, q]) (cell_of_flat hat) (flatC_one [p, q]) (by unfold maxLen; omega) (by omega) hbase ?_
  intro v' w' h1 h2 _
  refine h v' w' ?_ h2
  rw [flatC_append, List.length_append]
  exact h1
theorem wide_take {X : List Ins} {k : Nat} (hk : k < X.length) : wideX (X.take (k + 1)) = wideX (X.take k) ++ [X.getD k Ins.zero, Ins.zero] := by
  have happ : ∀ a b : List Ins, wideX (a ++ b) = wideX a ++ wideX b := by
    intro a b
    induction a with
    | nil => rfl
    | cons y l ih => simp only [List.cons_append, wideX, ih]
  rw [List.take_succ_eq_append_getElem hk, happ]
  congr 1
  simp [wideX, List.getD, hk]
theorem fst_in (X : List Ins) : ∀ d, d ≤ X.length → (fstF X d).2 = 0 ∨ ∃ k, k < X.length ∧ (fstF X d).2 = faultI X k
  | 0, _ => .inl rfl
  | d + 1, h => by
    unfold fstF
    split
    · exact .inr ⟨_, by omega, rfl⟩
    · exact fst_in X d (by omega)
theorem wide_first (X : List Ins) : (fstF (wideX X) (wideX X).length).2 = 0 ∨ (fstF (wideX X) (wideX X).length).2 = 1 := by
  rcases fst_in (wideX X) _ (Nat.le_refl _) with h | ⟨k, hk, h⟩
  · exact .inl h
  · rw [h]
    rw [wideX_len] at hk
    have hf := wide_fault X (k / 2)
    have hm : k % 2 = 0 ∨ k % 2 = 1 := by omega
    rcases hm with e | e
    · rw [show k = 2 * (k / 2) by omega, hf.1]
      rw [if_pos (show 2 * (k / 2) + 1 < 2 * X.length ∨ _ from .inl (by omega))]
      split
      · exact .inr rfl
      · exact .inl rfl
    · rw [show k = 2 * (k / 2) + 1 by omega, hf.2]
      exact .inl rfl
/-- Do two go side by side, of the first k ones? -/
def twoN (X : List Ins) (k : Nat) : Bool := (List.range k).any fun j => decide (0 < j) && (X.getD j Ins.zero).goes && (X.getD (j - 1) Ins.zero).goes
theorem twoN_zero (X : List Ins) : twoN X 0 = false := rfl
theorem twoN_succ (X : List Ins) (k : Nat) : twoN X (k + 1) = (twoN X k || (decide (0 < k) && (X.getD k Ins.zero).goes && (X.getD (k - 1) Ins.zero).goes)) := by
  unfold twoN
  simp [List.range_succ]
theorem twoN_one (X : List Ins) : twoN X 0 = false ∧ twoN X (0 + 1) = false := by
  rw [twoN_succ, twoN_zero]
  exact ⟨rfl, by simp⟩
theorem two_step {X : List Ins} {m : Nat} :
    (twoN X (m + 1) = true ∧ twoN X (m + 1 + 1) = true) ∨ (twoN X (m + 1) = false ∧ (X.getD (m + 1) Ins.zero).goes = false ∧ twoN X (m + 1 + 1) = false) ∨
    (twoN X (m + 1) = false ∧ (X.getD (m + 1) Ins.zero).goes = true ∧ (X.getD m Ins.zero).goes = false ∧ twoN X (m + 1 + 1) = false) ∨ (twoN X (m + 1) = false ∧ (X.getD (m + 1) Ins.zero).goes = true ∧ (X.getD m Ins.zero).goes = true ∧ twoN X (m + 1 + 1) = true) := by
  rw [twoN_succ X (m + 1), Nat.add_sub_cancel]
  cases twoN X (m + 1) <;> cases (X.getD (m + 1) Ins.zero).goes <;> cases (X.getD m Ins.zero).goes <;> simp
theorem two_end {X : List Ins} (p : Bool) (h : twoN X X.length = p) : p = false ∨ (p = true ∧ safeB X = false) := by
  cases p
  · exact .inl rfl
  · right
    refine ⟨rfl, ?_⟩
    unfold twoN at h
    obtain ⟨j, hj, hh⟩ := List.any_eq_true.1 h
    rw [Bool.and_eq_true, Bool.and_eq_true, decide_eq_true_eq] at hh
    have hj2 := List.mem_range.1 hj
    refine two_fault (k := j - 1) (by omega) hh.2 ?_
    rw [show j - 1 + 1 = j by omega]
    exact hh.1.2
end Go.Proofs.Ytfhepjjebadpdaa
