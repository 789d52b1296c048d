/-
  Mathematics of the order as it is, and of the one with a place left free behind each.
-/
import Derived.Test.YtpmofaajkhllpaaOm
namespace Go.Proofs.Ytpmofaajkhllpaa
set_option maxRecDepth 20000
set_option linter.unusedVariables false
open Go.ChangeShapes Go.WideShapes Go.ChangeAt Go.RowKit

def plainL : Nat → List Int
  | 0 => []
  | n + 1 => plainL n ++ [(n : Int)]
def wideL : Nat → List Int
  | 0 => []
  | n + 1 => wideL n ++ [(n : Int), -1]
theorem plainL_len : ∀ n, (plainL n).length = n
  | 0 => rfl
  | n + 1 => by simp [plainL, plainL_len n]
theorem wideL_len : ∀ n, (wideL n).length = 2 * n
  | 0 => rfl
  | n + 1 => by simp [wideL, wideL_len n]; omega
theorem plainL_at : ∀ (n i : Nat), i < n → (plainL n).getD i 0 = i
  | 0, i, h => by omega
  | n + 1, i, h => by
    have hl := plainL_len n
    unfold plainL
    by_cases e : i < n
    · rw [← plainL_at n i e]
      simp [List.getD, List.getElem?_append_left (show i < (plainL n).length by omega)]
    · obtain rfl : i = n := by omega
      simp [List.getD, hl]
theorem wideL_at : ∀ (n i : Nat), i < n → (wideL n).getD (2 * i) 0 = i ∧ (wideL n).getD (2 * i + 1) 0 = -1
  | 0, i, h => by omega
  | n + 1, i, h => by
    have hl := wideL_len n
    unfold wideL
    by_cases e : i < n
    · have := wideL_at n i e
      rw [← this.1, ← this.2]
      constructor
      · simp [List.getD, List.getElem?_append_left (show 2 * i < (wideL n).length by omega)]
      · simp [List.getD, List.getElem?_append_left (show 2 * i + 1 < (wideL n).length by omega)]
    · obtain rfl : i = n := by omega
      constructor
      · simp [List.getD, hl]
      · simp [List.getD, hl]
theorem wideL_form (n p : Nat) (hp : p < (wideL n).length) : (∃ i, i < n ∧ p = 2 * i ∧ (wideL n).getD p 0 = i) ∨ (wideL n).getD p 0 = -1 := by
  rw [wideL_len] at hp
  by_cases e : p % 2 = 0
  · left
    refine ⟨p / 2, by omega, by omega, ?_⟩
    have := (wideL_at n (p / 2) (by omega)).1
    rwa [show 2 * (p / 2) = p by omega] at this
  · right
    have := (wideL_at n (p / 2) (by omega)).2
    rwa [show 2 * (p / 2) + 1 = p by omega] at this
theorem plain_ord (n : Nat) : OrdOk (plainL n) n := by
  refine ⟨fun i hi hn => ?_, fun j hj => ⟨j, by rw [plainL_len]; exact hj, plainL_at n j hj⟩⟩
  rw [plainL_len] at hi
  rw [plainL_at n i hi]
  refine ⟨by omega, by omega, fun j hj => ?_⟩
  rw [plainL_at n j (by omega)]
  omega
theorem wide_ord (n : Nat) : OrdOk (wideL n) n := by
  refine ⟨fun i hi hn => ?_, fun j hj => ⟨2 * j, by rw [wideL_len]; omega, (wideL_at n j hj).1⟩⟩
  rcases wideL_form n i hi with ⟨a, ha, e1, e2⟩ | e
  · rw [e2]
    refine ⟨by omega, by omega, fun j hj q => ?_⟩
    rcases wideL_form n j (by omega) with ⟨b, hb, e3, e4⟩ | e5
    · omega
    · omega
  · exact absurd e hn
/-- Is what is late at place i - 1 read at place i? -/
def badAt (X : List Ins) (i : Nat) : Bool := (X.getD (i - 1) Ins.zero).late && (X.getD i Ins.zero).rds (X.getD (i - 1) Ins.zero).wr
def okN (X : List Ins) : Nat → Bool
  | 0 => true
  | n + 1 => if n = 0 then true else okN X n && !badAt X n
theorem okN_one (X : List Ins) : okN X 1 = true := rfl
theorem okN_succ (X : List Ins) (n : Nat) (h : 0 < n) : okN X (n + 1) = (okN X n && !badAt X n) := by
  show (if n = 0 then true else okN X n && !badAt X n) = _
  rw [if_neg (by omega)]
theorem okN_iff (X : List Ins) : ∀ n, okN X n = true ↔ ∀ i, 0 < i → i < n → badAt X i = false
  | 0 => by simp [okN]
  | n + 1 => by
    by_cases h : 0 < n
    · rw [okN_succ X n h, Bool.and_eq_true, okN_iff X n, Bool.not_eq_true']
      constructor
      · rintro ⟨h1, h2⟩ i h3 h4
        by_cases e : i = n
        · rw [e]; exact h2
        · exact h1 i h3 (by omega)
      · intro h1
        exact ⟨fun i h3 h4 => h1 i h3 (by omega), h1 n h (by omega)⟩
    · obtain rfl : n = 0 := by omega
      exact ⟨fun _ i h1 h2 => by omega, fun _ => rfl⟩
theorem badAt_iff (X : List Ins) (i : Nat) : badAt X i = true ↔ farI (X.getD (i - 1) Ins.zero) (X.getD i Ins.zero) = 2 := by
  rw [farI_two]
  unfold badAt
  rw [Bool.and_eq_true]
theorem plain_keeps (X : List Ins) : keepsB X (plainL X.length) = okN X X.length := by
  rw [Bool.eq_iff_iff, keepsB_iff, okN_iff]
  constructor
  · rintro ⟨_, h⟩ i h0 hi
    rw [Bool.eq_false_iff]
    intro hb
    have h2 := (badAt_iff X i).1 hb
    have := h (i - 1) i (i - 1) i (by omega) hi (by rw [plainL_len]; omega) (by rw [plainL_len]; omega) (plainL_at _ _ (by omega)) (plainL_at _ _ hi) (by omega)
    omega
  · intro h
    refine ⟨plain_ord _, fun i j p q hij hj hp hq ep eq hf => ?_⟩
    rw [plainL_len] at hp hq
    rw [plainL_at _ _ hp] at ep
    rw [plainL_at _ _ hq] at eq
    have hb := farI_bd (X.getD i Ins.zero) (X.getD j Ins.zero)
    by_cases e : j = i + 1
    · have h1 := h j (by omega) hj
      have h2 : farI (X.getD i Ins.zero) (X.getD j Ins.zero) ≠ 2 := fun q2 => by
        have := (badAt_iff X j).2 (by rw [show j - 1 = i by omega]; exact q2)
        rw [h1] at this
        cases this
      omega
    · omega
theorem wide_keeps (X : List Ins) : keepsB X (wideL X.length) = true := by
  rw [keepsB_iff]
  refine ⟨wide_ord _, fun i j p q hij hj hp hq ep eq hf => ?_⟩
  have hb := farI_bd (X.getD i Ins.zero) (X.getD j Ins.zero)
  rcases wideL_form _ p hp with ⟨a, ha, e1, e2⟩ | e
  · rcases wideL_form _ q hq with ⟨b, hb2, e3, e4⟩ | e5
    · omega
    · omega
  · omega
end Go.Proofs.Ytpmofaajkhllpaa
