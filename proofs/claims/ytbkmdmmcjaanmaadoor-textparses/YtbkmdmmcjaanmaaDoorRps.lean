/-
  Plain facts for the reference's Parse of layer 4.
-/
import Derived.Test.YtbkmdmmcjaanmaaDoorNumW
import Derived.Test.YtbkmdmmcjaanmaaDoorRtx
import Derived.Test.YtbkmdmmcjaanmaaDoorRef2R
import Derived.Test.YtbkmdmmcjaanmaaDoorPrs
import Derived.Test.YtbkmdmmcjaanmaaDoorRows1
namespace Go.Proofs.YtbkmdmmcjaanmaaDoor
set_option maxRecDepth 20000
open Go.ChangeShapes Go.WideShapes Go.ChangeAt Go.RowKit
open Go.Lib hiding intOf

theorem nums_step (l : List UInt8) (p : Nat) (h : p < l.length) :
    numsL (l.drop p) = if (numAt (l.drop p)).2 = 0 then numsL (l.drop (p + 1)) else (numAt (l.drop p)).1 :: numsL (l.drop (p + (numAt (l.drop p)).2)) := by
  have e : l.drop p = l[p] :: l.drop (p + 1) := List.drop_eq_getElem_cons h
  generalize hk : (numAt (l.drop p)).2 = k
  generalize hv : (numAt (l.drop p)).1 = v
  rw [e] at hk hv
  rw [e, numsL_cons, hk, hv]
  by_cases h0 : k = 0
  · rw [if_pos h0, if_pos h0]
  · rw [if_neg h0, if_neg h0, List.drop_drop, show p + 1 + (k - 1) = p + k by omega]
theorem numAt_le (T : List UInt8) : (numAt T).2 ≤ T.length ∧ -1000000 < (numAt T).1 ∧ (numAt T).1 < 1000000 := by
  have hv : ∀ T : List UInt8, valOf 0 (digsOf T) < 1000000 := fun T => by
    have hv := val_lt (digsOf T) 0 (digs_mem _)
    have : 10 ^ (digsOf T).length ≤ 10 ^ 6 := Nat.pow_le_pow_right (by omega) (digs_len _)
    omega
  unfold numAt
  split
  next h =>
    cases T with
    | nil => cases h
    | cons c t =>
      have h1 : (digsOf (c :: t).tail).length ≤ t.length := (digs_prefix t).length_le
      have h2 := hv (c :: t).tail
      have h3 : (c :: t).length = t.length + 1 := rfl
      rw [h3]
      by_cases hd : digsOf (c :: t).tail = []
      · rw [if_pos hd]; exact ⟨Nat.zero_le _, by show (-1000000 : Int) < 0; omega, by show (0 : Int) < 1000000; omega⟩
      · rw [if_neg hd]; exact ⟨by show _ + 1 ≤ _; omega, by show (-1000000 : Int) < -_; omega, by show -(_ : Int) < 1000000; omega⟩
  · have h1 := (digs_prefix T).length_le
    have h2 := hv T
    by_cases hd : digsOf T = []
    · rw [if_pos hd]; exact ⟨Nat.zero_le _, by show (-1000000 : Int) < 0; omega, by show (0 : Int) < 1000000; omega⟩
    · rw [if_neg hd]; exact ⟨h1, by show (-1000000 : Int) < ((_ : Nat) : Int); omega, by show ((_ : Nat) : Int) < 1000000; omega⟩
/-- What the search knows at the candidate j of operation k. -/
def Ahead (l : List UInt8) (N : List Int) (k j : Nat) : Prop := ∀ y, parseO l = some y → (k : Int) ≤ y.o ∧ (y.o = k → ∃ j', j ≤ j' ∧ j' < 6 ∧ candI N k j' = y)
theorem ahead_start (l : List UInt8) : Ahead l (numsL l) 0 0 := fun y hy => by
  obtain ⟨hr, ht⟩ := parse_some hy
  have hb := right_bd (show rightB y.o y.a y.b y.c y.i = true from hr)
  refine ⟨by omega, fun h0 => ?_⟩
  obtain ⟨j, hj, e⟩ := cand_of y hr
  rw [ht, h0] at e
  exact ⟨j, Nat.zero_le _, hj, e⟩
theorem ahead_next {l : List UInt8} {N : List Int} {k j : Nat} (h : Ahead l N k j) (hn : parseO l ≠ some (candI N k j)) : Ahead l N k (j + 1) := fun y hy => by
  obtain ⟨h1, h2⟩ := h y hy
  refine ⟨h1, fun e => ?_⟩
  obtain ⟨j', a, b, c⟩ := h2 e
  refine ⟨j', ?_, b, c⟩
  rcases Nat.lt_or_eq_of_le a with a | a
  · exact a
  · subst a; rw [c] at hn; exact absurd hy hn
theorem ahead_op {l : List UInt8} {k : Nat} (h : Ahead l (numsL l) k 6) : Ahead l (numsL l) (k + 1) 0 := fun y hy => by
  obtain ⟨h1, h2⟩ := h y hy
  obtain ⟨hr, ht⟩ := parse_some hy
  have hne : y.o ≠ k := fun e => by obtain ⟨j', a, b, _⟩ := h2 e; omega
  refine ⟨by omega, fun e => ?_⟩
  obtain ⟨j, hj, e'⟩ := cand_of y hr
  rw [ht, e] at e'
  exact ⟨j, Nat.zero_le _, hj, e'⟩
theorem ahead_end {l : List UInt8} {N : List Int} (h : Ahead l N 21 0) : parseO l = none := by
  cases hp : parseO l with
  | none => rfl
  | some y =>
    have hb := right_bd (show rightB y.o y.a y.b y.c y.i = true from (parse_some hp).1)
    have := (h y hp).1
    omega
theorem test_iff (l : List UInt8) (y : Ins) : (y.right = true ∧ y.txt = l) ↔ parseO l = some y := (parse_iff l y).symm
def lenOf : Value → Nat
  | .slice _ n _ => n
  | _ => 0
theorem pad_more {L N : List Int} (h : ∀ k, padL L k = padL N k) : ∀ k, padL (L ++ [0]) k = padL N k := by
  intro k
  rw [← h k]
  unfold padL
  rcases Nat.lt_trichotomy k L.length with h1 | h1 | h1
  · simp [List.getD, List.getElem?_append_left h1]
  · subst h1; simp [List.getD]
  · simp [List.getD, List.getElem?_eq_none (show (L ++ [0]).length ≤ k by simp; omega), List.getElem?_eq_none (show L.length ≤ k by omega)]
theorem int_info : (Tryd.prog.info? 3).map (fun i => (i.zero, i.size, i.bytes)) = some (some (.int .i64 0), 1, 8) := by kernel_rfl
end Go.Proofs.YtbkmdmmcjaanmaaDoor
