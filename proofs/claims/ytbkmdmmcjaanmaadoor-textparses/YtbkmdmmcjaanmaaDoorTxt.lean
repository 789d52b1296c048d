/-
  Plain mathematics of the texts of instructions: numerals, names, parts; what is parsed of a text.
-/
import Derived.Test.YtbkmdmmcjaanmaaDoorRight
import Derived.Lib.ItoaNum
import Derived.Lib.AtoiTie
import Derived.Lib.IndexMore
import Derived.Lib.Join
namespace Go.Proofs.YtbkmdmmcjaanmaaDoor
set_option maxRecDepth 20000
open Go.Lib

/-! ### Numerals -/
theorem decFrom_snoc (l : List UInt8) : ∀ (acc n : Nat) (b : UInt8) (d : Nat), decFrom acc l = some n → digitVal b = some d → decFrom acc (l ++ [b]) = some (n * 10 + d) := by
  induction l with
  | nil => intro acc n b d h hb; simp only [decFrom, Option.some.injEq] at h; subst h; simp [decFrom, hb]
  | cons x r ih =>
    intro acc n b d h hb
    simp only [List.cons_append, decFrom] at h ⊢
    cases hx : digitVal x with
    | none => simp [hx] at h
    | some e => simp only [hx] at h ⊢; exact ih _ _ _ _ h hb
theorem digitVal_of (d : Nat) (h : d < 10) : digitVal (UInt8.ofNat (48 + d)) = some d := by
  have : ∀ d : Fin 10, digitVal (UInt8.ofNat (48 + d.val)) = some d.val := by decide
  exact this ⟨d, h⟩
theorem decFrom_dec (u : Nat) : decFrom 0 (decDigits u) = some u := by
  induction u using Nat.strongRecOn with
  | _ u ih =>
    rw [decDigits]
    by_cases h : u < 10
    · rw [dif_pos h]; simp only [decFrom, digitVal_of u h]; congr 1; omega
    · rw [dif_neg h, decFrom_snoc _ _ _ _ _ (ih (u / 10) (by omega)) (digitVal_of (u % 10) (by omega))]
      congr 1; omega
theorem dec_ne (u : Nat) : decDigits u ≠ [] := by
  intro h
  have h1 := decDigits_length u
  have h2 := nDigits_pos u
  rw [h] at h1
  simp at h1
  omega
def isDig (b : UInt8) : Bool := decide (48 ≤ b.toNat ∧ b.toNat ≤ 57)
theorem dig_of (d : Nat) (h : d < 10) : isDig (UInt8.ofNat (48 + d)) = true := by
  have : ∀ d : Fin 10, isDig (UInt8.ofNat (48 + d.val)) = true := by decide
  exact this ⟨d, h⟩
theorem dec_digs (u : Nat) : ∀ b ∈ decDigits u, isDig b = true := by
  induction u using Nat.strongRecOn with
  | _ u ih =>
    rw [decDigits]
    by_cases h : u < 10
    · rw [dif_pos h]; intro b hb; rw [List.mem_singleton] at hb; subst hb; exact dig_of u h
    · rw [dif_neg h]
      intro b hb
      simp only [List.mem_append, List.mem_singleton] at hb
      rcases hb with hb | rfl
      · exact ih (u / 10) (by omega) b hb
      · exact dig_of (u % 10) (by omega)
theorem dig_ne {b c : UInt8} (h : isDig b = true) (hc : isDig c = false) : b ≠ c := by
  rintro rfl; rw [h] at hc; cases hc
theorem decNat_dec (u : Nat) : decNat (decDigits u) = some u := by
  unfold decNat
  rw [if_neg (by simpa using dec_ne u)]
  exact decFrom_dec u
theorem atoi_itoa (n : Int) : atoi (itoa n) = some n := by
  unfold itoa
  by_cases h : n < 0
  · rw [if_pos h]
    simp only [atoi, decNat_dec]
    simp; omega
  · rw [if_neg h]
    have hd := decNat_dec n.toNat
    have hg := dec_digs n.toNat
    cases hl : decDigits n.toNat with
    | nil => exact absurd hl (dec_ne _)
    | cons b r =>
      rw [hl] at hd hg
      have hb := hg b (by simp)
      have h1 : (b == 45) = false := by simpa using dig_ne hb (c := 45) (by decide)
      have h2 : (b == 43) = false := by simpa using dig_ne hb (c := 43) (by decide)
      simp only [atoi, h1, h2, hd]
      simp; omega
theorem nDigits_le (u : Nat) (k : Nat) (hk : 1 ≤ k) (h : u < 10 ^ k) : nDigits u ≤ k := by
  induction k generalizing u with
  | zero => omega
  | succ k ih =>
    by_cases hu : u < 10
    · rw [nDigits_small hu]; omega
    · rw [nDigits_big hu]
      have hk1 : 1 ≤ k := by
        rcases Nat.eq_zero_or_pos k with rfl | h'
        · simp at h; omega
        · exact h'
      have := ih (u / 10) hk1 (by rw [Nat.pow_succ] at h; omega)
      omega
theorem itoa_len (n : Int) (h0 : -99999 ≤ n) (h1 : n ≤ 99999) : 1 ≤ (itoa n).length ∧ (itoa n).length ≤ 6 := by
  unfold itoa
  split
  · simp only [List.length_cons, decDigits_length]
    have := nDigits_le n.natAbs 5 (by omega) (by simp; omega)
    omega
  · rw [decDigits_length]
    have := nDigits_le n.toNat 5 (by omega) (by simp; omega)
    have := nDigits_pos n.toNat
    omega
/-- What strconv.Atoi makes of a text, its error left aside. -/
def numL (l : List UInt8) : Int := match atoiAll l with
  | .ok v => v
  | .«syntax» => 0
  | .range => atoiSat l
theorem num_itoa (n : Int) (h0 : -99999 ≤ n) (h1 : n ≤ 99999) : numL (itoa n) = n := by
  unfold numL
  rw [atoiAll_short _ (by have := itoa_len n h0 h1; omega), atoi_itoa]
  rfl
theorem itoa_bytes (n : Int) : ∀ b ∈ itoa n, isDig b = true ∨ b = 45 := by
  unfold itoa
  split
  · intro b hb
    simp only [List.mem_cons] at hb
    rcases hb with rfl | hb
    · exact Or.inr rfl
    · exact Or.inl (dec_digs _ b hb)
  · intro b hb; exact Or.inl (dec_digs _ b hb)
theorem itoa_none (n : Int) {c : UInt8} (hc : isDig c = false) (h45 : c ≠ 45) : c ∉ itoa n := by
  intro h
  rcases itoa_bytes n c h with h1 | h1
  · rw [h1] at hc; cases hc
  · exact h45 h1
theorem reg_none (n : Int) {c : UInt8} (hc : isDig c = false) (h45 : c ≠ 45) (h114 : c ≠ 114) : c ∉ (114 :: itoa n) := by
  simp only [List.mem_cons, not_or]
  exact ⟨h114, itoa_none n hc h45⟩

/-! ### Cuts -/
theorem index_at (c : UInt8) (rest : List UInt8) : ∀ x : List UInt8, c ∉ x → index (x ++ c :: rest) [c] = x.length := by
  intro x
  induction x with
  | nil => intro _; simp [index, List.isPrefixOf]
  | cons b r ih =>
    intro h
    simp only [List.mem_cons, not_or] at h
    have := ih h.2
    have hb : (c == b) = false := by simpa using h.1
    simp only [List.cons_append, index, List.isPrefixOf, hb, Bool.false_and, this]
    simp
theorem index_no (c : UInt8) : ∀ x : List UInt8, c ∉ x → index x [c] = -1 := by
  intro x
  induction x with
  | nil => intro _; simp [index]
  | cons b r ih =>
    intro h
    simp only [List.mem_cons, not_or] at h
    have := ih h.2
    have hb : (c == b) = false := by simpa using h.1
    simp [index, List.isPrefixOf, hb, this]
theorem cut_at {c : UInt8} {x rest : List UInt8} (h : c ∉ x) : cut (x ++ c :: rest) [c] = (x, rest, true) := by
  unfold cut
  rw [index_at c rest x h, if_pos (by omega)]
  simp
theorem cut_no {c : UInt8} {x : List UInt8} (h : c ∉ x) : cut x [c] = (x, [], false) := by
  unfold cut
  rw [index_no c x h, if_neg (by omega)]
theorem trim_r (x : List UInt8) : trimPrefix (114 :: x) [114] = x := by
  simp [trimPrefix, hasPrefix, List.isPrefixOf]
theorem trim_no (x : List UInt8) (h : 114 ∉ x) : trimPrefix x [114] = x := by
  unfold trimPrefix hasPrefix
  cases x with
  | nil => rfl
  | cons b r =>
    have : (114 == b) = false := by simp only [List.mem_cons, not_or] at h; simpa using h.1
    simp [List.isPrefixOf, this]

/-! ### Texts -/
def names : List (List UInt8) := [[110, 111, 112], [97, 100, 100], [115, 117, 98], [109, 117, 108], [100, 105, 118], [109, 111, 100], [97, 110, 100], [111, 114], [115, 108, 116], [115, 101, 113], [97, 100, 100, 105], [108, 117, 105], [108, 119], [115, 119], [99, 104, 101, 99, 107], [98, 101, 113], [98, 110, 101], [106, 109, 112], [106, 97, 108], [106, 114], [115, 121, 115]]
def nameL (op : Int) : List UInt8 := if 0 ≤ op then names.getD op.toNat [] else []
def immB (op : Int) : Bool := decide (10 ≤ op ∧ op ≤ 18 ∨ op = 20)
def regL (n : Int) : List UInt8 := 114 :: itoa n
/-- The parts of a text, each by itself. -/
def partsL (op a b c imm : Int) : List (List UInt8) := ([a, b, c].take (regsOf op).toNat).map regL ++ if immB op then [itoa imm] else []
def txtL (op a b c imm : Int) : List UInt8 := if partsL op a b c imm = [] then nameL op else nameL op ++ 32 :: join (partsL op a b c imm) [44]
/-- What Text tells. -/
def textL (op a b c imm : Int) : List UInt8 := if rightB op a b c imm then txtL op a b c imm else []
/-- The operation of a name, or 21. -/
def namedF (name : List UInt8) : Nat → Nat → Int
  | 0, k => k
  | f + 1, k => if nameL k = name then k else namedF name f (k + 1)
def namedL (name : List UInt8) : Int := namedF name 21 0
def cutN (l : List UInt8) : Int × List UInt8 := (numL (trimPrefix (cut l [44]).1 [114]), (cut l [44]).2.1)
/-- What is read of the parts: A, B, C, and what stands behind them. -/
def readR (r : Int) (l : List UInt8) : Int × Int × Int × List UInt8 :=
  if r ≤ 0 then (0, 0, 0, l) else if r = 1 then ((cutN l).1, 0, 0, (cutN l).2)
  else if r = 2 then ((cutN l).1, (cutN (cutN l).2).1, 0, (cutN (cutN l).2).2)
  else ((cutN l).1, (cutN (cutN l).2).1, (cutN (cutN (cutN l).2).2).1, (cutN (cutN (cutN l).2).2).2)
def readI (op : Int) (l : List UInt8) : Int := if immB op then (cutN (readR (regsOf op) l).2.2.2).1 else 0
structure Ins where
  o : Int
  a : Int
  b : Int
  c : Int
  i : Int
def Ins.right (x : Ins) : Bool := rightB x.o x.a x.b x.c x.i
def Ins.txt (x : Ins) : List UInt8 := txtL x.o x.a x.b x.c x.i
def Ins.text (x : Ins) : List UInt8 := textL x.o x.a x.b x.c x.i
def Ins.zero : Ins := ⟨0, 0, 0, 0, 0⟩
def readL (op : Int) (l : List UInt8) : Ins := ⟨op, (readR (regsOf op) l).1, (readR (regsOf op) l).2.1, (readR (regsOf op) l).2.2.1, readI op l⟩
/-- What Parse finds. -/
def parseO (s : List UInt8) : Option Ins :=
  if namedL (cut s [32]).1 = 21 then none else if (readL (namedL (cut s [32]).1) (cut s [32]).2.1).text = s then some (readL (namedL (cut s [32]).1) (cut s [32]).2.1) else none

theorem ops_split {P : Int → Prop} {op : Int} (h : 0 ≤ op ∧ op ≤ 20) (hP : P 0 ∧ P 1 ∧ P 2 ∧ P 3 ∧ P 4 ∧ P 5 ∧ P 6 ∧ P 7 ∧ P 8 ∧ P 9 ∧ P 10 ∧ P 11 ∧ P 12 ∧ P 13 ∧ P 14 ∧ P 15 ∧ P 16 ∧ P 17 ∧ P 18 ∧ P 19 ∧ P 20) : P op := by
  obtain ⟨p0, p1, p2, p3, p4, p5, p6, p7, p8, p9, p10, p11, p12, p13, p14, p15, p16, p17, p18, p19, p20⟩ := hP
  have hc : op = 0 ∨ op = 1 ∨ op = 2 ∨ op = 3 ∨ op = 4 ∨ op = 5 ∨ op = 6 ∨ op = 7 ∨ op = 8 ∨ op = 9 ∨ op = 10 ∨ op = 11 ∨ op = 12 ∨ op = 13 ∨ op = 14 ∨ op = 15 ∨ op = 16 ∨ op = 17 ∨ op = 18 ∨ op = 19 ∨ op = 20 := by omega
  rcases hc with rfl | rfl | rfl | rfl | rfl | rfl | rfl | rfl | rfl | rfl | rfl | rfl | rfl | rfl | rfl | rfl | rfl | rfl | rfl | rfl | rfl <;> assumption
theorem name_facts {op : Int} (h : 0 ≤ op ∧ op ≤ 20) : (nameL op).all (fun b => decide (97 ≤ b.toNat ∧ b.toNat ≤ 122)) = true ∧ nameL op ≠ [] ∧ namedL (nameL op) = op ∧ (nameL op).length ≤ 5 := by
  refine ops_split (P := fun op => (nameL op).all (fun b => decide (97 ≤ b.toNat ∧ b.toNat ≤ 122)) = true ∧ nameL op ≠ [] ∧ namedL (nameL op) = op ∧ (nameL op).length ≤ 5) h ?_
  exact ⟨by decide, by decide, by decide, by decide, by decide, by decide, by decide, by decide, by decide, by decide, by decide, by decide, by decide, by decide, by decide, by decide, by decide, by decide, by decide, by decide, by decide⟩
theorem name_no {op : Int} (h : 0 ≤ op ∧ op ≤ 20) {c : UInt8} (hc : c.toNat < 97) : c ∉ nameL op := by
  intro hm
  have := List.all_eq_true.1 (name_facts h).1 c hm
  simp at this
  omega
/-- The texts by the operations' classes. -/
theorem txt_cases (op a b c imm : Int) (h : rightB op a b c imm = true) :
    (op = 0 ∧ a = 0 ∧ b = 0 ∧ c = 0 ∧ imm = 0 ∧ txtL op a b c imm = nameL op) ∨
    (1 ≤ op ∧ op ≤ 9 ∧ imm = 0 ∧ txtL op a b c imm = nameL op ++ 32 :: (regL a ++ 44 :: (regL b ++ 44 :: regL c))) ∨
    ((op = 10 ∨ 12 ≤ op ∧ op ≤ 16) ∧ c = 0 ∧ txtL op a b c imm = nameL op ++ 32 :: (regL a ++ 44 :: (regL b ++ 44 :: itoa imm))) ∨
    (op = 11 ∧ b = 0 ∧ c = 0 ∧ txtL op a b c imm = nameL op ++ 32 :: (regL a ++ 44 :: itoa imm)) ∨
    ((op = 17 ∨ op = 18 ∨ op = 20) ∧ a = 0 ∧ b = 0 ∧ c = 0 ∧ txtL op a b c imm = nameL op ++ 32 :: itoa imm) ∨
    (op = 19 ∧ b = 0 ∧ c = 0 ∧ imm = 0 ∧ txtL op a b c imm = nameL op ++ 32 :: regL a) := by
  have hz : ∀ n, regB n false = true → n = 0 := by intro n; simp [regB]
  unfold rightB at h
  simp only [Bool.and_eq_true, decide_eq_true_eq] at h
  obtain ⟨⟨⟨⟨h1, h2⟩, h3⟩, h4⟩, h5⟩ := h
  have h6 : 0 ≤ op ∧ op ≤ 20 := by simpa [okOp] using h1
  have hc : op = 0 ∨ op = 1 ∨ op = 2 ∨ op = 3 ∨ op = 4 ∨ op = 5 ∨ op = 6 ∨ op = 7 ∨ op = 8 ∨ op = 9 ∨ op = 10 ∨ op = 11 ∨ op = 12 ∨ op = 13 ∨ op = 14 ∨ op = 15 ∨ op = 16 ∨ op = 17 ∨ op = 18 ∨ op = 19 ∨ op = 20 := by omega
  rcases hc with rfl | rfl | rfl | rfl | rfl | rfl | rfl | rfl | rfl | rfl | rfl | rfl | rfl | rfl | rfl | rfl | rfl | rfl | rfl | rfl | rfl <;>
    simp [regsOf, leastOf, mostOf, regB, txtL, partsL, immB, join, List.intercalate] at * <;> omega
end Go.Proofs.YtbkmdmmcjaanmaaDoor
