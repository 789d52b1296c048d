/-
  Plain mathematics: what is told is parsed, and the other way round; the numbers that stand in a text.
-/
import Derived.Test.YtbkmdmmcjaanmaaDoorTxt
namespace Go.Proofs.YtbkmdmmcjaanmaaDoor
set_option maxRecDepth 20000
open Go.Lib

theorem cutN_reg {n : Int} (rest : List UInt8) (h0 : 0 ≤ n) (h1 : n ≤ 31) : cutN (regL n ++ 44 :: rest) = (n, rest) := by
  unfold cutN regL
  rw [cut_at (reg_none n (by decide) (by decide) (by decide))]
  simp only [trim_r, num_itoa n (by omega) (by omega)]
theorem cutN_regE {n : Int} (h0 : 0 ≤ n) (h1 : n ≤ 31) : cutN (regL n) = (n, []) := by
  unfold cutN regL
  rw [cut_no (reg_none n (by decide) (by decide) (by decide))]
  simp only [trim_r, num_itoa n (by omega) (by omega)]
theorem cutN_imm {n : Int} (h0 : -32768 ≤ n) (h1 : n ≤ 32767) : cutN (itoa n) = (n, []) := by
  unfold cutN
  rw [cut_no (itoa_none n (by decide) (by decide))]
  simp only [trim_no _ (itoa_none n (c := 114) (by decide) (by decide)), num_itoa n (by omega) (by omega)]

theorem txt_ne {op a b c imm : Int} (h : rightB op a b c imm = true) : txtL op a b c imm ≠ [] := by
  have hb := right_bd h
  have hn := (name_facts (op := op) ⟨hb.1, hb.2.1⟩).2.1
  rcases txt_cases op a b c imm h with ⟨_, _, _, _, _, e⟩ | ⟨_, _, _, e⟩ | ⟨_, _, e⟩ | ⟨_, _, _, e⟩ | ⟨_, _, _, _, e⟩ | ⟨_, _, _, _, e⟩ <;> rw [e] <;> simp [hn]

theorem cut_txt {op : Int} (h : 0 ≤ op ∧ op ≤ 20) (x : List UInt8) : cut (nameL op ++ 32 :: x) [32] = (nameL op, x, true) := cut_at (name_no h (by decide))
theorem parse_text (x : Ins) (h : x.right = true) : parseO x.txt = some x := by
  obtain ⟨op, a, b, c, imm⟩ := x
  have h' : rightB op a b c imm = true := h
  have hb := right_bd h'
  have ho : 0 ≤ op ∧ op ≤ 20 := ⟨hb.1, hb.2.1⟩
  have hn := name_facts ho
  have hx : (⟨op, a, b, c, imm⟩ : Ins).text = (⟨op, a, b, c, imm⟩ : Ins).txt := by
    unfold Ins.text Ins.txt textL; rw [if_pos h']
  have key : (cut (txtL op a b c imm) [32]).1 = nameL op ∧ readL op (cut (txtL op a b c imm) [32]).2.1 = ⟨op, a, b, c, imm⟩ := by
    rcases txt_cases op a b c imm h' with ⟨e0, e1, e2, e3, e4, e⟩ | ⟨e0, e1, e2, e⟩ | ⟨e0, e1, e⟩ | ⟨e0, e1, e2, e⟩ | ⟨e0, e1, e2, e3, e⟩ | ⟨e0, e1, e2, e3, e⟩ <;> rw [e]
    · rw [cut_no (name_no ho (by decide))]
      subst e0 e1 e2 e3 e4
      exact ⟨rfl, by show (⟨_, _, _, _, _⟩ : Ins) = ⟨_, _, _, _, _⟩; rw [Ins.mk.injEq]; decide⟩
    · rw [cut_txt ho]
      have hr : regsOf op = 3 := by unfold regsOf; omega
      have hi : immB op = false := by unfold immB; simp; omega
      refine ⟨rfl, ?_⟩
      simp only [readL, readI, hi, hr, readR, cutN_reg _ hb.2.2.1 hb.2.2.2.1, cutN_reg _ hb.2.2.2.2.1 hb.2.2.2.2.2.1, cutN_regE hb.2.2.2.2.2.2.1 hb.2.2.2.2.2.2.2.1]
      simp [e2]
    · rw [cut_txt ho]
      have hr : regsOf op = 2 := by unfold regsOf; omega
      have hi : immB op = true := by unfold immB; simp; omega
      refine ⟨rfl, ?_⟩
      simp only [readL, readI, hi, hr, readR, cutN_reg _ hb.2.2.1 hb.2.2.2.1, cutN_reg _ hb.2.2.2.2.1 hb.2.2.2.2.2.1]
      simp [e1, cutN_imm hb.2.2.2.2.2.2.2.2.1 hb.2.2.2.2.2.2.2.2.2]
    · rw [cut_txt ho]
      have hr : regsOf op = 1 := by unfold regsOf; omega
      have hi : immB op = true := by unfold immB; simp; omega
      refine ⟨rfl, ?_⟩
      simp only [readL, readI, hi, hr, readR, cutN_reg _ hb.2.2.1 hb.2.2.2.1]
      simp [e1, e2, cutN_imm hb.2.2.2.2.2.2.2.2.1 hb.2.2.2.2.2.2.2.2.2]
    · rw [cut_txt ho]
      have hr : regsOf op = 0 := by unfold regsOf; omega
      have hi : immB op = true := by unfold immB; simp; omega
      refine ⟨rfl, ?_⟩
      simp only [readL, readI, hi, hr, readR]
      simp [e1, e2, e3, cutN_imm hb.2.2.2.2.2.2.2.2.1 hb.2.2.2.2.2.2.2.2.2]
    · rw [cut_txt ho]
      have hr : regsOf op = 1 := by unfold regsOf; omega
      have hi : immB op = false := by unfold immB; simp; omega
      refine ⟨rfl, ?_⟩
      simp only [readL, readI, hi, hr, readR, cutN_regE hb.2.2.1 hb.2.2.2.1]
      simp [e1, e2, e3]
  unfold parseO
  rw [show (⟨op, a, b, c, imm⟩ : Ins).txt = txtL op a b c imm from rfl, key.1, hn.2.2.1, if_neg (by omega), key.2, hx]
  exact if_pos rfl
theorem parse_some {s : List UInt8} {x : Ins} (h : parseO s = some x) : x.right = true ∧ x.txt = s := by
  unfold parseO at h
  split at h
  · cases h
  next h21 =>
    split at h
    next e =>
      injection h with h
      rw [h] at e
      by_cases hr : x.right = true
      · refine ⟨hr, ?_⟩
        rw [← e]; exact (if_pos hr).symm
      · exfalso
        have e' : x.text = [] := if_neg hr
        rw [e'] at e
        subst e
        exact h21 (by decide)
    · cases h
/-- Parse finds just the right instruction of the text. -/
theorem parse_iff (s : List UInt8) (x : Ins) : parseO s = some x ↔ x.right = true ∧ x.txt = s :=
  ⟨parse_some, fun ⟨h, e⟩ => e ▸ parse_text x h⟩
theorem txt_inj {x y : Ins} (hx : x.right = true) (hy : y.right = true) (h : x.txt = y.txt) : x = y := by
  have h1 := parse_text x hx
  rw [h, parse_text y hy] at h1
  injection h1 with h1
  exact h1.symm
theorem txt_len {op a b c imm : Int} (h : rightB op a b c imm = true) : 1 ≤ (txtL op a b c imm).length ∧ (txtL op a b c imm).length ≤ 24 := by
  have hb := right_bd h
  have hn := name_facts (op := op) ⟨hb.1, hb.2.1⟩
  have hn1 : 1 ≤ (nameL op).length := List.length_pos_iff.2 hn.2.1
  have r : ∀ n : Int, 0 ≤ n → n ≤ 31 → (regL n).length ≤ 3 := by
    intro n h0 h1
    have : (itoa n).length ≤ 2 := by
      unfold itoa; rw [if_neg (by omega), decDigits_length]
      exact nDigits_le _ 2 (by omega) (by simp; omega)
    simp [regL]; omega
  have ra := r a hb.2.2.1 hb.2.2.2.1
  have rb := r b hb.2.2.2.2.1 hb.2.2.2.2.2.1
  have rc := r c hb.2.2.2.2.2.2.1 hb.2.2.2.2.2.2.2.1
  have ri := itoa_len imm (by omega) (by omega)
  rcases txt_cases op a b c imm h with ⟨_, _, _, _, _, e⟩ | ⟨_, _, _, e⟩ | ⟨_, _, e⟩ | ⟨_, _, _, e⟩ | ⟨_, _, _, _, e⟩ | ⟨_, _, _, _, e⟩ <;> rw [e] <;> (try simp only [List.length_append, List.length_cons]) <;> omega
theorem text_len (op a b c imm : Int) : (textL op a b c imm).length ≤ 24 := by
  unfold textL
  split
  next h => exact (txt_len h).2
  · simp

/-! ### The numbers of a text, as the reference finds them -/
def digsOf (l : List UInt8) : List UInt8 := (l.take 6).takeWhile isDig
def valOf (acc : Nat) : List UInt8 → Nat
  | [] => acc
  | b :: r => valOf (10 * acc + (b.toNat - 48)) r
/-- The number that begins a text, and how long it is; 0: there is none. -/
def numAt (l : List UInt8) : Int × Nat :=
  if l.head? = some 45 then (if digsOf l.tail = [] then (0, 0) else (-(valOf 0 (digsOf l.tail) : Int), (digsOf l.tail).length + 1))
  else (if digsOf l = [] then (0, 0) else ((valOf 0 (digsOf l) : Int), (digsOf l).length))
def numsF : Nat → List UInt8 → List Int
  | 0, _ => []
  | _ + 1, [] => []
  | n + 1, c :: t => if (numAt (c :: t)).2 = 0 then numsF n t else (numAt (c :: t)).1 :: numsF n (t.drop ((numAt (c :: t)).2 - 1))
theorem numsF_nil (n : Nat) : numsF n [] = [] := by cases n <;> rfl
theorem numsF_more : ∀ (n m : Nat) (l : List UInt8), l.length ≤ n → l.length ≤ m → numsF n l = numsF m l
  | _, m, [], _, _ => by rw [numsF_nil, numsF_nil]
  | 0, _, c :: t, h, _ => by simp at h
  | _ + 1, 0, c :: t, _, h => by simp at h
  | n + 1, m + 1, c :: t, h, k => by
    simp only [List.length_cons] at h k
    show (if (numAt (c :: t)).2 = 0 then numsF n t else (numAt (c :: t)).1 :: numsF n (t.drop ((numAt (c :: t)).2 - 1))) = (if (numAt (c :: t)).2 = 0 then numsF m t else (numAt (c :: t)).1 :: numsF m (t.drop ((numAt (c :: t)).2 - 1)))
    rw [numsF_more n m t (by omega) (by omega), numsF_more n m (t.drop ((numAt (c :: t)).2 - 1)) (by simp; omega) (by simp; omega)]
def numsL (l : List UInt8) : List Int := numsF l.length l
theorem numsL_nil : numsL [] = [] := rfl
theorem numsL_cons (c : UInt8) (t : List UInt8) : numsL (c :: t) = if (numAt (c :: t)).2 = 0 then numsL t else (numAt (c :: t)).1 :: numsL (t.drop ((numAt (c :: t)).2 - 1)) := by
  unfold numsL
  show (if (numAt (c :: t)).2 = 0 then numsF t.length t else (numAt (c :: t)).1 :: numsF t.length (t.drop ((numAt (c :: t)).2 - 1))) = _
  rw [numsF_more t.length (t.drop ((numAt (c :: t)).2 - 1)).length (t.drop ((numAt (c :: t)).2 - 1)) (by simp) (Nat.le_refl _)]
theorem nums_skip {c : UInt8} {t : List UInt8} (h : isDig c = false) (h45 : c ≠ 45) : numsL (c :: t) = numsL t := by
  rw [numsL_cons, if_pos]
  unfold numAt
  rw [if_neg (by simpa using h45), if_pos]
  simp [digsOf, h]
theorem nums_skips : ∀ (x t : List UInt8), (∀ b ∈ x, isDig b = false ∧ b ≠ 45) → numsL (x ++ t) = numsL t
  | [], t, _ => rfl
  | b :: r, t, h => by
    rw [List.cons_append, nums_skip (h b (by simp)).1 (h b (by simp)).2]
    exact nums_skips r t fun b hb => h b (by simp [hb])
theorem digs_of {x t : List UInt8} (hx : ∀ b ∈ x, isDig b = true) (hl : x.length ≤ 6) (ht : x.length = 6 ∨ t = [] ∨ ∃ b r, t = b :: r ∧ isDig b = false) : digsOf (x ++ t) = x := by
  unfold digsOf
  rw [List.take_append, List.take_of_length_le hl, List.takeWhile_append_of_pos hx]
  have e : (t.take (6 - x.length)).takeWhile isDig = [] := by
    rcases ht with ht | ht | ⟨b, r, ht, hb⟩
    · rw [ht]; rfl
    · rw [ht, List.take_nil]; rfl
    · rw [ht]
      cases 6 - x.length with
      | zero => rfl
      | succ k => rw [List.take_succ_cons, List.takeWhile_cons_of_neg (by simp [hb])]
  rw [e, List.append_nil]
theorem val_dec (l : List UInt8) : ∀ (acc n : Nat), decFrom acc l = some n → valOf acc l = n := by
  induction l with
  | nil => intro acc n h; injection h
  | cons b r ih =>
    intro acc n h
    have hd : ∃ d, digitVal b = some d := digit_of_decFrom (b :: r) acc n h 0 b rfl
    obtain ⟨d, hb⟩ := hd
    have h2 : decFrom (acc * 10 + d) r = some n := by rw [decFrom, hb] at h; exact h
    have e := (digitVal_eq hb).2.2
    show valOf (10 * acc + (b.toNat - 48)) r = n
    rw [← e, Nat.mul_comm 10 acc]
    exact ih _ _ h2
theorem nums_itoa {n : Int} {t : List UInt8} (h0 : -99999 ≤ n) (h1 : n ≤ 99999) (ht : t = [] ∨ ∃ b r, t = b :: r ∧ isDig b = false) : numsL (itoa n ++ t) = n :: numsL t := by
  have hl := itoa_len n h0 h1
  unfold itoa at hl ⊢
  by_cases h : n < 0
  · rw [if_pos h] at hl ⊢
    have hd := digs_of (x := decDigits n.natAbs) (t := t) (dec_digs _) (by simp at hl; omega) (Or.inr ht)
    have hv := val_dec _ _ _ (decFrom_dec n.natAbs)
    have e : numAt (45 :: (decDigits n.natAbs ++ t)) = (n, (decDigits n.natAbs).length + 1) := by
      unfold numAt
      rw [if_pos (by simp), List.tail_cons, hd, if_neg (dec_ne _), hv]
      simp; omega
    rw [List.cons_append, numsL_cons, e]
    simp
  · rw [if_neg h] at hl ⊢
    have hd := digs_of (x := decDigits n.toNat) (t := t) (dec_digs _) (by omega) (Or.inr ht)
    have hv := val_dec _ _ _ (decFrom_dec n.toNat)
    have hg := dec_digs n.toNat
    have hne := dec_ne n.toNat
    revert hd hv hg hne
    generalize decDigits n.toNat = D
    intro hd hv hg hne
    cases D with
    | nil => exact absurd rfl hne
    | cons b r =>
      have hb : b ≠ 45 := dig_ne (hg b (by simp)) (by decide)
      have e : numAt (b :: r ++ t) = (n, (b :: r).length) := by
        unfold numAt
        rw [if_neg (by simpa using hb), hd, if_neg (by simp), hv]
        simp; omega
      rw [List.cons_append] at e ⊢
      rw [numsL_cons, e]
      simp
theorem nums_reg {n : Int} {t : List UInt8} (h0 : 0 ≤ n) (h1 : n ≤ 31) (ht : t = [] ∨ ∃ b r, t = b :: r ∧ isDig b = false) : numsL (regL n ++ t) = n :: numsL t := by
  unfold regL
  rw [List.cons_append, nums_skip (by decide) (by decide), nums_itoa (by omega) (by omega) ht]
theorem nums_nil : numsL [] = [] := numsL_nil
theorem nums_name {op : Int} (h : 0 ≤ op ∧ op ≤ 20) (t : List UInt8) : numsL (nameL op ++ t) = numsL t := by
  refine nums_skips _ _ fun b hb => ?_
  have := List.all_eq_true.1 (name_facts h).1 b hb
  simp only [decide_eq_true_eq] at this
  refine ⟨?_, ?_⟩
  · unfold isDig; simp; omega
  · rintro rfl; revert this; decide
/-- The six candidates of an operation. -/
def cand (l0 l1 l2 : Int) (k : Nat) : Int × Int × Int × Int :=
  if k = 0 then (0, 0, 0, 0) else if k = 1 then (l0, l1, l2, 0) else if k = 2 then (l0, l1, 0, l2) else if k = 3 then (l0, 0, 0, l1) else if k = 4 then (0, 0, 0, l0) else (l0, 0, 0, 0)
def padL (l : List Int) (k : Nat) : Int := l.getD k 0
def candI (l : List Int) (op : Int) (k : Nat) : Ins := ⟨op, (cand (padL l 0) (padL l 1) (padL l 2) k).1, (cand (padL l 0) (padL l 1) (padL l 2) k).2.1, (cand (padL l 0) (padL l 1) (padL l 2) k).2.2.1, (cand (padL l 0) (padL l 1) (padL l 2) k).2.2.2⟩
/-- A right instruction is among the candidates of its text's numbers. -/
theorem cand_of (x : Ins) (h : x.right = true) : ∃ k, k < 6 ∧ candI (numsL x.txt) x.o k = x := by
  obtain ⟨op, a, b, c, imm⟩ := x
  have h' : rightB op a b c imm = true := h
  obtain ⟨b1, b2, b3, b4, b5, b6, b7, b8, b9, b10⟩ := right_bd h'
  have ho : 0 ≤ op ∧ op ≤ 20 := ⟨b1, b2⟩
  have sep : ∀ x : List UInt8, (44 :: x = [] ∨ ∃ b r, (44 :: x : List UInt8) = b :: r ∧ isDig b = false) := fun x => Or.inr ⟨44, x, rfl, by decide⟩
  have nil' : (([] : List UInt8) = [] ∨ ∃ b r, ([] : List UInt8) = b :: r ∧ isDig b = false) := Or.inl rfl
  have sk : ∀ x : List UInt8, numsL (44 :: x) = numsL x := fun x => nums_skip (by decide) (by decide)
  have sk2 : ∀ x : List UInt8, numsL (32 :: x) = numsL x := fun x => nums_skip (by decide) (by decide)
  have regE : ∀ n : Int, 0 ≤ n → n ≤ 31 → numsL (regL n) = [n] := fun n h0 h1 => by simpa [nums_nil] using nums_reg (t := []) h0 h1 nil'
  have immE : numsL (itoa imm) = [imm] := by simpa [nums_nil] using nums_itoa (n := imm) (t := []) (by omega) (by omega) nil'
  show ∃ k, k < 6 ∧ candI (numsL (txtL op a b c imm)) op k = ⟨op, a, b, c, imm⟩
  rcases txt_cases op a b c imm h' with ⟨e0, e1, e2, e3, e4, e⟩ | ⟨e0, e1, e2, e⟩ | ⟨e0, e1, e⟩ | ⟨e0, e1, e2, e⟩ | ⟨e0, e1, e2, e3, e⟩ | ⟨e0, e1, e2, e3, e⟩ <;> rw [e]
  · exact ⟨0, by omega, by simp [candI, cand, e1, e2, e3, e4]⟩
  · rw [nums_name ho, sk2, nums_reg b3 b4 (sep _), sk, nums_reg b5 b6 (sep _), sk, regE c b7 b8]
    exact ⟨1, by omega, by simp [candI, cand, padL, e2]⟩
  · rw [nums_name ho, sk2, nums_reg b3 b4 (sep _), sk, nums_reg b5 b6 (sep _), sk, immE]
    exact ⟨2, by omega, by simp [candI, cand, padL, e1]⟩
  · rw [nums_name ho, sk2, nums_reg b3 b4 (sep _), sk, immE]
    exact ⟨3, by omega, by simp [candI, cand, padL, e1, e2]⟩
  · rw [nums_name ho, sk2, immE]
    exact ⟨4, by omega, by simp [candI, cand, padL, e1, e2, e3]⟩
  · rw [nums_name ho, sk2, regE a b3 b4]
    exact ⟨5, by omega, by simp [candI, cand, padL, e1, e2, e3]⟩
end Go.Proofs.YtbkmdmmcjaanmaaDoor
