/-
  Plain mathematics: the bytes of a text; a text with more behind it.
-/
import Derived.Test.YtbkmdmmcjaanmaaDoorTxt2
namespace Go.Proofs.YtbkmdmmcjaanmaaDoor
set_option maxRecDepth 20000
open Go.Lib

theorem itoa_tail (n : Int) : ∀ b ∈ (itoa n).tail, isDig b = true := by
  unfold itoa
  split
  · exact fun b hb => dec_digs _ b hb
  · exact fun b hb => dec_digs _ b (List.mem_of_mem_tail hb)
theorem itoa_ne (n : Int) : itoa n ≠ [] := by
  unfold itoa; split
  · simp
  · exact dec_ne _
theorem itoa_more {p q : Int} {c : UInt8} {r : List UInt8} (hc : isDig c = false) : itoa q ≠ itoa p ++ c :: r := by
  intro h
  have ht := itoa_tail q c
  rw [h] at ht
  cases hp : itoa p with
  | nil => exact itoa_ne p hp
  | cons b t =>
    rw [hp] at ht
    rw [ht (by simp)] at hc
    cases hc
theorem reg_more {p q : Int} {c : UInt8} {r : List UInt8} (hc : isDig c = false) : regL q ≠ regL p ++ c :: r := by
  unfold regL
  intro h
  rw [List.cons_append] at h
  injection h with _ h
  exact itoa_more hc h
theorem cut_step {p q X Y : List UInt8} (hp : 44 ∉ p) (hq : 44 ∉ q) (h : p ++ 44 :: X = q ++ 44 :: Y) : X = Y := by
  have h1 := cut_at (c := 44) (rest := X) hp
  rw [h, cut_at (c := 44) (rest := Y) hq] at h1
  injection h1 with _ h1
  injection h1 with h1 _
  exact h1.symm
theorem reg_44 (n : Int) : 44 ∉ regL n := reg_none n (by decide) (by decide) (by decide)
/-- Behind a text of an operation with parts nothing but a digit can stand in another text of that operation. -/
theorem more_no {x y : Ins} {c : UInt8} {r : List UInt8} (hx : x.right = true) (hy : y.right = true) (ho : y.o = x.o) (h0 : x.o ≠ 0) (hc : isDig c = false) : y.txt ≠ x.txt ++ c :: r := by
  intro h
  obtain ⟨o, a, b, d, i⟩ := x
  obtain ⟨o', a', b', d', i'⟩ := y
  simp only at ho h0
  subst ho
  have h' : txtL o' a' b' d' i' = txtL o' a b d i ++ c :: r := h
  rcases txt_cases o' a b d i hx with ⟨e0, e1, e2, e3, e4, e⟩ | ⟨e0, e1, e2, e⟩ | ⟨e0, e1, e⟩ | ⟨e0, e1, e2, e⟩ | ⟨e0, e1, e2, e3, e⟩ | ⟨e0, e1, e2, e3, e⟩
  · exact h0 e0
  all_goals
    rcases txt_cases o' a' b' d' i' hy with ⟨f0, f1, f2, f3, f4, f⟩ | ⟨f0, f1, f2, f⟩ | ⟨f0, f1, f⟩ | ⟨f0, f1, f2, f⟩ | ⟨f0, f1, f2, f3, f⟩ | ⟨f0, f1, f2, f3, f⟩ <;> try (exfalso; omega)
  all_goals
    rw [e, f, List.append_assoc] at h'
    have h2 := List.append_cancel_left h'
    rw [List.cons_append] at h2
    injection h2 with _ h3
    try simp only [List.append_assoc, List.cons_append] at h3
    first
      | exact reg_more hc (cut_step (reg_44 _) (reg_44 _) (cut_step (reg_44 _) (reg_44 _) h3))
      | exact itoa_more hc (cut_step (reg_44 _) (reg_44 _) (cut_step (reg_44 _) (reg_44 _) h3))
      | exact itoa_more hc (cut_step (reg_44 _) (reg_44 _) h3)
      | exact itoa_more hc h3
      | exact reg_more hc h3
theorem txt_head {x : Ins} (hx : x.right = true) : ∃ b t, x.txt = b :: t ∧ 97 ≤ b.toNat ∧ b.toNat ≤ 122 := by
  obtain ⟨o, a, b, d, i⟩ := x
  have hb := right_bd (show rightB o a b d i = true from hx)
  have hn := name_facts (op := o) ⟨hb.1, hb.2.1⟩
  have : ∃ t, txtL o a b d i = nameL o ++ t := by
    rcases txt_cases o a b d i hx with ⟨e0, e1, e2, e3, e4, e⟩ | ⟨e0, e1, e2, e⟩ | ⟨e0, e1, e⟩ | ⟨e0, e1, e2, e⟩ | ⟨e0, e1, e2, e3, e⟩ | ⟨e0, e1, e2, e3, e⟩
    · exact ⟨[], by rw [e]; simp⟩
    all_goals exact ⟨_, e⟩
  obtain ⟨t, ht⟩ := this
  cases hl : nameL o with
  | nil => exact absurd hl hn.2.1
  | cons b' r =>
    have := List.all_eq_true.1 hn.1 b' (by rw [hl]; simp)
    simp only [decide_eq_true_eq] at this
    exact ⟨b', r ++ t, by show txtL o a b d i = _; rw [ht, hl]; rfl, this⟩
/-- A byte that a text may have. -/
def okB (b : UInt8) : Bool := decide (b.toNat = 32 ∨ (97 ≤ b.toNat ∧ b.toNat ≤ 122) ∨ (48 ≤ b.toNat ∧ b.toNat ≤ 57) ∨ b.toNat = 44 ∨ b.toNat = 45)
theorem itoa_ok (n : Int) : (itoa n).all okB = true := by
  rw [List.all_eq_true]
  intro b hb
  unfold okB
  rcases itoa_bytes n b hb with h | rfl
  · unfold isDig at h; simp at h ⊢; omega
  · decide
theorem txt_bytes {x : Ins} (hx : x.right = true) : x.txt.all okB = true ∧ x.txt.count 32 ≤ 1 := by
  obtain ⟨o, a, b, d, i⟩ := x
  have hb := right_bd (show rightB o a b d i = true from hx)
  have hn := name_facts (op := o) ⟨hb.1, hb.2.1⟩
  have n1 : (nameL o).all okB = true := by
    rw [List.all_eq_true]
    intro c hc
    have := List.all_eq_true.1 hn.1 c hc
    simp only [decide_eq_true_eq] at this
    unfold okB; simp; omega
  have n2 : (nameL o).count 32 = 0 := List.count_eq_zero.2 (name_no ⟨hb.1, hb.2.1⟩ (by decide))
  have r1 : ∀ n, (regL n).all okB = true := fun n => by unfold regL; rw [List.all_cons, itoa_ok]; decide
  have r2 : ∀ n, (regL n).count 32 = 0 := fun n => List.count_eq_zero.2 (reg_none n (by decide) (by decide) (by decide))
  have i2 : ∀ n, (itoa n).count 32 = 0 := fun n => List.count_eq_zero.2 (itoa_none n (by decide) (by decide))
  have k1 : okB 32 = true := by decide
  have k2 : okB 44 = true := by decide
  show (txtL o a b d i).all okB = true ∧ (txtL o a b d i).count 32 ≤ 1
  rcases txt_cases o a b d i hx with ⟨e0, e1, e2, e3, e4, e⟩ | ⟨e0, e1, e2, e⟩ | ⟨e0, e1, e⟩ | ⟨e0, e1, e2, e⟩ | ⟨e0, e1, e2, e3, e⟩ | ⟨e0, e1, e2, e3, e⟩
  all_goals
    rw [e]
    simp only [List.all_append, List.all_cons, List.count_append, List.count_cons, n1, n2, r1, r2, i2, itoa_ok, k1, k2]
    decide
theorem up_no {x y : Ins} (hx : x.right = true) : x.txt ≠ 78 :: y.text := by
  intro h
  obtain ⟨b, t, e, h1, h2⟩ := txt_head hx
  rw [e] at h
  injection h with h _
  subst h
  revert h1; decide
end Go.Proofs.YtbkmdmmcjaanmaaDoor
