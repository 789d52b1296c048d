/-
  Mathematics of what must stay ahead of what: how far, heights, what later instructions ask.
-/
import Derived.Test.YtpmofaajkhllpaaCd
import Derived.Test.YtpmofaajkhllpaaEff
namespace Go.Proofs.Ytpmofaajkhllpaa
set_option maxRecDepth 20000
set_option linter.unusedVariables false
open Go.ChangeShapes Go.WideShapes Go.ChangeAt Go.RowKit

def Ins.rd1 (x : Ins) : Int := _root_.Go.Proofs.Ytpmofaajkhllpaa.rd1 x.o x.a x.b x.c x.i
def Ins.rd2 (x : Ins) : Int := _root_.Go.Proofs.Ytpmofaajkhllpaa.rd2 x.o x.a x.b x.c x.i
def Ins.wr (x : Ins) : Int := wr1 x.o x.a x.b x.c x.i
def Ins.act (x : Ins) : Bool := actsB x.o x.a x.b x.c x.i
def Ins.late (x : Ins) : Bool := lateB x.o x.a x.b x.c x.i
/-- Does it read a register? -/
def Ins.rds (x : Ins) (n : Int) : Bool := decide (n ≠ 0 ∧ (n = x.rd1 ∨ n = x.rd2))
theorem rds_iff (x : Ins) (n : Int) : x.rds n = true ↔ n ≠ 0 ∧ (n = x.rd1 ∨ n = x.rd2) := by simp [Ins.rds]
theorem rds_zero (x : Ins) : x.rds 0 = false := by simp [Ins.rds]
theorem ins_bd (x : Ins) : 0 ≤ x.rd1 ∧ x.rd1 ≤ 31 ∧ 0 ≤ x.rd2 ∧ x.rd2 ≤ 31 ∧ 0 ≤ x.wr ∧ x.wr ≤ 31 := by
  unfold Ins.rd1 Ins.rd2 Ins.wr
  cases h : rightB x.o x.a x.b x.c x.i
  · simp [Go.Proofs.Ytpmofaajkhllpaa.rd1, Go.Proofs.Ytpmofaajkhllpaa.rd2, wr1, h]
  · obtain ⟨b1, b2, b3, b4, b5, b6, b7, b8, b9, b10⟩ := right_bd h
    have h1 : _root_.Go.Proofs.Ytpmofaajkhllpaa.rd1 x.o x.a x.b x.c x.i = rA x.o x.a x.b x.i := by simp [Go.Proofs.Ytpmofaajkhllpaa.rd1, h]
    have h2 : _root_.Go.Proofs.Ytpmofaajkhllpaa.rd2 x.o x.a x.b x.c x.i = rB x.o x.b x.c := by simp [Go.Proofs.Ytpmofaajkhllpaa.rd2, h]
    have h3 : wr1 x.o x.a x.b x.c x.i = wA x.o x.a x.i := by simp [wr1, h]
    rw [h1, h2, h3]
    have : 0 ≤ sR x.i ∧ sR x.i ≤ 31 := by unfold sR; omega
    have : 0 ≤ sW x.i ∧ sW x.i ≤ 31 := by unfold sW; omega
    unfold rA rB wA
    omega
/-- Must x stay ahead of y at all? -/
def anyI (x y : Ins) : Bool := (x.act && y.act) || y.rds x.wr || decide (x.wr ≠ 0 ∧ y.wr = x.wr) || x.rds y.wr
/-- How far x must stay ahead of y. -/
def farI (x y : Ins) : Int := if x.late = true ∧ y.rds x.wr = true then 2 else if anyI x y = true then 1 else 0
theorem farI_bd (x y : Ins) : 0 ≤ farI x y ∧ farI x y ≤ 2 := by unfold farI; split <;> (try split) <;> omega
theorem farI_pos (x y : Ins) : 0 < farI x y ↔ anyI x y = true := by
  unfold farI
  by_cases h : x.late = true ∧ y.rds x.wr = true
  · rw [if_pos h]
    simp [anyI, h.2]
  · rw [if_neg h]
    split <;> simp_all
theorem farI_two (x y : Ins) : farI x y = 2 ↔ x.late = true ∧ y.rds x.wr = true := by
  unfold farI
  by_cases h : x.late = true ∧ y.rds x.wr = true
  · simp [h]
  · rw [if_neg h]
    constructor
    · intro e
      split at e <;> omega
    · intro e
      exact absurd e h
theorem anyI_iff (x y : Ins) : anyI x y = true ↔ (x.act = true ∧ y.act = true) ∨ (x.wr ≠ 0 ∧ (x.wr = y.rd1 ∨ x.wr = y.rd2)) ∨ (x.wr ≠ 0 ∧ y.wr = x.wr) ∨ (y.wr ≠ 0 ∧ (y.wr = x.rd1 ∨ y.wr = x.rd2)) := by
  simp only [anyI, Bool.or_eq_true, Bool.and_eq_true, decide_eq_true_eq, rds_iff, or_assoc]
theorem anyI_comm (x y : Ins) : anyI x y = anyI y x := by
  rw [Bool.eq_iff_iff, anyI_iff, anyI_iff]
  constructor <;> (rintro (⟨h1, h2⟩ | h | h | h)) <;> (first | exact .inl ⟨h2, h1⟩ | omega)

/-- What later ones ask, the latest added first: of one that is read; that is written; of one that acts. -/
def rN : List (Ins × Int) → Int → Int
  | [], _ => 0
  | p :: L, n => if p.1.rds n = true then max (rN L n) (p.2 + 1) else rN L n
def wN : List (Ins × Int) → Int → Int
  | [], _ => 0
  | p :: L, n => if p.1.wr ≠ 0 ∧ p.1.wr = n then max (wN L n) (p.2 + 1) else wN L n
def aN : List (Ins × Int) → Int
  | [] => 0
  | p :: L => if p.1.act = true then max (aN L) (p.2 + 1) else aN L
/-- What of tells. -/
def of1 (x : Ins) (L : List (Ins × Int)) : Int := if 0 < rN L x.wr ∧ x.late = true then rN L x.wr + 1 else rN L x.wr
def of2 (x : Ins) (L : List (Ins × Int)) : Int := max (of1 x L) (wN L x.wr)
def of3 (x : Ins) (L : List (Ins × Int)) : Int := max (max (of2 x L) (wN L x.rd1)) (wN L x.rd2)
def ofM (x : Ins) (L : List (Ins × Int)) : Int := if x.act = true then max (of3 x L) (aN L) else of3 x L
def Good (m : Int) (L : List (Ins × Int)) : Prop := ∀ p ∈ L, 0 ≤ p.2 ∧ p.2 ≤ m
theorem Good.tail {m : Int} {p : Ins × Int} {L : List (Ins × Int)} (h : Good m (p :: L)) : Good m L := fun q hq => h q (List.mem_cons_of_mem _ hq)
theorem Good.cons {m : Int} {x : Ins} {h : Int} {L : List (Ins × Int)} (hL : Good m L) (h0 : 0 ≤ h) (h1 : h ≤ m) : Good m ((x, h) :: L) := by
  intro q hq
  rcases List.mem_cons.1 hq with rfl | hq
  · exact ⟨h0, h1⟩
  · exact hL q hq
theorem Good.mono {m k : Int} {L : List (Ins × Int)} (hL : Good m L) (h : m ≤ k) : Good k L := fun q hq => ⟨(hL q hq).1, by have := (hL q hq).2; omega⟩
theorem rN_bd {m : Int} (hm : 0 ≤ m) : ∀ {L : List (Ins × Int)}, Good m L → ∀ n, 0 ≤ rN L n ∧ rN L n ≤ m + 1
  | [], _, n => by simp [rN]; omega
  | p :: L, h, n => by
    have h1 := rN_bd hm h.tail n
    have h2 := h p (List.mem_cons_self ..)
    unfold rN
    split <;> omega
theorem wN_bd {m : Int} (hm : 0 ≤ m) : ∀ {L : List (Ins × Int)}, Good m L → ∀ n, 0 ≤ wN L n ∧ wN L n ≤ m + 1
  | [], _, n => by simp [wN]; omega
  | p :: L, h, n => by
    have h1 := wN_bd hm h.tail n
    have h2 := h p (List.mem_cons_self ..)
    unfold wN
    split <;> omega
theorem aN_bd {m : Int} (hm : 0 ≤ m) : ∀ {L : List (Ins × Int)}, Good m L → 0 ≤ aN L ∧ aN L ≤ m + 1
  | [], _ => by simp [aN]; omega
  | p :: L, h => by
    have h1 := aN_bd hm h.tail
    have h2 := h p (List.mem_cons_self ..)
    unfold aN
    split <;> omega
theorem wN_zero : ∀ (L : List (Ins × Int)), wN L 0 = 0
  | [] => rfl
  | p :: L => by unfold wN; rw [if_neg (by omega), wN_zero L]
theorem rN_zero : ∀ (L : List (Ins × Int)), rN L 0 = 0
  | [] => rfl
  | p :: L => by unfold rN; rw [rds_zero, if_neg (by simp), rN_zero L]
/-- The greatest sum of how far x must stay ahead of one, and that one's number. -/
def most (x : Ins) : List (Ins × Int) → Int
  | [] => 0
  | p :: L => if 0 < farI x p.1 then max (most x L) (p.2 + farI x p.1) else most x L
theorem most_bd {m : Int} (hm : 0 ≤ m) (x : Ins) : ∀ {L : List (Ins × Int)}, Good m L → 0 ≤ most x L ∧ most x L ≤ m + 2
  | [], _ => by simp [most]; omega
  | p :: L, h => by
    have h1 := most_bd hm x h.tail
    have h2 := h p (List.mem_cons_self ..)
    have h3 := farI_bd x p.1
    unfold most
    split <;> omega
theorem rN_le {b : Int} (hb : 0 ≤ b) (n : Int) : ∀ (L : List (Ins × Int)), rN L n ≤ b ↔ ∀ p ∈ L, p.1.rds n = true → p.2 + 1 ≤ b
  | [] => by simp [rN]; exact hb
  | p :: L => by
    have ih := rN_le hb n L
    rw [List.forall_mem_cons, ← ih, rN]
    by_cases h : p.1.rds n = true
    · rw [if_pos h]
      exact ⟨fun q => ⟨fun _ => by omega, by omega⟩, fun q => by have := q.1 h; omega⟩
    · rw [if_neg h]
      exact ⟨fun q => ⟨fun e => absurd e h, q⟩, fun q => q.2⟩
theorem wN_le {b : Int} (hb : 0 ≤ b) (n : Int) : ∀ (L : List (Ins × Int)), wN L n ≤ b ↔ ∀ p ∈ L, p.1.wr ≠ 0 ∧ p.1.wr = n → p.2 + 1 ≤ b
  | [] => by simp [wN]; exact hb
  | p :: L => by
    have ih := wN_le hb n L
    rw [List.forall_mem_cons, ← ih, wN]
    by_cases h : p.1.wr ≠ 0 ∧ p.1.wr = n
    · rw [if_pos h]
      exact ⟨fun q => ⟨fun _ => by omega, by omega⟩, fun q => by have := q.1 h; omega⟩
    · rw [if_neg h]
      exact ⟨fun q => ⟨fun e => absurd e h, q⟩, fun q => q.2⟩
theorem aN_le {b : Int} (hb : 0 ≤ b) : ∀ (L : List (Ins × Int)), aN L ≤ b ↔ ∀ p ∈ L, p.1.act = true → p.2 + 1 ≤ b
  | [] => by simp [aN]; exact hb
  | p :: L => by
    have ih := aN_le hb L
    rw [List.forall_mem_cons, ← ih, aN]
    by_cases h : p.1.act = true
    · rw [if_pos h]
      exact ⟨fun q => ⟨fun _ => by omega, by omega⟩, fun q => by have := q.1 h; omega⟩
    · rw [if_neg h]
      exact ⟨fun q => ⟨fun e => absurd e h, q⟩, fun q => q.2⟩
theorem most_le' {b : Int} (hb : 0 ≤ b) (x : Ins) : ∀ (L : List (Ins × Int)), most x L ≤ b ↔ ∀ p ∈ L, 0 < farI x p.1 → p.2 + farI x p.1 ≤ b
  | [] => by simp [most]; exact hb
  | p :: L => by
    have ih := most_le' hb x L
    rw [List.forall_mem_cons, ← ih, most]
    by_cases h : 0 < farI x p.1
    · rw [if_pos h]
      exact ⟨fun q => ⟨fun _ => by omega, by omega⟩, fun q => by have := q.1 h; omega⟩
    · rw [if_neg h]
      exact ⟨fun q => ⟨fun e => absurd e h, q⟩, fun q => q.2⟩
theorem of1_le {m b : Int} (hb : 0 ≤ b) (hm : 0 ≤ m) (x : Ins) {L : List (Ins × Int)} (hL : Good m L) : of1 x L ≤ b ↔ ∀ p ∈ L, p.1.rds x.wr = true → p.2 + (if x.late = true then 2 else 1) ≤ b := by
  have h0 := (rN_bd hm hL x.wr).1
  unfold of1
  by_cases hl : x.late = true
  · by_cases hr : 0 < rN L x.wr
    · rw [if_pos ⟨hr, hl⟩, if_pos hl]
      by_cases hb0 : b = 0
      · constructor
        · intro h; omega
        · intro h
          have := (rN_le (Int.le_refl 0) x.wr L).2 (fun p hp e => by have := h p hp e; omega)
          omega
      · rw [show rN L x.wr + 1 ≤ b ↔ rN L x.wr ≤ b - 1 by omega, rN_le (by omega)]
        exact ⟨fun h p hp e => by have := h p hp e; omega, fun h p hp e => by have := h p hp e; omega⟩
    · rw [if_neg (fun e => hr e.1)]
      have hn := (rN_le (Int.le_refl 0) x.wr L).1 (by omega)
      exact ⟨fun _ p hp e => by have := hn p hp e; have := (hL p hp).1; omega, fun _ => by omega⟩
  · rw [if_neg (fun e => hl e.2), if_neg hl]
    exact rN_le hb x.wr L
theorem of_le {m b : Int} (hb : 0 ≤ b) (hm : 0 ≤ m) (x : Ins) {L : List (Ins × Int)} (hL : Good m L) : ofM x L ≤ b ↔ ∀ p ∈ L, 0 < farI x p.1 → p.2 + farI x p.1 ≤ b := by
  have h3 : of3 x L ≤ b ↔ (((∀ p ∈ L, p.1.rds x.wr = true → p.2 + (if x.late = true then 2 else 1) ≤ b) ∧ (∀ p ∈ L, p.1.wr ≠ 0 ∧ p.1.wr = x.wr → p.2 + 1 ≤ b)) ∧ (∀ p ∈ L, p.1.wr ≠ 0 ∧ p.1.wr = x.rd1 → p.2 + 1 ≤ b)) ∧ (∀ p ∈ L, p.1.wr ≠ 0 ∧ p.1.wr = x.rd2 → p.2 + 1 ≤ b) := by
    rw [← of1_le hb hm x hL, ← wN_le hb, ← wN_le hb, ← wN_le hb]
    unfold of3 of2
    omega
  have h4 : ofM x L ≤ b ↔ of3 x L ≤ b ∧ (x.act = true → ∀ p ∈ L, p.1.act = true → p.2 + 1 ≤ b) := by
    rw [← aN_le hb]
    unfold ofM
    by_cases h : x.act = true
    · rw [if_pos h]
      exact ⟨fun q => ⟨by omega, fun _ => by omega⟩, fun q => by have := q.2 h; omega⟩
    · rw [if_neg h]
      exact ⟨fun q => ⟨q, fun e => absurd e h⟩, fun q => q.1⟩
  rw [h4, h3]
  constructor
  · rintro ⟨⟨⟨⟨q1, q2⟩, q3⟩, q4⟩, q5⟩ p hp hf
    have a1 := q1 p hp
    have a2 := q2 p hp
    have a3 := q3 p hp
    have a4 := q4 p hp
    rcases Classical.em (x.late = true ∧ p.1.rds x.wr = true) with h2 | h2
    · rw [(farI_two x p.1).2 h2]
      have := a1 h2.2
      rw [if_pos h2.1] at this
      exact this
    · have e1 : farI x p.1 = 1 := by
        have := farI_bd x p.1
        have h3 : farI x p.1 ≠ 2 := fun e => h2 ((farI_two x p.1).1 e)
        omega
      rw [e1]
      rcases (anyI_iff x p.1).1 ((farI_pos x p.1).1 hf) with ⟨c1, c2⟩ | c | c | ⟨c, c1 | c1⟩
      · exact q5 c1 p hp c2
      · have := a1 ((rds_iff _ _).2 c)
        split at this <;> omega
      · exact a2 ⟨by omega, c.2⟩
      · exact a3 ⟨c, c1⟩
      · exact a4 ⟨c, c1⟩
  · intro q
    have one : ∀ p ∈ L, anyI x p.1 = true → p.2 + 1 ≤ b := fun p hp h => by
      have h1 := (farI_pos x p.1).2 h
      have := q p hp h1
      omega
    refine ⟨⟨⟨⟨fun p hp h => ?_, fun p hp h => one p hp ((anyI_iff _ _).2 (.inr (.inr (.inl ⟨by omega, h.2⟩))))⟩, fun p hp h => one p hp ((anyI_iff _ _).2 (.inr (.inr (.inr ⟨h.1, .inl h.2⟩))))⟩, fun p hp h => one p hp ((anyI_iff _ _).2 (.inr (.inr (.inr ⟨h.1, .inr h.2⟩))))⟩, fun ha p hp h => one p hp ((anyI_iff _ _).2 (.inl ⟨ha, h⟩))⟩
    have h1 := one p hp ((anyI_iff _ _).2 (.inr (.inl ((rds_iff _ _).1 h))))
    split
    · rename_i hl
      have h2 := (farI_two x p.1).2 ⟨hl, h⟩
      have := q p hp (by omega)
      omega
    · exact h1
theorem of_nonneg {m : Int} (hm : 0 ≤ m) (x : Ins) {L : List (Ins × Int)} (hL : Good m L) : 0 ≤ ofM x L := by
  have h0 := (rN_bd hm hL x.wr).1
  have h1 := (aN_bd hm hL).1
  have h2 := (wN_bd hm hL x.rd1).1
  unfold ofM of3
  split <;> omega
theorem of_most {m : Int} (hm : 0 ≤ m) (x : Ins) {L : List (Ins × Int)} (hL : Good m L) : ofM x L = most x L := by
  have h0 := of_nonneg hm x hL
  have h1 := (most_bd hm x hL).1
  apply Int.le_antisymm
  · exact (of_le h1 hm x hL).2 ((most_le' h1 x L).1 (Int.le_refl _))
  · exact (most_le' h0 x L).2 ((of_le h0 hm x hL).1 (Int.le_refl _))
end Go.Proofs.Ytpmofaajkhllpaa
