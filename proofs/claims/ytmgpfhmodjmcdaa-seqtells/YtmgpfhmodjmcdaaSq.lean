/-
  The machine that does one instruction after the other, as plain mathematics.
-/
import Derived.Test.YtmgpfhmodjmcdaaCd
import Derived.Test.YtmgpfhmodjmcdaaGm
namespace Go.Proofs.Ytmgpfhmodjmcdaa
set_option maxRecDepth 20000
set_option linter.unusedVariables false
open Go.ChangeShapes Go.WideShapes Go.ChangeAt Go.RowKit

/-- A machine's registers, words, place, input that was not read, output. -/
structure St where
  regs : List Int
  mem : List Int
  place : Int
  inp : List Int
  out : List Int
def reg (R : List Int) (k : Int) : Int := R[k.toNat]?.getD 0
def setR (R : List Int) (k v : Int) : List Int := if k = 0 then R else R.set k.toNat v
def recV (o i b c : Int) : Int :=
  if o = 1 then wrap32 (b + c) else if o = 2 then wrap32 (b - c) else if o = 3 then wrap32 (b * c)
  else if o = 4 then (if c = 0 then 0 else wrap32 (b.tdiv c)) else if o = 5 then (if c = 0 then 0 else b.tmod c)
  else if o = 6 then bits .and .i64 b c else if o = 7 then bits .or .i64 b c
  else if o = 8 then (if b < c then 1 else 0) else if o = 9 then (if b = c then 1 else 0)
  else if o = 10 then wrap32 (b + i) else wrap32 (i * 65536)
def recT (o c : Int) : Int := if (o = 4 ∨ o = 5) ∧ c = 0 then 4 else 0
def chkT (v e t : Int) : Int := if 0 ≤ v ∧ v < e then 0 else if t = 0 then 5 else t
def sysM (i : Int) (s : St) : Int × St :=
  if i = 1 then (match s.inp with
    | [] => (6, s)
    | n :: r => (0, { s with regs := setR s.regs 4 (wrap32 n), inp := r }))
  else if i = 2 then (if 10000 ≤ s.out.length then (9, s) else (0, { s with out := s.out ++ [reg s.regs 4] }))
  else (1, s)
def loadM (r z : Int) (s : St) : Int × St := if inM s.mem z = true then (0, { s with regs := setR s.regs r (getM s.mem z) }) else (3, s)
def storeM (z v : Int) (s : St) : Int × St := if inM s.mem z = true then (0, { s with mem := putM s.mem z v }) else (3, s)
def goM (t : Bool) (by_ : Int) (s : St) : St := if t = true then { s with place := s.place + by_ } else s
def doM (x : Ins) (a b : Int) (s : St) : Int × St :=
  if x.o = 12 then loadM x.a (wrap32 (b + x.i)) s
  else if x.o = 13 then storeM (wrap32 (b + x.i)) a s
  else if x.o = 14 then (chkT a x.i x.b, s)
  else if x.o = 15 then (0, goM (a == b) x.i s)
  else if x.o = 16 then (0, goM (a != b) x.i s)
  else if x.o = 17 then (0, { s with place := x.i })
  else if x.o = 18 then (0, { s with regs := setR s.regs 31 s.place, place := x.i })
  else if x.o = 19 then (0, { s with place := a })
  else if x.o = 20 then sysM x.i s
  else (0, s)
def resM (x : Ins) (s : St) : Int × St :=
  (recT x.o (reg s.regs x.c), if recT x.o (reg s.regs x.c) = 0 then { s with regs := setR s.regs x.a (recV x.o x.i (reg s.regs x.b) (reg s.regs x.c)) } else s)
def reckonsB (o : Int) : Bool := decide (1 ≤ o ∧ o ≤ 11)
def actM (x : Ins) (s : St) : Int × St :=
  if reckonsB x.o = true then resM x { s with place := s.place + 1 } else doM x (reg s.regs x.a) (reg s.regs x.b) { s with place := s.place + 1 }
def stepM (X : List Ins) (s : St) : Int × St :=
  if s.place < 0 ∨ X.length ≤ s.place then (2, s)
  else if (X.getD s.place.toNat Ins.zero).right = true then actM (X.getD s.place.toNat Ins.zero) s
  else (8, s)
/-- Behind k steps, or where it stopped. -/
def runK (X : List Ins) (s : St) : Nat → Int × St
  | 0 => (0, s)
  | k + 1 => if (runK X s k).1 = 0 then stepM X (runK X s k).2 else runK X s k
/-- With fuel F it does k steps. -/
def Ends (X : List Ins) (s : St) (F k : Nat) : Prop := k ≤ F ∧ (∀ j, j < k → (runK X s j).1 = 0) ∧ ((runK X s k).1 ≠ 0 ∨ k = F)
def start (n : Nat) (I : List Int) : St := ⟨List.replicate 32 0, List.replicate n 0, 0, I, []⟩
/-- Words. -/
def Wd (x : Int) : Prop := -2147483648 ≤ x ∧ x ≤ 2147483647
structure Ok (s : St) : Prop where
  len : s.regs.length = 32
  words : ∀ x ∈ s.regs, Wd x
  cells : ∀ x ∈ s.mem, Wd x
  zero : s.regs[0]?.getD 0 = 0
theorem wd_wrap (n : Int) : Wd (wrap32 n) := by unfold Wd wrap32; omega
theorem wd_zero : Wd 0 := by unfold Wd; omega
theorem reg_wd {s : St} (h : Ok s) (k : Int) : Wd (reg s.regs k) := by
  unfold reg
  rcases Nat.lt_or_ge k.toNat s.regs.length with h1 | h1
  · rw [List.getElem?_eq_getElem h1]; exact h.words _ (List.getElem_mem h1)
  · rw [List.getElem?_eq_none h1]; exact wd_zero
theorem mem_set {L : List Int} {k : Nat} {v : Int} (hl : ∀ x ∈ L, Wd x) (hv : Wd v) : ∀ x ∈ L.set k v, Wd x := by
  intro x hx
  rcases List.mem_or_eq_of_mem_set hx with h | h
  · exact hl x h
  · rw [h]; exact hv
theorem setR_len (R : List Int) (k v : Int) : (setR R k v).length = R.length := by unfold setR; split <;> simp
theorem setR_wd {R : List Int} {k v : Int} (hl : ∀ x ∈ R, Wd x) (hv : Wd v) : ∀ x ∈ setR R k v, Wd x := by
  unfold setR; split
  · exact hl
  · exact mem_set hl hv
theorem ok_set {s : St} (h : Ok s) (k v : Int) (hk : 0 ≤ k) (hv : Wd v) : Ok { s with regs := setR s.regs k v } := by
  refine ⟨by rw [setR_len]; exact h.len, setR_wd h.words hv, h.cells, ?_⟩
  show (setR s.regs k v)[0]?.getD 0 = 0
  unfold setR; split
  · exact h.zero
  · rw [List.getElem?_set_ne (by omega)]; exact h.zero
theorem get_wd {L : List Int} (h : ∀ x ∈ L, Wd x) (z : Int) : Wd (getM L z) := by
  unfold getM; split
  · rcases Nat.lt_or_ge z.toNat L.length with h1 | h1
    · rw [List.getElem?_eq_getElem h1]; exact h _ (List.getElem_mem h1)
    · rw [List.getElem?_eq_none h1]; exact wd_zero
  · exact wd_zero
theorem put_wd {L : List Int} (h : ∀ x ∈ L, Wd x) (z v : Int) : ∀ x ∈ putM L z v, Wd x := by
  unfold putM; split
  · exact mem_set h (wd_wrap _)
  · exact h
theorem ok_place {s : St} (h : Ok s) (p : Int) : Ok { s with place := p } := ⟨h.len, h.words, h.cells, h.zero⟩
theorem start_ok (n : Nat) (I : List Int) : Ok (start n I) := by
  refine ⟨by simp [start], ?_, ?_, by simp [start]⟩ <;> (intro x hx; simp only [start, List.mem_replicate] at hx; rw [hx.2]; exact wd_zero)
theorem tmod_wd {b c : Int} (hb : Wd b) (hc : Wd c) (h : c ≠ 0) : Wd (b.tmod c) := by
  have h2 : (b.tmod c).natAbs ≤ b.natAbs := by rw [Int.natAbs_tmod]; exact Nat.mod_le _ _
  have h3 : (b.tmod c).natAbs < c.natAbs := by rw [Int.natAbs_tmod]; exact Nat.mod_lt _ (by omega)
  unfold Wd at *
  omega
theorem bv_sext {a : Int} (h : Wd a) : BitVec.ofInt 64 a = (BitVec.ofInt 32 a).signExtend 64 := by
  apply BitVec.eq_of_toInt_eq
  unfold Wd at h
  rw [BitVec.toInt_signExtend_of_le (by omega), BitVec.toInt_ofInt, BitVec.toInt_ofInt, Int.bmod_def, Int.bmod_def]
  omega
theorem bits_and_w {a b : Int} (ha : Wd a) (hb : Wd b) : bits .and .i64 a b = (BitVec.ofInt 32 a &&& BitVec.ofInt 32 b).toInt := by
  show IntKind.i64.wrap ((BitVec.ofInt 64 a &&& BitVec.ofInt 64 b).toNat : Int) = _
  have h : (BitVec.ofInt 64 a &&& BitVec.ofInt 64 b).toInt = (BitVec.ofInt 32 a &&& BitVec.ofInt 32 b).toInt := by
    rw [bv_sext ha, bv_sext hb, ← BitVec.signExtend_and, BitVec.toInt_signExtend_of_le (by omega)]
  rw [← h, IntKind.wrap_i64, BitVec.toInt_eq_toNat_bmod, Int.bmod_def]
  omega
theorem bits_or_w {a b : Int} (ha : Wd a) (hb : Wd b) : bits .or .i64 a b = (BitVec.ofInt 32 a ||| BitVec.ofInt 32 b).toInt := by
  show IntKind.i64.wrap ((BitVec.ofInt 64 a ||| BitVec.ofInt 64 b).toNat : Int) = _
  have h : (BitVec.ofInt 64 a ||| BitVec.ofInt 64 b).toInt = (BitVec.ofInt 32 a ||| BitVec.ofInt 32 b).toInt := by
    rw [bv_sext ha, bv_sext hb, ← BitVec.signExtend_or, BitVec.toInt_signExtend_of_le (by omega)]
  rw [← h, IntKind.wrap_i64, BitVec.toInt_eq_toNat_bmod, Int.bmod_def]
  omega
theorem wd_bv (x : BitVec 32) : Wd x.toInt := by
  have h1 := BitVec.toInt_lt (x := x)
  have h2 := BitVec.le_toInt (x := x)
  unfold Wd
  omega
theorem bits_wd_and {b c : Int} (hb : Wd b) (hc : Wd c) : Wd (bits .and .i64 b c) := by rw [bits_and_w hb hc]; exact wd_bv _
theorem bits_wd_or {b c : Int} (hb : Wd b) (hc : Wd c) : Wd (bits .or .i64 b c) := by rw [bits_or_w hb hc]; exact wd_bv _
theorem wd_one : Wd 1 := by unfold Wd; omega
theorem rec_wd {o i b c : Int} (hb : Wd b) (hc : Wd c) : Wd (recV o i b c) := by
  unfold recV
  by_cases h1 : o = 1
  · rw [if_pos h1]; exact wd_wrap _
  rw [if_neg h1]
  by_cases h2 : o = 2
  · rw [if_pos h2]; exact wd_wrap _
  rw [if_neg h2]
  by_cases h3 : o = 3
  · rw [if_pos h3]; exact wd_wrap _
  rw [if_neg h3]
  by_cases h4 : o = 4
  · rw [if_pos h4]; by_cases h : c = 0
    · rw [if_pos h]; exact wd_zero
    · rw [if_neg h]; exact wd_wrap _
  rw [if_neg h4]
  by_cases h5 : o = 5
  · rw [if_pos h5]; by_cases h : c = 0
    · rw [if_pos h]; exact wd_zero
    · rw [if_neg h]; exact tmod_wd hb hc h
  rw [if_neg h5]
  by_cases h6 : o = 6
  · rw [if_pos h6]; exact bits_wd_and hb hc
  rw [if_neg h6]
  by_cases h7 : o = 7
  · rw [if_pos h7]; exact bits_wd_or hb hc
  rw [if_neg h7]
  by_cases h8 : o = 8
  · rw [if_pos h8]; by_cases h : b < c
    · rw [if_pos h]; exact wd_one
    · rw [if_neg h]; exact wd_zero
  rw [if_neg h8]
  by_cases h9 : o = 9
  · rw [if_pos h9]; by_cases h : b = c
    · rw [if_pos h]; exact wd_one
    · rw [if_neg h]; exact wd_zero
  rw [if_neg h9]
  by_cases h10 : o = 10
  · rw [if_pos h10]; exact wd_wrap _
  rw [if_neg h10]; exact wd_wrap _
theorem wd_wrap_id {x : Int} (h : Wd x) : wrap32 x = x := by unfold Wd at h; unfold wrap32; omega
theorem ok_step (X : List Ins) (hX : X.length ≤ 100000) {s : St} (h : Ok s) : Ok (stepM X s).2 := by
  unfold stepM
  split
  · exact h
  split
  · rename_i h1 hr
    generalize X.getD s.place.toNat Ins.zero = x at hr ⊢
    have hb := right_bd hr
    have hp := ok_place h (s.place + 1)
    unfold actM
    split
    · unfold resM
      dsimp only
      split
      · exact ok_set hp _ _ (by omega) (rec_wd (reg_wd h _) (reg_wd h _))
      · exact hp
    · unfold doM
      repeat' split
      · unfold loadM; split
        · exact ok_set hp _ _ (by omega) (get_wd h.cells _)
        · exact hp
      · unfold storeM; split
        · exact ⟨h.len, h.words, put_wd h.cells _ _, h.zero⟩
        · exact hp
      · exact hp
      · unfold goM; split
        · exact ok_place h _
        · exact hp
      · unfold goM; split
        · exact ok_place h _
        · exact hp
      · exact ok_place h _
      · exact ok_place (ok_set hp 31 _ (by omega) (by show Wd (s.place + 1); unfold Wd; omega)) _
      · exact ok_place h _
      · unfold sysM
        repeat' split
        · exact hp
        · rename_i n r hm
          have := ok_set hp 4 (wrap32 n) (by omega) (wd_wrap _)
          exact ⟨this.len, this.words, this.cells, this.zero⟩
        · exact hp
        · exact ⟨h.len, h.words, h.cells, h.zero⟩
        · exact hp
      · exact hp
  · exact h
theorem ok_run (X : List Ins) (hX : X.length ≤ 100000) {s : St} (h : Ok s) (k : Nat) : Ok (runK X s k).2 := by
  induction k with
  | zero => exact h
  | succ k ih =>
    unfold runK
    split
    · exact ok_step X hX ih
    · exact ih
end Go.Proofs.Ytmgpfhmodjmcdaa
