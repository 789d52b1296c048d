/-
  What later instructions ask, in memory: the contracts of add and of.
-/
import Derived.Test.YtpmofaajkhllpaaDm
import Derived.Test.YtpmofaajkhllpaaRk
import Derived.Test.YtpmofaajkhllpaaRows1
import Derived.Lib.MinMax
namespace Go.Proofs.Ytpmofaajkhllpaa
set_option maxRecDepth 20000
set_option linter.unusedVariables false
open Go.ChangeShapes Go.WideShapes Go.ChangeAt Go.RowKit

theorem hidm {p : Prop} (h : p) : Hid p := h
def askV (r w : Int → Int) (a : Int) (k : Nat) : Int := if k < 32 then r k else if k < 64 then w ((k : Int) - 32) else a
def askB (r w : Int → Int) (a : Int) : Obj := .cells ((Array.range 65).map fun k : Nat => Value.int .i64 (askV r w a k)) 68
def upd (f : Int → Int) (n x : Int) : Int → Int := fun k => if k = n then x else f k
theorem ask_cell {W : World} {b : Nat} {r w : Int → Int} {a : Int} (h : W.heap[b]? = some (askB r w a)) (k : Nat) (hk : k < 65) : W.cell? ⟨b, k, none⟩ = some (.int .i64 (askV r w a k)) := by
  refine (cell_of h k).trans ?_
  simp [hk]
theorem ask_r {W : World} {b : Nat} {r w : Int → Int} {a : Int} (h : W.heap[b]? = some (askB r w a)) (k : Nat) (hk : k < 32) : W.cell? ⟨b, k, none⟩ = some (.int .i64 (r k)) := by
  rw [ask_cell h k (by omega)]
  unfold askV
  rw [if_pos hk]
theorem ask_w {W : World} {b : Nat} {r w : Int → Int} {a : Int} (h : W.heap[b]? = some (askB r w a)) (k : Nat) (hk : k < 32) : W.cell? ⟨b, 32 + k, none⟩ = some (.int .i64 (w k)) := by
  rw [ask_cell h _ (by omega)]
  unfold askV
  rw [if_neg (by omega), if_pos (by omega), show ((32 + k : Nat) : Int) - 32 = k by omega]
theorem ask_a {W : World} {b : Nat} {r w : Int → Int} {a : Int} (h : W.heap[b]? = some (askB r w a)) : W.cell? ⟨b, 64, none⟩ = some (.int .i64 a) := by
  rw [ask_cell h _ (by omega)]
  rfl
theorem ask_fz {W : World} {b : Nat} {r w : Int → Int} {a : Int} (h : W.heap[b]? = some (askB r w a)) (k : Nat) : W.frozen? ⟨b, k, none⟩ = false := frozen_of h k
theorem askB_cong {r w r' w' : Int → Int} {a a' : Int} (h1 : ∀ k : Nat, k < 32 → r k = r' k) (h2 : ∀ k : Nat, k < 32 → w k = w' k) (h3 : a = a') : askB r w a = askB r' w' a' := by
  unfold askB
  congr 1
  apply Array.map_congr_left
  intro k hk
  rw [Array.mem_range] at hk
  congr 1
  unfold askV
  by_cases c1 : k < 32
  · rw [if_pos c1, if_pos c1, h1 k c1]
  · by_cases c2 : k < 64
    · rw [if_neg c1, if_neg c1, if_pos c2, if_pos c2]
      have := h2 (k - 32) (by omega)
      rwa [show ((k - 32 : Nat) : Int) = (k : Int) - 32 by omega] at this
    · rw [if_neg c1, if_neg c1, if_neg c2, if_neg c2, h3]
theorem ask_set {W : World} {b : Nat} {r w : Int → Int} {a : Int} (h : W.heap[b]? = some (askB r w a)) (k : Nat) (x : Int) (r' w' : Int → Int) (a' : Int) (hv : ∀ i, i < 65 → askV r' w' a' i = if i = k then x else askV r w a i) : (W.setCell ⟨b, k, none⟩ (.int .i64 x)).heap[b]? = some (askB r' w' a') := by
  refine (heap_set_same h).trans ?_
  unfold askB
  congr 2
  apply Array.ext_getElem?
  intro i
  rw [Array.getElem?_setIfInBounds]
  by_cases e : k = i
  · subst e
    by_cases hj : k < 65
    · simp [hj, hv k hj]
    · simp [hj]
  · rw [if_neg e]
    by_cases hi : i < 65
    · simp [hi, hv i hi, show ¬ i = k from fun q => e q.symm]
    · simp [hi]
theorem ask_setr {W : World} {b : Nat} {r w : Int → Int} {a : Int} (h : W.heap[b]? = some (askB r w a)) (k : Nat) (hk : k < 32) (x : Int) : (W.setCell ⟨b, k, none⟩ (.int .i64 x)).heap[b]? = some (askB (upd r k x) w a) :=
  ask_set h k x _ _ _ fun i hi => by
    unfold askV upd
    by_cases e : i = k
    · subst e; rw [if_pos hk, if_pos rfl, if_pos rfl]
    · rw [if_neg e, if_neg (show ¬ ((i : Int) = (k : Int)) by omega)]
theorem ask_setw {W : World} {b : Nat} {r w : Int → Int} {a : Int} (h : W.heap[b]? = some (askB r w a)) (k : Nat) (hk : k < 32) (x : Int) : (W.setCell ⟨b, 32 + k, none⟩ (.int .i64 x)).heap[b]? = some (askB r (upd w k x) a) :=
  ask_set h (32 + k) x _ _ _ fun i hi => by
    unfold askV upd
    by_cases e : i = 32 + k
    · subst e; rw [if_neg (by omega), if_pos (by omega), if_pos (by omega), if_pos rfl]
    · rw [if_neg e]
      by_cases c1 : i < 32
      · rw [if_pos c1, if_pos c1]
      · rw [if_neg c1, if_neg c1, if_neg (show ¬ ((i : Int) - 32 = (k : Int)) by omega)]
theorem ask_seta {W : World} {b : Nat} {r w : Int → Int} {a : Int} (h : W.heap[b]? = some (askB r w a)) (x : Int) : (W.setCell ⟨b, 64, none⟩ (.int .i64 x)).heap[b]? = some (askB r w x) :=
  ask_set h 64 x _ _ _ fun i hi => by
    unfold askV
    by_cases e : i = 64
    · subst e; rw [if_neg (by omega), if_neg (by omega), if_pos rfl]
    · rw [if_neg e]
      by_cases c1 : i < 32
      · rw [if_pos c1, if_pos c1]
      · rw [if_neg c1, if_neg c1, if_pos (show i < 64 by omega), if_pos (show i < 64 by omega)]
def askL (L : List (Ins × Int)) : Obj := askB (rN L) (wN L) (aN L)

/-- The registers that are read, as the program lists them. -/
def Ins.rdl (x : Ins) : List Int := rdL x.o x.a x.b x.c x.i
theorem rdl_forms (x : Ins) :
    (x.rdl = [] ∧ x.rd1 = 0 ∧ x.rd2 = 0) ∨
    (∃ p, x.rdl = [p] ∧ 1 ≤ p ∧ p ≤ 31 ∧ (x.rd1 = p ∨ x.rd1 = 0) ∧ (x.rd2 = p ∨ x.rd2 = 0) ∧ (x.rd1 = p ∨ x.rd2 = p)) ∨
    (∃ p q, x.rdl = [p, q] ∧ 1 ≤ p ∧ p < q ∧ q ≤ 31 ∧ (x.rd1 = p ∧ x.rd2 = q ∨ x.rd1 = q ∧ x.rd2 = p)) := by
  obtain ⟨h1, h2, h3, h4, _, _⟩ := ins_bd x
  have e : x.rdl = pairL (lo2 x.rd1 x.rd2) (hi2 x.rd1 x.rd2) := rfl
  rw [e]
  generalize x.rd1 = r1 at *
  generalize x.rd2 = r2 at *
  have hl : lo2 r1 r2 ≤ hi2 r1 r2 ∧ (lo2 r1 r2 = r1 ∧ hi2 r1 r2 = r2 ∨ lo2 r1 r2 = r2 ∧ hi2 r1 r2 = r1) := by unfold lo2 hi2; omega
  generalize lo2 r1 r2 = l at *
  generalize hi2 r1 r2 = h at *
  by_cases e1 : l = 0
  · by_cases e2 : h = l
    · exact .inl ⟨by simp [pairL, e1, e2], by omega, by omega⟩
    · exact .inr (.inl ⟨h, by subst e1; simp [pairL, e2], by omega, by omega, by omega, by omega, by omega⟩)
  · by_cases e2 : h = l
    · exact .inr (.inl ⟨l, by simp [pairL, e1, e2], by omega, by omega, by omega, by omega, by omega⟩)
    · exact .inr (.inr ⟨l, h, by simp [pairL, e1, e2], by omega, by omega, by omega, by omega⟩)
theorem rdl_mem (x : Ins) (n : Int) : n ∈ x.rdl ↔ x.rds n = true := by
  rw [rds_iff]
  rcases rdl_forms x with ⟨h, h1, h2⟩ | ⟨p, h, h1, h2, h3⟩ | ⟨p, q, h, h1, h2, h3, h4⟩ <;> rw [h] <;> simp <;> omega
theorem rdl_len (x : Ins) : x.rdl.length ≤ 2 := by
  rcases rdl_forms x with ⟨h, _⟩ | ⟨p, h, _⟩ | ⟨p, q, h, _⟩ <;> rw [h] <;> simp
theorem rdl_bd (x : Ins) (k : Nat) (hk : k < x.rdl.length) : ∃ n : Nat, x.rdl.getD k 0 = n ∧ n < 32 := by
  have hm : x.rdl.getD k 0 ∈ x.rdl := by
    rw [show x.rdl.getD k 0 = x.rdl[k] by simp [List.getD, hk]]
    exact List.getElem_mem hk
  have hb := ins_bd x
  have := (rds_iff _ _).1 ((rdl_mem x _).1 hm)
  exact ⟨(x.rdl.getD k 0).toNat, by omega, by omega⟩
/-- Those that are read, once so many have been looked at. -/
def rStep (f : Int → Int) (l : List Int) (h : Int) : Int → Int := fun n => if n ∈ l then max (f n) (h + 1) else f n
theorem rStep_nil (f : Int → Int) (h : Int) : rStep f [] h = f := by funext n; simp [rStep]
theorem rStep_snoc (f : Int → Int) (l : List Int) (k : Nat) (h : Int) (hk : k < l.length) : rStep f (l.take (k + 1)) h = upd (rStep f (l.take k) h) (l.getD k 0) (max (rStep f (l.take k) h (l.getD k 0)) (h + 1)) := by
  funext n
  have e : l.take (k + 1) = l.take k ++ [l.getD k 0] := by rw [List.take_succ_eq_append_getElem hk]; simp [List.getD, hk]
  rw [e]
  unfold rStep upd
  by_cases h1 : n = l.getD k 0
  · subst h1
    simp only [List.mem_append, List.mem_singleton, or_true, if_true]
    split <;> omega
  · rw [if_neg h1]
    simp only [List.mem_append, List.mem_singleton, h1, or_false]
theorem rN_step (x : Ins) (h : Int) (L : List (Ins × Int)) (n : Int) : rStep (rN L) x.rdl h n = rN ((x, h) :: L) n := by
  unfold rStep
  simp only [rN, rdl_mem]
def wStep (x : Ins) (f : Int → Int) (h : Int) : Int → Int := if x.wr = 0 then f else upd f x.wr (max (f x.wr) (h + 1))
theorem wN_step (x : Ins) (h : Int) (L : List (Ins × Int)) (n : Int) : wStep x (wN L) h n = wN ((x, h) :: L) n := by
  unfold wStep upd
  simp only [wN]
  by_cases h1 : x.wr = 0
  · rw [if_pos h1, if_neg (fun e => e.1 h1)]
  · rw [if_neg h1]
    by_cases h2 : n = x.wr
    · subst h2; simp [h1]
    · rw [if_neg h2, if_neg (fun e => h2 e.2.symm)]
def aStep (x : Ins) (a h : Int) : Int := if x.act = true then max a (h + 1) else a
theorem ask_step (x : Ins) (h : Int) (L : List (Ins × Int)) : askB (rStep (rN L) x.rdl h) (wStep x (wN L) h) (aStep x (aN L) h) = askL ((x, h) :: L) :=
  askB_cong (fun k _ => rN_step x h L k) (fun k _ => wN_step x h L k) rfl
end Go.Proofs.Ytpmofaajkhllpaa
