/-
  The contracts of tens, and of package bag's lowest, hasLess and Least with it.
-/
import Derived.Test.YtfgejepjiifmlaaLsd
namespace Go.Proofs.Ytfgejepjiifmlaa
set_option linter.unusedVariables false
open Go.ChangeShapes Go.WideShapes Go.ChangeAt Go.RowKit

def tn (a : Int) : Int := a.tdiv 10
def ltB (a b : Int) : Bool := decide (tn a < tn b)
theorem ltB_true {a b : Int} : ltB a b = true ↔ tn a < tn b := by simp [ltB]
theorem ltB_false {a b : Int} : ltB a b = false ↔ tn b ≤ tn a := by simp [ltB]
def elt (L : List Int) (k : Nat) : Int := L[k]?.getD 0
theorem elt_mem {L : List Int} {k : Nat} (h : k < L.length) : elt L k ∈ L := by simp [elt, h]
/-- p is the first place of those below k at which nothing less stands. -/
def LowTo (L : List Int) (k p : Nat) : Prop := (p < k ∨ (k = 0 ∧ p = 0)) ∧ (∀ j, j < k → tn (elt L p) ≤ tn (elt L j)) ∧ (∀ j, j < p → tn (elt L p) < tn (elt L j))
theorem low_zero (L : List Int) : LowTo L 0 0 := ⟨.inr ⟨rfl, rfl⟩, fun j hj => by omega, fun j hj => by omega⟩
theorem low_yes {L : List Int} {k p : Nat} (h : LowTo L k p) (hl : tn (elt L k) < tn (elt L p)) : LowTo L (k + 1) k := by
  obtain ⟨h1, h2, h3⟩ := h
  refine ⟨.inl (by omega), fun j hj => ?_, fun j hj => ?_⟩
  · by_cases e : j = k
    · subst e; omega
    · have := h2 j (by omega); omega
  · have := h2 j hj; omega
theorem low_no {L : List Int} {k p : Nat} (h : LowTo L k p) (hl : tn (elt L p) ≤ tn (elt L k)) : LowTo L (k + 1) p := by
  obtain ⟨h1, h2, h3⟩ := h
  refine ⟨.inl (by omega), fun j hj => ?_, h3⟩
  by_cases e : j = k
  · subst e; exact hl
  · exact h2 j (by omega)
def fm : List Int → Int
  | [] => 0
  | [x] => x
  | x :: y :: r => if ltB (fm (y :: r)) x then fm (y :: r) else x
theorem fm_mem : ∀ (x : Int) (r : List Int), fm (x :: r) ∈ x :: r
  | x, [] => by simp [fm]
  | x, y :: r => by
    have ih := fm_mem y r
    unfold fm
    split
    · exact List.mem_cons_of_mem _ ih
    · simp
theorem elt_succ (x : Int) (r : List Int) (j : Nat) : elt (x :: r) (j + 1) = elt r j := by simp [elt]
theorem low_fm : ∀ (x : Int) (r : List Int) (p : Nat), LowTo (x :: r) (x :: r).length p → elt (x :: r) p = fm (x :: r)
  | x, [], p, h => by
    have : p = 0 := by have := h.1; simp at this; omega
    subst this; rfl
  | x, y :: r, p, h => by
    obtain ⟨h1, h2, h3⟩ := h
    cases p with
    | zero =>
      have hm := fm_mem y r
      obtain ⟨j, hj, e⟩ := List.mem_iff_getElem.1 hm
      have h4 := h2 (j + 1) (by simp at hj ⊢; omega)
      rw [elt_succ] at h4
      have e' : elt (y :: r) j = fm (y :: r) := by unfold elt; rw [List.getElem?_eq_getElem hj, e]; rfl
      rw [e'] at h4
      have : ltB (fm (y :: r)) x = false := ltB_false.2 h4
      unfold fm
      rw [this]
      rfl
    | succ p =>
      rw [elt_succ] at h2 h3 ⊢
      have hlow : LowTo (y :: r) (y :: r).length p := by
        refine ⟨.inl (by simp at h1 ⊢; omega), fun j hj => ?_, fun j hj => ?_⟩
        · have := h2 (j + 1) (by simp at hj ⊢; omega); rwa [elt_succ] at this
        · have := h3 (j + 1) (by omega); rwa [elt_succ] at this
      have ih := low_fm y r p hlow
      have h4 := h3 0 (by omega)
      rw [ih] at h4 ⊢
      have : ltB (fm (y :: r)) x = true := ltB_true.2 h4
      conv => rhs; unfold fm
      rw [this]
      rfl

theorem tens_any (a b : Int) (wa : (Lit.int .i64 a).wf = true) (wb : (Lit.int .i64 b).wf = true) (w : World) :
    Calls Try.prog 22 #[.int .i64 a, .int .i64 b] w fun e w' => e = .returned (.bool (ltB a b)) ∧ w' = w := by
  have ha := wf_i64 wa
  have hb := wf_i64 wb
  go_enter Try.func22, Try.ntmps22
  go_wp2
  go_ret
  exact ⟨rfl, rfl⟩

set_option maxHeartbeats 1000000 in
theorem lowest_any (v : Value) (L : List Int) (W : World) (h : Ints .i64 W v L) (hw : ∀ x ∈ L, (Lit.int .i64 x).wf = true) (hlen : L.length < 1000000) :
    Calls Try.prog 31 #[v, .func (.func 22) #[] #[]] W fun e W' => ∃ p : Nat, e = .returned (.int .i64 p) ∧ LowTo L L.length p ∧ W' = W := by
  obtain ⟨ao, cap, rfl, hv⟩ := h
  go_enter Try.func31, Try.ntmps31
  go_wp2
  go_loop [5, 10] (fun q i => ∃ k p : Nat, k ≤ L.length ∧ i = .int .i64 k ∧ q = .int .i64 p ∧ Hid (LowTo L k p)) (fun _ i => L.length - (intOf i).toNat)
  case atStart => exact ⟨0, 0, Nat.zero_le _, rfl, rfl, low_zero L⟩
  case round =>
    obtain ⟨k, p, hk, rfl, rfl, hlow⟩ := hrel
    by_cases hlt : k < L.length
    · obtain ⟨b, o, rfl, hb, hc⟩ := hv (by omega)
      have hp : p < L.length := by have := hlow.out.1; omega
      have hcx := hc k hlt
      have hcp := hc p hp
      have hy := low_yes hlow.out
      have hn := low_no hlow.out
      have wk := hw _ (elt_mem hlt)
      have wp := hw _ (elt_mem hp)
      change W.cell? _ = some (.int .i64 (elt L k)) at hcx
      change W.cell? _ = some (.int .i64 (elt L p)) at hcp
      clear hc hv
      have hpi : (p : Int) < L.length := by omega
      cases hlb : ltB (elt L k) (elt L p) with
      | true =>
        have HS : Hid (LowTo L (k + 1) k) := hy (ltB_true.1 hlb)
        clear hy hn
        generalize elt L k = z at *
        generalize elt L p = z' at *
        go_wp2_with (go_at_call 22; refine (tens_any _ _ wk wp _).mono ?_; rintro e w' ⟨rfl, rfl⟩)
        go_round
        case rel => exact ⟨k + 1, k, by omega, by simp, rfl, HS⟩
        case measure => simp only [intOf]; omega
      | false =>
        have HS : Hid (LowTo L (k + 1) p) := hn (ltB_false.1 hlb)
        clear hy hn
        generalize elt L k = z at *
        generalize elt L p = z' at *
        go_wp2_with (go_at_call 22; refine (tens_any _ _ wk wp _).mono ?_; rintro e w' ⟨rfl, rfl⟩)
        go_round
        case rel => exact ⟨k + 1, p, by omega, by simp, rfl, HS⟩
        case measure => simp only [intOf]; omega
    · obtain rfl : k = L.length := by omega
      go_wp2
      go_ret
      exact ⟨p, rfl, hlow.out, rfl⟩

set_option maxHeartbeats 1000000 in
theorem hasLess_any (v : Value) (L : List Int) (p : Nat) (W : World) (h : Ints .i64 W v L) (hw : ∀ x ∈ L, (Lit.int .i64 x).wf = true) (hlen : L.length < 1000000) (hp : p < L.length) (hlow : Hid (LowTo L L.length p)) :
    Calls Try.prog 32 #[v, .int .i64 p, .func (.func 22) #[] #[]] W fun e W' => e = .returned (.bool false) ∧ W' = W := by
  obtain ⟨ao, cap, rfl, hv⟩ := h
  obtain ⟨b, o, rfl, hb, hc⟩ := hv (by omega)
  have hcp := hc p hp
  have wp := hw _ (elt_mem hp)
  change W.cell? _ = some (.int .i64 (elt L p)) at hcp
  have hpi : (p : Int) < L.length := by omega
  have hlo := hlow.out.2.1
  clear hv
  go_enter Try.func32, Try.ntmps32
  go_wp2
  go_loop [11] (fun i => ∃ k : Nat, k ≤ L.length ∧ i = .int .i64 k) (fun i => L.length - (intOf i).toNat)
  case atStart => exact ⟨0, Nat.zero_le _, rfl⟩
  case round =>
    obtain ⟨k, hk, rfl⟩ := hrel
    by_cases hlt : k < L.length
    · have hcx := hc k hlt
      have wk := hw _ (elt_mem hlt)
      change W.cell? _ = some (.int .i64 (elt L k)) at hcx
      have hlb : ltB (elt L k) (elt L p) = false := ltB_false.2 (hlo k hlt)
      clear hc hlo
      by_cases hkp : k = p
      · have hn : ((k : Int) != (p : Int)) = false := by simp [hkp]
        generalize elt L k = z at *
        clear hkp wk hlb
        go_wp2
        go_round
        case rel => exact ⟨k + 1, by omega, by simp⟩
        case measure => simp only [intOf]; omega
      · have hn : ((k : Int) != (p : Int)) = true := by simp; omega
        generalize elt L k = z at *
        generalize elt L p = z' at *
        clear hkp
        go_wp2_with (go_at_call 22; refine (tens_any _ _ wk wp _).mono ?_; rintro e w' ⟨rfl, rfl⟩)
        go_round
        case rel => exact ⟨k + 1, by omega, by simp⟩
        case measure => simp only [intOf]; omega
    · go_wp2
      go_ret
      exact ⟨rfl, rfl⟩
end Go.Proofs.Ytfgejepjiifmlaa
