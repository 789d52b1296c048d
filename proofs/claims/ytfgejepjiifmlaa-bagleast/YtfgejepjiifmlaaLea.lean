/-
  The contract of package bag's Least, of what a set tells, by tens.
-/
import Derived.Test.YtfgejepjiifmlaaLst5
namespace Go.Proofs.Ytfgejepjiifmlaa
set_option linter.unusedVariables false
open Go.ChangeShapes Go.WideShapes Go.ChangeAt Go.RowKit

def someB (L : List Int) : Bool := !L.isEmpty
theorem low_fm' (L : List Int) (p : Nat) (hp : 0 < L.length) (h : LowTo L L.length p) : elt L p = fm L := by
  cases L with
  | nil => simp at hp
  | cons x r => exact low_fm x r p h
set_option maxHeartbeats 1000000 in
theorem least_any (B1 : Nat) (ao : Option Addr) (cap : Nat) (L : List Int) (w : World) (hlen : L.length < 1000000) (hw : ∀ x ∈ L, (Lit.int .i64 x).wf = true) (b1 : Boxed w B1 22 (.slice ao L.length cap))
    (hL : 0 < L.length → ∃ g o, ao = some ⟨g, o, none⟩ ∧ g < w.heap.size ∧ ∀ j, j < L.length → w.cell? ⟨g, o + j, none⟩ = some (.int .i64 (L[j]?.getD 0))) :
    Calls Try.prog 21 #[.func (.func 28) #[] #[.pointer (some ⟨B1, 0, none⟩)], .func (.func 22) #[] #[]] w fun e W' => e = .returned (.tuple #[.int .i64 (fm L), .bool (someB L)]) ∧ Bel w W' := by
  have heq := fun (w : World) => eql_func_nil w 46 (.func 22) #[] #[] Try.underlying46
  go_enter Try.func21, Try.ntmps21
  go_wp2_with (first
    | (go_at_call 29; refine (listed_any B1 ao cap L _ hlen b1 hL).mono ?_; rintro e w1 ⟨v1, rfl, r1, bel1⟩; have hI := ints_of_row r1)
    | (go_at_call 31; refine (lowest_any _ L _ hI hw hlen).mono ?_; rintro e w2 ⟨p, rfl, hlow, e2⟩; subst e2; have HL : Hid (LowTo L L.length p) := hlow; clear hlow; obtain ⟨lo, lcap, hv1⟩ := slice_of r1; subst hv1))
  have hI' := hI
  obtain ⟨lo', lcap', he, hv⟩ := hI'
  injection he with he1 he2 he3
  subst he1
  subst he3
  clear he2
  by_cases hL0 : L = []
  · have hl0 : L.length = 0 := by rw [hL0]; rfl
    have hfm : Hid (fm L = 0) := by show _ = _; rw [hL0]; rfl
    have hsb : Hid (someB L = false) := by show _ = _; rw [hL0]; rfl
    clear hL0
    go_loop [20] (fun i => i = .int .i64 0) (fun _ => 0)
    case atStart => rfl
    case round =>
      subst hrel
      go_wp2
      go_ret2
      rw [hfm.out, hsb.out]
      exact ⟨rfl, bel1⟩
  · have hpos : 0 < L.length := List.length_pos_iff.2 hL0
    have hpl : p < L.length := by have := HL.out.1; omega
    have hfm : elt L p = fm L := low_fm' L p hpos HL.out
    have hsb : Hid (someB L = true) := by show _ = _; cases L with | nil => exact absurd rfl hL0 | cons => rfl
    clear hL0
    obtain ⟨b, o, rfl, hb, hc⟩ := hv (by omega)
    have hcp := hc p hpl
    have wp := hw _ (elt_mem hpl)
    change w2.cell? _ = some (.int .i64 (elt L p)) at hcp
    have hpi : (p : Int) < L.length := by omega
    have hlo := HL.out.2.2
    have HF : Hid (elt L p = fm L) := hfm
    clear hv hfm
    go_loop [20] (fun i => ∃ k : Nat, k ≤ p ∧ i = .int .i64 k) (fun i => L.length - (intOf i).toNat)
    case atStart => exact ⟨0, Nat.zero_le _, rfl⟩
    case round =>
      obtain ⟨k, hk, rfl⟩ := hrel
      have hlt : k < L.length := by omega
      have hcx := hc k hlt
      have wk := hw _ (elt_mem hlt)
      change w2.cell? _ = some (.int .i64 (elt L k)) at hcx
      by_cases hkp : k = p
      · have hn : ((k : Int) != (p : Int)) = false := by simp [hkp]
        have hz : elt L k = fm L := by rw [hkp]; exact HF.out
        clear hc hlo
        subst hkp
        rw [hz] at hcx
        clear hz hcp
        go_wp2_with (go_at_call 32; refine (hasLess_any _ L k _ hI hw hlen hlt HL).mono ?_; rintro e w' ⟨rfl, e3⟩; subst e3)
        go_ret2
        rw [hsb.out]
        exact ⟨rfl, bel1⟩
      · have hn : ((k : Int) != (p : Int)) = true := by simp; omega
        have hlb : ltB (elt L p) (elt L k) = true := ltB_true.2 (hlo k (by omega))
        clear hc hlo
        have hkp' : k + 1 ≤ p := by omega
        clear hkp
        generalize elt L k = z at *
        generalize elt L p = z' at *
        go_wp2_with (go_at_call 22; refine (tens_any _ _ wp wk _).mono ?_; rintro e w' ⟨rfl, e3⟩; subst e3)
        go_round
        case rel => exact ⟨k + 1, hkp', by simp⟩
        case measure => simp only [intOf]; omega
end Go.Proofs.Ytfgejepjiifmlaa
