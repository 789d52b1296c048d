/-
  A step of the reference's machine, whatever the instruction; the reference's Used; Begin.
-/
import Derived.Test.YtmgpfhmodjmcdaaRsB
import Derived.Test.YtmgpfhmodjmcdaaRsC
import Derived.Test.YtmgpfhmodjmcdaaRsD
import Derived.Test.YtmgpfhmodjmcdaaRsE
import Derived.Test.YtmgpfhmodjmcdaaRsF
import Derived.Test.YtmgpfhmodjmcdaaRsG
namespace Go.Proofs.Ytmgpfhmodjmcdaa
set_option maxRecDepth 20000
set_option linter.unusedVariables false
open Go.ChangeShapes Go.WideShapes Go.ChangeAt Go.RowKit

theorem rstep_any {A W : World} {b gr gm : Nat} {ov : Value} {I : List Int} {s : St} {rd : Nat} (h : IsR A W b gr gm ov I s rd 0) (X : List Ins) (cv : Value) (ai : Option Addr) (ci : Nat) (hv : Code A cv X) (hi : IntsC A (.slice ai I.length ci) I) (hI : ∀ x ∈ I, (Lit.int .i64 x).wf = true) (hrd : rd ≤ 1000000) (hX : X.length ≤ 4096) :
    Calls Try.prog 26 #[.pointer (some ⟨b, 0, none⟩), cv, .slice ai I.length ci] W fun e W' => e = .returned (.tuple #[]) ∧ After A W W' b gr gm I (stepM X s) rd := by
  by_cases hp : s.place < 0 ∨ X.length ≤ s.place
  · obtain ⟨ao, cap, rfl, hc⟩ := id hv
    exact rstep_out h X ao cap _ hp
  · have hk : s.place = (s.place.toNat : Int) := by omega
    have hl : s.place.toNat < X.length := by omega
    by_cases hr : (X.getD s.place.toNat Ins.zero).right = true
    · have hbd := right_bd hr
      by_cases orec : reckonsB (X.getD s.place.toNat Ins.zero).o = true
      · exact rstep_rec h X cv ai ci hv hi hI hrd _ hk hl hX hr orec
      · have hn : ¬ (1 ≤ (X.getD s.place.toNat Ins.zero).o ∧ (X.getD s.place.toNat Ins.zero).o ≤ 11) := by simpa [reckonsB] using orec
        by_cases o12 : (X.getD s.place.toNat Ins.zero).o = 12
        · exact rstep_12 h X cv ai ci hv hi hI hrd _ hk hl hX hr o12
        by_cases o13 : (X.getD s.place.toNat Ins.zero).o = 13
        · exact rstep_13 h X cv ai ci hv hi hI hrd _ hk hl hX hr o13
        by_cases o14 : (X.getD s.place.toNat Ins.zero).o = 14
        · exact rstep_14 h X cv ai ci hv hi hI hrd _ hk hl hX hr o14
        by_cases o20 : (X.getD s.place.toNat Ins.zero).o = 20
        · have hlit : (X.getD s.place.toNat Ins.zero).i = 0 ∨ (X.getD s.place.toNat Ins.zero).i = 1 ∨ (X.getD s.place.toNat Ins.zero).i = 2 := by
            generalize X.getD s.place.toNat Ins.zero = x at hr o20
            have h20 : rightB x.o x.a x.b x.c x.i = true := hr
            rw [o20] at h20
            have : leastOf 20 ≤ x.i ∧ x.i ≤ mostOf 20 := by
              unfold rightB at h20
              simp only [Bool.and_eq_true, decide_eq_true_eq] at h20
              exact h20.2
            simp only [leastOf, mostOf] at this
            omega
          rcases hlit with im | im | im
          · exact rstep_200 h X cv ai ci hv hi hI hrd _ hk hl hX hr o20 im
          · exact rstep_201 h X cv ai ci hv hi hI hrd _ hk hl hX hr o20 im
          · exact rstep_202 h X cv ai ci hv hi hI hrd _ hk hl hX hr o20 im
        · exact rstep_plain h X cv ai ci hv hi hI hrd _ hk hl hX hr (by omega)
    · exact rstep_wrong h X cv ai ci hv hi hI hrd _ hk hl hX hr
/-- What the reference's loop knows behind k rounds. -/
def EndTo (L : List Int) (k d : Nat) : Prop := d ≤ k ∧ (∀ j, d ≤ j → j < k → L[j]?.getD 0 = 0) ∧ (d = 0 ∨ L[d - 1]?.getD 0 ≠ 0)
theorem endTo_yes {L : List Int} {k d : Nat} (h : EndTo L k d) (hx : L[k]?.getD 0 ≠ 0) : EndTo L (k + 1) (k + 1) := ⟨Nat.le_refl _, fun j h1 h2 => by omega, .inr hx⟩
theorem endTo_no {L : List Int} {k d : Nat} (h : EndTo L k d) (hx : L[k]?.getD 0 = 0) : EndTo L (k + 1) d := by
  refine ⟨by have := h.1; omega, fun j h1 h2 => ?_, h.2.2⟩
  rcases Nat.lt_or_ge j k with h3 | h3
  · exact h.2.1 j h1 h3
  · obtain rfl : j = k := by omega
    exact hx
set_option maxHeartbeats 1000000 in
theorem refUsed_some (g cap : Nat) (L : List Int) (W : World) (hcap : L.length ≤ cap) (hv : ∀ j, j < L.length → W.cell? ⟨g, j, none⟩ = some (.int .i64 (L[j]?.getD 0))) (hlen : L.length ≤ 32000) :
    Calls Try.prog 27 #[.slice (some ⟨g, 0, none⟩) L.length cap] W fun e W' => ∃ d, e = .returned (.slice (some ⟨g, 0, none⟩) d cap) ∧ EndAt L d ∧ W' = W := by
  have HV : Hid (∀ j, j < L.length → W.cell? ⟨g, j, none⟩ = some (.int .i64 (L[j]?.getD 0))) := hv
  clear hv
  go_enter Try.func27, Try.ntmps27
  go_wp2
  go_loop [3, 4] (fun n i => ∃ k d : Nat, k ≤ L.length ∧ n = .int .i64 d ∧ i = .int .i64 k ∧ Hid (EndTo L k d)) (fun _ i => L.length - (intOf i).toNat)
  case atStart => exact ⟨0, 0, Nat.zero_le _, rfl, rfl, ⟨Nat.le_refl _, fun j h1 h2 => by omega, .inl rfl⟩⟩
  case round =>
    obtain ⟨k, d, hk, rfl, rfl, hin⟩ := hrel
    by_cases hlt : k < L.length
    · have hcx := HV.out k hlt
      have hlti : (k : Int) < L.length := by omega
      by_cases hx : L[k]?.getD 0 = 0
      · have HN : Hid (EndTo L (k + 1) d) := endTo_no hin.out hx
        rw [hx] at hcx
        clear hx
        go_wp2
        go_round
        case rel => exact ⟨k + 1, d, by omega, rfl, by simp, HN⟩
        case measure => simp only [intOf]; omega
      · have HN : Hid (EndTo L (k + 1) (k + 1)) := endTo_yes hin.out hx
        have hx' : (L[k]?.getD 0 != 0) = true := by simpa using hx
        generalize L[k]?.getD 0 = x at hcx hx'
        clear hx
        go_wp2
        go_round
        case rel => exact ⟨k + 1, k + 1, by omega, by simp, by simp, HN⟩
        case measure => simp only [intOf]; omega
    · have hlti : ¬ ((k : Int) < L.length) := by omega
      obtain rfl : k = L.length := by omega
      have hd := hin.out.1
      have hdc : (d : Int) ≤ cap := by omega
      go_wp2
      go_ret
      exact ⟨d, rfl, hin.out, rfl⟩
end Go.Proofs.Ytmgpfhmodjmcdaa
