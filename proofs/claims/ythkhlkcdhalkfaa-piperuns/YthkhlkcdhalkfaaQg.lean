/-
  The reference of layer 8: a step, whatever the instruction; what a run's states are; the reference's Used.
-/
import Derived.Test.YthkhlkcdhalkfaaQc
import Derived.Test.YthkhlkcdhalkfaaQe20
import Derived.Test.YthkhlkcdhalkfaaQf
namespace Go.Proofs.Ythkhlkcdhalkfaa
set_option maxRecDepth 20000
set_option linter.unusedVariables false
open Go.ChangeShapes Go.WideShapes Go.ChangeAt Go.RowKit

theorem ok_doP {x : Ins} {here a b c v : Int} {p : Pt} (h : OkP p) (hr : x.right = true) (hh : 0 ≤ here ∧ here ≤ 100000) (ha : Wd a) (hb : Wd b) (hc : Wd c) : OkP (doP x here a b c v p).2 := by
  have hbd := right_bd hr
  unfold doP
  split
  · show OkP (leaveP x here a b p)
    have hl : OkP (linkP x here p) := by
      unfold linkP
      split
      · exact ok_writeP h x _ (by unfold Wd; omega)
      · exact h
    unfold leaveP
    split
    · refine ok_nextP hl _ ?_
      unfold toP
      split
      · unfold Wd; omega
      · split
        · exact ha
        · unfold Wd; omega
    · exact hl
  · split
    · show OkP (finishP x (recV x.o x.i b c) (recT x.o c) p)
      unfold finishP
      split
      · exact ok_writeP h x _ (rec_wd hb hc)
      · exact h
    · unfold actP
      split
      · unfold loadP
        split
        · exact ok_writeP h x _ (get_wd h.ok.cells _)
        · exact h
      · split
        · unfold storeP
          split
          · exact ok_memP h _ _
          · exact h
        · split
          · exact h
          · split
            · unfold sysP
              split
              · unfold takeP
                split
                · exact h
                · exact ok_inpP (ok_writeP h x _ (wd_wrap _)) _
              · split
                · unfold tellP
                  split
                  · exact h
                  · exact ok_outP h _
                · exact h
            · exact h
theorem ok_stepP {X : List Ins} {p : Pt} (h : OkP p) (hX : X.length ≤ 4096) : OkP (stepP X p).2 := by
  unfold stepP
  split
  · exact h
  · split
    · rename_i h1 h2
      have hn : Wd p.next := by
        rcases h.next with q | q
        · exact q
        · rw [q]; unfold Wd; omega
      exact ok_doP (ok_arriveP (ok_aheadP h hn)) h2 (by omega) (reg_wd h.ok _) (reg_wd h.ok _) (reg_wd h.ok _)
    · exact h
theorem ok_runP {X : List Ins} {p : Pt} (h : OkP p) (hX : X.length ≤ 4096) (k : Nat) : OkP (runP X p k).2 := by
  induction k with
  | zero => exact h
  | succ k ih =>
    unfold runP
    split
    · exact ok_stepP ih hX
    · exact ih
theorem qstep_any {A W : World} {b gr gm : Nat} {ov : Value} {I : List Int} {p : Pt} {rd : Nat} {nx rg lt : Int} (h : IsR A W b gr gm ov I p.st rd 0) (hok : OkP p) (hnx : nx = p.next) (hrg : rg = p.lr) (hlt : p.lr ≠ 0 → lt = p.lv) (X : List Ins) (cv : Value) (ai : Option Addr) (ci : Nat) (hv : Code A cv X) (hi : IntsC A (.slice ai I.length ci) I) (hI : ∀ x ∈ I, (Lit.int .i64 x).wf = true) (hrd : rd ≤ 1000000) (hX : X.length ≤ 4096) :
    Calls Try.prog 22 #[.agg #[.pointer (some ⟨b, 0, none⟩), .int .i64 nx, .int .i64 rg, .int .i64 lt], cv, .slice ai I.length ci] W fun e W' => ∃ nx' rg' lt', e = .returned (.agg #[.pointer (some ⟨b, 0, none⟩), .int .i64 nx', .int .i64 rg', .int .i64 lt']) ∧ AfterQ A W W' b gr gm I (stepP X p) rd nx' rg' lt' := by
  by_cases hp : p.st.place < 0 ∨ X.length ≤ p.st.place
  · obtain ⟨ao, cap, rfl, hc⟩ := id hv
    exact qstep_out h X ao cap _ hp
  · have hk : p.st.place = (p.st.place.toNat : Int) := by omega
    have hl : p.st.place.toNat < X.length := by omega
    by_cases hr : (X.getD p.st.place.toNat Ins.zero).right = true
    · have hbd := right_bd hr
      by_cases hg : 15 ≤ (X.getD p.st.place.toNat Ins.zero).o ∧ (X.getD p.st.place.toNat Ins.zero).o ≤ 19
      · exact qstep_goes h hok hnx hrg hlt X cv ai ci hv hi hI hrd _ hk hl hX hr hg
      by_cases orec : 1 ≤ (X.getD p.st.place.toNat Ins.zero).o ∧ (X.getD p.st.place.toNat Ins.zero).o ≤ 11
      · exact qstep_reckons h hok hnx hrg hlt X cv ai ci hv hi hI hrd _ hk hl hX hr orec hg
      by_cases o12 : (X.getD p.st.place.toNat Ins.zero).o = 12
      · exact qstep_12 h hok hnx hrg hlt X cv ai ci hv hi hI hrd _ hk hl hX hr o12 hg
      by_cases o13 : (X.getD p.st.place.toNat Ins.zero).o = 13
      · exact qstep_13 h hok hnx hrg hlt X cv ai ci hv hi hI hrd _ hk hl hX hr o13 hg
      by_cases o14 : (X.getD p.st.place.toNat Ins.zero).o = 14
      · exact qstep_14 h hok hnx hrg hlt X cv ai ci hv hi hI hrd _ hk hl hX hr o14 hg
      by_cases o20 : (X.getD p.st.place.toNat Ins.zero).o = 20
      · exact qstep_20 h hok hnx hrg hlt X cv ai ci hv hi hI hrd _ hk hl hX hr o20 hg
      · exact qstep_nop h hok hnx hrg hlt X cv ai ci hv hi hI hrd _ hk hl hX hr (by omega) hg
    · exact qstep_wrong h X cv _ hv _ hk hl hr
/-- What the reference's loop knows behind k rounds. -/
def EndTo (L : List Int) (k d : Nat) : Prop := d ≤ k ∧ (∀ j, d ≤ j → j < k → L[j]?.getD 0 = 0) ∧ (d = 0 ∨ L[d - 1]?.getD 0 ≠ 0)
theorem endTo_yes {L : List Int} {k d : Nat} (h : EndTo L k d) (hx : L[k]?.getD 0 ≠ 0) : EndTo L (k + 1) (k + 1) := ⟨Nat.le_refl _, fun j h1 h2 => by omega, .inr hx⟩
theorem endTo_no {L : List Int} {k d : Nat} (h : EndTo L k d) (hx : L[k]?.getD 0 = 0) : EndTo L (k + 1) d := by
  refine ⟨by have := h.1; omega, fun j h1 h2 => ?_, h.2.2⟩
  rcases Nat.lt_or_ge j k with h3 | h3
  · exact h.2.1 j h1 h3
  · obtain rfl : j = k := by omega
    exact hx
set_option maxHeartbeats 1000000 in
theorem refUsed_some (g cap : Nat) (L : List Int) (W : World) (hcap : L.length ≤ cap) (hv : ∀ j, j < L.length → W.cell? ⟨g, j, none⟩ = some (.int .i64 (L[j]?.getD 0))) (hlen : L.length ≤ 32000) :
    Calls Try.prog 23 #[.slice (some ⟨g, 0, none⟩) L.length cap] W fun e W' => ∃ d, e = .returned (.slice (some ⟨g, 0, none⟩) d cap) ∧ EndAt L d ∧ W' = W := by
  have HV : Hid (∀ j, j < L.length → W.cell? ⟨g, j, none⟩ = some (.int .i64 (L[j]?.getD 0))) := hv
  clear hv
  go_enter Try.func23, Try.ntmps23
  go_wp2
  go_loop [3, 4] (fun n i => ∃ k d : Nat, k ≤ L.length ∧ n = .int .i64 d ∧ i = .int .i64 k ∧ Hid (EndTo L k d)) (fun _ i => L.length - (intOf i).toNat)
  case atStart => exact ⟨0, 0, Nat.zero_le _, rfl, rfl, ⟨Nat.le_refl _, fun j h1 h2 => by omega, .inl rfl⟩⟩
  case round =>
    obtain ⟨k, d, hk, rfl, rfl, hin⟩ := hrel
    by_cases hlt : k < L.length
    · have hcx := HV.out k hlt
      have hlti : (k : Int) < L.length := by omega
      by_cases hx : L[k]?.getD 0 = 0
      · have HN : Hid (EndTo L (k + 1) d) := endTo_no hin.out hx
        rw [hx] at hcx
        clear hx
        go_wp2
        go_round
        case rel => exact ⟨k + 1, d, by omega, rfl, by simp, HN⟩
        case measure => simp only [intOf]; omega
      · have HN : Hid (EndTo L (k + 1) (k + 1)) := endTo_yes hin.out hx
        have hx' : (L[k]?.getD 0 != 0) = true := by simpa using hx
        generalize L[k]?.getD 0 = x at hcx hx'
        clear hx
        go_wp2
        go_round
        case rel => exact ⟨k + 1, k + 1, by omega, by simp, by simp, HN⟩
        case measure => simp only [intOf]; omega
    · have hlti : ¬ ((k : Int) < L.length) := by omega
      obtain rfl : k = L.length := by omega
      have hd := hin.out.1
      have hdc : (d : Int) ≤ cap := by omega
      go_wp2
      go_ret
      exact ⟨d, rfl, hin.out, rfl⟩
end Go.Proofs.Ythkhlkcdhalkfaa
