/-
  The fixed answer at the end of each statement of package effect; what the list of the registers that are read looks like.
-/
import Derived.Test.YtabfcbckeldkjaaRd
import Derived.Test.YtabfcbckeldkjaaRows1
namespace Go.Proofs.Ytabfcbckeldkjaa
open Go.ChangeShapes Go.WideShapes Go.ChangeAt Go.RowKit

set_option maxHeartbeats 1000000 in
theorem awake3_any (w : World) :
    Calls Try.prog 14 #[] w fun e w' => e = .returned (.bool true) ∧ Bel w w' := by
  have e1 : rdL 13 3 3 0 0 = [3] := by decide
  have e2 : wr1 11 7 0 0 0 = 7 := by decide
  have e3 : actsB 4 0 0 0 0 = true := by decide
  have e4 : goesB 17 0 0 0 0 = true := by decide
  have e5 : lateB 12 0 0 0 0 = true := by decide
  have e6 : touchB 18 0 0 0 0 31 = true := by decide
  have E1 : Hid (rdL 13 3 3 0 0 = [3]) := e1
  clear e1
  go_enter Try.func14, Try.ntmps14
  go_wp2_with (first | (go_at_call 9; refine (reads_any _ _ _ _ _ _).mono ?_; rintro e w1 ⟨v1, rfl, hown, hg1⟩; rw [E1.out] at hown; obtain ⟨g, cap, rfl, q1, q2, q3, q4, q5⟩ := ints_form hown (by simp); have q6 := q5 0 (by simp); simp only [List.getD_cons_zero] at q6; clear q5 hown) | (go_at_call 13; refine (writes_any _ _ _ _ _ _).mono ?_; rintro e w2 ⟨rfl, hg2⟩) | (go_at_call 15; refine (acts_any _ _ _ _ _ _).mono ?_; rintro e w3 ⟨rfl, hg3⟩) | (go_at_call 17; refine (goes_any _ _ _ _ _ _).mono ?_; rintro e w4 ⟨rfl, hg4⟩) | (go_at_call 19; refine (late_any _ _ _ _ _ _).mono ?_; rintro e w5 ⟨rfl, hg5⟩) | (go_at_call 11; refine (touches_any _ _ _ _ _ _ _).mono ?_; rintro e w6 ⟨rfl, hg6⟩))
  go_ret
  exact ⟨rfl, btrans (btrans (btrans (btrans (btrans hg1 hg2) hg3) hg4) hg5) hg6⟩
end Go.Proofs.Ytabfcbckeldkjaa
