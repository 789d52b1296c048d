/-
  The statements' fixed answer (stage 12).
-/
import Derived.Test.YtfhepjjebadpdaaHe12
import Derived.Test.YtfhepjjebadpdaaLit
import Derived.Test.YtfhepjjebadpdaaB5
namespace Go.Proofs.Ytfhepjjebadpdaa
set_option maxRecDepth 20000
set_option linter.unusedVariables false
open Go.ChangeShapes Go.WideShapes Go.ChangeAt Go.RowKit

def awkH : List Ins := [⟨12, 1, 0, 0, 0⟩, ⟨1, 2, 1, 0, 0⟩]
theorem awk_fst : fstF awkH awkH.length = (0, 4) := by decide +kernel
theorem awk_s1 : safeB awkH = false := by decide +kernel
theorem awk_s2 : safeB [⟨1, 2, 1, 0, 0⟩] = true := by decide +kernel
theorem awk_at : faultI [⟨17, 0, 0, 0, 0⟩] 0 = 2 := by decide +kernel
theorem awk_tail {W : World} {k : Nat} (h : W.heap[k]? = some (.cells (flat awkH).toArray 31)) : Code W (.slice (some ⟨k, 5, none⟩) 1 1) [⟨1, 2, 1, 0, 0⟩] := by
  refine ⟨_, 1, rfl, fun _ => ⟨k, 5, rfl, lt_of_heap h, fun j hj => ?_⟩⟩
  obtain rfl : j = 0 := by simpa using hj
  exact ⟨cell_of h 5, cell_of h 6, cell_of h 7, cell_of h 8, cell_of h 9⟩
theorem awk_first (v : Value) (w : World) (hv : Code w v awkH) : Calls Try.prog 11 #[v] w fun e w' => e = .returned (.tuple #[.int .i64 0, .int .i64 4]) ∧ Bel w w' := by
  have := first_any awkH v w (by decide) hv
  rw [awk_fst] at this
  exact this
theorem awk_atj (v : Value) (w : World) (hv : Code w v [⟨17, 0, 0, 0, 0⟩]) : Calls Try.prog 10 #[v, .int .i64 0] w fun e w' => e = .returned (.int .i64 2) ∧ Bel w w' := by
  have := at_in [⟨17, 0, 0, 0, 0⟩] 0 v w (by decide) (by decide) hv
  rw [awk_at] at this
  exact this
set_option maxHeartbeats 1000000 in
theorem awake_any (w : World) : Calls Try.prog 8 #[] w fun e w' => e = .returned (.bool true) ∧ Bel w w' := by
  have HL := hidm (code_lit (X := awkH) (heap_new w (.cells (flat awkH).toArray 31)) 2 2 rfl)
  have HT := hidm (awk_tail (heap_new w (.cells (flat awkH).toArray 31)))
  have b0 := (Bel.refl w).alloc (.cells (flat awkH).toArray 31)
  have s1 := awk_s1
  have s2 := awk_s2
  go_enter Try.func8, Try.ntmps8
  go_wp2_with (first
    | (go_at_call 11; refine (awk_first _ _ HL.out).mono ?_; rintro e w1 ⟨rfl, g1⟩)
    | (have q := t2; go_at_call 12; refine (safe_any [⟨1, 2, 1, 0, 0⟩] _ _ (by decide) (HT.out.stay (btrans g1 g2))).mono ?_; rw [s2]; rintro e w3 ⟨rfl, g3⟩)
    | (go_at_call 12; refine (safe_any awkH _ _ (by decide) (HL.out.stay g1)).mono ?_; rw [s1]; rintro e w2 ⟨rfl, g2⟩; have t2 : Hid True := True.intro)
    | (go_at_call 10; refine (awk_atj _ _ (code_lit (X := [⟨17, 0, 0, 0, 0⟩]) (heap_new w3 _) 1 1 rfl)).mono ?_; rintro e w4 ⟨rfl, g4⟩))
  go_ret
  exact ⟨rfl, btrans (btrans (btrans b0 g1) (btrans g2 g3)) (btrans ((Bel.refl w3).alloc _) g4)⟩
end Go.Proofs.Ytfhepjjebadpdaa
