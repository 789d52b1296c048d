/-
  The statements' small (stage 7).
-/
import Derived.Test.YtmgpfhmodjmcdaaEqR
namespace Go.Proofs.Ytmgpfhmodjmcdaa
set_option maxRecDepth 20000
set_option linter.unusedVariables false
open Go.ChangeShapes Go.WideShapes Go.ChangeAt Go.RowKit

theorem small_any (ao : Option Addr) (n c : Nat) (mem : Int) (ai : Option Addr) (m ci : Nat) (fuel : Int) (W : World) :
    Calls Try.prog 13 #[.slice ao n c, .int .i64 mem, .slice ai m ci, .int .i64 fuel] W fun e W' => e = .returned (.bool (smallB n mem m fuel)) ∧ W' = W := by
  go_enter Try.func13, Try.ntmps13
  go_wp2
  all_goals
    go_ret
    refine ⟨ret_bool' ?_, rfl⟩
    unfold smallB
    rw [Bool.eq_iff_iff]
    simp_all <;> omega
end Go.Proofs.Ytmgpfhmodjmcdaa
