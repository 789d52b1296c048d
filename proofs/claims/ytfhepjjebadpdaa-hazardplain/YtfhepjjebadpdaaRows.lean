/-
  No cell of these rows narrows 'for every input' (looked for: loops, veiled, ifaces, maps, wideKeys, modest, calm, conditions, laid).
  DERIVED. THE GIVEN ROWS OF THIS SEAT. 5 by the template 'for every input the law returns true; each argument reads behind the call as it read before'; 0 by the template 'total and deterministic' (their statements: YtfhepjjebadpdaaTotals.lean).
  GIVEN WITH THE SEED: the statements are not yours to turn. If you find one false, say at which input.
  Laid BY PROGRAM, IN A SANDBOX (cutbox-rows.mjs): the forced cells as the released guide's own fill.sh prints them over the translation a0ff405ef4f98e01… (all of the seat's roots in one cut). By AI agents, Wed Nov 11 2026. No macro, syntax, notation, axiom, sorry.
-/
import Derived.Test.YtfhepjjebadpdaaChecked
import GoSem.Claim
import GoSem.ClaimJoined
import GoSem.ClaimMapViews
import Derived.JoinedTies
import Derived.KernelRfl
namespace Go.Proofs.Ytfhepjjebadpdaa
/- THE CELL 'sum', in the pinned program and in every row, IS THE sha256 OF THE DUMP (.gsa) THAT YtfhepjjebadpdaaProg.lean LOADS. Nothing in Lean hashes anything: it is a label: what it is worth is what the hold of that sum in a sandbox is worth. -/
noncomputable def Try.pinned : Pinned := { name := "ytfhepjjebadpdaa", sum := "a0ff405ef4f98e01e359222f178223fc9f395d6a7072a3192181d4fecd29ccad", checked := Try.checked }
namespace Rows
def none {H : Type} : Left H := { results := [], args := [] }

/-- 'delayslotlaw12.HazardFirst': WHATEVER THE INPUT: true; the input reads as it did. -/
def hazardFirstSpec : ChangeSpec := { name := "hazardFirst", fn := fun _ => fun
  | [d1, d2] => { results := [.lit (.bool true)], args := [d1, d2] }
  | _ => none }
def hazardFirstRow : OpenClaim := { program := "ytfhepjjebadpdaa", sum := "a0ff405ef4f98e01e359222f178223fc9f395d6a7072a3192181d4fecd29ccad", func := "delayslot/delayslotlaw12.HazardFirst", spec := "hazardFirst", apart := false }
def HazardFirstSaid : Prop := hazardFirstRow.holds Try.pinned (OpenSpec.ofChange hazardFirstSpec)

/-- ITS FALSE NEIGHBOUR: 'it returns false'. Refute it at one input. -/
def hazardFirstWrong : ChangeSpec := { name := "hazardFirst", fn := fun _ => fun
  | [d1, d2] => { results := [.lit (.bool false)], args := [d1, d2] }
  | _ => none }
def HazardFirstWrongFalsely : Prop := hazardFirstRow.holds Try.pinned (OpenSpec.ofChange hazardFirstWrong)

/-- 'delayslotlaw12.HazardJoins': WHATEVER THE INPUT: true; the input reads as it did. -/
def hazardJoinsSpec : ChangeSpec := { name := "hazardJoins", fn := fun _ => fun
  | [d1, d2] => { results := [.lit (.bool true)], args := [d1, d2] }
  | _ => none }
def hazardJoinsRow : OpenClaim := { program := "ytfhepjjebadpdaa", sum := "a0ff405ef4f98e01e359222f178223fc9f395d6a7072a3192181d4fecd29ccad", func := "delayslot/delayslotlaw12.HazardJoins", spec := "hazardJoins", apart := false }
def HazardJoinsSaid : Prop := hazardJoinsRow.holds Try.pinned (OpenSpec.ofChange hazardJoinsSpec)

/-- ITS FALSE NEIGHBOUR: 'it returns false'. Refute it at one input. -/
def hazardJoinsWrong : ChangeSpec := { name := "hazardJoins", fn := fun _ => fun
  | [d1, d2] => { results := [.lit (.bool false)], args := [d1, d2] }
  | _ => none }
def HazardJoinsWrongFalsely : Prop := hazardJoinsRow.holds Try.pinned (OpenSpec.ofChange hazardJoinsWrong)

/-- 'delayslotlaw12.HazardSpaced': WHATEVER THE INPUT: true; the input reads as it did. -/
def hazardSpacedSpec : ChangeSpec := { name := "hazardSpaced", fn := fun _ => fun
  | [d] => { results := [.lit (.bool true)], args := [d] }
  | _ => none }
def hazardSpacedRow : OpenClaim := { program := "ytfhepjjebadpdaa", sum := "a0ff405ef4f98e01e359222f178223fc9f395d6a7072a3192181d4fecd29ccad", func := "delayslot/delayslotlaw12.HazardSpaced", spec := "hazardSpaced", apart := false }
def HazardSpacedSaid : Prop := hazardSpacedRow.holds Try.pinned (OpenSpec.ofChange hazardSpacedSpec)

/-- ITS FALSE NEIGHBOUR: 'it returns false'. Refute it at one input. -/
def hazardSpacedWrong : ChangeSpec := { name := "hazardSpaced", fn := fun _ => fun
  | [d] => { results := [.lit (.bool false)], args := [d] }
  | _ => none }
def HazardSpacedWrongFalsely : Prop := hazardSpacedRow.holds Try.pinned (OpenSpec.ofChange hazardSpacedWrong)

/-- 'delayslotlaw12.HazardPlain': WHATEVER THE INPUT: true; the input reads as it did. -/
def hazardPlainSpec : ChangeSpec := { name := "hazardPlain", fn := fun _ => fun
  | [d1, d2] => { results := [.lit (.bool true)], args := [d1, d2] }
  | _ => none }
def hazardPlainRow : OpenClaim := { program := "ytfhepjjebadpdaa", sum := "a0ff405ef4f98e01e359222f178223fc9f395d6a7072a3192181d4fecd29ccad", func := "delayslot/delayslotlaw12.HazardPlain", spec := "hazardPlain", apart := false }
def HazardPlainSaid : Prop := hazardPlainRow.holds Try.pinned (OpenSpec.ofChange hazardPlainSpec)

/-- ITS FALSE NEIGHBOUR: 'it returns false'. Refute it at one input. -/
def hazardPlainWrong : ChangeSpec := { name := "hazardPlain", fn := fun _ => fun
  | [d1, d2] => { results := [.lit (.bool false)], args := [d1, d2] }
  | _ => none }
def HazardPlainWrongFalsely : Prop := hazardPlainRow.holds Try.pinned (OpenSpec.ofChange hazardPlainWrong)

/-- 'delayslotlaw12.HazardLate': WHATEVER THE INPUT: true; the input reads as it did. -/
def hazardLateSpec : ChangeSpec := { name := "hazardLate", fn := fun _ => fun
  | [d1, d2] => { results := [.lit (.bool true)], args := [d1, d2] }
  | _ => none }
def hazardLateRow : OpenClaim := { program := "ytfhepjjebadpdaa", sum := "a0ff405ef4f98e01e359222f178223fc9f395d6a7072a3192181d4fecd29ccad", func := "delayslot/delayslotlaw12.HazardLate", spec := "hazardLate", apart := false }
def HazardLateSaid : Prop := hazardLateRow.holds Try.pinned (OpenSpec.ofChange hazardLateSpec)

/-- ITS FALSE NEIGHBOUR: 'it returns false'. Refute it at one input. -/
def hazardLateWrong : ChangeSpec := { name := "hazardLate", fn := fun _ => fun
  | [d1, d2] => { results := [.lit (.bool false)], args := [d1, d2] }
  | _ => none }
def HazardLateWrongFalsely : Prop := hazardLateRow.holds Try.pinned (OpenSpec.ofChange hazardLateWrong)

/- THE SECOND FORM. 'bulk': how many values and letters a reading holds, each counted each time it is reached (what is shared counts as often as it is met; a slice's spare places count too). A statement '..UptoSaid' is the law's where the arguments, and the package variables that the reading takes, are together of bulk at most 1048576: NARROWER than '..Said'. Prove '..Said' where nothing that the law and all that it calls make is longer than what came in: it says more and counts as full. Else prove '..UptoSaid'. A law counts once. -/
mutual
def uptoBulk {H : Type} : DataW H → Nat
  | .lit (.string bytes) => bytes.length + 1
  | .lit _ => 1
  | .nil => 1
  | .ptr d => uptoBulk d + 1
  | .slice elems spare => uptoBulkAll elems + uptoBulkAll spare + 1
  | .agg parts => uptoBulkAll parts + 1
  | .iface _ d => uptoBulk d + 1
  | .map entries => uptoBulkEntries entries + 1
  | .held _ => 1
def uptoBulkAll {H : Type} : List (DataW H) → Nat
  | [] => 0
  | d :: r => uptoBulk d + uptoBulkAll r
def uptoBulkEntries {H : Type} : List (Lit × DataW H) → Nat
  | [] => 0
  | x :: r => uptoBulkEntry x + uptoBulkEntries r
def uptoBulkEntry {H : Type} : Lit × DataW H → Nat
  | (.string bytes, d) => bytes.length + uptoBulk d + 1
  | (_, d) => uptoBulk d + 1
 end
def uptoSmall : (H : Type) → List (DataW H) → Bool := fun _ ds => decide (uptoBulkAll ds ≤ 1048576)
def OpenSpec.upto (s : _root_.Go.ChangeSpec) : _root_.Go.OpenSpec := { _root_.Go.OpenSpec.ofChange s with cond := some uptoSmall }

/-- 'delayslotlaw12.HazardFirst', WHERE WHAT IT READS IS OF BULK AT MOST 1048576: true; the input reads as it did. -/
def hazardFirstUptoRow : OpenClaim := { program := "ytfhepjjebadpdaa", sum := "a0ff405ef4f98e01e359222f178223fc9f395d6a7072a3192181d4fecd29ccad", func := "delayslot/delayslotlaw12.HazardFirst", spec := "hazardFirst", apart := false, narrowed := true }
def HazardFirstUptoSaid : Prop := hazardFirstUptoRow.holds Try.pinned (OpenSpec.upto hazardFirstSpec)

/-- 'delayslotlaw12.HazardJoins', WHERE WHAT IT READS IS OF BULK AT MOST 1048576: true; the input reads as it did. -/
def hazardJoinsUptoRow : OpenClaim := { program := "ytfhepjjebadpdaa", sum := "a0ff405ef4f98e01e359222f178223fc9f395d6a7072a3192181d4fecd29ccad", func := "delayslot/delayslotlaw12.HazardJoins", spec := "hazardJoins", apart := false, narrowed := true }
def HazardJoinsUptoSaid : Prop := hazardJoinsUptoRow.holds Try.pinned (OpenSpec.upto hazardJoinsSpec)

/-- 'delayslotlaw12.HazardSpaced', WHERE WHAT IT READS IS OF BULK AT MOST 1048576: true; the input reads as it did. -/
def hazardSpacedUptoRow : OpenClaim := { program := "ytfhepjjebadpdaa", sum := "a0ff405ef4f98e01e359222f178223fc9f395d6a7072a3192181d4fecd29ccad", func := "delayslot/delayslotlaw12.HazardSpaced", spec := "hazardSpaced", apart := false, narrowed := true }
def HazardSpacedUptoSaid : Prop := hazardSpacedUptoRow.holds Try.pinned (OpenSpec.upto hazardSpacedSpec)

/-- 'delayslotlaw12.HazardPlain', WHERE WHAT IT READS IS OF BULK AT MOST 1048576: true; the input reads as it did. -/
def hazardPlainUptoRow : OpenClaim := { program := "ytfhepjjebadpdaa", sum := "a0ff405ef4f98e01e359222f178223fc9f395d6a7072a3192181d4fecd29ccad", func := "delayslot/delayslotlaw12.HazardPlain", spec := "hazardPlain", apart := false, narrowed := true }
def HazardPlainUptoSaid : Prop := hazardPlainUptoRow.holds Try.pinned (OpenSpec.upto hazardPlainSpec)

/-- 'delayslotlaw12.HazardLate', WHERE WHAT IT READS IS OF BULK AT MOST 1048576: true; the input reads as it did. -/
def hazardLateUptoRow : OpenClaim := { program := "ytfhepjjebadpdaa", sum := "a0ff405ef4f98e01e359222f178223fc9f395d6a7072a3192181d4fecd29ccad", func := "delayslot/delayslotlaw12.HazardLate", spec := "hazardLate", apart := false, narrowed := true }
def HazardLateUptoSaid : Prop := hazardLateUptoRow.holds Try.pinned (OpenSpec.upto hazardLateSpec)

end Rows
end Go.Proofs.Ytfhepjjebadpdaa
