/-
  No cell of these rows narrows 'for every input' (looked for: loops, veiled, ifaces, maps, wideKeys, modest, calm, conditions, laid).
  DERIVED. THE GIVEN ROWS OF THIS SEAT. 8 by the template 'for every input the law returns true; each argument reads behind the call as it read before'; 0 by the template 'total and deterministic' (their statements: YthkhlkcdhalkfaaTotals.lean).
  GIVEN WITH THE SEED: the statements are not yours to turn. If you find one false, say at which input.
  Laid BY PROGRAM, IN A SANDBOX (cutbox-rows.mjs): the forced cells as the released guide's own fill.sh prints them over the translation ecb8e0c26cbdc130… (all of the seat's roots in one cut). By AI agents, Wed Nov 11 2026. No macro, syntax, notation, axiom, sorry.
-/
import Derived.Test.YthkhlkcdhalkfaaChecked
import GoSem.Claim
import GoSem.ClaimJoined
import GoSem.ClaimMapViews
import Derived.JoinedTies
import Derived.KernelRfl
namespace Go.Proofs.Ythkhlkcdhalkfaa
/- THE CELL 'sum', in the pinned program and in every row, IS THE sha256 OF THE DUMP (.gsa) THAT YthkhlkcdhalkfaaProg.lean LOADS. Nothing in Lean hashes anything: it is a label: what it is worth is what the hold of that sum in a sandbox is worth. -/
noncomputable def Try.pinned : Pinned := { name := "ythkhlkcdhalkfaa", sum := "ecb8e0c26cbdc1300f5b08bb6a9dc0915bf2865e781bedfa87af14b383388e56", checked := Try.checked }
namespace Rows
def none {H : Type} : Left H := { results := [], args := [] }

/-- 'delayslotlaw08.PipeRuns': WHATEVER THE INPUT: true; the input reads as it did. -/
def pipeRunsSpec : ChangeSpec := { name := "pipeRuns", fn := fun _ => fun
  | [d1, d2, d3, d4] => { results := [.lit (.bool true)], args := [d1, d2, d3, d4] }
  | _ => none }
def pipeRunsRow : OpenClaim := { program := "ythkhlkcdhalkfaa", sum := "ecb8e0c26cbdc1300f5b08bb6a9dc0915bf2865e781bedfa87af14b383388e56", func := "delayslot/delayslotlaw08.PipeRuns", spec := "pipeRuns", apart := false }
def PipeRunsSaid : Prop := pipeRunsRow.holds Try.pinned (OpenSpec.ofChange pipeRunsSpec)

/-- ITS FALSE NEIGHBOUR: 'it returns false'. Refute it at one input. -/
def pipeRunsWrong : ChangeSpec := { name := "pipeRuns", fn := fun _ => fun
  | [d1, d2, d3, d4] => { results := [.lit (.bool false)], args := [d1, d2, d3, d4] }
  | _ => none }
def PipeRunsWrongFalsely : Prop := pipeRunsRow.holds Try.pinned (OpenSpec.ofChange pipeRunsWrong)

/-- 'delayslotlaw08.PipeMore': WHATEVER THE INPUT: true; the input reads as it did. -/
def pipeMoreSpec : ChangeSpec := { name := "pipeMore", fn := fun _ => fun
  | [d1, d2, d3, d4, d5] => { results := [.lit (.bool true)], args := [d1, d2, d3, d4, d5] }
  | _ => none }
def pipeMoreRow : OpenClaim := { program := "ythkhlkcdhalkfaa", sum := "ecb8e0c26cbdc1300f5b08bb6a9dc0915bf2865e781bedfa87af14b383388e56", func := "delayslot/delayslotlaw08.PipeMore", spec := "pipeMore", apart := false }
def PipeMoreSaid : Prop := pipeMoreRow.holds Try.pinned (OpenSpec.ofChange pipeMoreSpec)

/-- ITS FALSE NEIGHBOUR: 'it returns false'. Refute it at one input. -/
def pipeMoreWrong : ChangeSpec := { name := "pipeMore", fn := fun _ => fun
  | [d1, d2, d3, d4, d5] => { results := [.lit (.bool false)], args := [d1, d2, d3, d4, d5] }
  | _ => none }
def PipeMoreWrongFalsely : Prop := pipeMoreRow.holds Try.pinned (OpenSpec.ofChange pipeMoreWrong)

/-- 'delayslotlaw08.PipeSpaced': WHATEVER THE INPUT: true; the input reads as it did. -/
def pipeSpacedSpec : ChangeSpec := { name := "pipeSpaced", fn := fun _ => fun
  | [d1, d2, d3, d4] => { results := [.lit (.bool true)], args := [d1, d2, d3, d4] }
  | _ => none }
def pipeSpacedRow : OpenClaim := { program := "ythkhlkcdhalkfaa", sum := "ecb8e0c26cbdc1300f5b08bb6a9dc0915bf2865e781bedfa87af14b383388e56", func := "delayslot/delayslotlaw08.PipeSpaced", spec := "pipeSpaced", apart := false }
def PipeSpacedSaid : Prop := pipeSpacedRow.holds Try.pinned (OpenSpec.ofChange pipeSpacedSpec)

/-- ITS FALSE NEIGHBOUR: 'it returns false'. Refute it at one input. -/
def pipeSpacedWrong : ChangeSpec := { name := "pipeSpaced", fn := fun _ => fun
  | [d1, d2, d3, d4] => { results := [.lit (.bool false)], args := [d1, d2, d3, d4] }
  | _ => none }
def PipeSpacedWrongFalsely : Prop := pipeSpacedRow.holds Try.pinned (OpenSpec.ofChange pipeSpacedWrong)

/-- 'delayslotlaw08.PipeStraight': WHATEVER THE INPUT: true; the input reads as it did. -/
def pipeStraightSpec : ChangeSpec := { name := "pipeStraight", fn := fun _ => fun
  | [d1, d2] => { results := [.lit (.bool true)], args := [d1, d2] }
  | _ => none }
def pipeStraightRow : OpenClaim := { program := "ythkhlkcdhalkfaa", sum := "ecb8e0c26cbdc1300f5b08bb6a9dc0915bf2865e781bedfa87af14b383388e56", func := "delayslot/delayslotlaw08.PipeStraight", spec := "pipeStraight", apart := false }
def PipeStraightSaid : Prop := pipeStraightRow.holds Try.pinned (OpenSpec.ofChange pipeStraightSpec)

/-- ITS FALSE NEIGHBOUR: 'it returns false'. Refute it at one input. -/
def pipeStraightWrong : ChangeSpec := { name := "pipeStraight", fn := fun _ => fun
  | [d1, d2] => { results := [.lit (.bool false)], args := [d1, d2] }
  | _ => none }
def PipeStraightWrongFalsely : Prop := pipeStraightRow.holds Try.pinned (OpenSpec.ofChange pipeStraightWrong)

/-- 'delayslotlaw08.PipeRoom': WHATEVER THE INPUT: true; the input reads as it did. -/
def pipeRoomSpec : ChangeSpec := { name := "pipeRoom", fn := fun _ => fun
  | [d1, d2, d3, d4, d5, d6] => { results := [.lit (.bool true)], args := [d1, d2, d3, d4, d5, d6] }
  | _ => none }
def pipeRoomRow : OpenClaim := { program := "ythkhlkcdhalkfaa", sum := "ecb8e0c26cbdc1300f5b08bb6a9dc0915bf2865e781bedfa87af14b383388e56", func := "delayslot/delayslotlaw08.PipeRoom", spec := "pipeRoom", apart := false }
def PipeRoomSaid : Prop := pipeRoomRow.holds Try.pinned (OpenSpec.ofChange pipeRoomSpec)

/-- ITS FALSE NEIGHBOUR: 'it returns false'. Refute it at one input. -/
def pipeRoomWrong : ChangeSpec := { name := "pipeRoom", fn := fun _ => fun
  | [d1, d2, d3, d4, d5, d6] => { results := [.lit (.bool false)], args := [d1, d2, d3, d4, d5, d6] }
  | _ => none }
def PipeRoomWrongFalsely : Prop := pipeRoomRow.holds Try.pinned (OpenSpec.ofChange pipeRoomWrong)

/-- 'delayslotlaw08.PipeFour': WHATEVER THE INPUT: true; the input reads as it did. -/
def pipeFourSpec : ChangeSpec := { name := "pipeFour", fn := fun _ => fun
  | [d1, d2, d3, d4] => { results := [.lit (.bool true)], args := [d1, d2, d3, d4] }
  | _ => none }
def pipeFourRow : OpenClaim := { program := "ythkhlkcdhalkfaa", sum := "ecb8e0c26cbdc1300f5b08bb6a9dc0915bf2865e781bedfa87af14b383388e56", func := "delayslot/delayslotlaw08.PipeFour", spec := "pipeFour", apart := false }
def PipeFourSaid : Prop := pipeFourRow.holds Try.pinned (OpenSpec.ofChange pipeFourSpec)

/-- ITS FALSE NEIGHBOUR: 'it returns false'. Refute it at one input. -/
def pipeFourWrong : ChangeSpec := { name := "pipeFour", fn := fun _ => fun
  | [d1, d2, d3, d4] => { results := [.lit (.bool false)], args := [d1, d2, d3, d4] }
  | _ => none }
def PipeFourWrongFalsely : Prop := pipeFourRow.holds Try.pinned (OpenSpec.ofChange pipeFourWrong)

/-- 'delayslotlaw08.PipeSlots': WHATEVER THE INPUT: true; the input reads as it did. -/
def pipeSlotsSpec : ChangeSpec := { name := "pipeSlots", fn := fun _ => fun
  | [d1, d2, d3] => { results := [.lit (.bool true)], args := [d1, d2, d3] }
  | _ => none }
def pipeSlotsRow : OpenClaim := { program := "ythkhlkcdhalkfaa", sum := "ecb8e0c26cbdc1300f5b08bb6a9dc0915bf2865e781bedfa87af14b383388e56", func := "delayslot/delayslotlaw08.PipeSlots", spec := "pipeSlots", apart := false }
def PipeSlotsSaid : Prop := pipeSlotsRow.holds Try.pinned (OpenSpec.ofChange pipeSlotsSpec)

/-- ITS FALSE NEIGHBOUR: 'it returns false'. Refute it at one input. -/
def pipeSlotsWrong : ChangeSpec := { name := "pipeSlots", fn := fun _ => fun
  | [d1, d2, d3] => { results := [.lit (.bool false)], args := [d1, d2, d3] }
  | _ => none }
def PipeSlotsWrongFalsely : Prop := pipeSlotsRow.holds Try.pinned (OpenSpec.ofChange pipeSlotsWrong)

/-- 'delayslotlaw08.PipeLate': WHATEVER THE INPUT: true; the input reads as it did. -/
def pipeLateSpec : ChangeSpec := { name := "pipeLate", fn := fun _ => fun
  | [d1, d2, d3] => { results := [.lit (.bool true)], args := [d1, d2, d3] }
  | _ => none }
def pipeLateRow : OpenClaim := { program := "ythkhlkcdhalkfaa", sum := "ecb8e0c26cbdc1300f5b08bb6a9dc0915bf2865e781bedfa87af14b383388e56", func := "delayslot/delayslotlaw08.PipeLate", spec := "pipeLate", apart := false }
def PipeLateSaid : Prop := pipeLateRow.holds Try.pinned (OpenSpec.ofChange pipeLateSpec)

/-- ITS FALSE NEIGHBOUR: 'it returns false'. Refute it at one input. -/
def pipeLateWrong : ChangeSpec := { name := "pipeLate", fn := fun _ => fun
  | [d1, d2, d3] => { results := [.lit (.bool false)], args := [d1, d2, d3] }
  | _ => none }
def PipeLateWrongFalsely : Prop := pipeLateRow.holds Try.pinned (OpenSpec.ofChange pipeLateWrong)

/- THE SECOND FORM. 'bulk': how many values and letters a reading holds, each counted each time it is reached (what is shared counts as often as it is met; a slice's spare places count too). A statement '..UptoSaid' is the law's where the arguments, and the package variables that the reading takes, are together of bulk at most 1048576: NARROWER than '..Said'. Prove '..Said' where nothing that the law and all that it calls make is longer than what came in: it says more and counts as full. Else prove '..UptoSaid'. A law counts once. -/
mutual
def uptoBulk {H : Type} : DataW H → Nat
  | .lit (.string bytes) => bytes.length + 1
  | .lit _ => 1
  | .nil => 1
  | .ptr d => uptoBulk d + 1
  | .slice elems spare => uptoBulkAll elems + uptoBulkAll spare + 1
  | .agg parts => uptoBulkAll parts + 1
  | .iface _ d => uptoBulk d + 1
  | .map entries => uptoBulkEntries entries + 1
  | .held _ => 1
def uptoBulkAll {H : Type} : List (DataW H) → Nat
  | [] => 0
  | d :: r => uptoBulk d + uptoBulkAll r
def uptoBulkEntries {H : Type} : List (Lit × DataW H) → Nat
  | [] => 0
  | x :: r => uptoBulkEntry x + uptoBulkEntries r
def uptoBulkEntry {H : Type} : Lit × DataW H → Nat
  | (.string bytes, d) => bytes.length + uptoBulk d + 1
  | (_, d) => uptoBulk d + 1
 end
def uptoSmall : (H : Type) → List (DataW H) → Bool := fun _ ds => decide (uptoBulkAll ds ≤ 1048576)
def OpenSpec.upto (s : _root_.Go.ChangeSpec) : _root_.Go.OpenSpec := { _root_.Go.OpenSpec.ofChange s with cond := some uptoSmall }

/-- 'delayslotlaw08.PipeRuns', WHERE WHAT IT READS IS OF BULK AT MOST 1048576: true; the input reads as it did. -/
def pipeRunsUptoRow : OpenClaim := { program := "ythkhlkcdhalkfaa", sum := "ecb8e0c26cbdc1300f5b08bb6a9dc0915bf2865e781bedfa87af14b383388e56", func := "delayslot/delayslotlaw08.PipeRuns", spec := "pipeRuns", apart := false, narrowed := true }
def PipeRunsUptoSaid : Prop := pipeRunsUptoRow.holds Try.pinned (OpenSpec.upto pipeRunsSpec)

/-- 'delayslotlaw08.PipeMore', WHERE WHAT IT READS IS OF BULK AT MOST 1048576: true; the input reads as it did. -/
def pipeMoreUptoRow : OpenClaim := { program := "ythkhlkcdhalkfaa", sum := "ecb8e0c26cbdc1300f5b08bb6a9dc0915bf2865e781bedfa87af14b383388e56", func := "delayslot/delayslotlaw08.PipeMore", spec := "pipeMore", apart := false, narrowed := true }
def PipeMoreUptoSaid : Prop := pipeMoreUptoRow.holds Try.pinned (OpenSpec.upto pipeMoreSpec)

/-- 'delayslotlaw08.PipeSpaced', WHERE WHAT IT READS IS OF BULK AT MOST 1048576: true; the input reads as it did. -/
def pipeSpacedUptoRow : OpenClaim := { program := "ythkhlkcdhalkfaa", sum := "ecb8e0c26cbdc1300f5b08bb6a9dc0915bf2865e781bedfa87af14b383388e56", func := "delayslot/delayslotlaw08.PipeSpaced", spec := "pipeSpaced", apart := false, narrowed := true }
def PipeSpacedUptoSaid : Prop := pipeSpacedUptoRow.holds Try.pinned (OpenSpec.upto pipeSpacedSpec)

/-- 'delayslotlaw08.PipeStraight', WHERE WHAT IT READS IS OF BULK AT MOST 1048576: true; the input reads as it did. -/
def pipeStraightUptoRow : OpenClaim := { program := "ythkhlkcdhalkfaa", sum := "ecb8e0c26cbdc1300f5b08bb6a9dc0915bf2865e781bedfa87af14b383388e56", func := "delayslot/delayslotlaw08.PipeStraight", spec := "pipeStraight", apart := false, narrowed := true }
def PipeStraightUptoSaid : Prop := pipeStraightUptoRow.holds Try.pinned (OpenSpec.upto pipeStraightSpec)

/-- 'delayslotlaw08.PipeRoom', WHERE WHAT IT READS IS OF BULK AT MOST 1048576: true; the input reads as it did. -/
def pipeRoomUptoRow : OpenClaim := { program := "ythkhlkcdhalkfaa", sum := "ecb8e0c26cbdc1300f5b08bb6a9dc0915bf2865e781bedfa87af14b383388e56", func := "delayslot/delayslotlaw08.PipeRoom", spec := "pipeRoom", apart := false, narrowed := true }
def PipeRoomUptoSaid : Prop := pipeRoomUptoRow.holds Try.pinned (OpenSpec.upto pipeRoomSpec)

/-- 'delayslotlaw08.PipeFour', WHERE WHAT IT READS IS OF BULK AT MOST 1048576: true; the input reads as it did. -/
def pipeFourUptoRow : OpenClaim := { program := "ythkhlkcdhalkfaa", sum := "ecb8e0c26cbdc1300f5b08bb6a9dc0915bf2865e781bedfa87af14b383388e56", func := "delayslot/delayslotlaw08.PipeFour", spec := "pipeFour", apart := false, narrowed := true }
def PipeFourUptoSaid : Prop := pipeFourUptoRow.holds Try.pinned (OpenSpec.upto pipeFourSpec)

/-- 'delayslotlaw08.PipeSlots', WHERE WHAT IT READS IS OF BULK AT MOST 1048576: true; the input reads as it did. -/
def pipeSlotsUptoRow : OpenClaim := { program := "ythkhlkcdhalkfaa", sum := "ecb8e0c26cbdc1300f5b08bb6a9dc0915bf2865e781bedfa87af14b383388e56", func := "delayslot/delayslotlaw08.PipeSlots", spec := "pipeSlots", apart := false, narrowed := true }
def PipeSlotsUptoSaid : Prop := pipeSlotsUptoRow.holds Try.pinned (OpenSpec.upto pipeSlotsSpec)

/-- 'delayslotlaw08.PipeLate', WHERE WHAT IT READS IS OF BULK AT MOST 1048576: true; the input reads as it did. -/
def pipeLateUptoRow : OpenClaim := { program := "ythkhlkcdhalkfaa", sum := "ecb8e0c26cbdc1300f5b08bb6a9dc0915bf2865e781bedfa87af14b383388e56", func := "delayslot/delayslotlaw08.PipeLate", spec := "pipeLate", apart := false, narrowed := true }
def PipeLateUptoSaid : Prop := pipeLateUptoRow.holds Try.pinned (OpenSpec.upto pipeLateSpec)

end Rows
end Go.Proofs.Ythkhlkcdhalkfaa
