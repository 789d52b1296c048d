/-
  No cell of these rows narrows 'for every input' (looked for: loops, veiled, ifaces, maps, wideKeys, modest, calm, conditions, laid).
  DERIVED. THE GIVEN ROWS OF THIS SEAT. 7 by the template 'for every input the law returns true; each argument reads behind the call as it read before'; 0 by the template 'total and deterministic' (their statements: YtdhnlloohjehgaaTotals.lean).
  GIVEN WITH THE SEED: the statements are not yours to turn. If you find one false, say at which input.
  Laid BY PROGRAM, IN A SANDBOX (cutbox-rows.mjs): the forced cells as the released guide's own fill.sh prints them over the translation 46bb19877c7b478f… (all of the seat's roots in one cut). By AI agents, Wed Nov 11 2026. No macro, syntax, notation, axiom, sorry.
-/
import Derived.Test.YtdhnlloohjehgaaChecked
import GoSem.Claim
import GoSem.ClaimJoined
import GoSem.ClaimMapViews
import Derived.JoinedTies
import Derived.KernelRfl
namespace Go.Proofs.Ytdhnlloohjehgaa
/- THE CELL 'sum', in the pinned program and in every row, IS THE sha256 OF THE DUMP (.gsa) THAT YtdhnlloohjehgaaProg.lean LOADS. Nothing in Lean hashes anything: it is a label: what it is worth is what the hold of that sum in a sandbox is worth. -/
noncomputable def Try.pinned : Pinned := { name := "ytdhnlloohjehgaa", sum := "46bb19877c7b478fef536b0b30d6287a8d966846ca0b9a481d0f85b5db582790", checked := Try.checked }
namespace Rows
def none {H : Type} : Left H := { results := [], args := [] }

/-- 'delayslotlaw09.BlockFits': WHATEVER THE INPUT: true; the input reads as it did. -/
def blockFitsSpec : ChangeSpec := { name := "blockFits", fn := fun _ => fun
  | [d1, d2, d3] => { results := [.lit (.bool true)], args := [d1, d2, d3] }
  | _ => none }
def blockFitsRow : OpenClaim := { program := "ytdhnlloohjehgaa", sum := "46bb19877c7b478fef536b0b30d6287a8d966846ca0b9a481d0f85b5db582790", func := "delayslot/delayslotlaw09.BlockFits", spec := "blockFits", unfollowed := true, recurses := true, apart := false }
def BlockFitsSaid : Prop := blockFitsRow.holds Try.pinned (OpenSpec.ofChange blockFitsSpec)

/-- ITS FALSE NEIGHBOUR: 'it returns false'. Refute it at one input. -/
def blockFitsWrong : ChangeSpec := { name := "blockFits", fn := fun _ => fun
  | [d1, d2, d3] => { results := [.lit (.bool false)], args := [d1, d2, d3] }
  | _ => none }
def BlockFitsWrongFalsely : Prop := blockFitsRow.holds Try.pinned (OpenSpec.ofChange blockFitsWrong)

/-- 'delayslotlaw09.BlockHeads': WHATEVER THE INPUT: true; the input reads as it did. -/
def blockHeadsSpec : ChangeSpec := { name := "blockHeads", fn := fun _ => fun
  | [d] => { results := [.lit (.bool true)], args := [d] }
  | _ => none }
def blockHeadsRow : OpenClaim := { program := "ytdhnlloohjehgaa", sum := "46bb19877c7b478fef536b0b30d6287a8d966846ca0b9a481d0f85b5db582790", func := "delayslot/delayslotlaw09.BlockHeads", spec := "blockHeads", unfollowed := true, recurses := true, apart := false }
def BlockHeadsSaid : Prop := blockHeadsRow.holds Try.pinned (OpenSpec.ofChange blockHeadsSpec)

/-- ITS FALSE NEIGHBOUR: 'it returns false'. Refute it at one input. -/
def blockHeadsWrong : ChangeSpec := { name := "blockHeads", fn := fun _ => fun
  | [d] => { results := [.lit (.bool false)], args := [d] }
  | _ => none }
def BlockHeadsWrongFalsely : Prop := blockHeadsRow.holds Try.pinned (OpenSpec.ofChange blockHeadsWrong)

/-- 'delayslotlaw09.BlockWhole': WHATEVER THE INPUT: true; the input reads as it did. -/
def blockWholeSpec : ChangeSpec := { name := "blockWhole", fn := fun _ => fun
  | [d] => { results := [.lit (.bool true)], args := [d] }
  | _ => none }
def blockWholeRow : OpenClaim := { program := "ytdhnlloohjehgaa", sum := "46bb19877c7b478fef536b0b30d6287a8d966846ca0b9a481d0f85b5db582790", func := "delayslot/delayslotlaw09.BlockWhole", spec := "blockWhole", unfollowed := true, recurses := true, apart := false }
def BlockWholeSaid : Prop := blockWholeRow.holds Try.pinned (OpenSpec.ofChange blockWholeSpec)

/-- ITS FALSE NEIGHBOUR: 'it returns false'. Refute it at one input. -/
def blockWholeWrong : ChangeSpec := { name := "blockWhole", fn := fun _ => fun
  | [d] => { results := [.lit (.bool false)], args := [d] }
  | _ => none }
def BlockWholeWrongFalsely : Prop := blockWholeRow.holds Try.pinned (OpenSpec.ofChange blockWholeWrong)

/-- 'delayslotlaw09.BlockNops': WHATEVER THE INPUT: true; the input reads as it did. -/
def blockNopsSpec : ChangeSpec := { name := "blockNops", fn := fun _ => fun
  | [d1, d2] => { results := [.lit (.bool true)], args := [d1, d2] }
  | _ => none }
def blockNopsRow : OpenClaim := { program := "ytdhnlloohjehgaa", sum := "46bb19877c7b478fef536b0b30d6287a8d966846ca0b9a481d0f85b5db582790", func := "delayslot/delayslotlaw09.BlockNops", spec := "blockNops", unfollowed := true, recurses := true, apart := false }
def BlockNopsSaid : Prop := blockNopsRow.holds Try.pinned (OpenSpec.ofChange blockNopsSpec)

/-- ITS FALSE NEIGHBOUR: 'it returns false'. Refute it at one input. -/
def blockNopsWrong : ChangeSpec := { name := "blockNops", fn := fun _ => fun
  | [d1, d2] => { results := [.lit (.bool false)], args := [d1, d2] }
  | _ => none }
def BlockNopsWrongFalsely : Prop := blockNopsRow.holds Try.pinned (OpenSpec.ofChange blockNopsWrong)

/-- 'delayslotlaw09.BlockStrict': WHATEVER THE INPUT: true; the input reads as it did. -/
def blockStrictSpec : ChangeSpec := { name := "blockStrict", fn := fun _ => fun
  | [d1, d2] => { results := [.lit (.bool true)], args := [d1, d2] }
  | _ => none }
def blockStrictRow : OpenClaim := { program := "ytdhnlloohjehgaa", sum := "46bb19877c7b478fef536b0b30d6287a8d966846ca0b9a481d0f85b5db582790", func := "delayslot/delayslotlaw09.BlockStrict", spec := "blockStrict", unfollowed := true, recurses := true, apart := false }
def BlockStrictSaid : Prop := blockStrictRow.holds Try.pinned (OpenSpec.ofChange blockStrictSpec)

/-- ITS FALSE NEIGHBOUR: 'it returns false'. Refute it at one input. -/
def blockStrictWrong : ChangeSpec := { name := "blockStrict", fn := fun _ => fun
  | [d1, d2] => { results := [.lit (.bool false)], args := [d1, d2] }
  | _ => none }
def BlockStrictWrongFalsely : Prop := blockStrictRow.holds Try.pinned (OpenSpec.ofChange blockStrictWrong)

/-- 'delayslotlaw09.BlockCut': WHATEVER THE INPUT: true; the input reads as it did. -/
def blockCutSpec : ChangeSpec := { name := "blockCut", fn := fun _ => fun
  | [d1, d2] => { results := [.lit (.bool true)], args := [d1, d2] }
  | _ => none }
def blockCutRow : OpenClaim := { program := "ytdhnlloohjehgaa", sum := "46bb19877c7b478fef536b0b30d6287a8d966846ca0b9a481d0f85b5db582790", func := "delayslot/delayslotlaw09.BlockCut", spec := "blockCut", unfollowed := true, recurses := true, apart := false }
def BlockCutSaid : Prop := blockCutRow.holds Try.pinned (OpenSpec.ofChange blockCutSpec)

/-- ITS FALSE NEIGHBOUR: 'it returns false'. Refute it at one input. -/
def blockCutWrong : ChangeSpec := { name := "blockCut", fn := fun _ => fun
  | [d1, d2] => { results := [.lit (.bool false)], args := [d1, d2] }
  | _ => none }
def BlockCutWrongFalsely : Prop := blockCutRow.holds Try.pinned (OpenSpec.ofChange blockCutWrong)

/-- 'delayslotlaw09.BlockTargets': WHATEVER THE INPUT: true; the input reads as it did. -/
def blockTargetsSpec : ChangeSpec := { name := "blockTargets", fn := fun _ => fun
  | [d1, d2] => { results := [.lit (.bool true)], args := [d1, d2] }
  | _ => none }
def blockTargetsRow : OpenClaim := { program := "ytdhnlloohjehgaa", sum := "46bb19877c7b478fef536b0b30d6287a8d966846ca0b9a481d0f85b5db582790", func := "delayslot/delayslotlaw09.BlockTargets", spec := "blockTargets", unfollowed := true, recurses := true, apart := false }
def BlockTargetsSaid : Prop := blockTargetsRow.holds Try.pinned (OpenSpec.ofChange blockTargetsSpec)

/-- ITS FALSE NEIGHBOUR: 'it returns false'. Refute it at one input. -/
def blockTargetsWrong : ChangeSpec := { name := "blockTargets", fn := fun _ => fun
  | [d1, d2] => { results := [.lit (.bool false)], args := [d1, d2] }
  | _ => none }
def BlockTargetsWrongFalsely : Prop := blockTargetsRow.holds Try.pinned (OpenSpec.ofChange blockTargetsWrong)

/- THE SECOND FORM. 'bulk': how many values and letters a reading holds, each counted each time it is reached (what is shared counts as often as it is met; a slice's spare places count too). A statement '..UptoSaid' is the law's where the arguments, and the package variables that the reading takes, are together of bulk at most 1048576: NARROWER than '..Said'. Prove '..Said' where nothing that the law and all that it calls make is longer than what came in: it says more and counts as full. Else prove '..UptoSaid'. A law counts once. -/
mutual
def uptoBulk {H : Type} : DataW H → Nat
  | .lit (.string bytes) => bytes.length + 1
  | .lit _ => 1
  | .nil => 1
  | .ptr d => uptoBulk d + 1
  | .slice elems spare => uptoBulkAll elems + uptoBulkAll spare + 1
  | .agg parts => uptoBulkAll parts + 1
  | .iface _ d => uptoBulk d + 1
  | .map entries => uptoBulkEntries entries + 1
  | .held _ => 1
def uptoBulkAll {H : Type} : List (DataW H) → Nat
  | [] => 0
  | d :: r => uptoBulk d + uptoBulkAll r
def uptoBulkEntries {H : Type} : List (Lit × DataW H) → Nat
  | [] => 0
  | x :: r => uptoBulkEntry x + uptoBulkEntries r
def uptoBulkEntry {H : Type} : Lit × DataW H → Nat
  | (.string bytes, d) => bytes.length + uptoBulk d + 1
  | (_, d) => uptoBulk d + 1
 end
def uptoSmall : (H : Type) → List (DataW H) → Bool := fun _ ds => decide (uptoBulkAll ds ≤ 1048576)
def OpenSpec.upto (s : _root_.Go.ChangeSpec) : _root_.Go.OpenSpec := { _root_.Go.OpenSpec.ofChange s with cond := some uptoSmall }

/-- 'delayslotlaw09.BlockFits', WHERE WHAT IT READS IS OF BULK AT MOST 1048576: true; the input reads as it did. -/
def blockFitsUptoRow : OpenClaim := { program := "ytdhnlloohjehgaa", sum := "46bb19877c7b478fef536b0b30d6287a8d966846ca0b9a481d0f85b5db582790", func := "delayslot/delayslotlaw09.BlockFits", spec := "blockFits", unfollowed := true, recurses := true, apart := false, narrowed := true }
def BlockFitsUptoSaid : Prop := blockFitsUptoRow.holds Try.pinned (OpenSpec.upto blockFitsSpec)

/-- 'delayslotlaw09.BlockHeads', WHERE WHAT IT READS IS OF BULK AT MOST 1048576: true; the input reads as it did. -/
def blockHeadsUptoRow : OpenClaim := { program := "ytdhnlloohjehgaa", sum := "46bb19877c7b478fef536b0b30d6287a8d966846ca0b9a481d0f85b5db582790", func := "delayslot/delayslotlaw09.BlockHeads", spec := "blockHeads", unfollowed := true, recurses := true, apart := false, narrowed := true }
def BlockHeadsUptoSaid : Prop := blockHeadsUptoRow.holds Try.pinned (OpenSpec.upto blockHeadsSpec)

/-- 'delayslotlaw09.BlockWhole', WHERE WHAT IT READS IS OF BULK AT MOST 1048576: true; the input reads as it did. -/
def blockWholeUptoRow : OpenClaim := { program := "ytdhnlloohjehgaa", sum := "46bb19877c7b478fef536b0b30d6287a8d966846ca0b9a481d0f85b5db582790", func := "delayslot/delayslotlaw09.BlockWhole", spec := "blockWhole", unfollowed := true, recurses := true, apart := false, narrowed := true }
def BlockWholeUptoSaid : Prop := blockWholeUptoRow.holds Try.pinned (OpenSpec.upto blockWholeSpec)

/-- 'delayslotlaw09.BlockNops', WHERE WHAT IT READS IS OF BULK AT MOST 1048576: true; the input reads as it did. -/
def blockNopsUptoRow : OpenClaim := { program := "ytdhnlloohjehgaa", sum := "46bb19877c7b478fef536b0b30d6287a8d966846ca0b9a481d0f85b5db582790", func := "delayslot/delayslotlaw09.BlockNops", spec := "blockNops", unfollowed := true, recurses := true, apart := false, narrowed := true }
def BlockNopsUptoSaid : Prop := blockNopsUptoRow.holds Try.pinned (OpenSpec.upto blockNopsSpec)

/-- 'delayslotlaw09.BlockStrict', WHERE WHAT IT READS IS OF BULK AT MOST 1048576: true; the input reads as it did. -/
def blockStrictUptoRow : OpenClaim := { program := "ytdhnlloohjehgaa", sum := "46bb19877c7b478fef536b0b30d6287a8d966846ca0b9a481d0f85b5db582790", func := "delayslot/delayslotlaw09.BlockStrict", spec := "blockStrict", unfollowed := true, recurses := true, apart := false, narrowed := true }
def BlockStrictUptoSaid : Prop := blockStrictUptoRow.holds Try.pinned (OpenSpec.upto blockStrictSpec)

/-- 'delayslotlaw09.BlockCut', WHERE WHAT IT READS IS OF BULK AT MOST 1048576: true; the input reads as it did. -/
def blockCutUptoRow : OpenClaim := { program := "ytdhnlloohjehgaa", sum := "46bb19877c7b478fef536b0b30d6287a8d966846ca0b9a481d0f85b5db582790", func := "delayslot/delayslotlaw09.BlockCut", spec := "blockCut", unfollowed := true, recurses := true, apart := false, narrowed := true }
def BlockCutUptoSaid : Prop := blockCutUptoRow.holds Try.pinned (OpenSpec.upto blockCutSpec)

/-- 'delayslotlaw09.BlockTargets', WHERE WHAT IT READS IS OF BULK AT MOST 1048576: true; the input reads as it did. -/
def blockTargetsUptoRow : OpenClaim := { program := "ytdhnlloohjehgaa", sum := "46bb19877c7b478fef536b0b30d6287a8d966846ca0b9a481d0f85b5db582790", func := "delayslot/delayslotlaw09.BlockTargets", spec := "blockTargets", unfollowed := true, recurses := true, apart := false, narrowed := true }
def BlockTargetsUptoSaid : Prop := blockTargetsUptoRow.holds Try.pinned (OpenSpec.upto blockTargetsSpec)

end Rows
end Go.Proofs.Ytdhnlloohjehgaa
