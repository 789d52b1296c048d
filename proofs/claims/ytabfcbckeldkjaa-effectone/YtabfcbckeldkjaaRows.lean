/-
  No cell of these rows narrows 'for every input' (looked for: loops, veiled, ifaces, maps, wideKeys, modest, calm, conditions, laid).
  DERIVED. THE GIVEN ROWS OF THIS SEAT. 6 by the template 'for every input the law returns true; each argument reads behind the call as it read before'; 0 by the template 'total and deterministic' (their statements: YtabfcbckeldkjaaTotals.lean).
  GIVEN WITH THE SEED: the statements are not yours to turn. If you find one false, say at which input.
  Laid BY PROGRAM, IN A SANDBOX (cutbox-rows.mjs): the forced cells as the released guide's own fill.sh prints them over the translation dc691b83714955ca… (all of the seat's roots in one cut). By AI agents, Wed Nov 11 2026. No macro, syntax, notation, axiom, sorry.
-/
import Derived.Test.YtabfcbckeldkjaaChecked
import GoSem.Claim
import GoSem.ClaimJoined
import GoSem.ClaimMapViews
import Derived.JoinedTies
import Derived.KernelRfl
namespace Go.Proofs.Ytabfcbckeldkjaa
/- THE CELL 'sum', in the pinned program and in every row, IS THE sha256 OF THE DUMP (.gsa) THAT YtabfcbckeldkjaaProg.lean LOADS. Nothing in Lean hashes anything: it is a label: what it is worth is what the hold of that sum in a sandbox is worth. -/
noncomputable def Try.pinned : Pinned := { name := "ytabfcbckeldkjaa", sum := "dc691b83714955ca2051c0c9bd26ac1b1a0eaad6af9d44cea998d61ff38dce55", checked := Try.checked }
namespace Rows
def none {H : Type} : Left H := { results := [], args := [] }

/-- 'delayslotlaw03.EffectReads': WHATEVER THE INPUT: true; the input reads as it did. -/
def effectReadsSpec : ChangeSpec := { name := "effectReads", fn := fun _ => fun
  | [d] => { results := [.lit (.bool true)], args := [d] }
  | _ => none }
def effectReadsRow : OpenClaim := { program := "ytabfcbckeldkjaa", sum := "dc691b83714955ca2051c0c9bd26ac1b1a0eaad6af9d44cea998d61ff38dce55", func := "delayslot/delayslotlaw03.EffectReads", spec := "effectReads", apart := false }
def EffectReadsSaid : Prop := effectReadsRow.holds Try.pinned (OpenSpec.ofChange effectReadsSpec)

/-- ITS FALSE NEIGHBOUR: 'it returns false'. Refute it at one input. -/
def effectReadsWrong : ChangeSpec := { name := "effectReads", fn := fun _ => fun
  | [d] => { results := [.lit (.bool false)], args := [d] }
  | _ => none }
def EffectReadsWrongFalsely : Prop := effectReadsRow.holds Try.pinned (OpenSpec.ofChange effectReadsWrong)

/-- 'delayslotlaw03.EffectDoes': WHATEVER THE INPUT: true; the input reads as it did. -/
def effectDoesSpec : ChangeSpec := { name := "effectDoes", fn := fun _ => fun
  | [d] => { results := [.lit (.bool true)], args := [d] }
  | _ => none }
def effectDoesRow : OpenClaim := { program := "ytabfcbckeldkjaa", sum := "dc691b83714955ca2051c0c9bd26ac1b1a0eaad6af9d44cea998d61ff38dce55", func := "delayslot/delayslotlaw03.EffectDoes", spec := "effectDoes", apart := false }
def EffectDoesSaid : Prop := effectDoesRow.holds Try.pinned (OpenSpec.ofChange effectDoesSpec)

/-- ITS FALSE NEIGHBOUR: 'it returns false'. Refute it at one input. -/
def effectDoesWrong : ChangeSpec := { name := "effectDoes", fn := fun _ => fun
  | [d] => { results := [.lit (.bool false)], args := [d] }
  | _ => none }
def EffectDoesWrongFalsely : Prop := effectDoesRow.holds Try.pinned (OpenSpec.ofChange effectDoesWrong)

/-- 'delayslotlaw03.EffectOne': WHATEVER THE INPUT: true; the input reads as it did. -/
def effectOneSpec : ChangeSpec := { name := "effectOne", fn := fun _ => fun
  | [d] => { results := [.lit (.bool true)], args := [d] }
  | _ => none }
def effectOneRow : OpenClaim := { program := "ytabfcbckeldkjaa", sum := "dc691b83714955ca2051c0c9bd26ac1b1a0eaad6af9d44cea998d61ff38dce55", func := "delayslot/delayslotlaw03.EffectOne", spec := "effectOne", apart := false }
def EffectOneSaid : Prop := effectOneRow.holds Try.pinned (OpenSpec.ofChange effectOneSpec)

/-- ITS FALSE NEIGHBOUR: 'it returns false'. Refute it at one input. -/
def effectOneWrong : ChangeSpec := { name := "effectOne", fn := fun _ => fun
  | [d] => { results := [.lit (.bool false)], args := [d] }
  | _ => none }
def EffectOneWrongFalsely : Prop := effectOneRow.holds Try.pinned (OpenSpec.ofChange effectOneWrong)

/-- 'delayslotlaw03.EffectNone': WHATEVER THE INPUT: true; the input reads as it did. -/
def effectNoneSpec : ChangeSpec := { name := "effectNone", fn := fun _ => fun
  | [d1, d2, d3, d4] => { results := [.lit (.bool true)], args := [d1, d2, d3, d4] }
  | _ => none }
def effectNoneRow : OpenClaim := { program := "ytabfcbckeldkjaa", sum := "dc691b83714955ca2051c0c9bd26ac1b1a0eaad6af9d44cea998d61ff38dce55", func := "delayslot/delayslotlaw03.EffectNone", spec := "effectNone", apart := false }
def EffectNoneSaid : Prop := effectNoneRow.holds Try.pinned (OpenSpec.ofChange effectNoneSpec)

/-- ITS FALSE NEIGHBOUR: 'it returns false'. Refute it at one input. -/
def effectNoneWrong : ChangeSpec := { name := "effectNone", fn := fun _ => fun
  | [d1, d2, d3, d4] => { results := [.lit (.bool false)], args := [d1, d2, d3, d4] }
  | _ => none }
def EffectNoneWrongFalsely : Prop := effectNoneRow.holds Try.pinned (OpenSpec.ofChange effectNoneWrong)

/-- 'delayslotlaw03.EffectStops': WHATEVER THE INPUT: true; the input reads as it did. -/
def effectStopsSpec : ChangeSpec := { name := "effectStops", fn := fun _ => fun
  | [d1, d2] => { results := [.lit (.bool true)], args := [d1, d2] }
  | _ => none }
def effectStopsRow : OpenClaim := { program := "ytabfcbckeldkjaa", sum := "dc691b83714955ca2051c0c9bd26ac1b1a0eaad6af9d44cea998d61ff38dce55", func := "delayslot/delayslotlaw03.EffectStops", spec := "effectStops", apart := false }
def EffectStopsSaid : Prop := effectStopsRow.holds Try.pinned (OpenSpec.ofChange effectStopsSpec)

/-- ITS FALSE NEIGHBOUR: 'it returns false'. Refute it at one input. -/
def effectStopsWrong : ChangeSpec := { name := "effectStops", fn := fun _ => fun
  | [d1, d2] => { results := [.lit (.bool false)], args := [d1, d2] }
  | _ => none }
def EffectStopsWrongFalsely : Prop := effectStopsRow.holds Try.pinned (OpenSpec.ofChange effectStopsWrong)

/-- 'delayslotlaw03.EffectOwn': WHATEVER THE INPUT: true; the input reads as it did. -/
def effectOwnSpec : ChangeSpec := { name := "effectOwn", fn := fun _ => fun
  | [d] => { results := [.lit (.bool true)], args := [d] }
  | _ => none }
def effectOwnRow : OpenClaim := { program := "ytabfcbckeldkjaa", sum := "dc691b83714955ca2051c0c9bd26ac1b1a0eaad6af9d44cea998d61ff38dce55", func := "delayslot/delayslotlaw03.EffectOwn", spec := "effectOwn", apart := false }
def EffectOwnSaid : Prop := effectOwnRow.holds Try.pinned (OpenSpec.ofChange effectOwnSpec)

/-- ITS FALSE NEIGHBOUR: 'it returns false'. Refute it at one input. -/
def effectOwnWrong : ChangeSpec := { name := "effectOwn", fn := fun _ => fun
  | [d] => { results := [.lit (.bool false)], args := [d] }
  | _ => none }
def EffectOwnWrongFalsely : Prop := effectOwnRow.holds Try.pinned (OpenSpec.ofChange effectOwnWrong)

/- THE SECOND FORM. 'bulk': how many values and letters a reading holds, each counted each time it is reached (what is shared counts as often as it is met; a slice's spare places count too). A statement '..UptoSaid' is the law's where the arguments, and the package variables that the reading takes, are together of bulk at most 1048576: NARROWER than '..Said'. Prove '..Said' where nothing that the law and all that it calls make is longer than what came in: it says more and counts as full. Else prove '..UptoSaid'. A law counts once. -/
mutual
def uptoBulk {H : Type} : DataW H → Nat
  | .lit (.string bytes) => bytes.length + 1
  | .lit _ => 1
  | .nil => 1
  | .ptr d => uptoBulk d + 1
  | .slice elems spare => uptoBulkAll elems + uptoBulkAll spare + 1
  | .agg parts => uptoBulkAll parts + 1
  | .iface _ d => uptoBulk d + 1
  | .map entries => uptoBulkEntries entries + 1
  | .held _ => 1
def uptoBulkAll {H : Type} : List (DataW H) → Nat
  | [] => 0
  | d :: r => uptoBulk d + uptoBulkAll r
def uptoBulkEntries {H : Type} : List (Lit × DataW H) → Nat
  | [] => 0
  | x :: r => uptoBulkEntry x + uptoBulkEntries r
def uptoBulkEntry {H : Type} : Lit × DataW H → Nat
  | (.string bytes, d) => bytes.length + uptoBulk d + 1
  | (_, d) => uptoBulk d + 1
 end
def uptoSmall : (H : Type) → List (DataW H) → Bool := fun _ ds => decide (uptoBulkAll ds ≤ 1048576)
def OpenSpec.upto (s : _root_.Go.ChangeSpec) : _root_.Go.OpenSpec := { _root_.Go.OpenSpec.ofChange s with cond := some uptoSmall }

/-- 'delayslotlaw03.EffectReads', WHERE WHAT IT READS IS OF BULK AT MOST 1048576: true; the input reads as it did. -/
def effectReadsUptoRow : OpenClaim := { program := "ytabfcbckeldkjaa", sum := "dc691b83714955ca2051c0c9bd26ac1b1a0eaad6af9d44cea998d61ff38dce55", func := "delayslot/delayslotlaw03.EffectReads", spec := "effectReads", apart := false, narrowed := true }
def EffectReadsUptoSaid : Prop := effectReadsUptoRow.holds Try.pinned (OpenSpec.upto effectReadsSpec)

/-- 'delayslotlaw03.EffectDoes', WHERE WHAT IT READS IS OF BULK AT MOST 1048576: true; the input reads as it did. -/
def effectDoesUptoRow : OpenClaim := { program := "ytabfcbckeldkjaa", sum := "dc691b83714955ca2051c0c9bd26ac1b1a0eaad6af9d44cea998d61ff38dce55", func := "delayslot/delayslotlaw03.EffectDoes", spec := "effectDoes", apart := false, narrowed := true }
def EffectDoesUptoSaid : Prop := effectDoesUptoRow.holds Try.pinned (OpenSpec.upto effectDoesSpec)

/-- 'delayslotlaw03.EffectOne', WHERE WHAT IT READS IS OF BULK AT MOST 1048576: true; the input reads as it did. -/
def effectOneUptoRow : OpenClaim := { program := "ytabfcbckeldkjaa", sum := "dc691b83714955ca2051c0c9bd26ac1b1a0eaad6af9d44cea998d61ff38dce55", func := "delayslot/delayslotlaw03.EffectOne", spec := "effectOne", apart := false, narrowed := true }
def EffectOneUptoSaid : Prop := effectOneUptoRow.holds Try.pinned (OpenSpec.upto effectOneSpec)

/-- 'delayslotlaw03.EffectNone', WHERE WHAT IT READS IS OF BULK AT MOST 1048576: true; the input reads as it did. -/
def effectNoneUptoRow : OpenClaim := { program := "ytabfcbckeldkjaa", sum := "dc691b83714955ca2051c0c9bd26ac1b1a0eaad6af9d44cea998d61ff38dce55", func := "delayslot/delayslotlaw03.EffectNone", spec := "effectNone", apart := false, narrowed := true }
def EffectNoneUptoSaid : Prop := effectNoneUptoRow.holds Try.pinned (OpenSpec.upto effectNoneSpec)

/-- 'delayslotlaw03.EffectStops', WHERE WHAT IT READS IS OF BULK AT MOST 1048576: true; the input reads as it did. -/
def effectStopsUptoRow : OpenClaim := { program := "ytabfcbckeldkjaa", sum := "dc691b83714955ca2051c0c9bd26ac1b1a0eaad6af9d44cea998d61ff38dce55", func := "delayslot/delayslotlaw03.EffectStops", spec := "effectStops", apart := false, narrowed := true }
def EffectStopsUptoSaid : Prop := effectStopsUptoRow.holds Try.pinned (OpenSpec.upto effectStopsSpec)

/-- 'delayslotlaw03.EffectOwn', WHERE WHAT IT READS IS OF BULK AT MOST 1048576: true; the input reads as it did. -/
def effectOwnUptoRow : OpenClaim := { program := "ytabfcbckeldkjaa", sum := "dc691b83714955ca2051c0c9bd26ac1b1a0eaad6af9d44cea998d61ff38dce55", func := "delayslot/delayslotlaw03.EffectOwn", spec := "effectOwn", apart := false, narrowed := true }
def EffectOwnUptoSaid : Prop := effectOwnUptoRow.holds Try.pinned (OpenSpec.upto effectOwnSpec)

end Rows
end Go.Proofs.Ytabfcbckeldkjaa
