/-
  No cell of these rows narrows 'for every input' (looked for: loops, veiled, ifaces, maps, wideKeys, modest, calm, conditions, laid).
  DERIVED. THE GIVEN ROWS OF THIS SEAT. 7 by the template 'for every input the law returns true; each argument reads behind the call as it read before'; 0 by the template 'total and deterministic' (their statements: YteldmfidcnlfkaaTotals.lean).
  GIVEN WITH THE SEED: the statements are not yours to turn. If you find one false, say at which input.
  Laid BY PROGRAM, IN A SANDBOX (cutbox-rows.mjs): the forced cells as the released guide's own fill.sh prints them over the translation 2147c7453a78f887… (all of the seat's roots in one cut). By AI agents, Wed Nov 11 2026. No macro, syntax, notation, axiom, sorry.
-/
import Derived.Test.YteldmfidcnlfkaaChecked
import GoSem.Claim
import GoSem.ClaimJoined
import GoSem.ClaimMapViews
import Derived.JoinedTies
import Derived.KernelRfl
namespace Go.Proofs.Yteldmfidcnlfkaa
/- THE CELL 'sum', in the pinned program and in every row, IS THE sha256 OF THE DUMP (.gsa) THAT YteldmfidcnlfkaaProg.lean LOADS. Nothing in Lean hashes anything: it is a label: what it is worth is what the hold of that sum in a sandbox is worth. -/
noncomputable def Try.pinned : Pinned := { name := "yteldmfidcnlfkaa", sum := "2147c7453a78f887e34aef31cbb7f789d5380f2f25a7e04e3f3bc0a2069bcef2", checked := Try.checked }
namespace Rows
def none {H : Type} : Left H := { results := [], args := [] }

/-- 'delayslotlaw10.DependFar': WHATEVER THE INPUT: true; the input reads as it did. -/
def dependFarSpec : ChangeSpec := { name := "dependFar", fn := fun _ => fun
  | [d1, d2] => { results := [.lit (.bool true)], args := [d1, d2] }
  | _ => none }
def dependFarRow : OpenClaim := { program := "yteldmfidcnlfkaa", sum := "2147c7453a78f887e34aef31cbb7f789d5380f2f25a7e04e3f3bc0a2069bcef2", func := "delayslot/delayslotlaw10.DependFar", spec := "dependFar", unfollowed := true, recurses := true, apart := false }
def DependFarSaid : Prop := dependFarRow.holds Try.pinned (OpenSpec.ofChange dependFarSpec)

/-- ITS FALSE NEIGHBOUR: 'it returns false'. Refute it at one input. -/
def dependFarWrong : ChangeSpec := { name := "dependFar", fn := fun _ => fun
  | [d1, d2] => { results := [.lit (.bool false)], args := [d1, d2] }
  | _ => none }
def DependFarWrongFalsely : Prop := dependFarRow.holds Try.pinned (OpenSpec.ofChange dependFarWrong)

/-- 'delayslotlaw10.DependHeights': WHATEVER THE INPUT: true; the input reads as it did. -/
def dependHeightsSpec : ChangeSpec := { name := "dependHeights", fn := fun _ => fun
  | [d] => { results := [.lit (.bool true)], args := [d] }
  | _ => none }
def dependHeightsRow : OpenClaim := { program := "yteldmfidcnlfkaa", sum := "2147c7453a78f887e34aef31cbb7f789d5380f2f25a7e04e3f3bc0a2069bcef2", func := "delayslot/delayslotlaw10.DependHeights", spec := "dependHeights", unfollowed := true, recurses := true, apart := false }
def DependHeightsSaid : Prop := dependHeightsRow.holds Try.pinned (OpenSpec.ofChange dependHeightsSpec)

/-- ITS FALSE NEIGHBOUR: 'it returns false'. Refute it at one input. -/
def dependHeightsWrong : ChangeSpec := { name := "dependHeights", fn := fun _ => fun
  | [d] => { results := [.lit (.bool false)], args := [d] }
  | _ => none }
def DependHeightsWrongFalsely : Prop := dependHeightsRow.holds Try.pinned (OpenSpec.ofChange dependHeightsWrong)

/-- 'delayslotlaw10.DependKeeps': WHATEVER THE INPUT: true; the input reads as it did. -/
def dependKeepsSpec : ChangeSpec := { name := "dependKeeps", fn := fun _ => fun
  | [d1, d2] => { results := [.lit (.bool true)], args := [d1, d2] }
  | _ => none }
def dependKeepsRow : OpenClaim := { program := "yteldmfidcnlfkaa", sum := "2147c7453a78f887e34aef31cbb7f789d5380f2f25a7e04e3f3bc0a2069bcef2", func := "delayslot/delayslotlaw10.DependKeeps", spec := "dependKeeps", unfollowed := true, recurses := true, apart := false }
def DependKeepsSaid : Prop := dependKeepsRow.holds Try.pinned (OpenSpec.ofChange dependKeepsSpec)

/-- ITS FALSE NEIGHBOUR: 'it returns false'. Refute it at one input. -/
def dependKeepsWrong : ChangeSpec := { name := "dependKeeps", fn := fun _ => fun
  | [d1, d2] => { results := [.lit (.bool false)], args := [d1, d2] }
  | _ => none }
def DependKeepsWrongFalsely : Prop := dependKeepsRow.holds Try.pinned (OpenSpec.ofChange dependKeepsWrong)

/-- 'delayslotlaw10.DependPlain': WHATEVER THE INPUT: true; the input reads as it did. -/
def dependPlainSpec : ChangeSpec := { name := "dependPlain", fn := fun _ => fun
  | [d] => { results := [.lit (.bool true)], args := [d] }
  | _ => none }
def dependPlainRow : OpenClaim := { program := "yteldmfidcnlfkaa", sum := "2147c7453a78f887e34aef31cbb7f789d5380f2f25a7e04e3f3bc0a2069bcef2", func := "delayslot/delayslotlaw10.DependPlain", spec := "dependPlain", unfollowed := true, recurses := true, apart := false }
def DependPlainSaid : Prop := dependPlainRow.holds Try.pinned (OpenSpec.ofChange dependPlainSpec)

/-- ITS FALSE NEIGHBOUR: 'it returns false'. Refute it at one input. -/
def dependPlainWrong : ChangeSpec := { name := "dependPlain", fn := fun _ => fun
  | [d] => { results := [.lit (.bool false)], args := [d] }
  | _ => none }
def DependPlainWrongFalsely : Prop := dependPlainRow.holds Try.pinned (OpenSpec.ofChange dependPlainWrong)

/-- 'delayslotlaw10.DependPairs': WHATEVER THE INPUT: true; the input reads as it did. -/
def dependPairsSpec : ChangeSpec := { name := "dependPairs", fn := fun _ => fun
  | [d1, d2] => { results := [.lit (.bool true)], args := [d1, d2] }
  | _ => none }
def dependPairsRow : OpenClaim := { program := "yteldmfidcnlfkaa", sum := "2147c7453a78f887e34aef31cbb7f789d5380f2f25a7e04e3f3bc0a2069bcef2", func := "delayslot/delayslotlaw10.DependPairs", spec := "dependPairs", unfollowed := true, recurses := true, apart := false }
def DependPairsSaid : Prop := dependPairsRow.holds Try.pinned (OpenSpec.ofChange dependPairsSpec)

/-- ITS FALSE NEIGHBOUR: 'it returns false'. Refute it at one input. -/
def dependPairsWrong : ChangeSpec := { name := "dependPairs", fn := fun _ => fun
  | [d1, d2] => { results := [.lit (.bool false)], args := [d1, d2] }
  | _ => none }
def DependPairsWrongFalsely : Prop := dependPairsRow.holds Try.pinned (OpenSpec.ofChange dependPairsWrong)

/-- 'delayslotlaw10.DependHigh': WHATEVER THE INPUT: true; the input reads as it did. -/
def dependHighSpec : ChangeSpec := { name := "dependHigh", fn := fun _ => fun
  | [d1, d2] => { results := [.lit (.bool true)], args := [d1, d2] }
  | _ => none }
def dependHighRow : OpenClaim := { program := "yteldmfidcnlfkaa", sum := "2147c7453a78f887e34aef31cbb7f789d5380f2f25a7e04e3f3bc0a2069bcef2", func := "delayslot/delayslotlaw10.DependHigh", spec := "dependHigh", unfollowed := true, recurses := true, apart := false }
def DependHighSaid : Prop := dependHighRow.holds Try.pinned (OpenSpec.ofChange dependHighSpec)

/-- ITS FALSE NEIGHBOUR: 'it returns false'. Refute it at one input. -/
def dependHighWrong : ChangeSpec := { name := "dependHigh", fn := fun _ => fun
  | [d1, d2] => { results := [.lit (.bool false)], args := [d1, d2] }
  | _ => none }
def DependHighWrongFalsely : Prop := dependHighRow.holds Try.pinned (OpenSpec.ofChange dependHighWrong)

/-- 'delayslotlaw10.DependLate': WHATEVER THE INPUT: true; the input reads as it did. -/
def dependLateSpec : ChangeSpec := { name := "dependLate", fn := fun _ => fun
  | [d1, d2] => { results := [.lit (.bool true)], args := [d1, d2] }
  | _ => none }
def dependLateRow : OpenClaim := { program := "yteldmfidcnlfkaa", sum := "2147c7453a78f887e34aef31cbb7f789d5380f2f25a7e04e3f3bc0a2069bcef2", func := "delayslot/delayslotlaw10.DependLate", spec := "dependLate", unfollowed := true, recurses := true, apart := false }
def DependLateSaid : Prop := dependLateRow.holds Try.pinned (OpenSpec.ofChange dependLateSpec)

/-- ITS FALSE NEIGHBOUR: 'it returns false'. Refute it at one input. -/
def dependLateWrong : ChangeSpec := { name := "dependLate", fn := fun _ => fun
  | [d1, d2] => { results := [.lit (.bool false)], args := [d1, d2] }
  | _ => none }
def DependLateWrongFalsely : Prop := dependLateRow.holds Try.pinned (OpenSpec.ofChange dependLateWrong)

/- THE SECOND FORM. 'bulk': how many values and letters a reading holds, each counted each time it is reached (what is shared counts as often as it is met; a slice's spare places count too). A statement '..UptoSaid' is the law's where the arguments, and the package variables that the reading takes, are together of bulk at most 1048576: NARROWER than '..Said'. Prove '..Said' where nothing that the law and all that it calls make is longer than what came in: it says more and counts as full. Else prove '..UptoSaid'. A law counts once. -/
mutual
def uptoBulk {H : Type} : DataW H → Nat
  | .lit (.string bytes) => bytes.length + 1
  | .lit _ => 1
  | .nil => 1
  | .ptr d => uptoBulk d + 1
  | .slice elems spare => uptoBulkAll elems + uptoBulkAll spare + 1
  | .agg parts => uptoBulkAll parts + 1
  | .iface _ d => uptoBulk d + 1
  | .map entries => uptoBulkEntries entries + 1
  | .held _ => 1
def uptoBulkAll {H : Type} : List (DataW H) → Nat
  | [] => 0
  | d :: r => uptoBulk d + uptoBulkAll r
def uptoBulkEntries {H : Type} : List (Lit × DataW H) → Nat
  | [] => 0
  | x :: r => uptoBulkEntry x + uptoBulkEntries r
def uptoBulkEntry {H : Type} : Lit × DataW H → Nat
  | (.string bytes, d) => bytes.length + uptoBulk d + 1
  | (_, d) => uptoBulk d + 1
 end
def uptoSmall : (H : Type) → List (DataW H) → Bool := fun _ ds => decide (uptoBulkAll ds ≤ 1048576)
def OpenSpec.upto (s : _root_.Go.ChangeSpec) : _root_.Go.OpenSpec := { _root_.Go.OpenSpec.ofChange s with cond := some uptoSmall }

/-- 'delayslotlaw10.DependFar', WHERE WHAT IT READS IS OF BULK AT MOST 1048576: true; the input reads as it did. -/
def dependFarUptoRow : OpenClaim := { program := "yteldmfidcnlfkaa", sum := "2147c7453a78f887e34aef31cbb7f789d5380f2f25a7e04e3f3bc0a2069bcef2", func := "delayslot/delayslotlaw10.DependFar", spec := "dependFar", unfollowed := true, recurses := true, apart := false, narrowed := true }
def DependFarUptoSaid : Prop := dependFarUptoRow.holds Try.pinned (OpenSpec.upto dependFarSpec)

/-- 'delayslotlaw10.DependHeights', WHERE WHAT IT READS IS OF BULK AT MOST 1048576: true; the input reads as it did. -/
def dependHeightsUptoRow : OpenClaim := { program := "yteldmfidcnlfkaa", sum := "2147c7453a78f887e34aef31cbb7f789d5380f2f25a7e04e3f3bc0a2069bcef2", func := "delayslot/delayslotlaw10.DependHeights", spec := "dependHeights", unfollowed := true, recurses := true, apart := false, narrowed := true }
def DependHeightsUptoSaid : Prop := dependHeightsUptoRow.holds Try.pinned (OpenSpec.upto dependHeightsSpec)

/-- 'delayslotlaw10.DependKeeps', WHERE WHAT IT READS IS OF BULK AT MOST 1048576: true; the input reads as it did. -/
def dependKeepsUptoRow : OpenClaim := { program := "yteldmfidcnlfkaa", sum := "2147c7453a78f887e34aef31cbb7f789d5380f2f25a7e04e3f3bc0a2069bcef2", func := "delayslot/delayslotlaw10.DependKeeps", spec := "dependKeeps", unfollowed := true, recurses := true, apart := false, narrowed := true }
def DependKeepsUptoSaid : Prop := dependKeepsUptoRow.holds Try.pinned (OpenSpec.upto dependKeepsSpec)

/-- 'delayslotlaw10.DependPlain', WHERE WHAT IT READS IS OF BULK AT MOST 1048576: true; the input reads as it did. -/
def dependPlainUptoRow : OpenClaim := { program := "yteldmfidcnlfkaa", sum := "2147c7453a78f887e34aef31cbb7f789d5380f2f25a7e04e3f3bc0a2069bcef2", func := "delayslot/delayslotlaw10.DependPlain", spec := "dependPlain", unfollowed := true, recurses := true, apart := false, narrowed := true }
def DependPlainUptoSaid : Prop := dependPlainUptoRow.holds Try.pinned (OpenSpec.upto dependPlainSpec)

/-- 'delayslotlaw10.DependPairs', WHERE WHAT IT READS IS OF BULK AT MOST 1048576: true; the input reads as it did. -/
def dependPairsUptoRow : OpenClaim := { program := "yteldmfidcnlfkaa", sum := "2147c7453a78f887e34aef31cbb7f789d5380f2f25a7e04e3f3bc0a2069bcef2", func := "delayslot/delayslotlaw10.DependPairs", spec := "dependPairs", unfollowed := true, recurses := true, apart := false, narrowed := true }
def DependPairsUptoSaid : Prop := dependPairsUptoRow.holds Try.pinned (OpenSpec.upto dependPairsSpec)

/-- 'delayslotlaw10.DependHigh', WHERE WHAT IT READS IS OF BULK AT MOST 1048576: true; the input reads as it did. -/
def dependHighUptoRow : OpenClaim := { program := "yteldmfidcnlfkaa", sum := "2147c7453a78f887e34aef31cbb7f789d5380f2f25a7e04e3f3bc0a2069bcef2", func := "delayslot/delayslotlaw10.DependHigh", spec := "dependHigh", unfollowed := true, recurses := true, apart := false, narrowed := true }
def DependHighUptoSaid : Prop := dependHighUptoRow.holds Try.pinned (OpenSpec.upto dependHighSpec)

/-- 'delayslotlaw10.DependLate', WHERE WHAT IT READS IS OF BULK AT MOST 1048576: true; the input reads as it did. -/
def dependLateUptoRow : OpenClaim := { program := "yteldmfidcnlfkaa", sum := "2147c7453a78f887e34aef31cbb7f789d5380f2f25a7e04e3f3bc0a2069bcef2", func := "delayslot/delayslotlaw10.DependLate", spec := "dependLate", unfollowed := true, recurses := true, apart := false, narrowed := true }
def DependLateUptoSaid : Prop := dependLateUptoRow.holds Try.pinned (OpenSpec.upto dependLateSpec)

end Rows
end Go.Proofs.Yteldmfidcnlfkaa
