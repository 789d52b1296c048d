/-
  No cell of these rows narrows 'for every input' (looked for: loops, veiled, ifaces, maps, wideKeys, modest, calm, conditions, laid).
  DERIVED. THE GIVEN ROWS OF THIS SEAT. 7 by the template 'for every input the law returns true; each argument reads behind the call as it read before'; 0 by the template 'total and deterministic' (their statements: YtpmofaajkhllpaaTotals.lean).
  GIVEN WITH THE SEED: the statements are not yours to turn. If you find one false, say at which input.
  Laid BY PROGRAM, IN A SANDBOX (cutbox-rows.mjs): the forced cells as the released guide's own fill.sh prints them over the translation a9272e06dc840546… (all of the seat's roots in one cut). By AI agents, Wed Nov 11 2026. No macro, syntax, notation, axiom, sorry.
-/
import Derived.Test.YtpmofaajkhllpaaChecked
import GoSem.Claim
import GoSem.ClaimJoined
import GoSem.ClaimMapViews
import Derived.JoinedTies
import Derived.KernelRfl
namespace Go.Proofs.Ytpmofaajkhllpaa
/- THE CELL 'sum', in the pinned program and in every row, IS THE sha256 OF THE DUMP (.gsa) THAT YtpmofaajkhllpaaProg.lean LOADS. Nothing in Lean hashes anything: it is a label: what it is worth is what the hold of that sum in a sandbox is worth. -/
noncomputable def Try.pinned : Pinned := { name := "ytpmofaajkhllpaa", sum := "a9272e06dc8405463c163484c57c7e92e4f6b52ebc15291a40b4627ea5047fec", checked := Try.checked }
namespace Rows
def none {H : Type} : Left H := { results := [], args := [] }

/-- 'delayslotlaw11.SchedOrders': WHATEVER THE INPUT: true; the input reads as it did. -/
def schedOrdersSpec : ChangeSpec := { name := "schedOrders", fn := fun _ => fun
  | [d] => { results := [.lit (.bool true)], args := [d] }
  | _ => none }
def schedOrdersRow : OpenClaim := { program := "ytpmofaajkhllpaa", sum := "a9272e06dc8405463c163484c57c7e92e4f6b52ebc15291a40b4627ea5047fec", func := "delayslot/delayslotlaw11.SchedOrders", spec := "schedOrders", unfollowed := true, recurses := true, apart := false }
def SchedOrdersSaid : Prop := schedOrdersRow.holds Try.pinned (OpenSpec.ofChange schedOrdersSpec)

/-- ITS FALSE NEIGHBOUR: 'it returns false'. Refute it at one input. -/
def schedOrdersWrong : ChangeSpec := { name := "schedOrders", fn := fun _ => fun
  | [d] => { results := [.lit (.bool false)], args := [d] }
  | _ => none }
def SchedOrdersWrongFalsely : Prop := schedOrdersRow.holds Try.pinned (OpenSpec.ofChange schedOrdersWrong)

/-- 'delayslotlaw11.SchedLays': WHATEVER THE INPUT: true; the input reads as it did. -/
def schedLaysSpec : ChangeSpec := { name := "schedLays", fn := fun _ => fun
  | [d1, d2] => { results := [.lit (.bool true)], args := [d1, d2] }
  | _ => none }
def schedLaysRow : OpenClaim := { program := "ytpmofaajkhllpaa", sum := "a9272e06dc8405463c163484c57c7e92e4f6b52ebc15291a40b4627ea5047fec", func := "delayslot/delayslotlaw11.SchedLays", spec := "schedLays", unfollowed := true, recurses := true, apart := false }
def SchedLaysSaid : Prop := schedLaysRow.holds Try.pinned (OpenSpec.ofChange schedLaysSpec)

/-- ITS FALSE NEIGHBOUR: 'it returns false'. Refute it at one input. -/
def schedLaysWrong : ChangeSpec := { name := "schedLays", fn := fun _ => fun
  | [d1, d2] => { results := [.lit (.bool false)], args := [d1, d2] }
  | _ => none }
def SchedLaysWrongFalsely : Prop := schedLaysRow.holds Try.pinned (OpenSpec.ofChange schedLaysWrong)

/-- 'delayslotlaw11.SchedKeeps': WHATEVER THE INPUT: true; the input reads as it did. -/
def schedKeepsSpec : ChangeSpec := { name := "schedKeeps", fn := fun _ => fun
  | [d] => { results := [.lit (.bool true)], args := [d] }
  | _ => none }
def schedKeepsRow : OpenClaim := { program := "ytpmofaajkhllpaa", sum := "a9272e06dc8405463c163484c57c7e92e4f6b52ebc15291a40b4627ea5047fec", func := "delayslot/delayslotlaw11.SchedKeeps", spec := "schedKeeps", unfollowed := true, recurses := true, apart := false }
def SchedKeepsSaid : Prop := schedKeepsRow.holds Try.pinned (OpenSpec.ofChange schedKeepsSpec)

/-- ITS FALSE NEIGHBOUR: 'it returns false'. Refute it at one input. -/
def schedKeepsWrong : ChangeSpec := { name := "schedKeeps", fn := fun _ => fun
  | [d] => { results := [.lit (.bool false)], args := [d] }
  | _ => none }
def SchedKeepsWrongFalsely : Prop := schedKeepsRow.holds Try.pinned (OpenSpec.ofChange schedKeepsWrong)

/-- 'delayslotlaw11.SchedSlots': WHATEVER THE INPUT: true; the input reads as it did. -/
def schedSlotsSpec : ChangeSpec := { name := "schedSlots", fn := fun _ => fun
  | [d] => { results := [.lit (.bool true)], args := [d] }
  | _ => none }
def schedSlotsRow : OpenClaim := { program := "ytpmofaajkhllpaa", sum := "a9272e06dc8405463c163484c57c7e92e4f6b52ebc15291a40b4627ea5047fec", func := "delayslot/delayslotlaw11.SchedSlots", spec := "schedSlots", unfollowed := true, recurses := true, apart := false }
def SchedSlotsSaid : Prop := schedSlotsRow.holds Try.pinned (OpenSpec.ofChange schedSlotsSpec)

/-- ITS FALSE NEIGHBOUR: 'it returns false'. Refute it at one input. -/
def schedSlotsWrong : ChangeSpec := { name := "schedSlots", fn := fun _ => fun
  | [d] => { results := [.lit (.bool false)], args := [d] }
  | _ => none }
def SchedSlotsWrongFalsely : Prop := schedSlotsRow.holds Try.pinned (OpenSpec.ofChange schedSlotsWrong)

/-- 'delayslotlaw11.SchedFree': WHATEVER THE INPUT: true; the input reads as it did. -/
def schedFreeSpec : ChangeSpec := { name := "schedFree", fn := fun _ => fun
  | [d] => { results := [.lit (.bool true)], args := [d] }
  | _ => none }
def schedFreeRow : OpenClaim := { program := "ytpmofaajkhllpaa", sum := "a9272e06dc8405463c163484c57c7e92e4f6b52ebc15291a40b4627ea5047fec", func := "delayslot/delayslotlaw11.SchedFree", spec := "schedFree", unfollowed := true, recurses := true, apart := false }
def SchedFreeSaid : Prop := schedFreeRow.holds Try.pinned (OpenSpec.ofChange schedFreeSpec)

/-- ITS FALSE NEIGHBOUR: 'it returns false'. Refute it at one input. -/
def schedFreeWrong : ChangeSpec := { name := "schedFree", fn := fun _ => fun
  | [d] => { results := [.lit (.bool false)], args := [d] }
  | _ => none }
def SchedFreeWrongFalsely : Prop := schedFreeRow.holds Try.pinned (OpenSpec.ofChange schedFreeWrong)

/-- 'delayslotlaw11.SchedShort': WHATEVER THE INPUT: true; the input reads as it did. -/
def schedShortSpec : ChangeSpec := { name := "schedShort", fn := fun _ => fun
  | [d] => { results := [.lit (.bool true)], args := [d] }
  | _ => none }
def schedShortRow : OpenClaim := { program := "ytpmofaajkhllpaa", sum := "a9272e06dc8405463c163484c57c7e92e4f6b52ebc15291a40b4627ea5047fec", func := "delayslot/delayslotlaw11.SchedShort", spec := "schedShort", unfollowed := true, recurses := true, apart := false }
def SchedShortSaid : Prop := schedShortRow.holds Try.pinned (OpenSpec.ofChange schedShortSpec)

/-- ITS FALSE NEIGHBOUR: 'it returns false'. Refute it at one input. -/
def schedShortWrong : ChangeSpec := { name := "schedShort", fn := fun _ => fun
  | [d] => { results := [.lit (.bool false)], args := [d] }
  | _ => none }
def SchedShortWrongFalsely : Prop := schedShortRow.holds Try.pinned (OpenSpec.ofChange schedShortWrong)

/-- 'delayslotlaw11.SchedAlone': WHATEVER THE INPUT: true; the input reads as it did. -/
def schedAloneSpec : ChangeSpec := { name := "schedAlone", fn := fun _ => fun
  | [d] => { results := [.lit (.bool true)], args := [d] }
  | _ => none }
def schedAloneRow : OpenClaim := { program := "ytpmofaajkhllpaa", sum := "a9272e06dc8405463c163484c57c7e92e4f6b52ebc15291a40b4627ea5047fec", func := "delayslot/delayslotlaw11.SchedAlone", spec := "schedAlone", unfollowed := true, recurses := true, apart := false }
def SchedAloneSaid : Prop := schedAloneRow.holds Try.pinned (OpenSpec.ofChange schedAloneSpec)

/-- ITS FALSE NEIGHBOUR: 'it returns false'. Refute it at one input. -/
def schedAloneWrong : ChangeSpec := { name := "schedAlone", fn := fun _ => fun
  | [d] => { results := [.lit (.bool false)], args := [d] }
  | _ => none }
def SchedAloneWrongFalsely : Prop := schedAloneRow.holds Try.pinned (OpenSpec.ofChange schedAloneWrong)

/- THE SECOND FORM. 'bulk': how many values and letters a reading holds, each counted each time it is reached (what is shared counts as often as it is met; a slice's spare places count too). A statement '..UptoSaid' is the law's where the arguments, and the package variables that the reading takes, are together of bulk at most 1048576: NARROWER than '..Said'. Prove '..Said' where nothing that the law and all that it calls make is longer than what came in: it says more and counts as full. Else prove '..UptoSaid'. A law counts once. -/
mutual
def uptoBulk {H : Type} : DataW H → Nat
  | .lit (.string bytes) => bytes.length + 1
  | .lit _ => 1
  | .nil => 1
  | .ptr d => uptoBulk d + 1
  | .slice elems spare => uptoBulkAll elems + uptoBulkAll spare + 1
  | .agg parts => uptoBulkAll parts + 1
  | .iface _ d => uptoBulk d + 1
  | .map entries => uptoBulkEntries entries + 1
  | .held _ => 1
def uptoBulkAll {H : Type} : List (DataW H) → Nat
  | [] => 0
  | d :: r => uptoBulk d + uptoBulkAll r
def uptoBulkEntries {H : Type} : List (Lit × DataW H) → Nat
  | [] => 0
  | x :: r => uptoBulkEntry x + uptoBulkEntries r
def uptoBulkEntry {H : Type} : Lit × DataW H → Nat
  | (.string bytes, d) => bytes.length + uptoBulk d + 1
  | (_, d) => uptoBulk d + 1
 end
def uptoSmall : (H : Type) → List (DataW H) → Bool := fun _ ds => decide (uptoBulkAll ds ≤ 1048576)
def OpenSpec.upto (s : _root_.Go.ChangeSpec) : _root_.Go.OpenSpec := { _root_.Go.OpenSpec.ofChange s with cond := some uptoSmall }

/-- 'delayslotlaw11.SchedOrders', WHERE WHAT IT READS IS OF BULK AT MOST 1048576: true; the input reads as it did. -/
def schedOrdersUptoRow : OpenClaim := { program := "ytpmofaajkhllpaa", sum := "a9272e06dc8405463c163484c57c7e92e4f6b52ebc15291a40b4627ea5047fec", func := "delayslot/delayslotlaw11.SchedOrders", spec := "schedOrders", unfollowed := true, recurses := true, apart := false, narrowed := true }
def SchedOrdersUptoSaid : Prop := schedOrdersUptoRow.holds Try.pinned (OpenSpec.upto schedOrdersSpec)

/-- 'delayslotlaw11.SchedLays', WHERE WHAT IT READS IS OF BULK AT MOST 1048576: true; the input reads as it did. -/
def schedLaysUptoRow : OpenClaim := { program := "ytpmofaajkhllpaa", sum := "a9272e06dc8405463c163484c57c7e92e4f6b52ebc15291a40b4627ea5047fec", func := "delayslot/delayslotlaw11.SchedLays", spec := "schedLays", unfollowed := true, recurses := true, apart := false, narrowed := true }
def SchedLaysUptoSaid : Prop := schedLaysUptoRow.holds Try.pinned (OpenSpec.upto schedLaysSpec)

/-- 'delayslotlaw11.SchedKeeps', WHERE WHAT IT READS IS OF BULK AT MOST 1048576: true; the input reads as it did. -/
def schedKeepsUptoRow : OpenClaim := { program := "ytpmofaajkhllpaa", sum := "a9272e06dc8405463c163484c57c7e92e4f6b52ebc15291a40b4627ea5047fec", func := "delayslot/delayslotlaw11.SchedKeeps", spec := "schedKeeps", unfollowed := true, recurses := true, apart := false, narrowed := true }
def SchedKeepsUptoSaid : Prop := schedKeepsUptoRow.holds Try.pinned (OpenSpec.upto schedKeepsSpec)

/-- 'delayslotlaw11.SchedSlots', WHERE WHAT IT READS IS OF BULK AT MOST 1048576: true; the input reads as it did. -/
def schedSlotsUptoRow : OpenClaim := { program := "ytpmofaajkhllpaa", sum := "a9272e06dc8405463c163484c57c7e92e4f6b52ebc15291a40b4627ea5047fec", func := "delayslot/delayslotlaw11.SchedSlots", spec := "schedSlots", unfollowed := true, recurses := true, apart := false, narrowed := true }
def SchedSlotsUptoSaid : Prop := schedSlotsUptoRow.holds Try.pinned (OpenSpec.upto schedSlotsSpec)

/-- 'delayslotlaw11.SchedFree', WHERE WHAT IT READS IS OF BULK AT MOST 1048576: true; the input reads as it did. -/
def schedFreeUptoRow : OpenClaim := { program := "ytpmofaajkhllpaa", sum := "a9272e06dc8405463c163484c57c7e92e4f6b52ebc15291a40b4627ea5047fec", func := "delayslot/delayslotlaw11.SchedFree", spec := "schedFree", unfollowed := true, recurses := true, apart := false, narrowed := true }
def SchedFreeUptoSaid : Prop := schedFreeUptoRow.holds Try.pinned (OpenSpec.upto schedFreeSpec)

/-- 'delayslotlaw11.SchedShort', WHERE WHAT IT READS IS OF BULK AT MOST 1048576: true; the input reads as it did. -/
def schedShortUptoRow : OpenClaim := { program := "ytpmofaajkhllpaa", sum := "a9272e06dc8405463c163484c57c7e92e4f6b52ebc15291a40b4627ea5047fec", func := "delayslot/delayslotlaw11.SchedShort", spec := "schedShort", unfollowed := true, recurses := true, apart := false, narrowed := true }
def SchedShortUptoSaid : Prop := schedShortUptoRow.holds Try.pinned (OpenSpec.upto schedShortSpec)

/-- 'delayslotlaw11.SchedAlone', WHERE WHAT IT READS IS OF BULK AT MOST 1048576: true; the input reads as it did. -/
def schedAloneUptoRow : OpenClaim := { program := "ytpmofaajkhllpaa", sum := "a9272e06dc8405463c163484c57c7e92e4f6b52ebc15291a40b4627ea5047fec", func := "delayslot/delayslotlaw11.SchedAlone", spec := "schedAlone", unfollowed := true, recurses := true, apart := false, narrowed := true }
def SchedAloneUptoSaid : Prop := schedAloneUptoRow.holds Try.pinned (OpenSpec.upto schedAloneSpec)

end Rows
end Go.Proofs.Ytpmofaajkhllpaa
