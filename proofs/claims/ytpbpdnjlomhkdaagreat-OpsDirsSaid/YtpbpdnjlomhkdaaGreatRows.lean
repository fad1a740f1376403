/-
  No cell of these rows narrows 'for every input' (looked for: loops, veiled, ifaces, maps, wideKeys, modest, calm, conditions, laid).
  DERIVED. THE GIVEN ROWS OF THIS SEAT. 14 by the template 'for every input the law returns true; each argument reads behind the call as it read before'; 0 by the template 'total and deterministic' (their statements: YtpbpdnjlomhkdaaGreatTotals.lean).
  GIVEN WITH THE SEED: the statements are not yours to turn. If you find one false, say at which input.
  Laid BY PROGRAM, IN A SANDBOX (cutbox-rows.mjs): the forced cells as the released guide's own fill.sh prints them over the translation 1f4f8cb4de500e3c… (all of the seat's roots in one cut). By AI agents, Wed Nov 11 2026. No macro, syntax, notation, axiom, sorry.
-/
import Derived.Test.YtpbpdnjlomhkdaaGreatChecked
import GoSem.Claim
import GoSem.ClaimJoined
import GoSem.ClaimMapViews
import Derived.JoinedTies
import Derived.KernelRfl
namespace Go.Proofs.YtpbpdnjlomhkdaaGreat
/- THE CELL 'sum', in the pinned program and in every row, IS THE sha256 OF THE DUMP (.gsa) THAT YtpbpdnjlomhkdaaGreatProg.lean LOADS. Nothing in Lean hashes anything: it is a label: what it is worth is what the hold of that sum in a sandbox is worth. -/
noncomputable def Tryz.pinned : Pinned := { name := "ytpbpdnjlomhkdaagreat", sum := "1f4f8cb4de500e3cf385ea006e86778518b1bdf9f9e5d40bb1af9c6af70f9b94", checked := Tryz.checked }
namespace Rows
def none {H : Type} : Left H := { results := [], args := [] }

/-- 'removalistlaw13.OpsPlays': WHATEVER THE INPUT: true; the input reads as it did. -/
def opsPlaysSpec : ChangeSpec := { name := "opsPlays", fn := fun _ => fun
  | [d1, d2] => { results := [.lit (.bool true)], args := [d1, d2] }
  | _ => none }
def opsPlaysRow : OpenClaim := { program := "ytpbpdnjlomhkdaagreat", sum := "1f4f8cb4de500e3cf385ea006e86778518b1bdf9f9e5d40bb1af9c6af70f9b94", func := "removalist/removalistlaw13.OpsPlays", spec := "opsPlays", inPlace := ["internal/bytealg.IndexByteString", "internal/bytealg.IndexString"], unfollowed := true, recurses := true, named := ["internal/bytealg.MaxLen"], apart := false }
def OpsPlaysSaid : Prop := opsPlaysRow.holds Tryz.pinned (OpenSpec.ofChange opsPlaysSpec)

/-- ITS FALSE NEIGHBOUR: 'it returns false'. Refute it at one input. -/
def opsPlaysWrong : ChangeSpec := { name := "opsPlays", fn := fun _ => fun
  | [d1, d2] => { results := [.lit (.bool false)], args := [d1, d2] }
  | _ => none }
def OpsPlaysWrongFalsely : Prop := opsPlaysRow.holds Tryz.pinned (OpenSpec.ofChange opsPlaysWrong)

/-- 'removalistlaw13.OpsStale': WHATEVER THE INPUT: true; the input reads as it did. -/
def opsStaleSpec : ChangeSpec := { name := "opsStale", fn := fun _ => fun
  | [d] => { results := [.lit (.bool true)], args := [d] }
  | _ => none }
def opsStaleRow : OpenClaim := { program := "ytpbpdnjlomhkdaagreat", sum := "1f4f8cb4de500e3cf385ea006e86778518b1bdf9f9e5d40bb1af9c6af70f9b94", func := "removalist/removalistlaw13.OpsStale", spec := "opsStale", inPlace := ["internal/bytealg.IndexByteString", "internal/bytealg.IndexString"], unfollowed := true, recurses := true, named := ["internal/bytealg.MaxLen"], apart := false }
def OpsStaleSaid : Prop := opsStaleRow.holds Tryz.pinned (OpenSpec.ofChange opsStaleSpec)

/-- ITS FALSE NEIGHBOUR: 'it returns false'. Refute it at one input. -/
def opsStaleWrong : ChangeSpec := { name := "opsStale", fn := fun _ => fun
  | [d] => { results := [.lit (.bool false)], args := [d] }
  | _ => none }
def OpsStaleWrongFalsely : Prop := opsStaleRow.holds Tryz.pinned (OpenSpec.ofChange opsStaleWrong)

/-- 'removalistlaw13.OpsBytes': WHATEVER THE INPUT: true; the input reads as it did. -/
def opsBytesSpec : ChangeSpec := { name := "opsBytes", fn := fun _ => fun
  | [d1, d2, d3, d4] => { results := [.lit (.bool true)], args := [d1, d2, d3, d4] }
  | _ => none }
def opsBytesRow : OpenClaim := { program := "ytpbpdnjlomhkdaagreat", sum := "1f4f8cb4de500e3cf385ea006e86778518b1bdf9f9e5d40bb1af9c6af70f9b94", func := "removalist/removalistlaw13.OpsBytes", spec := "opsBytes", inPlace := ["internal/bytealg.IndexByteString", "internal/bytealg.IndexString"], unfollowed := true, recurses := true, named := ["internal/bytealg.MaxLen"], apart := false }
def OpsBytesSaid : Prop := opsBytesRow.holds Tryz.pinned (OpenSpec.ofChange opsBytesSpec)

/-- ITS FALSE NEIGHBOUR: 'it returns false'. Refute it at one input. -/
def opsBytesWrong : ChangeSpec := { name := "opsBytes", fn := fun _ => fun
  | [d1, d2, d3, d4] => { results := [.lit (.bool false)], args := [d1, d2, d3, d4] }
  | _ => none }
def OpsBytesWrongFalsely : Prop := opsBytesRow.holds Tryz.pinned (OpenSpec.ofChange opsBytesWrong)

/-- 'removalistlaw13.OpsNames': WHATEVER THE INPUT: true; the input reads as it did. -/
def opsNamesSpec : ChangeSpec := { name := "opsNames", fn := fun _ => fun
  | [d1, d2] => { results := [.lit (.bool true)], args := [d1, d2] }
  | _ => none }
def opsNamesRow : OpenClaim := { program := "ytpbpdnjlomhkdaagreat", sum := "1f4f8cb4de500e3cf385ea006e86778518b1bdf9f9e5d40bb1af9c6af70f9b94", func := "removalist/removalistlaw13.OpsNames", spec := "opsNames", inPlace := ["internal/bytealg.IndexByteString", "internal/bytealg.IndexString"], unfollowed := true, recurses := true, named := ["internal/bytealg.MaxLen"], apart := false }
def OpsNamesSaid : Prop := opsNamesRow.holds Tryz.pinned (OpenSpec.ofChange opsNamesSpec)

/-- ITS FALSE NEIGHBOUR: 'it returns false'. Refute it at one input. -/
def opsNamesWrong : ChangeSpec := { name := "opsNames", fn := fun _ => fun
  | [d1, d2] => { results := [.lit (.bool false)], args := [d1, d2] }
  | _ => none }
def OpsNamesWrongFalsely : Prop := opsNamesRow.holds Tryz.pinned (OpenSpec.ofChange opsNamesWrong)

/-- 'removalistlaw13.OpsRenames': WHATEVER THE INPUT: true; the input reads as it did. -/
def opsRenamesSpec : ChangeSpec := { name := "opsRenames", fn := fun _ => fun
  | [d1, d2, d3] => { results := [.lit (.bool true)], args := [d1, d2, d3] }
  | _ => none }
def opsRenamesRow : OpenClaim := { program := "ytpbpdnjlomhkdaagreat", sum := "1f4f8cb4de500e3cf385ea006e86778518b1bdf9f9e5d40bb1af9c6af70f9b94", func := "removalist/removalistlaw13.OpsRenames", spec := "opsRenames", inPlace := ["internal/bytealg.IndexByteString", "internal/bytealg.IndexString"], unfollowed := true, recurses := true, named := ["internal/bytealg.MaxLen"], apart := false }
def OpsRenamesSaid : Prop := opsRenamesRow.holds Tryz.pinned (OpenSpec.ofChange opsRenamesSpec)

/-- ITS FALSE NEIGHBOUR: 'it returns false'. Refute it at one input. -/
def opsRenamesWrong : ChangeSpec := { name := "opsRenames", fn := fun _ => fun
  | [d1, d2, d3] => { results := [.lit (.bool false)], args := [d1, d2, d3] }
  | _ => none }
def OpsRenamesWrongFalsely : Prop := opsRenamesRow.holds Tryz.pinned (OpenSpec.ofChange opsRenamesWrong)

/-- 'removalistlaw13.OpsLoops': WHATEVER THE INPUT: true; the input reads as it did. -/
def opsLoopsSpec : ChangeSpec := { name := "opsLoops", fn := fun _ => fun
  | [d1, d2, d3] => { results := [.lit (.bool true)], args := [d1, d2, d3] }
  | _ => none }
def opsLoopsRow : OpenClaim := { program := "ytpbpdnjlomhkdaagreat", sum := "1f4f8cb4de500e3cf385ea006e86778518b1bdf9f9e5d40bb1af9c6af70f9b94", func := "removalist/removalistlaw13.OpsLoops", spec := "opsLoops", inPlace := ["internal/bytealg.IndexByteString", "internal/bytealg.IndexString"], unfollowed := true, recurses := true, named := ["internal/bytealg.MaxLen"], apart := false }
def OpsLoopsSaid : Prop := opsLoopsRow.holds Tryz.pinned (OpenSpec.ofChange opsLoopsSpec)

/-- ITS FALSE NEIGHBOUR: 'it returns false'. Refute it at one input. -/
def opsLoopsWrong : ChangeSpec := { name := "opsLoops", fn := fun _ => fun
  | [d1, d2, d3] => { results := [.lit (.bool false)], args := [d1, d2, d3] }
  | _ => none }
def OpsLoopsWrongFalsely : Prop := opsLoopsRow.holds Tryz.pinned (OpenSpec.ofChange opsLoopsWrong)

/-- 'removalistlaw13.OpsLinks': WHATEVER THE INPUT: true; the input reads as it did. -/
def opsLinksSpec : ChangeSpec := { name := "opsLinks", fn := fun _ => fun
  | [d1, d2] => { results := [.lit (.bool true)], args := [d1, d2] }
  | _ => none }
def opsLinksRow : OpenClaim := { program := "ytpbpdnjlomhkdaagreat", sum := "1f4f8cb4de500e3cf385ea006e86778518b1bdf9f9e5d40bb1af9c6af70f9b94", func := "removalist/removalistlaw13.OpsLinks", spec := "opsLinks", inPlace := ["internal/bytealg.IndexByteString", "internal/bytealg.IndexString"], unfollowed := true, recurses := true, named := ["internal/bytealg.MaxLen"], apart := false }
def OpsLinksSaid : Prop := opsLinksRow.holds Tryz.pinned (OpenSpec.ofChange opsLinksSpec)

/-- ITS FALSE NEIGHBOUR: 'it returns false'. Refute it at one input. -/
def opsLinksWrong : ChangeSpec := { name := "opsLinks", fn := fun _ => fun
  | [d1, d2] => { results := [.lit (.bool false)], args := [d1, d2] }
  | _ => none }
def OpsLinksWrongFalsely : Prop := opsLinksRow.holds Tryz.pinned (OpenSpec.ofChange opsLinksWrong)

/-- 'removalistlaw13.OpsExclusive': WHATEVER THE INPUT: true; the input reads as it did. -/
def opsExclusiveSpec : ChangeSpec := { name := "opsExclusive", fn := fun _ => fun
  | [d1, d2, d3] => { results := [.lit (.bool true)], args := [d1, d2, d3] }
  | _ => none }
def opsExclusiveRow : OpenClaim := { program := "ytpbpdnjlomhkdaagreat", sum := "1f4f8cb4de500e3cf385ea006e86778518b1bdf9f9e5d40bb1af9c6af70f9b94", func := "removalist/removalistlaw13.OpsExclusive", spec := "opsExclusive", inPlace := ["internal/bytealg.IndexByteString", "internal/bytealg.IndexString"], unfollowed := true, recurses := true, named := ["internal/bytealg.MaxLen"], apart := false }
def OpsExclusiveSaid : Prop := opsExclusiveRow.holds Tryz.pinned (OpenSpec.ofChange opsExclusiveSpec)

/-- ITS FALSE NEIGHBOUR: 'it returns false'. Refute it at one input. -/
def opsExclusiveWrong : ChangeSpec := { name := "opsExclusive", fn := fun _ => fun
  | [d1, d2, d3] => { results := [.lit (.bool false)], args := [d1, d2, d3] }
  | _ => none }
def OpsExclusiveWrongFalsely : Prop := opsExclusiveRow.holds Tryz.pinned (OpenSpec.ofChange opsExclusiveWrong)

/-- 'removalistlaw13.OpsDirs': WHATEVER THE INPUT: true; the input reads as it did. -/
def opsDirsSpec : ChangeSpec := { name := "opsDirs", fn := fun _ => fun
  | [d1, d2] => { results := [.lit (.bool true)], args := [d1, d2] }
  | _ => none }
def opsDirsRow : OpenClaim := { program := "ytpbpdnjlomhkdaagreat", sum := "1f4f8cb4de500e3cf385ea006e86778518b1bdf9f9e5d40bb1af9c6af70f9b94", func := "removalist/removalistlaw13.OpsDirs", spec := "opsDirs", inPlace := ["internal/bytealg.IndexByteString", "internal/bytealg.IndexString"], unfollowed := true, recurses := true, named := ["internal/bytealg.MaxLen"], apart := false }
def OpsDirsSaid : Prop := opsDirsRow.holds Tryz.pinned (OpenSpec.ofChange opsDirsSpec)

/-- ITS FALSE NEIGHBOUR: 'it returns false'. Refute it at one input. -/
def opsDirsWrong : ChangeSpec := { name := "opsDirs", fn := fun _ => fun
  | [d1, d2] => { results := [.lit (.bool false)], args := [d1, d2] }
  | _ => none }
def OpsDirsWrongFalsely : Prop := opsDirsRow.holds Tryz.pinned (OpenSpec.ofChange opsDirsWrong)

/-- 'removalistlaw13.OpsKinds': WHATEVER THE INPUT: true; the input reads as it did. -/
def opsKindsSpec : ChangeSpec := { name := "opsKinds", fn := fun _ => fun
  | [d] => { results := [.lit (.bool true)], args := [d] }
  | _ => none }
def opsKindsRow : OpenClaim := { program := "ytpbpdnjlomhkdaagreat", sum := "1f4f8cb4de500e3cf385ea006e86778518b1bdf9f9e5d40bb1af9c6af70f9b94", func := "removalist/removalistlaw13.OpsKinds", spec := "opsKinds", inPlace := ["internal/bytealg.IndexByteString", "internal/bytealg.IndexString"], unfollowed := true, recurses := true, named := ["internal/bytealg.MaxLen"], apart := false }
def OpsKindsSaid : Prop := opsKindsRow.holds Tryz.pinned (OpenSpec.ofChange opsKindsSpec)

/-- ITS FALSE NEIGHBOUR: 'it returns false'. Refute it at one input. -/
def opsKindsWrong : ChangeSpec := { name := "opsKinds", fn := fun _ => fun
  | [d] => { results := [.lit (.bool false)], args := [d] }
  | _ => none }
def OpsKindsWrongFalsely : Prop := opsKindsRow.holds Tryz.pinned (OpenSpec.ofChange opsKindsWrong)

/-- 'removalistlaw13.OpsRoom': WHATEVER THE INPUT: true; the input reads as it did. -/
def opsRoomSpec : ChangeSpec := { name := "opsRoom", fn := fun _ => fun
  | [d1, d2] => { results := [.lit (.bool true)], args := [d1, d2] }
  | _ => none }
def opsRoomRow : OpenClaim := { program := "ytpbpdnjlomhkdaagreat", sum := "1f4f8cb4de500e3cf385ea006e86778518b1bdf9f9e5d40bb1af9c6af70f9b94", func := "removalist/removalistlaw13.OpsRoom", spec := "opsRoom", inPlace := ["internal/bytealg.IndexByteString", "internal/bytealg.IndexString"], unfollowed := true, recurses := true, named := ["internal/bytealg.MaxLen"], apart := false }
def OpsRoomSaid : Prop := opsRoomRow.holds Tryz.pinned (OpenSpec.ofChange opsRoomSpec)

/-- ITS FALSE NEIGHBOUR: 'it returns false'. Refute it at one input. -/
def opsRoomWrong : ChangeSpec := { name := "opsRoom", fn := fun _ => fun
  | [d1, d2] => { results := [.lit (.bool false)], args := [d1, d2] }
  | _ => none }
def OpsRoomWrongFalsely : Prop := opsRoomRow.holds Tryz.pinned (OpenSpec.ofChange opsRoomWrong)

/-- 'removalistlaw13.OpsLists': WHATEVER THE INPUT: true; the input reads as it did. -/
def opsListsSpec : ChangeSpec := { name := "opsLists", fn := fun _ => fun
  | [d1, d2, d3] => { results := [.lit (.bool true)], args := [d1, d2, d3] }
  | _ => none }
def opsListsRow : OpenClaim := { program := "ytpbpdnjlomhkdaagreat", sum := "1f4f8cb4de500e3cf385ea006e86778518b1bdf9f9e5d40bb1af9c6af70f9b94", func := "removalist/removalistlaw13.OpsLists", spec := "opsLists", inPlace := ["internal/bytealg.IndexByteString", "internal/bytealg.IndexString"], unfollowed := true, recurses := true, named := ["internal/bytealg.MaxLen"], apart := false }
def OpsListsSaid : Prop := opsListsRow.holds Tryz.pinned (OpenSpec.ofChange opsListsSpec)

/-- ITS FALSE NEIGHBOUR: 'it returns false'. Refute it at one input. -/
def opsListsWrong : ChangeSpec := { name := "opsLists", fn := fun _ => fun
  | [d1, d2, d3] => { results := [.lit (.bool false)], args := [d1, d2, d3] }
  | _ => none }
def OpsListsWrongFalsely : Prop := opsListsRow.holds Tryz.pinned (OpenSpec.ofChange opsListsWrong)

/-- 'removalistlaw13.OpsReads': WHATEVER THE INPUT: true; the input reads as it did. -/
def opsReadsSpec : ChangeSpec := { name := "opsReads", fn := fun _ => fun
  | [d1, d2, d3] => { results := [.lit (.bool true)], args := [d1, d2, d3] }
  | _ => none }
def opsReadsRow : OpenClaim := { program := "ytpbpdnjlomhkdaagreat", sum := "1f4f8cb4de500e3cf385ea006e86778518b1bdf9f9e5d40bb1af9c6af70f9b94", func := "removalist/removalistlaw13.OpsReads", spec := "opsReads", inPlace := ["internal/bytealg.IndexByteString", "internal/bytealg.IndexString"], unfollowed := true, recurses := true, named := ["internal/bytealg.MaxLen"], apart := false }
def OpsReadsSaid : Prop := opsReadsRow.holds Tryz.pinned (OpenSpec.ofChange opsReadsSpec)

/-- ITS FALSE NEIGHBOUR: 'it returns false'. Refute it at one input. -/
def opsReadsWrong : ChangeSpec := { name := "opsReads", fn := fun _ => fun
  | [d1, d2, d3] => { results := [.lit (.bool false)], args := [d1, d2, d3] }
  | _ => none }
def OpsReadsWrongFalsely : Prop := opsReadsRow.holds Tryz.pinned (OpenSpec.ofChange opsReadsWrong)

/-- 'removalistlaw13.OpsNumbers': WHATEVER THE INPUT: true; the input reads as it did. -/
def opsNumbersSpec : ChangeSpec := { name := "opsNumbers", fn := fun _ => fun
  | [d1, d2] => { results := [.lit (.bool true)], args := [d1, d2] }
  | _ => none }
def opsNumbersRow : OpenClaim := { program := "ytpbpdnjlomhkdaagreat", sum := "1f4f8cb4de500e3cf385ea006e86778518b1bdf9f9e5d40bb1af9c6af70f9b94", func := "removalist/removalistlaw13.OpsNumbers", spec := "opsNumbers", inPlace := ["internal/bytealg.IndexByteString", "internal/bytealg.IndexString"], unfollowed := true, recurses := true, named := ["internal/bytealg.MaxLen"], apart := false }
def OpsNumbersSaid : Prop := opsNumbersRow.holds Tryz.pinned (OpenSpec.ofChange opsNumbersSpec)

/-- ITS FALSE NEIGHBOUR: 'it returns false'. Refute it at one input. -/
def opsNumbersWrong : ChangeSpec := { name := "opsNumbers", fn := fun _ => fun
  | [d1, d2] => { results := [.lit (.bool false)], args := [d1, d2] }
  | _ => none }
def OpsNumbersWrongFalsely : Prop := opsNumbersRow.holds Tryz.pinned (OpenSpec.ofChange opsNumbersWrong)

/- THE SECOND FORM. 'bulk': how many values and letters a reading holds, each counted each time it is reached (what is shared counts as often as it is met; a slice's spare places count too). A statement '..UptoSaid' is the law's where the arguments, and the package variables that the reading takes, are together of bulk at most 1048576: NARROWER than '..Said'. Prove '..Said' where nothing that the law and all that it calls make is longer than what came in: it says more and counts as full. Else prove '..UptoSaid'. A law counts once. -/
mutual
def uptoBulk {H : Type} : DataW H → Nat
  | .lit (.string bytes) => bytes.length + 1
  | .lit _ => 1
  | .nil => 1
  | .ptr d => uptoBulk d + 1
  | .slice elems spare => uptoBulkAll elems + uptoBulkAll spare + 1
  | .agg parts => uptoBulkAll parts + 1
  | .iface _ d => uptoBulk d + 1
  | .map entries => uptoBulkEntries entries + 1
  | .held _ => 1
def uptoBulkAll {H : Type} : List (DataW H) → Nat
  | [] => 0
  | d :: r => uptoBulk d + uptoBulkAll r
def uptoBulkEntries {H : Type} : List (Lit × DataW H) → Nat
  | [] => 0
  | x :: r => uptoBulkEntry x + uptoBulkEntries r
def uptoBulkEntry {H : Type} : Lit × DataW H → Nat
  | (.string bytes, d) => bytes.length + uptoBulk d + 1
  | (_, d) => uptoBulk d + 1
 end
def uptoSmall : (H : Type) → List (DataW H) → Bool := fun _ ds => decide (uptoBulkAll ds ≤ 1048576)
def OpenSpec.upto (s : _root_.Go.ChangeSpec) : _root_.Go.OpenSpec := { _root_.Go.OpenSpec.ofChange s with cond := some uptoSmall }

/-- 'removalistlaw13.OpsPlays', WHERE WHAT IT READS IS OF BULK AT MOST 1048576: true; the input reads as it did. -/
def opsPlaysUptoRow : OpenClaim := { program := "ytpbpdnjlomhkdaagreat", sum := "1f4f8cb4de500e3cf385ea006e86778518b1bdf9f9e5d40bb1af9c6af70f9b94", func := "removalist/removalistlaw13.OpsPlays", spec := "opsPlays", inPlace := ["internal/bytealg.IndexByteString", "internal/bytealg.IndexString"], unfollowed := true, recurses := true, named := ["internal/bytealg.MaxLen"], apart := false, narrowed := true }
def OpsPlaysUptoSaid : Prop := opsPlaysUptoRow.holds Tryz.pinned (OpenSpec.upto opsPlaysSpec)

/-- 'removalistlaw13.OpsStale', WHERE WHAT IT READS IS OF BULK AT MOST 1048576: true; the input reads as it did. -/
def opsStaleUptoRow : OpenClaim := { program := "ytpbpdnjlomhkdaagreat", sum := "1f4f8cb4de500e3cf385ea006e86778518b1bdf9f9e5d40bb1af9c6af70f9b94", func := "removalist/removalistlaw13.OpsStale", spec := "opsStale", inPlace := ["internal/bytealg.IndexByteString", "internal/bytealg.IndexString"], unfollowed := true, recurses := true, named := ["internal/bytealg.MaxLen"], apart := false, narrowed := true }
def OpsStaleUptoSaid : Prop := opsStaleUptoRow.holds Tryz.pinned (OpenSpec.upto opsStaleSpec)

/-- 'removalistlaw13.OpsBytes', WHERE WHAT IT READS IS OF BULK AT MOST 1048576: true; the input reads as it did. -/
def opsBytesUptoRow : OpenClaim := { program := "ytpbpdnjlomhkdaagreat", sum := "1f4f8cb4de500e3cf385ea006e86778518b1bdf9f9e5d40bb1af9c6af70f9b94", func := "removalist/removalistlaw13.OpsBytes", spec := "opsBytes", inPlace := ["internal/bytealg.IndexByteString", "internal/bytealg.IndexString"], unfollowed := true, recurses := true, named := ["internal/bytealg.MaxLen"], apart := false, narrowed := true }
def OpsBytesUptoSaid : Prop := opsBytesUptoRow.holds Tryz.pinned (OpenSpec.upto opsBytesSpec)

/-- 'removalistlaw13.OpsNames', WHERE WHAT IT READS IS OF BULK AT MOST 1048576: true; the input reads as it did. -/
def opsNamesUptoRow : OpenClaim := { program := "ytpbpdnjlomhkdaagreat", sum := "1f4f8cb4de500e3cf385ea006e86778518b1bdf9f9e5d40bb1af9c6af70f9b94", func := "removalist/removalistlaw13.OpsNames", spec := "opsNames", inPlace := ["internal/bytealg.IndexByteString", "internal/bytealg.IndexString"], unfollowed := true, recurses := true, named := ["internal/bytealg.MaxLen"], apart := false, narrowed := true }
def OpsNamesUptoSaid : Prop := opsNamesUptoRow.holds Tryz.pinned (OpenSpec.upto opsNamesSpec)

/-- 'removalistlaw13.OpsRenames', WHERE WHAT IT READS IS OF BULK AT MOST 1048576: true; the input reads as it did. -/
def opsRenamesUptoRow : OpenClaim := { program := "ytpbpdnjlomhkdaagreat", sum := "1f4f8cb4de500e3cf385ea006e86778518b1bdf9f9e5d40bb1af9c6af70f9b94", func := "removalist/removalistlaw13.OpsRenames", spec := "opsRenames", inPlace := ["internal/bytealg.IndexByteString", "internal/bytealg.IndexString"], unfollowed := true, recurses := true, named := ["internal/bytealg.MaxLen"], apart := false, narrowed := true }
def OpsRenamesUptoSaid : Prop := opsRenamesUptoRow.holds Tryz.pinned (OpenSpec.upto opsRenamesSpec)

/-- 'removalistlaw13.OpsLoops', WHERE WHAT IT READS IS OF BULK AT MOST 1048576: true; the input reads as it did. -/
def opsLoopsUptoRow : OpenClaim := { program := "ytpbpdnjlomhkdaagreat", sum := "1f4f8cb4de500e3cf385ea006e86778518b1bdf9f9e5d40bb1af9c6af70f9b94", func := "removalist/removalistlaw13.OpsLoops", spec := "opsLoops", inPlace := ["internal/bytealg.IndexByteString", "internal/bytealg.IndexString"], unfollowed := true, recurses := true, named := ["internal/bytealg.MaxLen"], apart := false, narrowed := true }
def OpsLoopsUptoSaid : Prop := opsLoopsUptoRow.holds Tryz.pinned (OpenSpec.upto opsLoopsSpec)

/-- 'removalistlaw13.OpsLinks', WHERE WHAT IT READS IS OF BULK AT MOST 1048576: true; the input reads as it did. -/
def opsLinksUptoRow : OpenClaim := { program := "ytpbpdnjlomhkdaagreat", sum := "1f4f8cb4de500e3cf385ea006e86778518b1bdf9f9e5d40bb1af9c6af70f9b94", func := "removalist/removalistlaw13.OpsLinks", spec := "opsLinks", inPlace := ["internal/bytealg.IndexByteString", "internal/bytealg.IndexString"], unfollowed := true, recurses := true, named := ["internal/bytealg.MaxLen"], apart := false, narrowed := true }
def OpsLinksUptoSaid : Prop := opsLinksUptoRow.holds Tryz.pinned (OpenSpec.upto opsLinksSpec)

/-- 'removalistlaw13.OpsExclusive', WHERE WHAT IT READS IS OF BULK AT MOST 1048576: true; the input reads as it did. -/
def opsExclusiveUptoRow : OpenClaim := { program := "ytpbpdnjlomhkdaagreat", sum := "1f4f8cb4de500e3cf385ea006e86778518b1bdf9f9e5d40bb1af9c6af70f9b94", func := "removalist/removalistlaw13.OpsExclusive", spec := "opsExclusive", inPlace := ["internal/bytealg.IndexByteString", "internal/bytealg.IndexString"], unfollowed := true, recurses := true, named := ["internal/bytealg.MaxLen"], apart := false, narrowed := true }
def OpsExclusiveUptoSaid : Prop := opsExclusiveUptoRow.holds Tryz.pinned (OpenSpec.upto opsExclusiveSpec)

/-- 'removalistlaw13.OpsDirs', WHERE WHAT IT READS IS OF BULK AT MOST 1048576: true; the input reads as it did. -/
def opsDirsUptoRow : OpenClaim := { program := "ytpbpdnjlomhkdaagreat", sum := "1f4f8cb4de500e3cf385ea006e86778518b1bdf9f9e5d40bb1af9c6af70f9b94", func := "removalist/removalistlaw13.OpsDirs", spec := "opsDirs", inPlace := ["internal/bytealg.IndexByteString", "internal/bytealg.IndexString"], unfollowed := true, recurses := true, named := ["internal/bytealg.MaxLen"], apart := false, narrowed := true }
def OpsDirsUptoSaid : Prop := opsDirsUptoRow.holds Tryz.pinned (OpenSpec.upto opsDirsSpec)

/-- 'removalistlaw13.OpsKinds', WHERE WHAT IT READS IS OF BULK AT MOST 1048576: true; the input reads as it did. -/
def opsKindsUptoRow : OpenClaim := { program := "ytpbpdnjlomhkdaagreat", sum := "1f4f8cb4de500e3cf385ea006e86778518b1bdf9f9e5d40bb1af9c6af70f9b94", func := "removalist/removalistlaw13.OpsKinds", spec := "opsKinds", inPlace := ["internal/bytealg.IndexByteString", "internal/bytealg.IndexString"], unfollowed := true, recurses := true, named := ["internal/bytealg.MaxLen"], apart := false, narrowed := true }
def OpsKindsUptoSaid : Prop := opsKindsUptoRow.holds Tryz.pinned (OpenSpec.upto opsKindsSpec)

/-- 'removalistlaw13.OpsRoom', WHERE WHAT IT READS IS OF BULK AT MOST 1048576: true; the input reads as it did. -/
def opsRoomUptoRow : OpenClaim := { program := "ytpbpdnjlomhkdaagreat", sum := "1f4f8cb4de500e3cf385ea006e86778518b1bdf9f9e5d40bb1af9c6af70f9b94", func := "removalist/removalistlaw13.OpsRoom", spec := "opsRoom", inPlace := ["internal/bytealg.IndexByteString", "internal/bytealg.IndexString"], unfollowed := true, recurses := true, named := ["internal/bytealg.MaxLen"], apart := false, narrowed := true }
def OpsRoomUptoSaid : Prop := opsRoomUptoRow.holds Tryz.pinned (OpenSpec.upto opsRoomSpec)

/-- 'removalistlaw13.OpsLists', WHERE WHAT IT READS IS OF BULK AT MOST 1048576: true; the input reads as it did. -/
def opsListsUptoRow : OpenClaim := { program := "ytpbpdnjlomhkdaagreat", sum := "1f4f8cb4de500e3cf385ea006e86778518b1bdf9f9e5d40bb1af9c6af70f9b94", func := "removalist/removalistlaw13.OpsLists", spec := "opsLists", inPlace := ["internal/bytealg.IndexByteString", "internal/bytealg.IndexString"], unfollowed := true, recurses := true, named := ["internal/bytealg.MaxLen"], apart := false, narrowed := true }
def OpsListsUptoSaid : Prop := opsListsUptoRow.holds Tryz.pinned (OpenSpec.upto opsListsSpec)

/-- 'removalistlaw13.OpsReads', WHERE WHAT IT READS IS OF BULK AT MOST 1048576: true; the input reads as it did. -/
def opsReadsUptoRow : OpenClaim := { program := "ytpbpdnjlomhkdaagreat", sum := "1f4f8cb4de500e3cf385ea006e86778518b1bdf9f9e5d40bb1af9c6af70f9b94", func := "removalist/removalistlaw13.OpsReads", spec := "opsReads", inPlace := ["internal/bytealg.IndexByteString", "internal/bytealg.IndexString"], unfollowed := true, recurses := true, named := ["internal/bytealg.MaxLen"], apart := false, narrowed := true }
def OpsReadsUptoSaid : Prop := opsReadsUptoRow.holds Tryz.pinned (OpenSpec.upto opsReadsSpec)

/-- 'removalistlaw13.OpsNumbers', WHERE WHAT IT READS IS OF BULK AT MOST 1048576: true; the input reads as it did. -/
def opsNumbersUptoRow : OpenClaim := { program := "ytpbpdnjlomhkdaagreat", sum := "1f4f8cb4de500e3cf385ea006e86778518b1bdf9f9e5d40bb1af9c6af70f9b94", func := "removalist/removalistlaw13.OpsNumbers", spec := "opsNumbers", inPlace := ["internal/bytealg.IndexByteString", "internal/bytealg.IndexString"], unfollowed := true, recurses := true, named := ["internal/bytealg.MaxLen"], apart := false, narrowed := true }
def OpsNumbersUptoSaid : Prop := opsNumbersUptoRow.holds Tryz.pinned (OpenSpec.upto opsNumbersSpec)

end Rows
end Go.Proofs.YtpbpdnjlomhkdaaGreat
