/-
  No cell of these rows narrows 'for every input' (looked for: loops, veiled, ifaces, maps, wideKeys, modest, calm, conditions, laid).
  DERIVED. THE GIVEN ROWS OF THIS SEAT. 6 by the template 'for every input the law returns true; each argument reads behind the call as it read before'; 0 by the template 'total and deterministic' (their statements: YtbeahhijmgkfhaaTotals.lean).
  GIVEN WITH THE SEED: the statements are not yours to turn. If you find one false, say at which input.
  Laid BY PROGRAM, IN A SANDBOX (cutbox-rows.mjs): the forced cells as the released guide's own fill.sh prints them over the translation 933ffaab33106c18… (all of the seat's roots in one cut). By AI agents, Wed Nov 11 2026. No macro, syntax, notation, axiom, sorry.
-/
import Derived.Test.YtbeahhijmgkfhaaChecked
import GoSem.Claim
import GoSem.ClaimJoined
import GoSem.ClaimMapViews
import Derived.JoinedTies
import Derived.KernelRfl
namespace Go.Proofs.Ytbeahhijmgkfhaa
/- THE CELL 'sum', in the pinned program and in every row, IS THE sha256 OF THE DUMP (.gsa) THAT YtbeahhijmgkfhaaProg.lean LOADS. Nothing in Lean hashes anything: it is a label: what it is worth is what the hold of that sum in a sandbox is worth. -/
noncomputable def Try.pinned : Pinned := { name := "ytbeahhijmgkfhaa", sum := "933ffaab33106c1868d690bd5d0871ab990ae2f49eb0eca8c37f3c1f4f972b70", checked := Try.checked }
namespace Rows
def none {H : Type} : Left H := { results := [], args := [] }

/-- 'removalistlaw11.SlotPuts': WHATEVER THE INPUT: true; the input reads as it did. -/
def slotPutsSpec : ChangeSpec := { name := "slotPuts", fn := fun _ => fun
  | [d1, d2] => { results := [.lit (.bool true)], args := [d1, d2] }
  | _ => none }
def slotPutsRow : OpenClaim := { program := "ytbeahhijmgkfhaa", sum := "933ffaab33106c1868d690bd5d0871ab990ae2f49eb0eca8c37f3c1f4f972b70", func := "removalist/removalistlaw11.SlotPuts", spec := "slotPuts", inPlace := ["internal/bytealg.IndexByteString", "internal/bytealg.IndexString"], unfollowed := true, recurses := true, named := ["internal/bytealg.MaxLen"], apart := false }
def SlotPutsSaid : Prop := slotPutsRow.holds Try.pinned (OpenSpec.ofChange slotPutsSpec)

/-- ITS FALSE NEIGHBOUR: 'it returns false'. Refute it at one input. -/
def slotPutsWrong : ChangeSpec := { name := "slotPuts", fn := fun _ => fun
  | [d1, d2] => { results := [.lit (.bool false)], args := [d1, d2] }
  | _ => none }
def SlotPutsWrongFalsely : Prop := slotPutsRow.holds Try.pinned (OpenSpec.ofChange slotPutsWrong)

/-- 'removalistlaw11.SlotGets': WHATEVER THE INPUT: true; the input reads as it did. -/
def slotGetsSpec : ChangeSpec := { name := "slotGets", fn := fun _ => fun
  | [d] => { results := [.lit (.bool true)], args := [d] }
  | _ => none }
def slotGetsRow : OpenClaim := { program := "ytbeahhijmgkfhaa", sum := "933ffaab33106c1868d690bd5d0871ab990ae2f49eb0eca8c37f3c1f4f972b70", func := "removalist/removalistlaw11.SlotGets", spec := "slotGets", inPlace := ["internal/bytealg.IndexByteString", "internal/bytealg.IndexString"], unfollowed := true, recurses := true, named := ["internal/bytealg.MaxLen"], apart := false }
def SlotGetsSaid : Prop := slotGetsRow.holds Try.pinned (OpenSpec.ofChange slotGetsSpec)

/-- ITS FALSE NEIGHBOUR: 'it returns false'. Refute it at one input. -/
def slotGetsWrong : ChangeSpec := { name := "slotGets", fn := fun _ => fun
  | [d] => { results := [.lit (.bool false)], args := [d] }
  | _ => none }
def SlotGetsWrongFalsely : Prop := slotGetsRow.holds Try.pinned (OpenSpec.ofChange slotGetsWrong)

/-- 'removalistlaw11.SlotCut': WHATEVER THE INPUT: true; the input reads as it did. -/
def slotCutSpec : ChangeSpec := { name := "slotCut", fn := fun _ => fun
  | [d1, d2, d3] => { results := [.lit (.bool true)], args := [d1, d2, d3] }
  | _ => none }
def slotCutRow : OpenClaim := { program := "ytbeahhijmgkfhaa", sum := "933ffaab33106c1868d690bd5d0871ab990ae2f49eb0eca8c37f3c1f4f972b70", func := "removalist/removalistlaw11.SlotCut", spec := "slotCut", inPlace := ["internal/bytealg.IndexByteString", "internal/bytealg.IndexString"], unfollowed := true, recurses := true, named := ["internal/bytealg.MaxLen"], apart := false }
def SlotCutSaid : Prop := slotCutRow.holds Try.pinned (OpenSpec.ofChange slotCutSpec)

/-- ITS FALSE NEIGHBOUR: 'it returns false'. Refute it at one input. -/
def slotCutWrong : ChangeSpec := { name := "slotCut", fn := fun _ => fun
  | [d1, d2, d3] => { results := [.lit (.bool false)], args := [d1, d2, d3] }
  | _ => none }
def SlotCutWrongFalsely : Prop := slotCutRow.holds Try.pinned (OpenSpec.ofChange slotCutWrong)

/-- 'removalistlaw11.SlotDirs': WHATEVER THE INPUT: true; the input reads as it did. -/
def slotDirsSpec : ChangeSpec := { name := "slotDirs", fn := fun _ => fun
  | [d1, d2, d3] => { results := [.lit (.bool true)], args := [d1, d2, d3] }
  | _ => none }
def slotDirsRow : OpenClaim := { program := "ytbeahhijmgkfhaa", sum := "933ffaab33106c1868d690bd5d0871ab990ae2f49eb0eca8c37f3c1f4f972b70", func := "removalist/removalistlaw11.SlotDirs", spec := "slotDirs", inPlace := ["internal/bytealg.IndexByteString", "internal/bytealg.IndexString"], unfollowed := true, recurses := true, named := ["internal/bytealg.MaxLen"], apart := false }
def SlotDirsSaid : Prop := slotDirsRow.holds Try.pinned (OpenSpec.ofChange slotDirsSpec)

/-- ITS FALSE NEIGHBOUR: 'it returns false'. Refute it at one input. -/
def slotDirsWrong : ChangeSpec := { name := "slotDirs", fn := fun _ => fun
  | [d1, d2, d3] => { results := [.lit (.bool false)], args := [d1, d2, d3] }
  | _ => none }
def SlotDirsWrongFalsely : Prop := slotDirsRow.holds Try.pinned (OpenSpec.ofChange slotDirsWrong)

/-- 'removalistlaw11.SlotFree': WHATEVER THE INPUT: true; the input reads as it did. -/
def slotFreeSpec : ChangeSpec := { name := "slotFree", fn := fun _ => fun
  | [d] => { results := [.lit (.bool true)], args := [d] }
  | _ => none }
def slotFreeRow : OpenClaim := { program := "ytbeahhijmgkfhaa", sum := "933ffaab33106c1868d690bd5d0871ab990ae2f49eb0eca8c37f3c1f4f972b70", func := "removalist/removalistlaw11.SlotFree", spec := "slotFree", inPlace := ["internal/bytealg.IndexByteString", "internal/bytealg.IndexString"], unfollowed := true, recurses := true, named := ["internal/bytealg.MaxLen"], apart := false }
def SlotFreeSaid : Prop := slotFreeRow.holds Try.pinned (OpenSpec.ofChange slotFreeSpec)

/-- ITS FALSE NEIGHBOUR: 'it returns false'. Refute it at one input. -/
def slotFreeWrong : ChangeSpec := { name := "slotFree", fn := fun _ => fun
  | [d] => { results := [.lit (.bool false)], args := [d] }
  | _ => none }
def SlotFreeWrongFalsely : Prop := slotFreeRow.holds Try.pinned (OpenSpec.ofChange slotFreeWrong)

/-- 'removalistlaw11.SlotUnlike': WHATEVER THE INPUT: true; the input reads as it did. -/
def slotUnlikeSpec : ChangeSpec := { name := "slotUnlike", fn := fun _ => fun
  | [d1, d2, d3] => { results := [.lit (.bool true)], args := [d1, d2, d3] }
  | _ => none }
def slotUnlikeRow : OpenClaim := { program := "ytbeahhijmgkfhaa", sum := "933ffaab33106c1868d690bd5d0871ab990ae2f49eb0eca8c37f3c1f4f972b70", func := "removalist/removalistlaw11.SlotUnlike", spec := "slotUnlike", inPlace := ["internal/bytealg.IndexByteString", "internal/bytealg.IndexString"], unfollowed := true, recurses := true, named := ["internal/bytealg.MaxLen"], apart := false }
def SlotUnlikeSaid : Prop := slotUnlikeRow.holds Try.pinned (OpenSpec.ofChange slotUnlikeSpec)

/-- ITS FALSE NEIGHBOUR: 'it returns false'. Refute it at one input. -/
def slotUnlikeWrong : ChangeSpec := { name := "slotUnlike", fn := fun _ => fun
  | [d1, d2, d3] => { results := [.lit (.bool false)], args := [d1, d2, d3] }
  | _ => none }
def SlotUnlikeWrongFalsely : Prop := slotUnlikeRow.holds Try.pinned (OpenSpec.ofChange slotUnlikeWrong)

/- THE SECOND FORM. 'bulk': how many values and letters a reading holds, each counted each time it is reached (what is shared counts as often as it is met; a slice's spare places count too). A statement '..UptoSaid' is the law's where the arguments, and the package variables that the reading takes, are together of bulk at most 1048576: NARROWER than '..Said'. Prove '..Said' where nothing that the law and all that it calls make is longer than what came in: it says more and counts as full. Else prove '..UptoSaid'. A law counts once. -/
mutual
def uptoBulk {H : Type} : DataW H → Nat
  | .lit (.string bytes) => bytes.length + 1
  | .lit _ => 1
  | .nil => 1
  | .ptr d => uptoBulk d + 1
  | .slice elems spare => uptoBulkAll elems + uptoBulkAll spare + 1
  | .agg parts => uptoBulkAll parts + 1
  | .iface _ d => uptoBulk d + 1
  | .map entries => uptoBulkEntries entries + 1
  | .held _ => 1
def uptoBulkAll {H : Type} : List (DataW H) → Nat
  | [] => 0
  | d :: r => uptoBulk d + uptoBulkAll r
def uptoBulkEntries {H : Type} : List (Lit × DataW H) → Nat
  | [] => 0
  | x :: r => uptoBulkEntry x + uptoBulkEntries r
def uptoBulkEntry {H : Type} : Lit × DataW H → Nat
  | (.string bytes, d) => bytes.length + uptoBulk d + 1
  | (_, d) => uptoBulk d + 1
 end
def uptoSmall : (H : Type) → List (DataW H) → Bool := fun _ ds => decide (uptoBulkAll ds ≤ 1048576)
def OpenSpec.upto (s : _root_.Go.ChangeSpec) : _root_.Go.OpenSpec := { _root_.Go.OpenSpec.ofChange s with cond := some uptoSmall }

/-- 'removalistlaw11.SlotPuts', WHERE WHAT IT READS IS OF BULK AT MOST 1048576: true; the input reads as it did. -/
def slotPutsUptoRow : OpenClaim := { program := "ytbeahhijmgkfhaa", sum := "933ffaab33106c1868d690bd5d0871ab990ae2f49eb0eca8c37f3c1f4f972b70", func := "removalist/removalistlaw11.SlotPuts", spec := "slotPuts", inPlace := ["internal/bytealg.IndexByteString", "internal/bytealg.IndexString"], unfollowed := true, recurses := true, named := ["internal/bytealg.MaxLen"], apart := false, narrowed := true }
def SlotPutsUptoSaid : Prop := slotPutsUptoRow.holds Try.pinned (OpenSpec.upto slotPutsSpec)

/-- 'removalistlaw11.SlotGets', WHERE WHAT IT READS IS OF BULK AT MOST 1048576: true; the input reads as it did. -/
def slotGetsUptoRow : OpenClaim := { program := "ytbeahhijmgkfhaa", sum := "933ffaab33106c1868d690bd5d0871ab990ae2f49eb0eca8c37f3c1f4f972b70", func := "removalist/removalistlaw11.SlotGets", spec := "slotGets", inPlace := ["internal/bytealg.IndexByteString", "internal/bytealg.IndexString"], unfollowed := true, recurses := true, named := ["internal/bytealg.MaxLen"], apart := false, narrowed := true }
def SlotGetsUptoSaid : Prop := slotGetsUptoRow.holds Try.pinned (OpenSpec.upto slotGetsSpec)

/-- 'removalistlaw11.SlotCut', WHERE WHAT IT READS IS OF BULK AT MOST 1048576: true; the input reads as it did. -/
def slotCutUptoRow : OpenClaim := { program := "ytbeahhijmgkfhaa", sum := "933ffaab33106c1868d690bd5d0871ab990ae2f49eb0eca8c37f3c1f4f972b70", func := "removalist/removalistlaw11.SlotCut", spec := "slotCut", inPlace := ["internal/bytealg.IndexByteString", "internal/bytealg.IndexString"], unfollowed := true, recurses := true, named := ["internal/bytealg.MaxLen"], apart := false, narrowed := true }
def SlotCutUptoSaid : Prop := slotCutUptoRow.holds Try.pinned (OpenSpec.upto slotCutSpec)

/-- 'removalistlaw11.SlotDirs', WHERE WHAT IT READS IS OF BULK AT MOST 1048576: true; the input reads as it did. -/
def slotDirsUptoRow : OpenClaim := { program := "ytbeahhijmgkfhaa", sum := "933ffaab33106c1868d690bd5d0871ab990ae2f49eb0eca8c37f3c1f4f972b70", func := "removalist/removalistlaw11.SlotDirs", spec := "slotDirs", inPlace := ["internal/bytealg.IndexByteString", "internal/bytealg.IndexString"], unfollowed := true, recurses := true, named := ["internal/bytealg.MaxLen"], apart := false, narrowed := true }
def SlotDirsUptoSaid : Prop := slotDirsUptoRow.holds Try.pinned (OpenSpec.upto slotDirsSpec)

/-- 'removalistlaw11.SlotFree', WHERE WHAT IT READS IS OF BULK AT MOST 1048576: true; the input reads as it did. -/
def slotFreeUptoRow : OpenClaim := { program := "ytbeahhijmgkfhaa", sum := "933ffaab33106c1868d690bd5d0871ab990ae2f49eb0eca8c37f3c1f4f972b70", func := "removalist/removalistlaw11.SlotFree", spec := "slotFree", inPlace := ["internal/bytealg.IndexByteString", "internal/bytealg.IndexString"], unfollowed := true, recurses := true, named := ["internal/bytealg.MaxLen"], apart := false, narrowed := true }
def SlotFreeUptoSaid : Prop := slotFreeUptoRow.holds Try.pinned (OpenSpec.upto slotFreeSpec)

/-- 'removalistlaw11.SlotUnlike', WHERE WHAT IT READS IS OF BULK AT MOST 1048576: true; the input reads as it did. -/
def slotUnlikeUptoRow : OpenClaim := { program := "ytbeahhijmgkfhaa", sum := "933ffaab33106c1868d690bd5d0871ab990ae2f49eb0eca8c37f3c1f4f972b70", func := "removalist/removalistlaw11.SlotUnlike", spec := "slotUnlike", inPlace := ["internal/bytealg.IndexByteString", "internal/bytealg.IndexString"], unfollowed := true, recurses := true, named := ["internal/bytealg.MaxLen"], apart := false, narrowed := true }
def SlotUnlikeUptoSaid : Prop := slotUnlikeUptoRow.holds Try.pinned (OpenSpec.upto slotUnlikeSpec)

end Rows
end Go.Proofs.Ytbeahhijmgkfhaa
