/-
  No cell of these rows narrows 'for every input' (looked for: loops, veiled, ifaces, maps, wideKeys, modest, calm, conditions, laid).
  DERIVED. THE GIVEN ROWS OF THIS SEAT. 6 by the template 'for every input the law returns true; each argument reads behind the call as it read before'; 0 by the template 'total and deterministic' (their statements: YtkgpgaanodmpiaaTotals.lean).
  GIVEN WITH THE SEED: the statements are not yours to turn. If you find one false, say at which input.
  Laid BY PROGRAM, IN A SANDBOX (cutbox-rows.mjs): the forced cells as the released guide's own fill.sh prints them over the translation b01eed854fe56c96… (all of the seat's roots in one cut). By AI agents, Wed Nov 11 2026. No macro, syntax, notation, axiom, sorry.
-/
import Derived.Test.YtkgpgaanodmpiaaChecked
import GoSem.Claim
import GoSem.ClaimJoined
import GoSem.ClaimMapViews
import Derived.JoinedTies
import Derived.KernelRfl
namespace Go.Proofs.Ytkgpgaanodmpiaa
/- THE CELL 'sum', in the pinned program and in every row, IS THE sha256 OF THE DUMP (.gsa) THAT YtkgpgaanodmpiaaProg.lean LOADS. Nothing in Lean hashes anything: it is a label: what it is worth is what the hold of that sum in a sandbox is worth. -/
noncomputable def Try.pinned : Pinned := { name := "ytkgpgaanodmpiaa", sum := "b01eed854fe56c960a49e63cea3093cc92f788f97a55004fc01672f9096f49eb", checked := Try.checked }
namespace Rows
def none {H : Type} : Left H := { results := [], args := [] }

/-- 'removalistlaw07.InodePuts': WHATEVER THE INPUT: true; the input reads as it did. -/
def inodePutsSpec : ChangeSpec := { name := "inodePuts", fn := fun _ => fun
  | [d1, d2] => { results := [.lit (.bool true)], args := [d1, d2] }
  | _ => none }
def inodePutsRow : OpenClaim := { program := "ytkgpgaanodmpiaa", sum := "b01eed854fe56c960a49e63cea3093cc92f788f97a55004fc01672f9096f49eb", func := "removalist/removalistlaw07.InodePuts", spec := "inodePuts", unfollowed := true, recurses := true, apart := false }
def InodePutsSaid : Prop := inodePutsRow.holds Try.pinned (OpenSpec.ofChange inodePutsSpec)

/-- ITS FALSE NEIGHBOUR: 'it returns false'. Refute it at one input. -/
def inodePutsWrong : ChangeSpec := { name := "inodePuts", fn := fun _ => fun
  | [d1, d2] => { results := [.lit (.bool false)], args := [d1, d2] }
  | _ => none }
def InodePutsWrongFalsely : Prop := inodePutsRow.holds Try.pinned (OpenSpec.ofChange inodePutsWrong)

/-- 'removalistlaw07.InodeGets': WHATEVER THE INPUT: true; the input reads as it did. -/
def inodeGetsSpec : ChangeSpec := { name := "inodeGets", fn := fun _ => fun
  | [d] => { results := [.lit (.bool true)], args := [d] }
  | _ => none }
def inodeGetsRow : OpenClaim := { program := "ytkgpgaanodmpiaa", sum := "b01eed854fe56c960a49e63cea3093cc92f788f97a55004fc01672f9096f49eb", func := "removalist/removalistlaw07.InodeGets", spec := "inodeGets", unfollowed := true, recurses := true, apart := false }
def InodeGetsSaid : Prop := inodeGetsRow.holds Try.pinned (OpenSpec.ofChange inodeGetsSpec)

/-- ITS FALSE NEIGHBOUR: 'it returns false'. Refute it at one input. -/
def inodeGetsWrong : ChangeSpec := { name := "inodeGets", fn := fun _ => fun
  | [d] => { results := [.lit (.bool false)], args := [d] }
  | _ => none }
def InodeGetsWrongFalsely : Prop := inodeGetsRow.holds Try.pinned (OpenSpec.ofChange inodeGetsWrong)

/-- 'removalistlaw07.InodeNeeds': WHATEVER THE INPUT: true; the input reads as it did. -/
def inodeNeedsSpec : ChangeSpec := { name := "inodeNeeds", fn := fun _ => fun
  | [d] => { results := [.lit (.bool true)], args := [d] }
  | _ => none }
def inodeNeedsRow : OpenClaim := { program := "ytkgpgaanodmpiaa", sum := "b01eed854fe56c960a49e63cea3093cc92f788f97a55004fc01672f9096f49eb", func := "removalist/removalistlaw07.InodeNeeds", spec := "inodeNeeds", unfollowed := true, recurses := true, apart := false }
def InodeNeedsSaid : Prop := inodeNeedsRow.holds Try.pinned (OpenSpec.ofChange inodeNeedsSpec)

/-- ITS FALSE NEIGHBOUR: 'it returns false'. Refute it at one input. -/
def inodeNeedsWrong : ChangeSpec := { name := "inodeNeeds", fn := fun _ => fun
  | [d] => { results := [.lit (.bool false)], args := [d] }
  | _ => none }
def InodeNeedsWrongFalsely : Prop := inodeNeedsRow.holds Try.pinned (OpenSpec.ofChange inodeNeedsWrong)

/-- 'removalistlaw07.InodeFree': WHATEVER THE INPUT: true; the input reads as it did. -/
def inodeFreeSpec : ChangeSpec := { name := "inodeFree", fn := fun _ => fun
  | [d] => { results := [.lit (.bool true)], args := [d] }
  | _ => none }
def inodeFreeRow : OpenClaim := { program := "ytkgpgaanodmpiaa", sum := "b01eed854fe56c960a49e63cea3093cc92f788f97a55004fc01672f9096f49eb", func := "removalist/removalistlaw07.InodeFree", spec := "inodeFree", unfollowed := true, recurses := true, apart := false }
def InodeFreeSaid : Prop := inodeFreeRow.holds Try.pinned (OpenSpec.ofChange inodeFreeSpec)

/-- ITS FALSE NEIGHBOUR: 'it returns false'. Refute it at one input. -/
def inodeFreeWrong : ChangeSpec := { name := "inodeFree", fn := fun _ => fun
  | [d] => { results := [.lit (.bool false)], args := [d] }
  | _ => none }
def InodeFreeWrongFalsely : Prop := inodeFreeRow.holds Try.pinned (OpenSpec.ofChange inodeFreeWrong)

/-- 'removalistlaw07.InodeBlocks': WHATEVER THE INPUT: true; the input reads as it did. -/
def inodeBlocksSpec : ChangeSpec := { name := "inodeBlocks", fn := fun _ => fun
  | [d1, d2] => { results := [.lit (.bool true)], args := [d1, d2] }
  | _ => none }
def inodeBlocksRow : OpenClaim := { program := "ytkgpgaanodmpiaa", sum := "b01eed854fe56c960a49e63cea3093cc92f788f97a55004fc01672f9096f49eb", func := "removalist/removalistlaw07.InodeBlocks", spec := "inodeBlocks", unfollowed := true, recurses := true, apart := false }
def InodeBlocksSaid : Prop := inodeBlocksRow.holds Try.pinned (OpenSpec.ofChange inodeBlocksSpec)

/-- ITS FALSE NEIGHBOUR: 'it returns false'. Refute it at one input. -/
def inodeBlocksWrong : ChangeSpec := { name := "inodeBlocks", fn := fun _ => fun
  | [d1, d2] => { results := [.lit (.bool false)], args := [d1, d2] }
  | _ => none }
def InodeBlocksWrongFalsely : Prop := inodeBlocksRow.holds Try.pinned (OpenSpec.ofChange inodeBlocksWrong)

/-- 'removalistlaw07.InodeUnlike': WHATEVER THE INPUT: true; the input reads as it did. -/
def inodeUnlikeSpec : ChangeSpec := { name := "inodeUnlike", fn := fun _ => fun
  | [d1, d2, d3] => { results := [.lit (.bool true)], args := [d1, d2, d3] }
  | _ => none }
def inodeUnlikeRow : OpenClaim := { program := "ytkgpgaanodmpiaa", sum := "b01eed854fe56c960a49e63cea3093cc92f788f97a55004fc01672f9096f49eb", func := "removalist/removalistlaw07.InodeUnlike", spec := "inodeUnlike", unfollowed := true, recurses := true, apart := false }
def InodeUnlikeSaid : Prop := inodeUnlikeRow.holds Try.pinned (OpenSpec.ofChange inodeUnlikeSpec)

/-- ITS FALSE NEIGHBOUR: 'it returns false'. Refute it at one input. -/
def inodeUnlikeWrong : ChangeSpec := { name := "inodeUnlike", fn := fun _ => fun
  | [d1, d2, d3] => { results := [.lit (.bool false)], args := [d1, d2, d3] }
  | _ => none }
def InodeUnlikeWrongFalsely : Prop := inodeUnlikeRow.holds Try.pinned (OpenSpec.ofChange inodeUnlikeWrong)

/- THE SECOND FORM. 'bulk': how many values and letters a reading holds, each counted each time it is reached (what is shared counts as often as it is met; a slice's spare places count too). A statement '..UptoSaid' is the law's where the arguments, and the package variables that the reading takes, are together of bulk at most 1048576: NARROWER than '..Said'. Prove '..Said' where nothing that the law and all that it calls make is longer than what came in: it says more and counts as full. Else prove '..UptoSaid'. A law counts once. -/
mutual
def uptoBulk {H : Type} : DataW H → Nat
  | .lit (.string bytes) => bytes.length + 1
  | .lit _ => 1
  | .nil => 1
  | .ptr d => uptoBulk d + 1
  | .slice elems spare => uptoBulkAll elems + uptoBulkAll spare + 1
  | .agg parts => uptoBulkAll parts + 1
  | .iface _ d => uptoBulk d + 1
  | .map entries => uptoBulkEntries entries + 1
  | .held _ => 1
def uptoBulkAll {H : Type} : List (DataW H) → Nat
  | [] => 0
  | d :: r => uptoBulk d + uptoBulkAll r
def uptoBulkEntries {H : Type} : List (Lit × DataW H) → Nat
  | [] => 0
  | x :: r => uptoBulkEntry x + uptoBulkEntries r
def uptoBulkEntry {H : Type} : Lit × DataW H → Nat
  | (.string bytes, d) => bytes.length + uptoBulk d + 1
  | (_, d) => uptoBulk d + 1
 end
def uptoSmall : (H : Type) → List (DataW H) → Bool := fun _ ds => decide (uptoBulkAll ds ≤ 1048576)
def OpenSpec.upto (s : _root_.Go.ChangeSpec) : _root_.Go.OpenSpec := { _root_.Go.OpenSpec.ofChange s with cond := some uptoSmall }

/-- 'removalistlaw07.InodePuts', WHERE WHAT IT READS IS OF BULK AT MOST 1048576: true; the input reads as it did. -/
def inodePutsUptoRow : OpenClaim := { program := "ytkgpgaanodmpiaa", sum := "b01eed854fe56c960a49e63cea3093cc92f788f97a55004fc01672f9096f49eb", func := "removalist/removalistlaw07.InodePuts", spec := "inodePuts", unfollowed := true, recurses := true, apart := false, narrowed := true }
def InodePutsUptoSaid : Prop := inodePutsUptoRow.holds Try.pinned (OpenSpec.upto inodePutsSpec)

/-- 'removalistlaw07.InodeGets', WHERE WHAT IT READS IS OF BULK AT MOST 1048576: true; the input reads as it did. -/
def inodeGetsUptoRow : OpenClaim := { program := "ytkgpgaanodmpiaa", sum := "b01eed854fe56c960a49e63cea3093cc92f788f97a55004fc01672f9096f49eb", func := "removalist/removalistlaw07.InodeGets", spec := "inodeGets", unfollowed := true, recurses := true, apart := false, narrowed := true }
def InodeGetsUptoSaid : Prop := inodeGetsUptoRow.holds Try.pinned (OpenSpec.upto inodeGetsSpec)

/-- 'removalistlaw07.InodeNeeds', WHERE WHAT IT READS IS OF BULK AT MOST 1048576: true; the input reads as it did. -/
def inodeNeedsUptoRow : OpenClaim := { program := "ytkgpgaanodmpiaa", sum := "b01eed854fe56c960a49e63cea3093cc92f788f97a55004fc01672f9096f49eb", func := "removalist/removalistlaw07.InodeNeeds", spec := "inodeNeeds", unfollowed := true, recurses := true, apart := false, narrowed := true }
def InodeNeedsUptoSaid : Prop := inodeNeedsUptoRow.holds Try.pinned (OpenSpec.upto inodeNeedsSpec)

/-- 'removalistlaw07.InodeFree', WHERE WHAT IT READS IS OF BULK AT MOST 1048576: true; the input reads as it did. -/
def inodeFreeUptoRow : OpenClaim := { program := "ytkgpgaanodmpiaa", sum := "b01eed854fe56c960a49e63cea3093cc92f788f97a55004fc01672f9096f49eb", func := "removalist/removalistlaw07.InodeFree", spec := "inodeFree", unfollowed := true, recurses := true, apart := false, narrowed := true }
def InodeFreeUptoSaid : Prop := inodeFreeUptoRow.holds Try.pinned (OpenSpec.upto inodeFreeSpec)

/-- 'removalistlaw07.InodeBlocks', WHERE WHAT IT READS IS OF BULK AT MOST 1048576: true; the input reads as it did. -/
def inodeBlocksUptoRow : OpenClaim := { program := "ytkgpgaanodmpiaa", sum := "b01eed854fe56c960a49e63cea3093cc92f788f97a55004fc01672f9096f49eb", func := "removalist/removalistlaw07.InodeBlocks", spec := "inodeBlocks", unfollowed := true, recurses := true, apart := false, narrowed := true }
def InodeBlocksUptoSaid : Prop := inodeBlocksUptoRow.holds Try.pinned (OpenSpec.upto inodeBlocksSpec)

/-- 'removalistlaw07.InodeUnlike', WHERE WHAT IT READS IS OF BULK AT MOST 1048576: true; the input reads as it did. -/
def inodeUnlikeUptoRow : OpenClaim := { program := "ytkgpgaanodmpiaa", sum := "b01eed854fe56c960a49e63cea3093cc92f788f97a55004fc01672f9096f49eb", func := "removalist/removalistlaw07.InodeUnlike", spec := "inodeUnlike", unfollowed := true, recurses := true, apart := false, narrowed := true }
def InodeUnlikeUptoSaid : Prop := inodeUnlikeUptoRow.holds Try.pinned (OpenSpec.upto inodeUnlikeSpec)

end Rows
end Go.Proofs.Ytkgpgaanodmpiaa
