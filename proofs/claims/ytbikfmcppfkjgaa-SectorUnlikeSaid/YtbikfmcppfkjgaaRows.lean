/-
  No cell of these rows narrows 'for every input' (looked for: loops, veiled, ifaces, maps, wideKeys, modest, calm, conditions, laid).
  DERIVED. THE GIVEN ROWS OF THIS SEAT. 5 by the template 'for every input the law returns true; each argument reads behind the call as it read before'; 0 by the template 'total and deterministic' (their statements: YtbikfmcppfkjgaaTotals.lean).
  GIVEN WITH THE SEED: the statements are not yours to turn. If you find one false, say at which input.
  Laid BY PROGRAM, IN A SANDBOX (cutbox-rows.mjs): the forced cells as the released guide's own fill.sh prints them over the translation 3f8e99b27d6ecba5… (all of the seat's roots in one cut). By AI agents, Wed Nov 11 2026. No macro, syntax, notation, axiom, sorry.
-/
import Derived.Test.YtbikfmcppfkjgaaChecked
import GoSem.Claim
import GoSem.ClaimJoined
import GoSem.ClaimMapViews
import Derived.JoinedTies
import Derived.KernelRfl
namespace Go.Proofs.Ytbikfmcppfkjgaa
/- THE CELL 'sum', in the pinned program and in every row, IS THE sha256 OF THE DUMP (.gsa) THAT YtbikfmcppfkjgaaProg.lean LOADS. Nothing in Lean hashes anything: it is a label: what it is worth is what the hold of that sum in a sandbox is worth. -/
noncomputable def Try.pinned : Pinned := { name := "ytbikfmcppfkjgaa", sum := "3f8e99b27d6ecba59f3f0827828e2b99de2229ae201f759418a9a8447273e247", checked := Try.checked }
namespace Rows
def none {H : Type} : Left H := { results := [], args := [] }

/-- 'removalistlaw04.SectorPuts': WHATEVER THE INPUT: true; the input reads as it did. -/
def sectorPutsSpec : ChangeSpec := { name := "sectorPuts", fn := fun _ => fun
  | [d] => { results := [.lit (.bool true)], args := [d] }
  | _ => none }
def sectorPutsRow : OpenClaim := { program := "ytbikfmcppfkjgaa", sum := "3f8e99b27d6ecba59f3f0827828e2b99de2229ae201f759418a9a8447273e247", func := "removalist/removalistlaw04.SectorPuts", spec := "sectorPuts", apart := false }
def SectorPutsSaid : Prop := sectorPutsRow.holds Try.pinned (OpenSpec.ofChange sectorPutsSpec)

/-- ITS FALSE NEIGHBOUR: 'it returns false'. Refute it at one input. -/
def sectorPutsWrong : ChangeSpec := { name := "sectorPuts", fn := fun _ => fun
  | [d] => { results := [.lit (.bool false)], args := [d] }
  | _ => none }
def SectorPutsWrongFalsely : Prop := sectorPutsRow.holds Try.pinned (OpenSpec.ofChange sectorPutsWrong)

/-- 'removalistlaw04.SectorGets': WHATEVER THE INPUT: true; the input reads as it did. -/
def sectorGetsSpec : ChangeSpec := { name := "sectorGets", fn := fun _ => fun
  | [d1, d2] => { results := [.lit (.bool true)], args := [d1, d2] }
  | _ => none }
def sectorGetsRow : OpenClaim := { program := "ytbikfmcppfkjgaa", sum := "3f8e99b27d6ecba59f3f0827828e2b99de2229ae201f759418a9a8447273e247", func := "removalist/removalistlaw04.SectorGets", spec := "sectorGets", apart := false }
def SectorGetsSaid : Prop := sectorGetsRow.holds Try.pinned (OpenSpec.ofChange sectorGetsSpec)

/-- ITS FALSE NEIGHBOUR: 'it returns false'. Refute it at one input. -/
def sectorGetsWrong : ChangeSpec := { name := "sectorGets", fn := fun _ => fun
  | [d1, d2] => { results := [.lit (.bool false)], args := [d1, d2] }
  | _ => none }
def SectorGetsWrongFalsely : Prop := sectorGetsRow.holds Try.pinned (OpenSpec.ofChange sectorGetsWrong)

/-- 'removalistlaw04.SectorSpoils': WHATEVER THE INPUT: true; the input reads as it did. -/
def sectorSpoilsSpec : ChangeSpec := { name := "sectorSpoils", fn := fun _ => fun
  | [d1, d2, d3] => { results := [.lit (.bool true)], args := [d1, d2, d3] }
  | _ => none }
def sectorSpoilsRow : OpenClaim := { program := "ytbikfmcppfkjgaa", sum := "3f8e99b27d6ecba59f3f0827828e2b99de2229ae201f759418a9a8447273e247", func := "removalist/removalistlaw04.SectorSpoils", spec := "sectorSpoils", apart := false }
def SectorSpoilsSaid : Prop := sectorSpoilsRow.holds Try.pinned (OpenSpec.ofChange sectorSpoilsSpec)

/-- ITS FALSE NEIGHBOUR: 'it returns false'. Refute it at one input. -/
def sectorSpoilsWrong : ChangeSpec := { name := "sectorSpoils", fn := fun _ => fun
  | [d1, d2, d3] => { results := [.lit (.bool false)], args := [d1, d2, d3] }
  | _ => none }
def SectorSpoilsWrongFalsely : Prop := sectorSpoilsRow.holds Try.pinned (OpenSpec.ofChange sectorSpoilsWrong)

/-- 'removalistlaw04.SectorKinds': WHATEVER THE INPUT: true; the input reads as it did. -/
def sectorKindsSpec : ChangeSpec := { name := "sectorKinds", fn := fun _ => fun
  | [d1, d2, d3] => { results := [.lit (.bool true)], args := [d1, d2, d3] }
  | _ => none }
def sectorKindsRow : OpenClaim := { program := "ytbikfmcppfkjgaa", sum := "3f8e99b27d6ecba59f3f0827828e2b99de2229ae201f759418a9a8447273e247", func := "removalist/removalistlaw04.SectorKinds", spec := "sectorKinds", apart := false }
def SectorKindsSaid : Prop := sectorKindsRow.holds Try.pinned (OpenSpec.ofChange sectorKindsSpec)

/-- ITS FALSE NEIGHBOUR: 'it returns false'. Refute it at one input. -/
def sectorKindsWrong : ChangeSpec := { name := "sectorKinds", fn := fun _ => fun
  | [d1, d2, d3] => { results := [.lit (.bool false)], args := [d1, d2, d3] }
  | _ => none }
def SectorKindsWrongFalsely : Prop := sectorKindsRow.holds Try.pinned (OpenSpec.ofChange sectorKindsWrong)

/-- 'removalistlaw04.SectorUnlike': WHATEVER THE INPUT: true; the input reads as it did. -/
def sectorUnlikeSpec : ChangeSpec := { name := "sectorUnlike", fn := fun _ => fun
  | [d1, d2, d3] => { results := [.lit (.bool true)], args := [d1, d2, d3] }
  | _ => none }
def sectorUnlikeRow : OpenClaim := { program := "ytbikfmcppfkjgaa", sum := "3f8e99b27d6ecba59f3f0827828e2b99de2229ae201f759418a9a8447273e247", func := "removalist/removalistlaw04.SectorUnlike", spec := "sectorUnlike", apart := false }
def SectorUnlikeSaid : Prop := sectorUnlikeRow.holds Try.pinned (OpenSpec.ofChange sectorUnlikeSpec)

/-- ITS FALSE NEIGHBOUR: 'it returns false'. Refute it at one input. -/
def sectorUnlikeWrong : ChangeSpec := { name := "sectorUnlike", fn := fun _ => fun
  | [d1, d2, d3] => { results := [.lit (.bool false)], args := [d1, d2, d3] }
  | _ => none }
def SectorUnlikeWrongFalsely : Prop := sectorUnlikeRow.holds Try.pinned (OpenSpec.ofChange sectorUnlikeWrong)

/- THE SECOND FORM. 'bulk': how many values and letters a reading holds, each counted each time it is reached (what is shared counts as often as it is met; a slice's spare places count too). A statement '..UptoSaid' is the law's where the arguments, and the package variables that the reading takes, are together of bulk at most 1048576: NARROWER than '..Said'. Prove '..Said' where nothing that the law and all that it calls make is longer than what came in: it says more and counts as full. Else prove '..UptoSaid'. A law counts once. -/
mutual
def uptoBulk {H : Type} : DataW H → Nat
  | .lit (.string bytes) => bytes.length + 1
  | .lit _ => 1
  | .nil => 1
  | .ptr d => uptoBulk d + 1
  | .slice elems spare => uptoBulkAll elems + uptoBulkAll spare + 1
  | .agg parts => uptoBulkAll parts + 1
  | .iface _ d => uptoBulk d + 1
  | .map entries => uptoBulkEntries entries + 1
  | .held _ => 1
def uptoBulkAll {H : Type} : List (DataW H) → Nat
  | [] => 0
  | d :: r => uptoBulk d + uptoBulkAll r
def uptoBulkEntries {H : Type} : List (Lit × DataW H) → Nat
  | [] => 0
  | x :: r => uptoBulkEntry x + uptoBulkEntries r
def uptoBulkEntry {H : Type} : Lit × DataW H → Nat
  | (.string bytes, d) => bytes.length + uptoBulk d + 1
  | (_, d) => uptoBulk d + 1
 end
def uptoSmall : (H : Type) → List (DataW H) → Bool := fun _ ds => decide (uptoBulkAll ds ≤ 1048576)
def OpenSpec.upto (s : _root_.Go.ChangeSpec) : _root_.Go.OpenSpec := { _root_.Go.OpenSpec.ofChange s with cond := some uptoSmall }

/-- 'removalistlaw04.SectorPuts', WHERE WHAT IT READS IS OF BULK AT MOST 1048576: true; the input reads as it did. -/
def sectorPutsUptoRow : OpenClaim := { program := "ytbikfmcppfkjgaa", sum := "3f8e99b27d6ecba59f3f0827828e2b99de2229ae201f759418a9a8447273e247", func := "removalist/removalistlaw04.SectorPuts", spec := "sectorPuts", apart := false, narrowed := true }
def SectorPutsUptoSaid : Prop := sectorPutsUptoRow.holds Try.pinned (OpenSpec.upto sectorPutsSpec)

/-- 'removalistlaw04.SectorGets', WHERE WHAT IT READS IS OF BULK AT MOST 1048576: true; the input reads as it did. -/
def sectorGetsUptoRow : OpenClaim := { program := "ytbikfmcppfkjgaa", sum := "3f8e99b27d6ecba59f3f0827828e2b99de2229ae201f759418a9a8447273e247", func := "removalist/removalistlaw04.SectorGets", spec := "sectorGets", apart := false, narrowed := true }
def SectorGetsUptoSaid : Prop := sectorGetsUptoRow.holds Try.pinned (OpenSpec.upto sectorGetsSpec)

/-- 'removalistlaw04.SectorSpoils', WHERE WHAT IT READS IS OF BULK AT MOST 1048576: true; the input reads as it did. -/
def sectorSpoilsUptoRow : OpenClaim := { program := "ytbikfmcppfkjgaa", sum := "3f8e99b27d6ecba59f3f0827828e2b99de2229ae201f759418a9a8447273e247", func := "removalist/removalistlaw04.SectorSpoils", spec := "sectorSpoils", apart := false, narrowed := true }
def SectorSpoilsUptoSaid : Prop := sectorSpoilsUptoRow.holds Try.pinned (OpenSpec.upto sectorSpoilsSpec)

/-- 'removalistlaw04.SectorKinds', WHERE WHAT IT READS IS OF BULK AT MOST 1048576: true; the input reads as it did. -/
def sectorKindsUptoRow : OpenClaim := { program := "ytbikfmcppfkjgaa", sum := "3f8e99b27d6ecba59f3f0827828e2b99de2229ae201f759418a9a8447273e247", func := "removalist/removalistlaw04.SectorKinds", spec := "sectorKinds", apart := false, narrowed := true }
def SectorKindsUptoSaid : Prop := sectorKindsUptoRow.holds Try.pinned (OpenSpec.upto sectorKindsSpec)

/-- 'removalistlaw04.SectorUnlike', WHERE WHAT IT READS IS OF BULK AT MOST 1048576: true; the input reads as it did. -/
def sectorUnlikeUptoRow : OpenClaim := { program := "ytbikfmcppfkjgaa", sum := "3f8e99b27d6ecba59f3f0827828e2b99de2229ae201f759418a9a8447273e247", func := "removalist/removalistlaw04.SectorUnlike", spec := "sectorUnlike", apart := false, narrowed := true }
def SectorUnlikeUptoSaid : Prop := sectorUnlikeUptoRow.holds Try.pinned (OpenSpec.upto sectorUnlikeSpec)

end Rows
end Go.Proofs.Ytbikfmcppfkjgaa
