/-
  No cell of these rows narrows 'for every input' (looked for: loops, veiled, ifaces, maps, wideKeys, modest, calm, conditions, laid).
  DERIVED. THE GIVEN ROWS OF THIS SEAT. 4 by the template 'for every input the law returns true; each argument reads behind the call as it read before'; 0 by the template 'total and deterministic' (their statements: YtjionpkflpnejaaTotals.lean).
  GIVEN WITH THE SEED: the statements are not yours to turn. If you find one false, say at which input.
  Laid BY PROGRAM, IN A SANDBOX (cutbox-rows.mjs): the forced cells as the released guide's own fill.sh prints them over the translation d95123a7d750f1b2… (all of the seat's roots in one cut). By AI agents, Wed Nov 11 2026. No macro, syntax, notation, axiom, sorry.
-/
import Derived.Test.YtjionpkflpnejaaChecked
import GoSem.Claim
import GoSem.ClaimJoined
import GoSem.ClaimMapViews
import Derived.JoinedTies
import Derived.KernelRfl
namespace Go.Proofs.Ytjionpkflpnejaa
/- THE CELL 'sum', in the pinned program and in every row, IS THE sha256 OF THE DUMP (.gsa) THAT YtjionpkflpnejaaProg.lean LOADS. Nothing in Lean hashes anything: it is a label: what it is worth is what the hold of that sum in a sandbox is worth. -/
noncomputable def Try.pinned : Pinned := { name := "ytjionpkflpnejaa", sum := "d95123a7d750f1b29812d7b20ad93fc477ddcf8b1e091ff12ea14b8f3113b8c8", checked := Try.checked }
namespace Rows
def none {H : Type} : Left H := { results := [], args := [] }

/-- 'removalistlaw15.MarkPuts': WHATEVER THE INPUT: true; the input reads as it did. -/
def markPutsSpec : ChangeSpec := { name := "markPuts", fn := fun _ => fun
  | [d] => { results := [.lit (.bool true)], args := [d] }
  | _ => none }
def markPutsRow : OpenClaim := { program := "ytjionpkflpnejaa", sum := "d95123a7d750f1b29812d7b20ad93fc477ddcf8b1e091ff12ea14b8f3113b8c8", func := "removalist/removalistlaw15.MarkPuts", spec := "markPuts", apart := false }
def MarkPutsSaid : Prop := markPutsRow.holds Try.pinned (OpenSpec.ofChange markPutsSpec)

/-- ITS FALSE NEIGHBOUR: 'it returns false'. Refute it at one input. -/
def markPutsWrong : ChangeSpec := { name := "markPuts", fn := fun _ => fun
  | [d] => { results := [.lit (.bool false)], args := [d] }
  | _ => none }
def MarkPutsWrongFalsely : Prop := markPutsRow.holds Try.pinned (OpenSpec.ofChange markPutsWrong)

/-- 'removalistlaw15.MarkGets': WHATEVER THE INPUT: true; the input reads as it did. -/
def markGetsSpec : ChangeSpec := { name := "markGets", fn := fun _ => fun
  | [d] => { results := [.lit (.bool true)], args := [d] }
  | _ => none }
def markGetsRow : OpenClaim := { program := "ytjionpkflpnejaa", sum := "d95123a7d750f1b29812d7b20ad93fc477ddcf8b1e091ff12ea14b8f3113b8c8", func := "removalist/removalistlaw15.MarkGets", spec := "markGets", apart := false }
def MarkGetsSaid : Prop := markGetsRow.holds Try.pinned (OpenSpec.ofChange markGetsSpec)

/-- ITS FALSE NEIGHBOUR: 'it returns false'. Refute it at one input. -/
def markGetsWrong : ChangeSpec := { name := "markGets", fn := fun _ => fun
  | [d] => { results := [.lit (.bool false)], args := [d] }
  | _ => none }
def MarkGetsWrongFalsely : Prop := markGetsRow.holds Try.pinned (OpenSpec.ofChange markGetsWrong)

/-- 'removalistlaw15.MarkOwns': WHATEVER THE INPUT: true; the input reads as it did. -/
def markOwnsSpec : ChangeSpec := { name := "markOwns", fn := fun _ => fun
  | [d] => { results := [.lit (.bool true)], args := [d] }
  | _ => none }
def markOwnsRow : OpenClaim := { program := "ytjionpkflpnejaa", sum := "d95123a7d750f1b29812d7b20ad93fc477ddcf8b1e091ff12ea14b8f3113b8c8", func := "removalist/removalistlaw15.MarkOwns", spec := "markOwns", apart := false }
def MarkOwnsSaid : Prop := markOwnsRow.holds Try.pinned (OpenSpec.ofChange markOwnsSpec)

/-- ITS FALSE NEIGHBOUR: 'it returns false'. Refute it at one input. -/
def markOwnsWrong : ChangeSpec := { name := "markOwns", fn := fun _ => fun
  | [d] => { results := [.lit (.bool false)], args := [d] }
  | _ => none }
def MarkOwnsWrongFalsely : Prop := markOwnsRow.holds Try.pinned (OpenSpec.ofChange markOwnsWrong)

/-- 'removalistlaw15.MarkUnlike': WHATEVER THE INPUT: true; the input reads as it did. -/
def markUnlikeSpec : ChangeSpec := { name := "markUnlike", fn := fun _ => fun
  | [d1, d2, d3, d4] => { results := [.lit (.bool true)], args := [d1, d2, d3, d4] }
  | _ => none }
def markUnlikeRow : OpenClaim := { program := "ytjionpkflpnejaa", sum := "d95123a7d750f1b29812d7b20ad93fc477ddcf8b1e091ff12ea14b8f3113b8c8", func := "removalist/removalistlaw15.MarkUnlike", spec := "markUnlike", apart := false }
def MarkUnlikeSaid : Prop := markUnlikeRow.holds Try.pinned (OpenSpec.ofChange markUnlikeSpec)

/-- ITS FALSE NEIGHBOUR: 'it returns false'. Refute it at one input. -/
def markUnlikeWrong : ChangeSpec := { name := "markUnlike", fn := fun _ => fun
  | [d1, d2, d3, d4] => { results := [.lit (.bool false)], args := [d1, d2, d3, d4] }
  | _ => none }
def MarkUnlikeWrongFalsely : Prop := markUnlikeRow.holds Try.pinned (OpenSpec.ofChange markUnlikeWrong)

/- THE SECOND FORM. 'bulk': how many values and letters a reading holds, each counted each time it is reached (what is shared counts as often as it is met; a slice's spare places count too). A statement '..UptoSaid' is the law's where the arguments, and the package variables that the reading takes, are together of bulk at most 1048576: NARROWER than '..Said'. Prove '..Said' where nothing that the law and all that it calls make is longer than what came in: it says more and counts as full. Else prove '..UptoSaid'. A law counts once. -/
mutual
def uptoBulk {H : Type} : DataW H → Nat
  | .lit (.string bytes) => bytes.length + 1
  | .lit _ => 1
  | .nil => 1
  | .ptr d => uptoBulk d + 1
  | .slice elems spare => uptoBulkAll elems + uptoBulkAll spare + 1
  | .agg parts => uptoBulkAll parts + 1
  | .iface _ d => uptoBulk d + 1
  | .map entries => uptoBulkEntries entries + 1
  | .held _ => 1
def uptoBulkAll {H : Type} : List (DataW H) → Nat
  | [] => 0
  | d :: r => uptoBulk d + uptoBulkAll r
def uptoBulkEntries {H : Type} : List (Lit × DataW H) → Nat
  | [] => 0
  | x :: r => uptoBulkEntry x + uptoBulkEntries r
def uptoBulkEntry {H : Type} : Lit × DataW H → Nat
  | (.string bytes, d) => bytes.length + uptoBulk d + 1
  | (_, d) => uptoBulk d + 1
 end
def uptoSmall : (H : Type) → List (DataW H) → Bool := fun _ ds => decide (uptoBulkAll ds ≤ 1048576)
def OpenSpec.upto (s : _root_.Go.ChangeSpec) : _root_.Go.OpenSpec := { _root_.Go.OpenSpec.ofChange s with cond := some uptoSmall }

/-- 'removalistlaw15.MarkPuts', WHERE WHAT IT READS IS OF BULK AT MOST 1048576: true; the input reads as it did. -/
def markPutsUptoRow : OpenClaim := { program := "ytjionpkflpnejaa", sum := "d95123a7d750f1b29812d7b20ad93fc477ddcf8b1e091ff12ea14b8f3113b8c8", func := "removalist/removalistlaw15.MarkPuts", spec := "markPuts", apart := false, narrowed := true }
def MarkPutsUptoSaid : Prop := markPutsUptoRow.holds Try.pinned (OpenSpec.upto markPutsSpec)

/-- 'removalistlaw15.MarkGets', WHERE WHAT IT READS IS OF BULK AT MOST 1048576: true; the input reads as it did. -/
def markGetsUptoRow : OpenClaim := { program := "ytjionpkflpnejaa", sum := "d95123a7d750f1b29812d7b20ad93fc477ddcf8b1e091ff12ea14b8f3113b8c8", func := "removalist/removalistlaw15.MarkGets", spec := "markGets", apart := false, narrowed := true }
def MarkGetsUptoSaid : Prop := markGetsUptoRow.holds Try.pinned (OpenSpec.upto markGetsSpec)

/-- 'removalistlaw15.MarkOwns', WHERE WHAT IT READS IS OF BULK AT MOST 1048576: true; the input reads as it did. -/
def markOwnsUptoRow : OpenClaim := { program := "ytjionpkflpnejaa", sum := "d95123a7d750f1b29812d7b20ad93fc477ddcf8b1e091ff12ea14b8f3113b8c8", func := "removalist/removalistlaw15.MarkOwns", spec := "markOwns", apart := false, narrowed := true }
def MarkOwnsUptoSaid : Prop := markOwnsUptoRow.holds Try.pinned (OpenSpec.upto markOwnsSpec)

/-- 'removalistlaw15.MarkUnlike', WHERE WHAT IT READS IS OF BULK AT MOST 1048576: true; the input reads as it did. -/
def markUnlikeUptoRow : OpenClaim := { program := "ytjionpkflpnejaa", sum := "d95123a7d750f1b29812d7b20ad93fc477ddcf8b1e091ff12ea14b8f3113b8c8", func := "removalist/removalistlaw15.MarkUnlike", spec := "markUnlike", apart := false, narrowed := true }
def MarkUnlikeUptoSaid : Prop := markUnlikeUptoRow.holds Try.pinned (OpenSpec.upto markUnlikeSpec)

end Rows
end Go.Proofs.Ytjionpkflpnejaa
