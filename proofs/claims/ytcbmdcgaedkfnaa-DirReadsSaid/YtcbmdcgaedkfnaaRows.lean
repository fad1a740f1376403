/-
  No cell of these rows narrows 'for every input' (looked for: loops, veiled, ifaces, maps, wideKeys, modest, calm, conditions, laid).
  DERIVED. THE GIVEN ROWS OF THIS SEAT. 7 by the template 'for every input the law returns true; each argument reads behind the call as it read before'; 0 by the template 'total and deterministic' (their statements: YtcbmdcgaedkfnaaTotals.lean).
  GIVEN WITH THE SEED: the statements are not yours to turn. If you find one false, say at which input.
  Laid BY PROGRAM, IN A SANDBOX (cutbox-rows.mjs): the forced cells as the released guide's own fill.sh prints them over the translation b401fe9efe4ccf79… (all of the seat's roots in one cut). By AI agents, Wed Nov 11 2026. No macro, syntax, notation, axiom, sorry.
-/
import Derived.Test.YtcbmdcgaedkfnaaChecked
import GoSem.Claim
import GoSem.ClaimJoined
import GoSem.ClaimMapViews
import Derived.JoinedTies
import Derived.KernelRfl
namespace Go.Proofs.Ytcbmdcgaedkfnaa
/- THE CELL 'sum', in the pinned program and in every row, IS THE sha256 OF THE DUMP (.gsa) THAT YtcbmdcgaedkfnaaProg.lean LOADS. Nothing in Lean hashes anything: it is a label: what it is worth is what the hold of that sum in a sandbox is worth. -/
noncomputable def Try.pinned : Pinned := { name := "ytcbmdcgaedkfnaa", sum := "b401fe9efe4ccf79441a84a6e7b687bf2392c480cdd0b08bdb6ac206a9d5ef2a", checked := Try.checked }
namespace Rows
def none {H : Type} : Left H := { results := [], args := [] }

/-- 'removalistlaw08.DirGets': WHATEVER THE INPUT: true; the input reads as it did. -/
def dirGetsSpec : ChangeSpec := { name := "dirGets", fn := fun _ => fun
  | [d] => { results := [.lit (.bool true)], args := [d] }
  | _ => none }
def dirGetsRow : OpenClaim := { program := "ytcbmdcgaedkfnaa", sum := "b401fe9efe4ccf79441a84a6e7b687bf2392c480cdd0b08bdb6ac206a9d5ef2a", func := "removalist/removalistlaw08.DirGets", spec := "dirGets", inPlace := ["internal/bytealg.IndexByteString", "internal/bytealg.IndexString"], unfollowed := true, recurses := true, named := ["internal/bytealg.MaxLen"], apart := false }
def DirGetsSaid : Prop := dirGetsRow.holds Try.pinned (OpenSpec.ofChange dirGetsSpec)

/-- ITS FALSE NEIGHBOUR: 'it returns false'. Refute it at one input. -/
def dirGetsWrong : ChangeSpec := { name := "dirGets", fn := fun _ => fun
  | [d] => { results := [.lit (.bool false)], args := [d] }
  | _ => none }
def DirGetsWrongFalsely : Prop := dirGetsRow.holds Try.pinned (OpenSpec.ofChange dirGetsWrong)

/-- 'removalistlaw08.DirDoes': WHATEVER THE INPUT: true; the input reads as it did. -/
def dirDoesSpec : ChangeSpec := { name := "dirDoes", fn := fun _ => fun
  | [d1, d2, d3, d4] => { results := [.lit (.bool true)], args := [d1, d2, d3, d4] }
  | _ => none }
def dirDoesRow : OpenClaim := { program := "ytcbmdcgaedkfnaa", sum := "b401fe9efe4ccf79441a84a6e7b687bf2392c480cdd0b08bdb6ac206a9d5ef2a", func := "removalist/removalistlaw08.DirDoes", spec := "dirDoes", inPlace := ["internal/bytealg.IndexByteString", "internal/bytealg.IndexString"], unfollowed := true, recurses := true, named := ["internal/bytealg.MaxLen"], apart := false }
def DirDoesSaid : Prop := dirDoesRow.holds Try.pinned (OpenSpec.ofChange dirDoesSpec)

/-- ITS FALSE NEIGHBOUR: 'it returns false'. Refute it at one input. -/
def dirDoesWrong : ChangeSpec := { name := "dirDoes", fn := fun _ => fun
  | [d1, d2, d3, d4] => { results := [.lit (.bool false)], args := [d1, d2, d3, d4] }
  | _ => none }
def DirDoesWrongFalsely : Prop := dirDoesRow.holds Try.pinned (OpenSpec.ofChange dirDoesWrong)

/-- 'removalistlaw08.DirReads': WHATEVER THE INPUT: true; the input reads as it did. -/
def dirReadsSpec : ChangeSpec := { name := "dirReads", fn := fun _ => fun
  | [d1, d2, d3] => { results := [.lit (.bool true)], args := [d1, d2, d3] }
  | _ => none }
def dirReadsRow : OpenClaim := { program := "ytcbmdcgaedkfnaa", sum := "b401fe9efe4ccf79441a84a6e7b687bf2392c480cdd0b08bdb6ac206a9d5ef2a", func := "removalist/removalistlaw08.DirReads", spec := "dirReads", inPlace := ["internal/bytealg.IndexByteString", "internal/bytealg.IndexString"], unfollowed := true, recurses := true, named := ["internal/bytealg.MaxLen"], apart := false }
def DirReadsSaid : Prop := dirReadsRow.holds Try.pinned (OpenSpec.ofChange dirReadsSpec)

/-- ITS FALSE NEIGHBOUR: 'it returns false'. Refute it at one input. -/
def dirReadsWrong : ChangeSpec := { name := "dirReads", fn := fun _ => fun
  | [d1, d2, d3] => { results := [.lit (.bool false)], args := [d1, d2, d3] }
  | _ => none }
def DirReadsWrongFalsely : Prop := dirReadsRow.holds Try.pinned (OpenSpec.ofChange dirReadsWrong)

/-- 'removalistlaw08.DirNames': WHATEVER THE INPUT: true; the input reads as it did. -/
def dirNamesSpec : ChangeSpec := { name := "dirNames", fn := fun _ => fun
  | [d] => { results := [.lit (.bool true)], args := [d] }
  | _ => none }
def dirNamesRow : OpenClaim := { program := "ytcbmdcgaedkfnaa", sum := "b401fe9efe4ccf79441a84a6e7b687bf2392c480cdd0b08bdb6ac206a9d5ef2a", func := "removalist/removalistlaw08.DirNames", spec := "dirNames", inPlace := ["internal/bytealg.IndexByteString", "internal/bytealg.IndexString"], unfollowed := true, recurses := true, named := ["internal/bytealg.MaxLen"], apart := false }
def DirNamesSaid : Prop := dirNamesRow.holds Try.pinned (OpenSpec.ofChange dirNamesSpec)

/-- ITS FALSE NEIGHBOUR: 'it returns false'. Refute it at one input. -/
def dirNamesWrong : ChangeSpec := { name := "dirNames", fn := fun _ => fun
  | [d] => { results := [.lit (.bool false)], args := [d] }
  | _ => none }
def DirNamesWrongFalsely : Prop := dirNamesRow.holds Try.pinned (OpenSpec.ofChange dirNamesWrong)

/-- 'removalistlaw08.DirAdds': WHATEVER THE INPUT: true; the input reads as it did. -/
def dirAddsSpec : ChangeSpec := { name := "dirAdds", fn := fun _ => fun
  | [d] => { results := [.lit (.bool true)], args := [d] }
  | _ => none }
def dirAddsRow : OpenClaim := { program := "ytcbmdcgaedkfnaa", sum := "b401fe9efe4ccf79441a84a6e7b687bf2392c480cdd0b08bdb6ac206a9d5ef2a", func := "removalist/removalistlaw08.DirAdds", spec := "dirAdds", inPlace := ["internal/bytealg.IndexByteString", "internal/bytealg.IndexString"], unfollowed := true, recurses := true, named := ["internal/bytealg.MaxLen"], apart := false }
def DirAddsSaid : Prop := dirAddsRow.holds Try.pinned (OpenSpec.ofChange dirAddsSpec)

/-- ITS FALSE NEIGHBOUR: 'it returns false'. Refute it at one input. -/
def dirAddsWrong : ChangeSpec := { name := "dirAdds", fn := fun _ => fun
  | [d] => { results := [.lit (.bool false)], args := [d] }
  | _ => none }
def DirAddsWrongFalsely : Prop := dirAddsRow.holds Try.pinned (OpenSpec.ofChange dirAddsWrong)

/-- 'removalistlaw08.DirRemoves': WHATEVER THE INPUT: true; the input reads as it did. -/
def dirRemovesSpec : ChangeSpec := { name := "dirRemoves", fn := fun _ => fun
  | [d1, d2] => { results := [.lit (.bool true)], args := [d1, d2] }
  | _ => none }
def dirRemovesRow : OpenClaim := { program := "ytcbmdcgaedkfnaa", sum := "b401fe9efe4ccf79441a84a6e7b687bf2392c480cdd0b08bdb6ac206a9d5ef2a", func := "removalist/removalistlaw08.DirRemoves", spec := "dirRemoves", inPlace := ["internal/bytealg.IndexByteString", "internal/bytealg.IndexString"], unfollowed := true, recurses := true, named := ["internal/bytealg.MaxLen"], apart := false }
def DirRemovesSaid : Prop := dirRemovesRow.holds Try.pinned (OpenSpec.ofChange dirRemovesSpec)

/-- ITS FALSE NEIGHBOUR: 'it returns false'. Refute it at one input. -/
def dirRemovesWrong : ChangeSpec := { name := "dirRemoves", fn := fun _ => fun
  | [d1, d2] => { results := [.lit (.bool false)], args := [d1, d2] }
  | _ => none }
def DirRemovesWrongFalsely : Prop := dirRemovesRow.holds Try.pinned (OpenSpec.ofChange dirRemovesWrong)

/-- 'removalistlaw08.DirPages': WHATEVER THE INPUT: true; the input reads as it did. -/
def dirPagesSpec : ChangeSpec := { name := "dirPages", fn := fun _ => fun
  | [d1, d2] => { results := [.lit (.bool true)], args := [d1, d2] }
  | _ => none }
def dirPagesRow : OpenClaim := { program := "ytcbmdcgaedkfnaa", sum := "b401fe9efe4ccf79441a84a6e7b687bf2392c480cdd0b08bdb6ac206a9d5ef2a", func := "removalist/removalistlaw08.DirPages", spec := "dirPages", inPlace := ["internal/bytealg.IndexByteString", "internal/bytealg.IndexString"], unfollowed := true, recurses := true, named := ["internal/bytealg.MaxLen"], apart := false }
def DirPagesSaid : Prop := dirPagesRow.holds Try.pinned (OpenSpec.ofChange dirPagesSpec)

/-- ITS FALSE NEIGHBOUR: 'it returns false'. Refute it at one input. -/
def dirPagesWrong : ChangeSpec := { name := "dirPages", fn := fun _ => fun
  | [d1, d2] => { results := [.lit (.bool false)], args := [d1, d2] }
  | _ => none }
def DirPagesWrongFalsely : Prop := dirPagesRow.holds Try.pinned (OpenSpec.ofChange dirPagesWrong)

/- THE SECOND FORM. 'bulk': how many values and letters a reading holds, each counted each time it is reached (what is shared counts as often as it is met; a slice's spare places count too). A statement '..UptoSaid' is the law's where the arguments, and the package variables that the reading takes, are together of bulk at most 1048576: NARROWER than '..Said'. Prove '..Said' where nothing that the law and all that it calls make is longer than what came in: it says more and counts as full. Else prove '..UptoSaid'. A law counts once. -/
mutual
def uptoBulk {H : Type} : DataW H → Nat
  | .lit (.string bytes) => bytes.length + 1
  | .lit _ => 1
  | .nil => 1
  | .ptr d => uptoBulk d + 1
  | .slice elems spare => uptoBulkAll elems + uptoBulkAll spare + 1
  | .agg parts => uptoBulkAll parts + 1
  | .iface _ d => uptoBulk d + 1
  | .map entries => uptoBulkEntries entries + 1
  | .held _ => 1
def uptoBulkAll {H : Type} : List (DataW H) → Nat
  | [] => 0
  | d :: r => uptoBulk d + uptoBulkAll r
def uptoBulkEntries {H : Type} : List (Lit × DataW H) → Nat
  | [] => 0
  | x :: r => uptoBulkEntry x + uptoBulkEntries r
def uptoBulkEntry {H : Type} : Lit × DataW H → Nat
  | (.string bytes, d) => bytes.length + uptoBulk d + 1
  | (_, d) => uptoBulk d + 1
 end
def uptoSmall : (H : Type) → List (DataW H) → Bool := fun _ ds => decide (uptoBulkAll ds ≤ 1048576)
def OpenSpec.upto (s : _root_.Go.ChangeSpec) : _root_.Go.OpenSpec := { _root_.Go.OpenSpec.ofChange s with cond := some uptoSmall }

/-- 'removalistlaw08.DirGets', WHERE WHAT IT READS IS OF BULK AT MOST 1048576: true; the input reads as it did. -/
def dirGetsUptoRow : OpenClaim := { program := "ytcbmdcgaedkfnaa", sum := "b401fe9efe4ccf79441a84a6e7b687bf2392c480cdd0b08bdb6ac206a9d5ef2a", func := "removalist/removalistlaw08.DirGets", spec := "dirGets", inPlace := ["internal/bytealg.IndexByteString", "internal/bytealg.IndexString"], unfollowed := true, recurses := true, named := ["internal/bytealg.MaxLen"], apart := false, narrowed := true }
def DirGetsUptoSaid : Prop := dirGetsUptoRow.holds Try.pinned (OpenSpec.upto dirGetsSpec)

/-- 'removalistlaw08.DirDoes', WHERE WHAT IT READS IS OF BULK AT MOST 1048576: true; the input reads as it did. -/
def dirDoesUptoRow : OpenClaim := { program := "ytcbmdcgaedkfnaa", sum := "b401fe9efe4ccf79441a84a6e7b687bf2392c480cdd0b08bdb6ac206a9d5ef2a", func := "removalist/removalistlaw08.DirDoes", spec := "dirDoes", inPlace := ["internal/bytealg.IndexByteString", "internal/bytealg.IndexString"], unfollowed := true, recurses := true, named := ["internal/bytealg.MaxLen"], apart := false, narrowed := true }
def DirDoesUptoSaid : Prop := dirDoesUptoRow.holds Try.pinned (OpenSpec.upto dirDoesSpec)

/-- 'removalistlaw08.DirReads', WHERE WHAT IT READS IS OF BULK AT MOST 1048576: true; the input reads as it did. -/
def dirReadsUptoRow : OpenClaim := { program := "ytcbmdcgaedkfnaa", sum := "b401fe9efe4ccf79441a84a6e7b687bf2392c480cdd0b08bdb6ac206a9d5ef2a", func := "removalist/removalistlaw08.DirReads", spec := "dirReads", inPlace := ["internal/bytealg.IndexByteString", "internal/bytealg.IndexString"], unfollowed := true, recurses := true, named := ["internal/bytealg.MaxLen"], apart := false, narrowed := true }
def DirReadsUptoSaid : Prop := dirReadsUptoRow.holds Try.pinned (OpenSpec.upto dirReadsSpec)

/-- 'removalistlaw08.DirNames', WHERE WHAT IT READS IS OF BULK AT MOST 1048576: true; the input reads as it did. -/
def dirNamesUptoRow : OpenClaim := { program := "ytcbmdcgaedkfnaa", sum := "b401fe9efe4ccf79441a84a6e7b687bf2392c480cdd0b08bdb6ac206a9d5ef2a", func := "removalist/removalistlaw08.DirNames", spec := "dirNames", inPlace := ["internal/bytealg.IndexByteString", "internal/bytealg.IndexString"], unfollowed := true, recurses := true, named := ["internal/bytealg.MaxLen"], apart := false, narrowed := true }
def DirNamesUptoSaid : Prop := dirNamesUptoRow.holds Try.pinned (OpenSpec.upto dirNamesSpec)

/-- 'removalistlaw08.DirAdds', WHERE WHAT IT READS IS OF BULK AT MOST 1048576: true; the input reads as it did. -/
def dirAddsUptoRow : OpenClaim := { program := "ytcbmdcgaedkfnaa", sum := "b401fe9efe4ccf79441a84a6e7b687bf2392c480cdd0b08bdb6ac206a9d5ef2a", func := "removalist/removalistlaw08.DirAdds", spec := "dirAdds", inPlace := ["internal/bytealg.IndexByteString", "internal/bytealg.IndexString"], unfollowed := true, recurses := true, named := ["internal/bytealg.MaxLen"], apart := false, narrowed := true }
def DirAddsUptoSaid : Prop := dirAddsUptoRow.holds Try.pinned (OpenSpec.upto dirAddsSpec)

/-- 'removalistlaw08.DirRemoves', WHERE WHAT IT READS IS OF BULK AT MOST 1048576: true; the input reads as it did. -/
def dirRemovesUptoRow : OpenClaim := { program := "ytcbmdcgaedkfnaa", sum := "b401fe9efe4ccf79441a84a6e7b687bf2392c480cdd0b08bdb6ac206a9d5ef2a", func := "removalist/removalistlaw08.DirRemoves", spec := "dirRemoves", inPlace := ["internal/bytealg.IndexByteString", "internal/bytealg.IndexString"], unfollowed := true, recurses := true, named := ["internal/bytealg.MaxLen"], apart := false, narrowed := true }
def DirRemovesUptoSaid : Prop := dirRemovesUptoRow.holds Try.pinned (OpenSpec.upto dirRemovesSpec)

/-- 'removalistlaw08.DirPages', WHERE WHAT IT READS IS OF BULK AT MOST 1048576: true; the input reads as it did. -/
def dirPagesUptoRow : OpenClaim := { program := "ytcbmdcgaedkfnaa", sum := "b401fe9efe4ccf79441a84a6e7b687bf2392c480cdd0b08bdb6ac206a9d5ef2a", func := "removalist/removalistlaw08.DirPages", spec := "dirPages", inPlace := ["internal/bytealg.IndexByteString", "internal/bytealg.IndexString"], unfollowed := true, recurses := true, named := ["internal/bytealg.MaxLen"], apart := false, narrowed := true }
def DirPagesUptoSaid : Prop := dirPagesUptoRow.holds Try.pinned (OpenSpec.upto dirPagesSpec)

end Rows
end Go.Proofs.Ytcbmdcgaedkfnaa
