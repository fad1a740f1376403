/-
  DERIVED. GIVEN WITH THE SEED: THE CARDS: each row of YtkodjojidoigiaaDoorRows.lean that lists a variable, with what it lists TIED to the program's text (the seventh form; the later family's looks); each row that meets fmt, with fmt's text TOLD by the authors' own Lean function (tested against real Go, not proved from fmt's source: count such statements apart). THE CARD IS WHAT COUNTS. Prove the row's statement (the work); the ties are given (YtkodjojidoigiaaDoorTie.lean); close each card by the builder's one call (the guide's Derived/Test/ToyasCard.lean, 'card_holds'). Laid BY PROGRAM, IN A SANDBOX (cutbox-door.mjs). By AI agents, Wed Nov 11 2026. No macro, syntax, notation, axiom, sorry.
-/
import Derived.Test.YtkodjojidoigiaaDoorRows
import GoSem.ClaimSeven
namespace Go.Proofs.YtkodjojidoigiaaDoor
namespace Rows

/-- THE TIED CARD OF 'removalistlaw06.BitsTells'. -/
def bitsTellsCard : Claim7 := { stood := { row := bitsTellsRow, standIns := [], harness := (true, "8df763f5121650eb7eca6c4c4f3d39d88f71f580a2854407f5a70d9bfd6ee69c"), looks := false }, kinds := [], alts := [], laidByText := true, laidKinds := [.data, .pinned], laidTests := true, laidLooks := .later }
def BitsTellsCardSaid : Prop := Claim7.holds Tryd.pinned (.plain (OpenSpec.ofChange bitsTellsSpec)) bitsTellsCard

/-- THE TIED CARD OF 'removalistlaw06.BitsDraws'. -/
def bitsDrawsCard : Claim7 := { stood := { row := bitsDrawsRow, standIns := [], harness := (true, "8df763f5121650eb7eca6c4c4f3d39d88f71f580a2854407f5a70d9bfd6ee69c"), looks := false }, kinds := [], alts := [], laidByText := true, laidKinds := [.data, .pinned], laidTests := true, laidLooks := .later }
def BitsDrawsCardSaid : Prop := Claim7.holds Tryd.pinned (.plain (OpenSpec.ofChange bitsDrawsSpec)) bitsDrawsCard

/-- THE TIED CARD OF 'removalistlaw06.BitsWith'. -/
def bitsWithCard : Claim7 := { stood := { row := bitsWithRow, standIns := [], harness := (true, "8df763f5121650eb7eca6c4c4f3d39d88f71f580a2854407f5a70d9bfd6ee69c"), looks := false }, kinds := [], alts := [], laidByText := true, laidKinds := [.data, .pinned], laidTests := true, laidLooks := .later }
def BitsWithCardSaid : Prop := Claim7.holds Tryd.pinned (.plain (OpenSpec.ofChange bitsWithSpec)) bitsWithCard

/-- THE TIED CARD OF 'removalistlaw06.BitsCount'. -/
def bitsCountCard : Claim7 := { stood := { row := bitsCountRow, standIns := [], harness := (true, "8df763f5121650eb7eca6c4c4f3d39d88f71f580a2854407f5a70d9bfd6ee69c"), looks := false }, kinds := [], alts := [], laidByText := true, laidKinds := [.data, .pinned], laidTests := true, laidLooks := .later }
def BitsCountCardSaid : Prop := Claim7.holds Tryd.pinned (.plain (OpenSpec.ofChange bitsCountSpec)) bitsCountCard

/-- THE TIED CARD OF 'removalistlaw06.BitsFull'. -/
def bitsFullCard : Claim7 := { stood := { row := bitsFullRow, standIns := [], harness := (true, "8df763f5121650eb7eca6c4c4f3d39d88f71f580a2854407f5a70d9bfd6ee69c"), looks := false }, kinds := [], alts := [], laidByText := true, laidKinds := [.data, .pinned], laidTests := true, laidLooks := .later }
def BitsFullCardSaid : Prop := Claim7.holds Tryd.pinned (.plain (OpenSpec.ofChange bitsFullSpec)) bitsFullCard

/-- THE SECOND FORM's CARD OF 'removalistlaw06.BitsTells'. -/
def bitsTellsUptoCard : Claim7 := { stood := { row := bitsTellsUptoRow, standIns := [], harness := (true, "8df763f5121650eb7eca6c4c4f3d39d88f71f580a2854407f5a70d9bfd6ee69c"), looks := false }, kinds := [], alts := [], laidByText := true, laidKinds := [.data, .pinned], laidTests := true, laidLooks := .later }
def BitsTellsUptoCardSaid : Prop := Claim7.holds Tryd.pinned (.plain (OpenSpec.upto bitsTellsSpec)) bitsTellsUptoCard

/-- THE SECOND FORM's CARD OF 'removalistlaw06.BitsDraws'. -/
def bitsDrawsUptoCard : Claim7 := { stood := { row := bitsDrawsUptoRow, standIns := [], harness := (true, "8df763f5121650eb7eca6c4c4f3d39d88f71f580a2854407f5a70d9bfd6ee69c"), looks := false }, kinds := [], alts := [], laidByText := true, laidKinds := [.data, .pinned], laidTests := true, laidLooks := .later }
def BitsDrawsUptoCardSaid : Prop := Claim7.holds Tryd.pinned (.plain (OpenSpec.upto bitsDrawsSpec)) bitsDrawsUptoCard

/-- THE SECOND FORM's CARD OF 'removalistlaw06.BitsWith'. -/
def bitsWithUptoCard : Claim7 := { stood := { row := bitsWithUptoRow, standIns := [], harness := (true, "8df763f5121650eb7eca6c4c4f3d39d88f71f580a2854407f5a70d9bfd6ee69c"), looks := false }, kinds := [], alts := [], laidByText := true, laidKinds := [.data, .pinned], laidTests := true, laidLooks := .later }
def BitsWithUptoCardSaid : Prop := Claim7.holds Tryd.pinned (.plain (OpenSpec.upto bitsWithSpec)) bitsWithUptoCard

/-- THE SECOND FORM's CARD OF 'removalistlaw06.BitsCount'. -/
def bitsCountUptoCard : Claim7 := { stood := { row := bitsCountUptoRow, standIns := [], harness := (true, "8df763f5121650eb7eca6c4c4f3d39d88f71f580a2854407f5a70d9bfd6ee69c"), looks := false }, kinds := [], alts := [], laidByText := true, laidKinds := [.data, .pinned], laidTests := true, laidLooks := .later }
def BitsCountUptoCardSaid : Prop := Claim7.holds Tryd.pinned (.plain (OpenSpec.upto bitsCountSpec)) bitsCountUptoCard

/-- THE SECOND FORM's CARD OF 'removalistlaw06.BitsFull'. -/
def bitsFullUptoCard : Claim7 := { stood := { row := bitsFullUptoRow, standIns := [], harness := (true, "8df763f5121650eb7eca6c4c4f3d39d88f71f580a2854407f5a70d9bfd6ee69c"), looks := false }, kinds := [], alts := [], laidByText := true, laidKinds := [.data, .pinned], laidTests := true, laidLooks := .later }
def BitsFullUptoCardSaid : Prop := Claim7.holds Tryd.pinned (.plain (OpenSpec.upto bitsFullSpec)) bitsFullUptoCard
end Rows
end Go.Proofs.YtkodjojidoigiaaDoor
