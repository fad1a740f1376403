/-
  DERIVED. GIVEN WITH THE SEED: THE CARDS: each row of YtnhokkdieijkhaaGreatDoorRows.lean that lists a variable, with what it lists TIED to the program's text (the seventh form; the later family's looks); each row that meets fmt, with fmt's text TOLD by the authors' own Lean function (tested against real Go, not proved from fmt's source: count such statements apart). THE CARD IS WHAT COUNTS. Prove the row's statement (the work); the ties are given (YtnhokkdieijkhaaGreatDoorTie.lean); close each card by the builder's one call (the guide's Derived/Test/ToyasCard.lean, 'card_holds'). Laid BY PROGRAM, IN A SANDBOX (cutbox-door.mjs). By AI agents, Wed Nov 11 2026. No macro, syntax, notation, axiom, sorry.
-/
import Derived.Test.YtnhokkdieijkhaaGreatDoorRows
import GoSem.ClaimSeven
namespace Go.Proofs.YtnhokkdieijkhaaGreatDoor
namespace Rows

/-- THE TIED CARD OF 'removalistlaw12.VolKeeps'. -/
def volKeepsCard : Claim7 := { stood := { row := volKeepsRow, standIns := [], harness := (true, "bf5300e5ceef550cbbaa5b5df187b5b809d52c0b9bb6aa29e978364df3dfec9e"), looks := true }, kinds := [], alts := [], laidByText := true, laidKinds := [.data, .data, .data, .data, .pinned], laidTests := true, laidLooks := .later }
def VolKeepsCardSaid : Prop := Claim7.holds Tryz.pinned (.plain (OpenSpec.ofChange volKeepsSpec)) volKeepsCard

/-- THE TIED CARD OF 'removalistlaw12.VolChange'. -/
def volChangeCard : Claim7 := { stood := { row := volChangeRow, standIns := [], harness := (true, "bf5300e5ceef550cbbaa5b5df187b5b809d52c0b9bb6aa29e978364df3dfec9e"), looks := true }, kinds := [], alts := [], laidByText := true, laidKinds := [.data, .data, .data, .data, .pinned], laidTests := true, laidLooks := .later }
def VolChangeCardSaid : Prop := Claim7.holds Tryz.pinned (.plain (OpenSpec.ofChange volChangeSpec)) volChangeCard

/-- THE TIED CARD OF 'removalistlaw12.VolGrows'. -/
def volGrowsCard : Claim7 := { stood := { row := volGrowsRow, standIns := [], harness := (true, "bf5300e5ceef550cbbaa5b5df187b5b809d52c0b9bb6aa29e978364df3dfec9e"), looks := true }, kinds := [], alts := [], laidByText := true, laidKinds := [.data, .data, .data, .data, .pinned], laidTests := true, laidLooks := .later }
def VolGrowsCardSaid : Prop := Claim7.holds Tryz.pinned (.plain (OpenSpec.ofChange volGrowsSpec)) volGrowsCard

/-- THE TIED CARD OF 'removalistlaw12.VolOnce'. -/
def volOnceCard : Claim7 := { stood := { row := volOnceRow, standIns := [], harness := (true, "bf5300e5ceef550cbbaa5b5df187b5b809d52c0b9bb6aa29e978364df3dfec9e"), looks := true }, kinds := [], alts := [], laidByText := true, laidKinds := [.data, .data, .data, .data, .pinned], laidTests := true, laidLooks := .later }
def VolOnceCardSaid : Prop := Claim7.holds Tryz.pinned (.plain (OpenSpec.ofChange volOnceSpec)) volOnceCard

/-- THE TIED CARD OF 'removalistlaw12.VolWrong'. -/
def volWrongCard : Claim7 := { stood := { row := volWrongRow, standIns := [], harness := (true, "bf5300e5ceef550cbbaa5b5df187b5b809d52c0b9bb6aa29e978364df3dfec9e"), looks := true }, kinds := [], alts := [], laidByText := true, laidKinds := [.data, .data, .data, .data, .pinned], laidTests := true, laidLooks := .later }
def VolWrongCardSaid : Prop := Claim7.holds Tryz.pinned (.plain (OpenSpec.ofChange volWrongSpec)) volWrongCard

/-- THE TIED CARD OF 'removalistlaw12.VolFull'. -/
def volFullCard : Claim7 := { stood := { row := volFullRow, standIns := [], harness := (true, "bf5300e5ceef550cbbaa5b5df187b5b809d52c0b9bb6aa29e978364df3dfec9e"), looks := true }, kinds := [], alts := [], laidByText := true, laidKinds := [.data, .data, .data, .data, .pinned], laidTests := true, laidLooks := .later }
def VolFullCardSaid : Prop := Claim7.holds Tryz.pinned (.plain (OpenSpec.ofChange volFullSpec)) volFullCard

/-- THE SECOND FORM's CARD OF 'removalistlaw12.VolKeeps'. -/
def volKeepsUptoCard : Claim7 := { stood := { row := volKeepsUptoRow, standIns := [], harness := (true, "bf5300e5ceef550cbbaa5b5df187b5b809d52c0b9bb6aa29e978364df3dfec9e"), looks := true }, kinds := [], alts := [], laidByText := true, laidKinds := [.data, .data, .data, .data, .pinned], laidTests := true, laidLooks := .later }
def VolKeepsUptoCardSaid : Prop := Claim7.holds Tryz.pinned (.plain (OpenSpec.upto volKeepsSpec)) volKeepsUptoCard

/-- THE SECOND FORM's CARD OF 'removalistlaw12.VolChange'. -/
def volChangeUptoCard : Claim7 := { stood := { row := volChangeUptoRow, standIns := [], harness := (true, "bf5300e5ceef550cbbaa5b5df187b5b809d52c0b9bb6aa29e978364df3dfec9e"), looks := true }, kinds := [], alts := [], laidByText := true, laidKinds := [.data, .data, .data, .data, .pinned], laidTests := true, laidLooks := .later }
def VolChangeUptoCardSaid : Prop := Claim7.holds Tryz.pinned (.plain (OpenSpec.upto volChangeSpec)) volChangeUptoCard

/-- THE SECOND FORM's CARD OF 'removalistlaw12.VolGrows'. -/
def volGrowsUptoCard : Claim7 := { stood := { row := volGrowsUptoRow, standIns := [], harness := (true, "bf5300e5ceef550cbbaa5b5df187b5b809d52c0b9bb6aa29e978364df3dfec9e"), looks := true }, kinds := [], alts := [], laidByText := true, laidKinds := [.data, .data, .data, .data, .pinned], laidTests := true, laidLooks := .later }
def VolGrowsUptoCardSaid : Prop := Claim7.holds Tryz.pinned (.plain (OpenSpec.upto volGrowsSpec)) volGrowsUptoCard

/-- THE SECOND FORM's CARD OF 'removalistlaw12.VolOnce'. -/
def volOnceUptoCard : Claim7 := { stood := { row := volOnceUptoRow, standIns := [], harness := (true, "bf5300e5ceef550cbbaa5b5df187b5b809d52c0b9bb6aa29e978364df3dfec9e"), looks := true }, kinds := [], alts := [], laidByText := true, laidKinds := [.data, .data, .data, .data, .pinned], laidTests := true, laidLooks := .later }
def VolOnceUptoCardSaid : Prop := Claim7.holds Tryz.pinned (.plain (OpenSpec.upto volOnceSpec)) volOnceUptoCard

/-- THE SECOND FORM's CARD OF 'removalistlaw12.VolWrong'. -/
def volWrongUptoCard : Claim7 := { stood := { row := volWrongUptoRow, standIns := [], harness := (true, "bf5300e5ceef550cbbaa5b5df187b5b809d52c0b9bb6aa29e978364df3dfec9e"), looks := true }, kinds := [], alts := [], laidByText := true, laidKinds := [.data, .data, .data, .data, .pinned], laidTests := true, laidLooks := .later }
def VolWrongUptoCardSaid : Prop := Claim7.holds Tryz.pinned (.plain (OpenSpec.upto volWrongSpec)) volWrongUptoCard

/-- THE SECOND FORM's CARD OF 'removalistlaw12.VolFull'. -/
def volFullUptoCard : Claim7 := { stood := { row := volFullUptoRow, standIns := [], harness := (true, "bf5300e5ceef550cbbaa5b5df187b5b809d52c0b9bb6aa29e978364df3dfec9e"), looks := true }, kinds := [], alts := [], laidByText := true, laidKinds := [.data, .data, .data, .data, .pinned], laidTests := true, laidLooks := .later }
def VolFullUptoCardSaid : Prop := Claim7.holds Tryz.pinned (.plain (OpenSpec.upto volFullSpec)) volFullUptoCard
end Rows
end Go.Proofs.YtnhokkdieijkhaaGreatDoor
