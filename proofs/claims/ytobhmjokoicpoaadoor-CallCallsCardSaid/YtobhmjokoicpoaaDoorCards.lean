/-
  DERIVED. GIVEN WITH THE SEED: THE CARDS: each row of YtobhmjokoicpoaaDoorRows.lean that lists a variable, with what it lists TIED to the program's text (the seventh form; the later family's looks); each row that meets fmt, with fmt's text TOLD by the authors' own Lean function (tested against real Go, not proved from fmt's source: count such statements apart). THE CARD IS WHAT COUNTS. Prove the row's statement (the work); the ties are given (YtobhmjokoicpoaaDoorTie.lean); close each card by the builder's one call (the guide's Derived/Test/ToyasCard.lean, 'card_holds'). Laid BY PROGRAM, IN A SANDBOX (cutbox-door.mjs). By AI agents, Wed Nov 11 2026. No macro, syntax, notation, axiom, sorry.
-/
import Derived.Test.YtobhmjokoicpoaaDoorRows
import GoSem.ClaimSeven
namespace Go.Proofs.YtobhmjokoicpoaaDoor
namespace Rows

/-- THE TIED CARD OF 'removalistlaw09.CallCalls'. -/
def callCallsCard : Claim7 := { stood := { row := callCallsRow, standIns := [], harness := (true, "bc14fce2c1c733e465b82531c20131bd6119aee4a9b06a726af32b1b54a13f94"), looks := false }, kinds := [], alts := [], laidByText := true, laidKinds := [.data], laidTests := true, laidLooks := .later }
def CallCallsCardSaid : Prop := Claim7.holds Tryd.pinned (.plain (OpenSpec.ofChange callCallsSpec)) callCallsCard

/-- THE TIED CARD OF 'removalistlaw09.CallReplies'. -/
def callRepliesCard : Claim7 := { stood := { row := callRepliesRow, standIns := [], harness := (true, "bc14fce2c1c733e465b82531c20131bd6119aee4a9b06a726af32b1b54a13f94"), looks := false }, kinds := [], alts := [], laidByText := true, laidKinds := [.data], laidTests := true, laidLooks := .later }
def CallRepliesCardSaid : Prop := Claim7.holds Tryd.pinned (.plain (OpenSpec.ofChange callRepliesSpec)) callRepliesCard

/-- THE TIED CARD OF 'removalistlaw09.CallCut'. -/
def callCutCard : Claim7 := { stood := { row := callCutRow, standIns := [], harness := (true, "bc14fce2c1c733e465b82531c20131bd6119aee4a9b06a726af32b1b54a13f94"), looks := false }, kinds := [], alts := [], laidByText := true, laidKinds := [.data], laidTests := true, laidLooks := .later }
def CallCutCardSaid : Prop := Claim7.holds Tryd.pinned (.plain (OpenSpec.ofChange callCutSpec)) callCutCard

/-- THE TIED CARD OF 'removalistlaw09.CallUnlike'. -/
def callUnlikeCard : Claim7 := { stood := { row := callUnlikeRow, standIns := [], harness := (true, "bc14fce2c1c733e465b82531c20131bd6119aee4a9b06a726af32b1b54a13f94"), looks := false }, kinds := [], alts := [], laidByText := true, laidKinds := [.data], laidTests := true, laidLooks := .later }
def CallUnlikeCardSaid : Prop := Claim7.holds Tryd.pinned (.plain (OpenSpec.ofChange callUnlikeSpec)) callUnlikeCard

/-- THE TIED CARD OF 'removalistlaw09.CallOps'. -/
def callOpsCard : Claim7 := { stood := { row := callOpsRow, standIns := [], harness := (true, "bc14fce2c1c733e465b82531c20131bd6119aee4a9b06a726af32b1b54a13f94"), looks := false }, kinds := [], alts := [], laidByText := true, laidKinds := [.data], laidTests := true, laidLooks := .later }
def CallOpsCardSaid : Prop := Claim7.holds Tryd.pinned (.plain (OpenSpec.ofChange callOpsSpec)) callOpsCard

/-- THE TIED CARD OF 'removalistlaw09.CallStates'. -/
def callStatesCard : Claim7 := { stood := { row := callStatesRow, standIns := [], harness := (true, "bc14fce2c1c733e465b82531c20131bd6119aee4a9b06a726af32b1b54a13f94"), looks := false }, kinds := [], alts := [], laidByText := true, laidKinds := [.data], laidTests := true, laidLooks := .later }
def CallStatesCardSaid : Prop := Claim7.holds Tryd.pinned (.plain (OpenSpec.ofChange callStatesSpec)) callStatesCard

/-- THE SECOND FORM's CARD OF 'removalistlaw09.CallCalls'. -/
def callCallsUptoCard : Claim7 := { stood := { row := callCallsUptoRow, standIns := [], harness := (true, "bc14fce2c1c733e465b82531c20131bd6119aee4a9b06a726af32b1b54a13f94"), looks := false }, kinds := [], alts := [], laidByText := true, laidKinds := [.data], laidTests := true, laidLooks := .later }
def CallCallsUptoCardSaid : Prop := Claim7.holds Tryd.pinned (.plain (OpenSpec.upto callCallsSpec)) callCallsUptoCard

/-- THE SECOND FORM's CARD OF 'removalistlaw09.CallReplies'. -/
def callRepliesUptoCard : Claim7 := { stood := { row := callRepliesUptoRow, standIns := [], harness := (true, "bc14fce2c1c733e465b82531c20131bd6119aee4a9b06a726af32b1b54a13f94"), looks := false }, kinds := [], alts := [], laidByText := true, laidKinds := [.data], laidTests := true, laidLooks := .later }
def CallRepliesUptoCardSaid : Prop := Claim7.holds Tryd.pinned (.plain (OpenSpec.upto callRepliesSpec)) callRepliesUptoCard

/-- THE SECOND FORM's CARD OF 'removalistlaw09.CallCut'. -/
def callCutUptoCard : Claim7 := { stood := { row := callCutUptoRow, standIns := [], harness := (true, "bc14fce2c1c733e465b82531c20131bd6119aee4a9b06a726af32b1b54a13f94"), looks := false }, kinds := [], alts := [], laidByText := true, laidKinds := [.data], laidTests := true, laidLooks := .later }
def CallCutUptoCardSaid : Prop := Claim7.holds Tryd.pinned (.plain (OpenSpec.upto callCutSpec)) callCutUptoCard

/-- THE SECOND FORM's CARD OF 'removalistlaw09.CallUnlike'. -/
def callUnlikeUptoCard : Claim7 := { stood := { row := callUnlikeUptoRow, standIns := [], harness := (true, "bc14fce2c1c733e465b82531c20131bd6119aee4a9b06a726af32b1b54a13f94"), looks := false }, kinds := [], alts := [], laidByText := true, laidKinds := [.data], laidTests := true, laidLooks := .later }
def CallUnlikeUptoCardSaid : Prop := Claim7.holds Tryd.pinned (.plain (OpenSpec.upto callUnlikeSpec)) callUnlikeUptoCard

/-- THE SECOND FORM's CARD OF 'removalistlaw09.CallOps'. -/
def callOpsUptoCard : Claim7 := { stood := { row := callOpsUptoRow, standIns := [], harness := (true, "bc14fce2c1c733e465b82531c20131bd6119aee4a9b06a726af32b1b54a13f94"), looks := false }, kinds := [], alts := [], laidByText := true, laidKinds := [.data], laidTests := true, laidLooks := .later }
def CallOpsUptoCardSaid : Prop := Claim7.holds Tryd.pinned (.plain (OpenSpec.upto callOpsSpec)) callOpsUptoCard

/-- THE SECOND FORM's CARD OF 'removalistlaw09.CallStates'. -/
def callStatesUptoCard : Claim7 := { stood := { row := callStatesUptoRow, standIns := [], harness := (true, "bc14fce2c1c733e465b82531c20131bd6119aee4a9b06a726af32b1b54a13f94"), looks := false }, kinds := [], alts := [], laidByText := true, laidKinds := [.data], laidTests := true, laidLooks := .later }
def CallStatesUptoCardSaid : Prop := Claim7.holds Tryd.pinned (.plain (OpenSpec.upto callStatesSpec)) callStatesUptoCard
end Rows
end Go.Proofs.YtobhmjokoicpoaaDoor
