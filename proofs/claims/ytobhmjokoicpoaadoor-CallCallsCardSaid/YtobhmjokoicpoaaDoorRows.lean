/-
  NARROWER THAN 'FOR EVERY INPUT', by the rows' own cells (each row's printed sentence says how): CallCalls: laid · CallReplies: laid · CallCut: laid · CallUnlike: laid · CallOps: laid · CallStates: laid.
  DERIVED. THE GIVEN ROWS OF THIS SEAT. 6 by the template 'for every input the law returns true; each argument reads behind the call as it read before'; 0 by the template 'total and deterministic' (their statements: YtobhmjokoicpoaaDoorTotals.lean).
  GIVEN WITH THE SEED: the statements are not yours to turn. If you find one false, say at which input.
  Laid BY PROGRAM, IN A SANDBOX (cutbox-rows.mjs): the forced cells as the released guide's own fill.sh prints them over the translation 9b17fcfe6c7c3682… (all of the seat's roots in one cut). By AI agents, Wed Nov 11 2026. No macro, syntax, notation, axiom, sorry.
-/
import Derived.Test.YtobhmjokoicpoaaDoorChecked
import GoSem.Claim
import GoSem.ClaimJoined
import GoSem.ClaimMapViews
import Derived.JoinedTies
import Derived.KernelRfl
namespace Go.Proofs.YtobhmjokoicpoaaDoor
/- THE CELL 'sum', in the pinned program and in every row, IS THE sha256 OF THE DUMP (.gsa) THAT YtobhmjokoicpoaaDoorProg.lean LOADS. Nothing in Lean hashes anything: it is a label: what it is worth is what the hold of that sum in a sandbox is worth. -/
noncomputable def Tryd.pinned : Pinned := { name := "ytobhmjokoicpoaadoor", sum := "9b17fcfe6c7c3682356e8a70140328c74005420b85b3154ac2baf3793fcbc846", checked := Tryd.checked }
namespace Rows
def none {H : Type} : Left H := { results := [], args := [] }

/- WHAT THE LISTED PACKAGE-LEVEL VARIABLES READ AS WHEN THE CALL BEGINS. Each datum BY PROGRAM (the guide's laid-datum.mjs) off the statement by which the dump's own 'gosem.cut.vars' lays the variable. In a bare row this is a premise. The card (YtobhmjokoicpoaaDoorCards.lean) ties it to the program's text. -/
def laid_removalist_call_changing {H : Type} : DataW H := .agg [.lit (.bool false), .lit (.bool false), .lit (.bool false), .lit (.bool true), .lit (.bool false), .lit (.bool true), .lit (.bool true), .lit (.bool true), .lit (.bool true), .lit (.bool false), .lit (.bool true), .lit (.bool true), .lit (.bool true), .lit (.bool true), .lit (.bool false), .lit (.bool false), .lit (.bool false)]

/-- 'removalistlaw09.CallCalls': WHATEVER THE INPUT: true; the input reads as it did. -/
def callCallsSpec : ChangeSpec := { name := "callCalls", fn := fun _ => fun
  | [d1, d2, d3] => { results := [.lit (.bool true)], args := [d1, d2, d3] }
  | _ => none }
def callCallsRow : OpenClaim := { program := "ytobhmjokoicpoaadoor", sum := "9b17fcfe6c7c3682356e8a70140328c74005420b85b3154ac2baf3793fcbc846", func := "removalist/removalistlaw09.CallCalls", spec := "callCalls", inPlace := ["internal/bytealg.IndexByteString", "internal/bytealg.IndexString"], named := ["removalist/call.changing", "internal/bytealg.MaxLen"], apart := false, laid := [("removalist/call.changing", laid_removalist_call_changing)] }
def CallCallsSaid : Prop := callCallsRow.holds Tryd.pinned (OpenSpec.ofChange callCallsSpec)

/-- ITS FALSE NEIGHBOUR: 'it returns false'. Refute it at one input. -/
def callCallsWrong : ChangeSpec := { name := "callCalls", fn := fun _ => fun
  | [d1, d2, d3] => { results := [.lit (.bool false)], args := [d1, d2, d3] }
  | _ => none }
def CallCallsWrongFalsely : Prop := callCallsRow.holds Tryd.pinned (OpenSpec.ofChange callCallsWrong)

/-- 'removalistlaw09.CallReplies': WHATEVER THE INPUT: true; the input reads as it did. -/
def callRepliesSpec : ChangeSpec := { name := "callReplies", fn := fun _ => fun
  | [d1, d2] => { results := [.lit (.bool true)], args := [d1, d2] }
  | _ => none }
def callRepliesRow : OpenClaim := { program := "ytobhmjokoicpoaadoor", sum := "9b17fcfe6c7c3682356e8a70140328c74005420b85b3154ac2baf3793fcbc846", func := "removalist/removalistlaw09.CallReplies", spec := "callReplies", inPlace := ["internal/bytealg.IndexByteString", "internal/bytealg.IndexString"], named := ["removalist/call.changing", "internal/bytealg.MaxLen"], apart := false, laid := [("removalist/call.changing", laid_removalist_call_changing)] }
def CallRepliesSaid : Prop := callRepliesRow.holds Tryd.pinned (OpenSpec.ofChange callRepliesSpec)

/-- ITS FALSE NEIGHBOUR: 'it returns false'. Refute it at one input. -/
def callRepliesWrong : ChangeSpec := { name := "callReplies", fn := fun _ => fun
  | [d1, d2] => { results := [.lit (.bool false)], args := [d1, d2] }
  | _ => none }
def CallRepliesWrongFalsely : Prop := callRepliesRow.holds Tryd.pinned (OpenSpec.ofChange callRepliesWrong)

/-- 'removalistlaw09.CallCut': WHATEVER THE INPUT: true; the input reads as it did. -/
def callCutSpec : ChangeSpec := { name := "callCut", fn := fun _ => fun
  | [d1, d2, d3, d4] => { results := [.lit (.bool true)], args := [d1, d2, d3, d4] }
  | _ => none }
def callCutRow : OpenClaim := { program := "ytobhmjokoicpoaadoor", sum := "9b17fcfe6c7c3682356e8a70140328c74005420b85b3154ac2baf3793fcbc846", func := "removalist/removalistlaw09.CallCut", spec := "callCut", inPlace := ["internal/bytealg.IndexByteString", "internal/bytealg.IndexString"], named := ["removalist/call.changing", "internal/bytealg.MaxLen"], apart := false, laid := [("removalist/call.changing", laid_removalist_call_changing)] }
def CallCutSaid : Prop := callCutRow.holds Tryd.pinned (OpenSpec.ofChange callCutSpec)

/-- ITS FALSE NEIGHBOUR: 'it returns false'. Refute it at one input. -/
def callCutWrong : ChangeSpec := { name := "callCut", fn := fun _ => fun
  | [d1, d2, d3, d4] => { results := [.lit (.bool false)], args := [d1, d2, d3, d4] }
  | _ => none }
def CallCutWrongFalsely : Prop := callCutRow.holds Tryd.pinned (OpenSpec.ofChange callCutWrong)

/-- 'removalistlaw09.CallUnlike': WHATEVER THE INPUT: true; the input reads as it did. -/
def callUnlikeSpec : ChangeSpec := { name := "callUnlike", fn := fun _ => fun
  | [d1, d2, d3] => { results := [.lit (.bool true)], args := [d1, d2, d3] }
  | _ => none }
def callUnlikeRow : OpenClaim := { program := "ytobhmjokoicpoaadoor", sum := "9b17fcfe6c7c3682356e8a70140328c74005420b85b3154ac2baf3793fcbc846", func := "removalist/removalistlaw09.CallUnlike", spec := "callUnlike", inPlace := ["internal/bytealg.IndexByteString", "internal/bytealg.IndexString"], named := ["removalist/call.changing", "internal/bytealg.MaxLen"], apart := false, laid := [("removalist/call.changing", laid_removalist_call_changing)] }
def CallUnlikeSaid : Prop := callUnlikeRow.holds Tryd.pinned (OpenSpec.ofChange callUnlikeSpec)

/-- ITS FALSE NEIGHBOUR: 'it returns false'. Refute it at one input. -/
def callUnlikeWrong : ChangeSpec := { name := "callUnlike", fn := fun _ => fun
  | [d1, d2, d3] => { results := [.lit (.bool false)], args := [d1, d2, d3] }
  | _ => none }
def CallUnlikeWrongFalsely : Prop := callUnlikeRow.holds Tryd.pinned (OpenSpec.ofChange callUnlikeWrong)

/-- 'removalistlaw09.CallOps': WHATEVER THE INPUT: true; the input reads as it did. -/
def callOpsSpec : ChangeSpec := { name := "callOps", fn := fun _ => fun
  | [d] => { results := [.lit (.bool true)], args := [d] }
  | _ => none }
def callOpsRow : OpenClaim := { program := "ytobhmjokoicpoaadoor", sum := "9b17fcfe6c7c3682356e8a70140328c74005420b85b3154ac2baf3793fcbc846", func := "removalist/removalistlaw09.CallOps", spec := "callOps", inPlace := ["internal/bytealg.IndexByteString", "internal/bytealg.IndexString"], named := ["removalist/call.changing", "internal/bytealg.MaxLen"], apart := false, laid := [("removalist/call.changing", laid_removalist_call_changing)] }
def CallOpsSaid : Prop := callOpsRow.holds Tryd.pinned (OpenSpec.ofChange callOpsSpec)

/-- ITS FALSE NEIGHBOUR: 'it returns false'. Refute it at one input. -/
def callOpsWrong : ChangeSpec := { name := "callOps", fn := fun _ => fun
  | [d] => { results := [.lit (.bool false)], args := [d] }
  | _ => none }
def CallOpsWrongFalsely : Prop := callOpsRow.holds Tryd.pinned (OpenSpec.ofChange callOpsWrong)

/-- 'removalistlaw09.CallStates': WHATEVER THE INPUT: true; the input reads as it did. -/
def callStatesSpec : ChangeSpec := { name := "callStates", fn := fun _ => fun
  | [d] => { results := [.lit (.bool true)], args := [d] }
  | _ => none }
def callStatesRow : OpenClaim := { program := "ytobhmjokoicpoaadoor", sum := "9b17fcfe6c7c3682356e8a70140328c74005420b85b3154ac2baf3793fcbc846", func := "removalist/removalistlaw09.CallStates", spec := "callStates", inPlace := ["internal/bytealg.IndexByteString", "internal/bytealg.IndexString"], named := ["removalist/call.changing", "internal/bytealg.MaxLen"], apart := false, laid := [("removalist/call.changing", laid_removalist_call_changing)] }
def CallStatesSaid : Prop := callStatesRow.holds Tryd.pinned (OpenSpec.ofChange callStatesSpec)

/-- ITS FALSE NEIGHBOUR: 'it returns false'. Refute it at one input. -/
def callStatesWrong : ChangeSpec := { name := "callStates", fn := fun _ => fun
  | [d] => { results := [.lit (.bool false)], args := [d] }
  | _ => none }
def CallStatesWrongFalsely : Prop := callStatesRow.holds Tryd.pinned (OpenSpec.ofChange callStatesWrong)

/- THE SECOND FORM. 'bulk': how many values and letters a reading holds, each counted each time it is reached (what is shared counts as often as it is met; a slice's spare places count too). A statement '..UptoSaid' is the law's where the arguments, and the package variables that the reading takes, are together of bulk at most 1048576: NARROWER than '..Said'. Prove '..Said' where nothing that the law and all that it calls make is longer than what came in: it says more and counts as full. Else prove '..UptoSaid'. A law counts once. -/
mutual
def uptoBulk {H : Type} : DataW H → Nat
  | .lit (.string bytes) => bytes.length + 1
  | .lit _ => 1
  | .nil => 1
  | .ptr d => uptoBulk d + 1
  | .slice elems spare => uptoBulkAll elems + uptoBulkAll spare + 1
  | .agg parts => uptoBulkAll parts + 1
  | .iface _ d => uptoBulk d + 1
  | .map entries => uptoBulkEntries entries + 1
  | .held _ => 1
def uptoBulkAll {H : Type} : List (DataW H) → Nat
  | [] => 0
  | d :: r => uptoBulk d + uptoBulkAll r
def uptoBulkEntries {H : Type} : List (Lit × DataW H) → Nat
  | [] => 0
  | x :: r => uptoBulkEntry x + uptoBulkEntries r
def uptoBulkEntry {H : Type} : Lit × DataW H → Nat
  | (.string bytes, d) => bytes.length + uptoBulk d + 1
  | (_, d) => uptoBulk d + 1
 end
def uptoSmall : (H : Type) → List (DataW H) → Bool := fun _ ds => decide (uptoBulkAll ds ≤ 1048576)
def OpenSpec.upto (s : _root_.Go.ChangeSpec) : _root_.Go.OpenSpec := { _root_.Go.OpenSpec.ofChange s with cond := some uptoSmall }

/-- 'removalistlaw09.CallCalls', WHERE WHAT IT READS IS OF BULK AT MOST 1048576: true; the input reads as it did. -/
def callCallsUptoRow : OpenClaim := { program := "ytobhmjokoicpoaadoor", sum := "9b17fcfe6c7c3682356e8a70140328c74005420b85b3154ac2baf3793fcbc846", func := "removalist/removalistlaw09.CallCalls", spec := "callCalls", inPlace := ["internal/bytealg.IndexByteString", "internal/bytealg.IndexString"], named := ["removalist/call.changing", "internal/bytealg.MaxLen"], apart := false, laid := [("removalist/call.changing", laid_removalist_call_changing)], narrowed := true }
def CallCallsUptoSaid : Prop := callCallsUptoRow.holds Tryd.pinned (OpenSpec.upto callCallsSpec)

/-- 'removalistlaw09.CallReplies', WHERE WHAT IT READS IS OF BULK AT MOST 1048576: true; the input reads as it did. -/
def callRepliesUptoRow : OpenClaim := { program := "ytobhmjokoicpoaadoor", sum := "9b17fcfe6c7c3682356e8a70140328c74005420b85b3154ac2baf3793fcbc846", func := "removalist/removalistlaw09.CallReplies", spec := "callReplies", inPlace := ["internal/bytealg.IndexByteString", "internal/bytealg.IndexString"], named := ["removalist/call.changing", "internal/bytealg.MaxLen"], apart := false, laid := [("removalist/call.changing", laid_removalist_call_changing)], narrowed := true }
def CallRepliesUptoSaid : Prop := callRepliesUptoRow.holds Tryd.pinned (OpenSpec.upto callRepliesSpec)

/-- 'removalistlaw09.CallCut', WHERE WHAT IT READS IS OF BULK AT MOST 1048576: true; the input reads as it did. -/
def callCutUptoRow : OpenClaim := { program := "ytobhmjokoicpoaadoor", sum := "9b17fcfe6c7c3682356e8a70140328c74005420b85b3154ac2baf3793fcbc846", func := "removalist/removalistlaw09.CallCut", spec := "callCut", inPlace := ["internal/bytealg.IndexByteString", "internal/bytealg.IndexString"], named := ["removalist/call.changing", "internal/bytealg.MaxLen"], apart := false, laid := [("removalist/call.changing", laid_removalist_call_changing)], narrowed := true }
def CallCutUptoSaid : Prop := callCutUptoRow.holds Tryd.pinned (OpenSpec.upto callCutSpec)

/-- 'removalistlaw09.CallUnlike', WHERE WHAT IT READS IS OF BULK AT MOST 1048576: true; the input reads as it did. -/
def callUnlikeUptoRow : OpenClaim := { program := "ytobhmjokoicpoaadoor", sum := "9b17fcfe6c7c3682356e8a70140328c74005420b85b3154ac2baf3793fcbc846", func := "removalist/removalistlaw09.CallUnlike", spec := "callUnlike", inPlace := ["internal/bytealg.IndexByteString", "internal/bytealg.IndexString"], named := ["removalist/call.changing", "internal/bytealg.MaxLen"], apart := false, laid := [("removalist/call.changing", laid_removalist_call_changing)], narrowed := true }
def CallUnlikeUptoSaid : Prop := callUnlikeUptoRow.holds Tryd.pinned (OpenSpec.upto callUnlikeSpec)

/-- 'removalistlaw09.CallOps', WHERE WHAT IT READS IS OF BULK AT MOST 1048576: true; the input reads as it did. -/
def callOpsUptoRow : OpenClaim := { program := "ytobhmjokoicpoaadoor", sum := "9b17fcfe6c7c3682356e8a70140328c74005420b85b3154ac2baf3793fcbc846", func := "removalist/removalistlaw09.CallOps", spec := "callOps", inPlace := ["internal/bytealg.IndexByteString", "internal/bytealg.IndexString"], named := ["removalist/call.changing", "internal/bytealg.MaxLen"], apart := false, laid := [("removalist/call.changing", laid_removalist_call_changing)], narrowed := true }
def CallOpsUptoSaid : Prop := callOpsUptoRow.holds Tryd.pinned (OpenSpec.upto callOpsSpec)

/-- 'removalistlaw09.CallStates', WHERE WHAT IT READS IS OF BULK AT MOST 1048576: true; the input reads as it did. -/
def callStatesUptoRow : OpenClaim := { program := "ytobhmjokoicpoaadoor", sum := "9b17fcfe6c7c3682356e8a70140328c74005420b85b3154ac2baf3793fcbc846", func := "removalist/removalistlaw09.CallStates", spec := "callStates", inPlace := ["internal/bytealg.IndexByteString", "internal/bytealg.IndexString"], named := ["removalist/call.changing", "internal/bytealg.MaxLen"], apart := false, laid := [("removalist/call.changing", laid_removalist_call_changing)], narrowed := true }
def CallStatesUptoSaid : Prop := callStatesUptoRow.holds Tryd.pinned (OpenSpec.upto callStatesSpec)

end Rows
end Go.Proofs.YtobhmjokoicpoaaDoor
