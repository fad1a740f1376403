/-
  No cell of these rows narrows 'for every input' (looked for: loops, veiled, ifaces, maps, wideKeys, modest, calm, conditions, laid).
  DERIVED. THE GIVEN ROWS OF THIS SEAT. 4 by the template 'for every input the law returns true; each argument reads behind the call as it read before'; 0 by the template 'total and deterministic' (their statements: YtjgmboleiaehaaaTotals.lean).
  GIVEN WITH THE SEED: the statements are not yours to turn. If you find one false, say at which input.
  Laid BY PROGRAM, IN A SANDBOX (cutbox-rows.mjs): the forced cells as the released guide's own fill.sh prints them over the translation 0472ab2e89c87941… (all of the seat's roots in one cut). By AI agents, Wed Nov 11 2026. No macro, syntax, notation, axiom, sorry.
-/
import Derived.Test.YtjgmboleiaehaaaChecked
import GoSem.Claim
import GoSem.ClaimJoined
import GoSem.ClaimMapViews
import Derived.JoinedTies
import Derived.KernelRfl
namespace Go.Proofs.Ytjgmboleiaehaaa
/- THE CELL 'sum', in the pinned program and in every row, IS THE sha256 OF THE DUMP (.gsa) THAT YtjgmboleiaehaaaProg.lean LOADS. Nothing in Lean hashes anything: it is a label: what it is worth is what the hold of that sum in a sandbox is worth. -/
noncomputable def Try.pinned : Pinned := { name := "ytjgmboleiaehaaa", sum := "0472ab2e89c8794164aeb866120d1980bd0d19ca55365f7749780cbefda454ce", checked := Try.checked }
namespace Rows
def none {H : Type} : Left H := { results := [], args := [] }

/-- 'removalistlaw14.RepliesPlays': WHATEVER THE INPUT: true; the input reads as it did. -/
def repliesPlaysSpec : ChangeSpec := { name := "repliesPlays", fn := fun _ => fun
  | [d1, d2] => { results := [.lit (.bool true)], args := [d1, d2] }
  | _ => none }
def repliesPlaysRow : OpenClaim := { program := "ytjgmboleiaehaaa", sum := "0472ab2e89c8794164aeb866120d1980bd0d19ca55365f7749780cbefda454ce", func := "removalist/removalistlaw14.RepliesPlays", spec := "repliesPlays", apart := false }
def RepliesPlaysSaid : Prop := repliesPlaysRow.holds Try.pinned (OpenSpec.ofChange repliesPlaysSpec)

/-- ITS FALSE NEIGHBOUR: 'it returns false'. Refute it at one input. -/
def repliesPlaysWrong : ChangeSpec := { name := "repliesPlays", fn := fun _ => fun
  | [d1, d2] => { results := [.lit (.bool false)], args := [d1, d2] }
  | _ => none }
def RepliesPlaysWrongFalsely : Prop := repliesPlaysRow.holds Try.pinned (OpenSpec.ofChange repliesPlaysWrong)

/-- 'removalistlaw14.RepliesKeeps': WHATEVER THE INPUT: true; the input reads as it did. -/
def repliesKeepsSpec : ChangeSpec := { name := "repliesKeeps", fn := fun _ => fun
  | [d] => { results := [.lit (.bool true)], args := [d] }
  | _ => none }
def repliesKeepsRow : OpenClaim := { program := "ytjgmboleiaehaaa", sum := "0472ab2e89c8794164aeb866120d1980bd0d19ca55365f7749780cbefda454ce", func := "removalist/removalistlaw14.RepliesKeeps", spec := "repliesKeeps", apart := false }
def RepliesKeepsSaid : Prop := repliesKeepsRow.holds Try.pinned (OpenSpec.ofChange repliesKeepsSpec)

/-- ITS FALSE NEIGHBOUR: 'it returns false'. Refute it at one input. -/
def repliesKeepsWrong : ChangeSpec := { name := "repliesKeeps", fn := fun _ => fun
  | [d] => { results := [.lit (.bool false)], args := [d] }
  | _ => none }
def RepliesKeepsWrongFalsely : Prop := repliesKeepsRow.holds Try.pinned (OpenSpec.ofChange repliesKeepsWrong)

/-- 'removalistlaw14.RepliesAsk': WHATEVER THE INPUT: true; the input reads as it did. -/
def repliesAskSpec : ChangeSpec := { name := "repliesAsk", fn := fun _ => fun
  | [d1, d2, d3] => { results := [.lit (.bool true)], args := [d1, d2, d3] }
  | _ => none }
def repliesAskRow : OpenClaim := { program := "ytjgmboleiaehaaa", sum := "0472ab2e89c8794164aeb866120d1980bd0d19ca55365f7749780cbefda454ce", func := "removalist/removalistlaw14.RepliesAsk", spec := "repliesAsk", apart := false }
def RepliesAskSaid : Prop := repliesAskRow.holds Try.pinned (OpenSpec.ofChange repliesAskSpec)

/-- ITS FALSE NEIGHBOUR: 'it returns false'. Refute it at one input. -/
def repliesAskWrong : ChangeSpec := { name := "repliesAsk", fn := fun _ => fun
  | [d1, d2, d3] => { results := [.lit (.bool false)], args := [d1, d2, d3] }
  | _ => none }
def RepliesAskWrongFalsely : Prop := repliesAskRow.holds Try.pinned (OpenSpec.ofChange repliesAskWrong)

/-- 'removalistlaw14.RepliesForm': WHATEVER THE INPUT: true; the input reads as it did. -/
def repliesFormSpec : ChangeSpec := { name := "repliesForm", fn := fun _ => fun
  | [d1, d2, d3] => { results := [.lit (.bool true)], args := [d1, d2, d3] }
  | _ => none }
def repliesFormRow : OpenClaim := { program := "ytjgmboleiaehaaa", sum := "0472ab2e89c8794164aeb866120d1980bd0d19ca55365f7749780cbefda454ce", func := "removalist/removalistlaw14.RepliesForm", spec := "repliesForm", apart := false }
def RepliesFormSaid : Prop := repliesFormRow.holds Try.pinned (OpenSpec.ofChange repliesFormSpec)

/-- ITS FALSE NEIGHBOUR: 'it returns false'. Refute it at one input. -/
def repliesFormWrong : ChangeSpec := { name := "repliesForm", fn := fun _ => fun
  | [d1, d2, d3] => { results := [.lit (.bool false)], args := [d1, d2, d3] }
  | _ => none }
def RepliesFormWrongFalsely : Prop := repliesFormRow.holds Try.pinned (OpenSpec.ofChange repliesFormWrong)

/- THE SECOND FORM. 'bulk': how many values and letters a reading holds, each counted each time it is reached (what is shared counts as often as it is met; a slice's spare places count too). A statement '..UptoSaid' is the law's where the arguments, and the package variables that the reading takes, are together of bulk at most 1048576: NARROWER than '..Said'. Prove '..Said' where nothing that the law and all that it calls make is longer than what came in: it says more and counts as full. Else prove '..UptoSaid'. A law counts once. -/
mutual
def uptoBulk {H : Type} : DataW H → Nat
  | .lit (.string bytes) => bytes.length + 1
  | .lit _ => 1
  | .nil => 1
  | .ptr d => uptoBulk d + 1
  | .slice elems spare => uptoBulkAll elems + uptoBulkAll spare + 1
  | .agg parts => uptoBulkAll parts + 1
  | .iface _ d => uptoBulk d + 1
  | .map entries => uptoBulkEntries entries + 1
  | .held _ => 1
def uptoBulkAll {H : Type} : List (DataW H) → Nat
  | [] => 0
  | d :: r => uptoBulk d + uptoBulkAll r
def uptoBulkEntries {H : Type} : List (Lit × DataW H) → Nat
  | [] => 0
  | x :: r => uptoBulkEntry x + uptoBulkEntries r
def uptoBulkEntry {H : Type} : Lit × DataW H → Nat
  | (.string bytes, d) => bytes.length + uptoBulk d + 1
  | (_, d) => uptoBulk d + 1
 end
def uptoSmall : (H : Type) → List (DataW H) → Bool := fun _ ds => decide (uptoBulkAll ds ≤ 1048576)
def OpenSpec.upto (s : _root_.Go.ChangeSpec) : _root_.Go.OpenSpec := { _root_.Go.OpenSpec.ofChange s with cond := some uptoSmall }

/-- 'removalistlaw14.RepliesPlays', WHERE WHAT IT READS IS OF BULK AT MOST 1048576: true; the input reads as it did. -/
def repliesPlaysUptoRow : OpenClaim := { program := "ytjgmboleiaehaaa", sum := "0472ab2e89c8794164aeb866120d1980bd0d19ca55365f7749780cbefda454ce", func := "removalist/removalistlaw14.RepliesPlays", spec := "repliesPlays", apart := false, narrowed := true }
def RepliesPlaysUptoSaid : Prop := repliesPlaysUptoRow.holds Try.pinned (OpenSpec.upto repliesPlaysSpec)

/-- 'removalistlaw14.RepliesKeeps', WHERE WHAT IT READS IS OF BULK AT MOST 1048576: true; the input reads as it did. -/
def repliesKeepsUptoRow : OpenClaim := { program := "ytjgmboleiaehaaa", sum := "0472ab2e89c8794164aeb866120d1980bd0d19ca55365f7749780cbefda454ce", func := "removalist/removalistlaw14.RepliesKeeps", spec := "repliesKeeps", apart := false, narrowed := true }
def RepliesKeepsUptoSaid : Prop := repliesKeepsUptoRow.holds Try.pinned (OpenSpec.upto repliesKeepsSpec)

/-- 'removalistlaw14.RepliesAsk', WHERE WHAT IT READS IS OF BULK AT MOST 1048576: true; the input reads as it did. -/
def repliesAskUptoRow : OpenClaim := { program := "ytjgmboleiaehaaa", sum := "0472ab2e89c8794164aeb866120d1980bd0d19ca55365f7749780cbefda454ce", func := "removalist/removalistlaw14.RepliesAsk", spec := "repliesAsk", apart := false, narrowed := true }
def RepliesAskUptoSaid : Prop := repliesAskUptoRow.holds Try.pinned (OpenSpec.upto repliesAskSpec)

/-- 'removalistlaw14.RepliesForm', WHERE WHAT IT READS IS OF BULK AT MOST 1048576: true; the input reads as it did. -/
def repliesFormUptoRow : OpenClaim := { program := "ytjgmboleiaehaaa", sum := "0472ab2e89c8794164aeb866120d1980bd0d19ca55365f7749780cbefda454ce", func := "removalist/removalistlaw14.RepliesForm", spec := "repliesForm", apart := false, narrowed := true }
def RepliesFormUptoSaid : Prop := repliesFormUptoRow.holds Try.pinned (OpenSpec.upto repliesFormSpec)

end Rows
end Go.Proofs.Ytjgmboleiaehaaa
