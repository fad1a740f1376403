
/-
  Contract of package dir's from, and the walk of After (layer 8).
-/
import Derived.Test.YtjionpkflpnejaaEVals
namespace Go.Proofs.Ytjionpkflpnejaa
open Go.RowKit Go.Shelf
attribute [local go_sem] Oper.semAt_some

theorem frm_le (es : List En) (c : Nat) : frm es c ≤ es.length := List.findIdx_le_length
end Go.Proofs.Ytjionpkflpnejaa
