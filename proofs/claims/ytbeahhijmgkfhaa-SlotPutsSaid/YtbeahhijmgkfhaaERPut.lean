
/-
  Contract of the reference's Put (layer 8).
-/
import Derived.Test.YtbeahhijmgkfhaaEMay
import Derived.Test.YtbeahhijmgkfhaaEOf
namespace Go.Proofs.Ytbeahhijmgkfhaa
open Go.RowKit Go.Shelf

theorem encs_take_succ {es : List En} {k : Nat} (hk : k < es.length) : encs (es.take (k + 1)) = encs (es.take k) ++ enc1 es[k] := by
  unfold encs
  rw [List.take_succ_eq_append_getElem hk, List.flatMap_append]
  simp only [List.flatMap_cons, List.flatMap_nil, List.append_nil]
theorem opq_len_le (b : List UInt8) : (opq b).length ≤ b.length + 7 := by
  rw [opq_length]
  unfold pad
  omega

end Go.Proofs.Ytbeahhijmgkfhaa
