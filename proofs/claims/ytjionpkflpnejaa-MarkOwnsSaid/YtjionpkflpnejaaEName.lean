
/-
  Contract of package dir's Name (layer 8).
-/
import Derived.Test.YtjionpkflpnejaaEFind
import Derived.Test.YtjionpkflpnejaaEStr
namespace Go.Proofs.Ytjionpkflpnejaa
open Go.RowKit Go.Shelf

theorem nameOk_eq (l : List UInt8) : nameOk l = (!decide (l.length < 1) && !decide (24 < l.length) && !(l == [46]) && !(l == [46, 46]) && !parts l) := by
  unfold nameOk parts
  have e1 : decide (1 ≤ l.length) = !decide (l.length < 1) := by
    rw [← decide_not]
    exact decide_eq_decide.2 (by omega)
  have e2 : decide (l.length ≤ 24) = !decide (24 < l.length) := by
    rw [← decide_not]
    exact decide_eq_decide.2 (by omega)
  have e3 : (l.all fun b => !(b == 0) && !(b == 47)) = !l.any fun b => b == 0 || b == 47 := by
    rw [List.not_any_eq_all_not]
    simp [Bool.not_or]
  rw [e1, e2, e3]

end Go.Proofs.Ytjionpkflpnejaa
