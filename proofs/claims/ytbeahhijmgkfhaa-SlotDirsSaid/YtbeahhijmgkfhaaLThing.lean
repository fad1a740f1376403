/-
  A thing, whole: a file, a directory or a link (layers 11 and 12). Nothing of the program is named here.
-/
import Derived.Test.YtbeahhijmgkfhaaRow4
namespace Go.Proofs.Ytbeahhijmgkfhaa
namespace Vl

/-- A thing, whole. -/
structure Th where
  (ino kind gen links mode change cookie verf : Nat)
  dt : List UInt8
  deriving DecidableEq
/-- D: are these bytes a directory's, none of its entries above this cookie? -/
def Th.okB (D : List UInt8 → Nat → Bool) (s : Th) : Bool :=
  decide (s.ino ≤ 23) && decide (s.kind ≤ 3) && decide (s.dt.length ≤ 768) &&
    (if s.kind = 0 then s.links == 0 && s.mode == 0 && s.cookie == 0 && s.verf == 0 && s.dt.length == 0 else decide (s.links ≠ 0) && (if s.kind = 2 then D s.dt s.cookie else true))
structure Th.Wide (s : Th) : Prop where
  gen : s.gen < 4294967296
  links : s.links < 4294967296
  mode : s.mode < 4294967296
  change : s.change < 18446744073709551616
  cookie : s.cookie < 18446744073709551616
  verf : s.verf < 18446744073709551616
theorem okB_facts {D : List UInt8 → Nat → Bool} {s : Th} (h : s.okB D = true) : s.ino ≤ 23 ∧ s.kind ≤ 3 ∧ s.dt.length ≤ 768 := by
  simp only [Th.okB, Bool.and_eq_true, decide_eq_true_eq] at h
  exact ⟨h.1.1.1, h.1.1.2, h.1.2⟩
end Vl
end Go.Proofs.Ytbeahhijmgkfhaa
