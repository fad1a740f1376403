
/-
  Contracts of slices.Concat at two rows of entries, and of package dir's Add and Remove (layer 8).
-/
import Derived.Test.YtjionpkflpnejaaERow
namespace Go.Proofs.Ytjionpkflpnejaa
open Go.RowKit Go.Shelf

/-- How many there are behind k of two rows, and which. -/
def szs (n m k : Nat) : Nat := if k = 0 then 0 else if k = 1 then n else n + m
def acc (a b : List En) (k : Nat) : List En := if k = 0 then [] else if k = 1 then a else a ++ b

end Go.Proofs.Ytjionpkflpnejaa
