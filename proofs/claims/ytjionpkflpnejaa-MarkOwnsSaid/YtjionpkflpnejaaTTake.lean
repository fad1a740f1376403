
/-
  Contracts of Take and New (layer 10).
-/
import Derived.Test.YtjionpkflpnejaaTFork
namespace Go.Proofs.Ytjionpkflpnejaa
open Go.RowKit

section
variable {w : World} {p m q mq : Nat} {x y : Sl} {S : Nat → Prop} {X Y : TX}
/-- Behind Take. -/
def TakeQ (w : World) (p : Nat) (x : Sl) (S : Nat → Prop) (X : TX) (e : Ending) (w' : World) : Prop := e = .returned (.tuple #[]) ∧ ∃ m', Tq w' p m' x S X ∧ Ch (· = p) w w' ∧ w.heap.size ≤ m'
end
end Go.Proofs.Ytjionpkflpnejaa
