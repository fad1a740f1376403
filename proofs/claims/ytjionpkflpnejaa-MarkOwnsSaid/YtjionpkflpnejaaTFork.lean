
/-
  Contracts of Fork, Take and New (layer 10).
-/
import Derived.Test.YtjionpkflpnejaaTPut
import Derived.Deep.LoopGhost
namespace Go.Proofs.Ytjionpkflpnejaa
open Go.RowKit

theorem PM.new (w : World) (S : Nat → Prop) : PM (w.alloc (.map #[] 0)) w.heap.size S (fun _ => none) := ⟨#[], 0, heap_alloc_new w _, by simp, fun i => trivial⟩
/-- A copy of a map. -/
theorem PM.copy {w : World} {m : Nat} {S : Nat → Prop} {p : Nat → Option (List UInt8)} (h : PM w m S p) : ∃ es clock, w.heap[m]? = some (.map es clock) ∧ PM (w.alloc (.map es clock)) w.heap.size S p := by
  obtain ⟨es, c, h1, h2, h3⟩ := h
  refine ⟨es, c, h1, es, c, heap_alloc_new w _, h2, fun i => (h3 i).imp fun x b hb => hb.keep fun k _ hk => ?_⟩
  exact Below.heap_alloc w _ k hk

section
variable {w : World} {p m q mq : Nat} {x y : Sl} {S : Nat → Prop} {X Y : TX}
/-- Behind Fork. -/
def ForkQ (w : World) (x : Sl) (S : Nat → Prop) (X : TX) (e : Ending) (w' : World) : Prop := ∃ p' m', e = .returned (.pointer (some ⟨p', 0, none⟩)) ∧ Tq w' p' m' x S X ∧ Below w.heap.size w w' ∧ w.heap.size ≤ p' ∧ w.heap.size ≤ m'
end
end Go.Proofs.Ytjionpkflpnejaa
