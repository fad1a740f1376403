
/-
  Contracts of package dir's Add and Remove (layer 8).
-/
import Derived.Test.YtjionpkflpnejaaECat
namespace Go.Proofs.Ytjionpkflpnejaa
open Go.RowKit Go.Shelf

theorem own_le {w : World} {base : Nat} {e : TypeId} {A : Option Addr} {n c : Nat} {xs : List Value} (h : w.ownsRow base e 4 (.slice A n c) n xs) : n ≤ c ∧ c ≤ 9223372036854775807 := by
  rcases h.2 with ⟨h1, h2⟩ | ⟨g, cap, cur, h1, _, _, h2, h3, _⟩
  · injection h1 with _ _ h1
    omega
  · injection h1 with _ _ h1
    unfold maxLen at h3
    omega
/-- A slice of entries, and its error. -/
def EsQ (es : List En) (z : Int) (w : World) (en : Ending) (w' : World) : Prop := ∃ A n c, en = .returned (.tuple #[.slice A n c, .int .i64 z]) ∧ ES w' A n es ∧ (n ≤ c ∧ c ≤ 9223372036854775807) ∧ Below w.heap.size w w'
theorem EsQ.nil {w w' : World} {es : List En} {z : Int} (he : es = []) (hb : Below w.heap.size w w') : EsQ es z w (.returned (.tuple #[.slice none 0 0, .int .i64 z])) w' := by
  subst he
  exact ⟨none, 0, 0, rfl, ES.nil, ⟨Nat.le_refl _, Nat.zero_le _⟩, hb⟩

end Go.Proofs.Ytjionpkflpnejaa
