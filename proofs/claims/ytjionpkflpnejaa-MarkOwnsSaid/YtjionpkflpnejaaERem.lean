
/-
  Contract of package dir's Remove (layer 8).
-/
import Derived.Test.YtjionpkflpnejaaEAdd
namespace Go.Proofs.Ytjionpkflpnejaa
open Go.RowKit Go.Shelf

theorem fnd_range (es : List En) (nm : List UInt8) : fnd es nm < 0 ∨ ∃ k : Nat, fnd es nm = (k : Int) ∧ k < es.length := by
  unfold fnd
  split
  · rename_i h
    exact .inr ⟨_, rfl, h⟩
  · exact .inl (by omega)
/-- What lies behind place k, whatever the capacity. -/
theorem ES.behind {w : World} {b o n c : Nat} {es : List En} (h : ES w (some ⟨b, o, none⟩) n es) (k : Nat) (hk : k ≤ n) (hc : n ≤ c) : ∃ A', (if c = k then some (⟨b, o, none⟩ : Addr) else some ⟨b, o + k * 4, none⟩) = A' ∧ ES w A' (n - k) (es.drop k) := by
  have hd := h.drop hk hc
  refine ⟨_, rfl, ?_⟩
  split
  · rename_i h1
    rw [if_pos h1] at hd
    exact hd
  · rename_i h1
    rw [if_neg h1] at hd
    simp only [Option.map_some, add_plain] at hd
    exact hd

end Go.Proofs.Ytjionpkflpnejaa
