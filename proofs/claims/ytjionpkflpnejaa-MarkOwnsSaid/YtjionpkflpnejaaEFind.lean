
/-
  Contracts of slices.IndexFunc at entries, and of package dir's Find and lastCookie (layer 8).
-/
import Derived.Test.YtjionpkflpnejaaEMem
import Derived.Deep.LoopGhost
import Derived.Shelf.Abstract
namespace Go.Proofs.Ytjionpkflpnejaa
open Go.RowKit Go.Shelf

/-- The first place at which p holds, or -1. -/
def fndP (p : En → Bool) (es : List En) : Int := if es.findIdx p < es.length then (es.findIdx p : Int) else -1
theorem fnd_eq (es : List En) (nm : List UInt8) : fnd es nm = fndP (fun e => e.nm == nm) es := rfl
theorem fndP_hit (p : En → Bool) (es : List En) (k : Nat) (hk : k < es.length) (hp : p es[k] = true) (hno : ∀ j, (h : j < es.length) → j < k → p es[j] = false) : fndP p es = (k : Int) := by
  have h : es.findIdx p = k := by
    rw [List.findIdx_eq hk]
    exact ⟨hp, fun j hj => hno j (by omega) hj⟩
  unfold fndP
  rw [h, if_pos hk]
theorem fndP_miss (p : En → Bool) (es : List En) (hno : ∀ j, (h : j < es.length) → p es[j] = false) : fndP p es = -1 := by
  unfold fndP
  rw [if_neg]
  intro h
  have := List.findIdx_getElem (w := h)
  rw [hno _ h] at this
  cases this

theorem lastCk_nil : lastCk [] = 0 := rfl
theorem lastCk_pos (es : List En) (h : 0 < es.length) : lastCk es = (es[es.length - 1]'(by omega)).ck := by
  unfold lastCk lastAt
  rw [if_neg (by omega), List.getD_eq_getElem?_getD, List.getElem?_eq_getElem (by omega)]
  rfl
end Go.Proofs.Ytjionpkflpnejaa
