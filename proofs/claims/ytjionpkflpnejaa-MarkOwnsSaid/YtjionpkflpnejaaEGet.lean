
/-
  Contract of package dir's Get (layer 8).
-/
import Derived.Test.YtjionpkflpnejaaEAfter
namespace Go.Proofs.Ytjionpkflpnejaa
open Go.RowKit Go.Shelf

theorem encs_min (es : List En) : 20 * es.length ≤ (encs es).length := by
  induction es with
  | nil => exact Nat.zero_le _
  | cons e r ih =>
    rw [encs_cons, List.length_append, enc1_length, List.length_cons]
    omega
theorem Rd.blk {w : World} {q : Nat} {l : List UInt8} {e : Int} (h : Rd w q l e) : ∃ cs, w.heap[q]? = some (.cells cs 91 (0, 0)) := by
  obtain ⟨A, c, h⟩ := h
  exact ⟨_, h.1⟩
theorem own_type {w : World} {base : Nat} {t : TypeId} {v : Value} {n : Nat} {xs : List Value} (h : w.ownsRow base t 4 v n xs) {g : Nat} {cs : Array Value} {u : TypeId} {fr : Nat × Nat} (hg : w.heap[g]? = some (.cells cs u fr)) (ht : u ≠ t) : v.ownBlock ≠ some g := by
  intro he
  rcases h.2 with ⟨h1, _⟩ | ⟨g', cap', cur', h1, _, h2, _⟩
  · rw [h1] at he; cases he
  · rw [h1] at he
    obtain rfl : g' = g := by simpa [Value.ownBlock] using he
    rw [hg] at h2
    injection h2 with h2
    injection h2 with _ h2 _
    exact ht h2
theorem EB.set {w : World} {g : Nat} {t : TypeId} {e e' : En} (h : EB w g t e) (k : Nat) (v : Value) (he : (ec e').toArray = (ec e).toArray.setIfInBounds k v) : EB (w.setCell ⟨g, k, none⟩ v) g t e' := by
  unfold EB
  rw [setCell_eq_setRow _ _ _ _ _ _ _ h, setRow_heap _ _ _ _ _ _ h, he]
section
variable {w W W' : World} {q g : Nat} {s s' : List UInt8} {er er' : Int} {es : List En} {A : Option Addr} {c : Nat} {e e' : En}
end

end Go.Proofs.Ytjionpkflpnejaa
