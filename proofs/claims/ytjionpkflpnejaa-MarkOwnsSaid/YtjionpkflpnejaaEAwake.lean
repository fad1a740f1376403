
/-
  Contract of the document's example (layer 8): it holds, and leaves all memory that was there alone.
-/
import Derived.Test.YtjionpkflpnejaaEGet
namespace Go.Proofs.Ytjionpkflpnejaa
open Go.RowKit Go.Shelf

def eA : En := ⟨1, 0, 0, [97]⟩
def eB : En := ⟨2, 0, 0, [98]⟩
def eC : En := ⟨3, 0, 0, [99]⟩
def eD : En := ⟨3, 0, 0, [100]⟩
def es0 : List En := [eA, eB, eC]
theorem es0_wide : ∀ x ∈ es0, x.Wide := by
  intro x hx
  simp only [es0, List.mem_cons, List.not_mem_nil, or_false] at hx
  rcases hx with rfl | rfl | rfl <;> exact ⟨by decide, by decide, by decide⟩
theorem es0_ok : okB es0 = true := by decide +kernel
theorem es0_len : (putE es0).length = 72 := by decide +kernel
theorem es0_aft : aftL es0 1 1 = [eB] ∧ aftB es0 1 1 = false := by decide +kernel
theorem es0_rem : remE es0 [98] = 0 ∧ remL es0 [98] = [eA, eC] := by decide +kernel
theorem es0_add : addE [eA, eC] eD = 70 := by decide +kernel
theorem es0_addL : addL [eA, eC] eD = [] := by decide +kernel
theorem es0_fnd : fnd es0 [99] = 2 := by decide +kernel
theorem dots : nameE [46, 46] = 67 := by decide +kernel
/-- A block that holds entries. -/
theorem es_block {w : World} {g : Nat} {t : TypeId} {es : List En} (h : w.heap[g]? = some (.cells (ecs es).toArray t (0, 0))) : ES w (some ⟨g, 0, none⟩) es.length es :=
  ⟨rfl, fun _ => ⟨g, 0, rfl, fun j hj i v hv => by
    rw [cell_of_row w g _ _ _ _ h, Nat.zero_add]
    simpa using ecs_get es j hj i v hv⟩⟩

end Go.Proofs.Ytjionpkflpnejaa
