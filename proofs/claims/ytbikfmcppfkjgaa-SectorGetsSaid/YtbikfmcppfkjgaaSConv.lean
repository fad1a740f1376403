/-
  []byte(s) of a text: new bytes.
-/
import Derived.Test.YtbikfmcppfkjgaaSAwake
import Derived.Lib.ConvBytes
namespace Go.Proofs.Ytbikfmcppfkjgaa
open Go.RowKit

theorem run_bytes_txt (w : World) (l : List UInt8) : ∃ c w', (convert 9 24 (.string (txt l))).run Try.prog w = .ok (.slice (some ⟨w.heap.size, 0, none⟩) l.length c) w' ∧ BS w' (some ⟨w.heap.size, 0, none⟩) l.length l ∧ Below w.heap.size w w' ∧ l.length ≤ c := by
  have hr := Lib.run_convert_string_bytes (P := Try.prog) w 9 24 5 (txt l) Try.underlying9 Try.underlying24 Try.underlying5
  rw [txt_size] at hr
  refine ⟨_, _, hr, ⟨rfl, fun _ => ⟨w.heap.size, 0, rfl, fun j hj => ?_⟩⟩, ⟨rfl, rfl, rfl, ?_, fun k hk => Lib.bytesWorld_at_old w _ _ k hk⟩, ?_⟩
  · rw [Nat.zero_add, Lib.bytesWorld_cell w _ _ j (by rw [txt_size]; exact hj)]
    simp [txt, hj]
  · rw [Lib.bytesWorld_size]
    omega
  · exact grownCap_ge _ _ _ _
end Go.Proofs.Ytbikfmcppfkjgaa
