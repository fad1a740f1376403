
/-
  Contract of the document's example: it holds, and leaves all memory that was there alone.
-/
import Derived.Test.YtjionpkflpnejaaReader2
import Derived.Lib.SlBytesConst
import Derived.Lib.SlBytesRow
namespace Go.Proofs.Ytjionpkflpnejaa
open Go.RowKit

theorem newWriter_op (w : World) : Calls Try.prog 19 #[] w fun e w' => ∃ p, e = .returned (.pointer (some ⟨p, 0, none⟩)) ∧ Wr (· < w.heap.size) w' p [] ∧ Below w.heap.size w w' :=
  (newWriter_any w).mono fun _ _ ⟨h1, h2⟩ => ⟨w.heap.size, h1, h2 ▸ newWriter_wr w _ (fun _ h => h), h2 ▸ (Below.refl _ _).alloc (Nat.le_refl _) _⟩

/-- A block of bytes that is known whole reads as bytes. -/
theorem BS.of_block {w : World} {g : Nat} {l : List UInt8} {t : TypeId} {fr : Nat × Nat} (h : w.heap[g]? = some (.cells (bc l).toArray t fr)) : BS w (some ⟨g, 0, none⟩) l.length l :=
  ⟨rfl, fun _ => ⟨g, 0, rfl, fun j hj => by
    rw [Nat.zero_add, cell_of_row w g j _ _ _ h]
    simp [bc_get l j hj]⟩⟩

/-- A text of bytes. -/
def txt (l : List UInt8) : ByteArray := ⟨l.toArray⟩
/-- string(b): the bytes as a text. -/
theorem run_convert_bs (w : World) (A : Option Addr) (n c : Nat) (l : List UInt8) (h : BS w A n l) : (convert 27 9 (.slice A n c)).run Try.prog w = .ok (.string (txt l)) w := by
  rcases A with _ | ad
  · have hn : n = 0 := by
      rcases Nat.eq_zero_or_pos n with h0 | h0
      · exact h0
      · obtain ⟨b, o, h, _⟩ := h.2 h0
        cases h
    subst hn
    have hl : l = [] := List.eq_nil_of_length_eq_zero h.1
    subst hl
    exact run_convert_bytes_nil w 27 5 Try.underlying27 Try.underlying5 0 c 9 Try.underlying9
  · have hl : (loadCells ad n).run Try.prog w = .ok ((l.map fun b => (b.toNat : Int)).map (Value.int .u8)).toArray w := by
      have := run_loadCells_list (P := Try.prog) w ad (bc l) (h.news rfl)
      rw [bc_length, h.1] at this
      rw [this, List.map_map]
      rfl
    rw [run_convert_bytes_string w 27 9 5 _ n c Try.underlying27 Try.underlying5 Try.underlying9, run_bytesToString w _ n c _ hl, foldl_push_byteCells]
    simp [txt, ByteArray.empty, ByteArray.emptyWithCapacity]
    rfl

/-- The example's bytes. -/
def L0 : List UInt8 := [0, 0, 0, 2, 97, 98, 0, 0, 0, 0, 0, 7, 0, 0, 0, 1]
theorem L0_eq : [] ++ opq [97, 98] ++ be 4 (Int.toNat 7) ++ be 4 (b01 true) = L0 := by decide +kernel
theorem L0_len : L0.length = 16 := rfl
def L1 : List UInt8 := [0, 0, 0, 7, 0, 0, 0, 1]
def L2 : List UInt8 := [0, 0, 0, 1]
theorem rd1 : rdO 2 (L0, 0) = ((L1, 0), [97, 98]) := by decide +kernel
theorem rd2 : rdN 4 (L1, 0) = ((L2, 0), 7) := by decide +kernel
theorem rd3 : rdB (L2, 0) = (([], 0), true) := by decide +kernel
theorem rd4 : endOf [] 0 = 0 := rfl

end Go.Proofs.Ytjionpkflpnejaa
