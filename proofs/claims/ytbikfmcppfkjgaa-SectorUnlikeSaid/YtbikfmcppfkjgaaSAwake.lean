/-
  Contract of the document's example (layer 4): it holds, and leaves all memory that was there alone.
-/
import Derived.Test.YtbikfmcppfkjgaaSGetOk
namespace Go.Proofs.Ytbikfmcppfkjgaa
open Go.RowKit

def f0 : Fm := ⟨1, 0, 0, 2, 3, [97, 98]⟩
theorem f0_ok : f0.ok := ⟨by decide, by decide, by decide, by decide, by decide⟩
theorem BS.byte {w : World} {A : Option Addr} {n : Nat} {l : List UInt8} (h : BS w A n l) (hn : 0 < n) : ∃ b o, A = some ⟨b, o, none⟩ ∧ ∀ j, j < n → w.cell? ⟨b, o + j, none⟩ = some (.int .u8 ((l.getD j 0).toNat : Int)) := by
  obtain ⟨b, o, e, hc⟩ := h.2 hn
  have hl := h.1
  refine ⟨b, o, e, fun j hj => ?_⟩
  rw [hc j (by omega), List.getD_eq_getElem?_getD, List.getElem?_eq_getElem (by omega), Option.getD_some]

set_option maxRecDepth 100000 in
set_option maxHeartbeats 4000000 in
theorem awake_any (w : World) : Calls Try.prog 8 #[] w fun e w' => e = .returned (.bool true) ∧ Below w.heap.size w w' := by
  have kc := fun (w : World) (C : Array Value) (n c : Nat) => Lib.run_convert_bytes_const (P := Try.prog) w 24 5 C n c Try.underlying24 Try.underlying5
  go_enter Try.func8, Try.ntmps8
  go_wp2_with fail
  refine (put_ok f0 (some ⟨w.heap.size, 0, none⟩) 2 2 _ (BS.of_block (heap_alloc_new w _)) f0_ok).mono ?_
  rintro e w1 ⟨A1, c1, rfl, ho⟩
  have HW1 : Hid (Below w.heap.size w w1) := ((Below.refl w.heap.size w).alloc (Nat.le_refl _) _).trans (ho.2.mono (by simp))
  have HS1 := Lib.hid ho.bs
  have hc1 := ho.cap
  clear ho kc
  go_wp2_with fail
  refine (get_any A1 128 c1 _ w1 HS1.out hc1).mono ?_
  rintro e w2 ⟨B, n, cap, rfl, hb2, hw2⟩
  rw [(get_put f0 f0_ok).1, (get_put f0 f0_ok).2]
  rw [(get_put f0 f0_ok).2] at hb2
  have hn2 : n = 2 := hb2.1.symm
  subst hn2
  have HW2 := Lib.hid (HW1.out.trans (hw2.mono HW1.out.size))
  obtain ⟨b, o, rfl, hcell⟩ := (HS1.out.below hw2).byte (by omega)
  have h0 : w2.cell? ⟨b, o, none⟩ = some (.int .u8 1) := (hcell 0 (by omega)).trans (by rw [sealed_parts]; rfl)
  have h3 : w2.cell? ⟨b, o + 3, none⟩ = some (.int .u8 2) := (hcell 3 (by omega)).trans (by rw [sealed_parts]; rfl)
  have h11 : w2.cell? ⟨b, o + 11, none⟩ = some (.int .u8 2) := (hcell 11 (by omega)).trans (by rw [sealed_parts]; rfl)
  have h15 : w2.cell? ⟨b, o + 15, none⟩ = some (.int .u8 3) := (hcell 15 (by omega)).trans (by rw [sealed_parts]; rfl)
  have h16 : w2.cell? ⟨b, o + 16, none⟩ = some (.int .u8 97) := (hcell 16 (by omega)).trans (by rw [sealed_parts]; rfl)
  have h18 : w2.cell? ⟨b, o + 18, none⟩ = some (.int .u8 0) := (hcell 18 (by omega)).trans (by rw [sealed_parts]; rfl)
  have hblt : b < w2.heap.size := World.block_lt_of_cell? w2 _ h0
  have v := run_convert_bs (w2.alloc (.cells #[.int .i64 1, .int .i64 0, .int .i64 0, .int .u64 2, .int .u32 3, .slice B 2 cap] 26)) B 2 cap [97, 98] (hb2.alloc _)
  have ht : (txt [97, 98]).toList = [97, 98] := ByteArray.toList_mk _
  clear hcell hw2 hb2 HS1 HW1
  rw [show fv f0 B 2 cap = #[.int .i64 1, .int .i64 0, .int .i64 0, .int .u64 2, .int .u32 3, .slice B 2 cap] from rfl]
  go_wp2_with fail
  go_ret
  exact ⟨rfl, HW2.out.alloc HW2.out.size _⟩
end Go.Proofs.Ytbikfmcppfkjgaa
