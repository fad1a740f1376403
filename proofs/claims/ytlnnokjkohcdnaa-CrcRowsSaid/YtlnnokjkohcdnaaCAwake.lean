/-
  Contract of the document's example: it holds, and leaves all memory that was there alone.
-/
import Derived.Test.YtlnnokjkohcdnaaCRight
namespace Go.Proofs.Ytlnnokjkohcdnaa
open Go.RowKit

def t9 : List UInt8 := [49, 50, 51, 52, 53, 54, 55, 56, 57]
def t3 : List UInt8 := [49, 50, 51]
def t6 : List UInt8 := [52, 53, 54, 55, 56, 57]
theorem sum9 : ((sum t9).toNat : Int) = 4236843288 := by decide +kernel
theorem sum36 : ((more (sum t3) t6).toNat : Int) = 4236843288 := by decide +kernel
theorem right_abcd : right [97, 98, 99, 100] = false := by decide +kernel

set_option maxRecDepth 100000 in
set_option maxHeartbeats 2000000 in
theorem awake_any (w : World) : Calls Try.prog 8 #[] w fun e w' => e = .returned (.bool true) ∧ Below w.heap.size w w' := by
  have kc := fun (w : World) (C : Array Value) (n c : Nat) => Lib.run_convert_bytes_const (P := Try.prog) w 23 5 C n c Try.underlying23 Try.underlying5
  go_enter Try.func8, Try.ntmps8
  go_wp2_with fail
  refine (of_any (some ⟨w.heap.size, 0, none⟩) 9 9 t9 _ (BS.of_block (heap_alloc_new w _)) (by omega)).mono ?_
  rintro e w1 ⟨rfl, hb⟩
  rw [sum9]
  have H1 := Lib.hid (((Below.refl w.heap.size w).alloc (Nat.le_refl _) _).trans (hb.mono (by simp)))
  clear hb
  go_wp2_with fail
  refine (of_any (some ⟨w1.heap.size, 0, none⟩) 3 3 t3 _ (BS.of_block (heap_alloc_new w1 _)) (by omega)).mono ?_
  rintro e w2 ⟨rfl, hb⟩
  have H2 := Lib.hid ((H1.out.alloc H1.out.size _).trans (hb.mono (by simp; have := H1.out.size; omega)))
  clear hb H1
  have hs3 := (sum t3).isLt
  go_wp2_with fail
  refine (more_any (sum t3) (some ⟨w2.heap.size, 0, none⟩) 6 6 t6 _ (BS.of_block (heap_alloc_new w2 _)) (by omega)).mono ?_
  rintro e w3 ⟨rfl, hb⟩
  rw [sum36]
  have H3 := Lib.hid ((H2.out.alloc H2.out.size _).trans (hb.mono (by simp; have := H2.out.size; omega)))
  clear hb H2
  go_wp2_with fail
  refine (sealed_any (some ⟨w3.heap.size, 0, none⟩) 1 1 [120] _ (BS.of_block (heap_alloc_new w3 _)) (by omega)).mono ?_
  rintro e w4 ⟨A4, c4, rfl, ho⟩
  have H4 := Lib.hid ((H3.out.alloc H3.out.size _).trans (ho.2.mono (by simp; have := H3.out.size; omega)))
  have HS := Lib.hid ho.bs
  have hc4 := ho.cap
  clear ho H3
  go_wp2_with fail
  refine (right_any A4 5 c4 (sealed [120]) w4 HS.out (by omega) hc4).mono ?_
  rw [right_sealed]
  rintro e w5 ⟨rfl, hb⟩
  have H5 := Lib.hid (H4.out.trans (hb.mono H4.out.size))
  clear hb H4 HS hc4
  go_wp2_with fail
  refine (right_any (some ⟨w5.heap.size, 0, none⟩) 4 4 [97, 98, 99, 100] _ (BS.of_block (heap_alloc_new w5 _)) (by omega) (by omega)).mono ?_
  rw [right_abcd]
  rintro e w6 ⟨rfl, hb⟩
  have H6 := Lib.hid ((H5.out.alloc H5.out.size _).trans (hb.mono (by simp; have := H5.out.size; omega)))
  clear hb H5
  go_wp2_with fail
  go_ret
  exact ⟨rfl, H6.out⟩
end Go.Proofs.Ytlnnokjkohcdnaa
