/-
  A bit that is turned, plain (layer 12).
-/
import Derived.Test.YtnhokkdieijkhaaGreatDoorQ11
namespace Go.Proofs.YtnhokkdieijkhaaGreatDoor
namespace Bt
theorem has_zeros (l : List UInt8) (n i : Nat) : has (l ++ List.replicate n 0) i = has l i := by
  unfold has
  congr 2
  by_cases h : i / 8 < l.length
  · simp [List.getD_eq_getElem?_getD, List.getElem?_append_left h]
  · rw [List.getD_eq_getElem?_getD, List.getD_eq_getElem?_getD, List.getElem?_append_right (by omega), List.getElem?_eq_none (by omega : l.length ≤ i / 8), List.getElem?_replicate]
    split <;> rfl
theorem bit_high : ∀ r, r < 8 → Nat.testBit (128 >>> r) (7 - r) = true := by decide
theorem has_turn (l : List UInt8) (k : Nat) (v : UInt8) (h : k / 8 < l.length) (hv : v.toNat = (l.getD (k / 8) 0).toNat ^^^ (128 >>> (k % 8))) : has (l.set (k / 8) v) k = !has l k := by
  unfold has
  rw [List.getD_eq_getElem?_getD, List.getElem?_set_self h, Option.getD_some, hv, Nat.testBit_xor, bit_high _ (by omega)]
  simp
end Bt
end Go.Proofs.YtnhokkdieijkhaaGreatDoor
