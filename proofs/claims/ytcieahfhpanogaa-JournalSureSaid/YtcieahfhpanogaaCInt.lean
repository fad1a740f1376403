/-
  The operations on numbers of 32 bits, as the walks write them, in the words of the plain facts.
-/
import Derived.Test.YtcieahfhpanogaaCMath
import Derived.Laws.BitsAllLaws
namespace Go.Proofs.Ytcieahfhpanogaa

theorem xor32 (a b : BitVec 32) : bits .xor .u32 (a.toNat : Int) (b.toNat : Int) = ((a ^^^ b).toNat : Int) := by
  rw [u32_xor_nat _ _ a.isLt b.isLt, BitVec.toNat_xor]
theorem shl32 (a : BitVec 32) (k : Nat) : (a.toNat : Int) * 2 ^ k % 4294967296 = ((a <<< k).toNat : Int) := by
  rw [BitVec.toNat_shiftLeft, Nat.shiftLeft_eq]
  simp
theorem shl1 (a : BitVec 32) : (a.toNat : Int) * (2 : Int) % (4294967296 : Int) = ((a <<< 1).toNat : Int) := by rw [← shl32 a 1]; simp
theorem up32 (b : UInt8) : (b.toNat : Int) * (16777216 : Int) % (4294967296 : Int) = ((up b).toNat : Int) := by
  have := b.toNat_lt
  unfold up
  simp
theorem not32 (a : BitVec 32) : 4294967295 - (a.toNat : Int) = ((~~~ a).toNat : Int) := by
  have := a.isLt
  rw [BitVec.toNat_not]
  omega
theorem not32x (a : BitVec 32) : bits .xor .u32 IntKind.u32.max (a.toNat : Int) = ((~~~ a).toNat : Int) := by
  have h : IntKind.u32.max = (((~~~ 0#32 : BitVec 32).toNat : Nat) : Int) := by decide +kernel
  rw [h, xor32]
  congr 2
theorem msb32 (a : BitVec 32) : a.msb = decide ((2147483648 : Int) ≤ (a.toNat : Int)) := by
  rw [BitVec.msb_eq_decide, decide_eq_decide]
  omega
theorem sh_hi (a : BitVec 32) (h : (2147483648 : Int) ≤ (a.toNat : Int)) : bits .xor .u32 ((a.toNat : Int) * 2 % 4294967296) 79764919 = ((sh a).toNat : Int) := by
  have h1 : a.msb = true := by rw [msb32]; simpa using h
  rw [shl1]
  unfold sh
  rw [h1, if_pos rfl]
  exact xor32 (a <<< 1) 79764919#32
theorem sh_lo (a : BitVec 32) (h : ¬ (2147483648 : Int) ≤ (a.toNat : Int)) : (a.toNat : Int) * 2 % 4294967296 = ((sh a).toNat : Int) := by
  have h1 : a.msb = false := by rw [msb32]; simpa using h
  rw [shl1]
  unfold sh
  rw [h1]
  simp
theorem xor_up (x : BitVec 32) (b : UInt8) : bits .xor .u32 (x.toNat : Int) ((b.toNat : Int) * (16777216 : Int)) = ((x ^^^ up b).toNat : Int) := by
  have h := b.toNat_lt
  have e := up32 b
  rw [show (b.toNat : Int) * (16777216 : Int) = ((up b).toNat : Int) by rw [← e]; omega, xor32]
end Go.Proofs.Ytcieahfhpanogaa
