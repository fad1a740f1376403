/-
  Contract of the document's answer for a number's eight bytes (it stands in xdr's XRef too).
-/
import Derived.Test.YtbikfmcppfkjgaaCRef
namespace Go.Proofs.Ytbikfmcppfkjgaa
open Go.RowKit

def hi32 (x : Nat) : Nat := x / 4294967296
def lo32 (x : Nat) : Nat := x % 4294967296
theorem be8_split (x : Nat) : be 4 (hi32 x) ++ be 4 (lo32 x) = be 8 x := by
  unfold hi32 lo32
  have e : ∀ k, k < 4 → UInt8.ofNat (x % 4294967296 / 2 ^ (8 * k)) = UInt8.ofNat (x / 2 ^ (8 * k)) := by
    intro k hk
    apply UInt8.toNat_inj.1
    have h : k = 0 ∨ k = 1 ∨ k = 2 ∨ k = 3 := by omega
    rcases h with rfl | rfl | rfl | rfl <;> simp <;> omega
  simp only [be, List.cons_append, List.nil_append, Nat.div_div_eq_div_mul]
  rw [e 3 (by omega), e 2 (by omega), e 1 (by omega), e 0 (by omega)]
theorem refU64 (x : Nat) (w : World) (h1 : x < 18446744073709551616) :
    Calls Try.prog 19 #[.int .u64 x] w fun e w' => e = .returned (.string (txt (be 8 x))) ∧ Below w.heap.size w w' := by
  have HS := Lib.hid (be8_split x)
  have HE1 : Hid (((x : Int) / 4294967296).toNat = hi32 x) := by show _ = x / 4294967296; omega
  have HE2 : Hid (((x : Int) % 4294967296).toNat = lo32 x) := by show _ = x % 4294967296; omega
  have hq0 : (x : Int) / 4294967296 < 4294967296 := by omega
  have H1 := Lib.hid h1
  clear h1
  go_enter Try.func19, Try.ntmps19
  go_wp2_with fail
  refine (refU32 _ w (by omega) (by omega)).mono ?_
  rw [HE1.out]
  rintro e w1 ⟨rfl, h1⟩
  have HB1 := Lib.hid h1
  clear h1
  go_wp2_with fail
  refine (refU32 _ w1 (by omega) (by omega)).mono ?_
  rw [HE2.out]
  rintro e w2 ⟨rfl, h2⟩
  have HB2 := Lib.hid (HB1.out.trans (h2.mono HB1.out.size))
  clear h2 HB1
  have z1 := txt_be 4 (hi32 x)
  have z2 := txt_be 4 (lo32 x)
  go_wp2_with fail
  go_ret
  refine ⟨?_, HB2.out⟩
  rw [← HS.out, ← txt_append]
  rfl
end Go.Proofs.Ytbikfmcppfkjgaa
