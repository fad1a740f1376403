
/-
  Contracts of the document's answers for what is put: U32, U64, Bool, Opaque (as texts).
-/
import Derived.Test.YtjionpkflpnejaaRow4
import Derived.Deep.RegionWith
namespace Go.Proofs.Ytjionpkflpnejaa
open Go.RowKit

theorem txt_append (a b : List UInt8) : txt a ++ txt b = txt (a ++ b) := by
  apply ByteArray.ext
  simp [txt]

theorem txt_size (l : List UInt8) : (txt l).size = l.length := by simp [txt, ByteArray.size]
theorem txt_be (n x : Nat) : (txt (be n x)).size = n := by rw [txt_size, be_length]

theorem be4_bytes (x : Int) (h : 0 ≤ x) (h1 : x < 4294967296) : ∃ b3 b2 b1 b0 : UInt8, be 4 x.toNat = [b3, b2, b1, b0] ∧ x / 16777216 = (b3.toNat : Int) ∧ (x / 65536) % 256 = (b2.toNat : Int) ∧ (x / 256) % 256 = (b1.toNat : Int) ∧ x % 256 = (b0.toNat : Int) := by
  obtain ⟨y, rfl⟩ := Int.eq_ofNat_of_zero_le h
  refine ⟨_, _, _, _, rfl, ?_, ?_, ?_, ?_⟩
  · simp
    omega
  · simp
  · simp
  · simp

set_option maxRecDepth 100000 in
set_option maxHeartbeats 1000000 in
theorem refU32 (x : Int) (w : World) (h0 : 0 ≤ x) (h1 : x < 4294967296) :
    Calls Try.prog 25 #[.int .u32 x] w fun e w' => e = .returned (.string (txt (be 4 x.toNat))) ∧ Below w.heap.size w w' := by
  obtain ⟨b3, b2, b1, b0, hbe, e3, e2, e1, e0⟩ := be4_bytes x h0 h1
  have HBE := Lib.hid hbe
  clear hbe
  have v := run_convert_bs (w.alloc (.cells (bc [b3, b2, b1, b0]).toArray 5)) (some ⟨w.heap.size, 0, none⟩) 4 4 [b3, b2, b1, b0] (BS.of_block (heap_alloc_new w _))
  simp only [bc, List.map_cons, List.map_nil] at v
  go_enter Try.func25, Try.ntmps25
  go_wp2_with fail
  go_ret
  exact ⟨by rw [HBE.out]; rfl, (Below.refl _ _).alloc (Nat.le_refl _) _⟩

def hi32 (x : Nat) : Nat := x / 4294967296
def lo32 (x : Nat) : Nat := x % 4294967296
theorem be8_split (x : Nat) : be 4 (hi32 x) ++ be 4 (lo32 x) = be 8 x := by
  unfold hi32 lo32
  have e : ∀ k, k < 4 → UInt8.ofNat (x % 4294967296 / 2 ^ (8 * k)) = UInt8.ofNat (x / 2 ^ (8 * k)) := by
    intro k hk
    apply UInt8.toNat_inj.1
    have h : k = 0 ∨ k = 1 ∨ k = 2 ∨ k = 3 := by omega
    rcases h with rfl | rfl | rfl | rfl <;> simp <;> omega
  simp only [be, List.cons_append, List.nil_append, Nat.div_div_eq_div_mul]
  rw [e 3 (by omega), e 2 (by omega), e 1 (by omega), e 0 (by omega)]
theorem refU64 (x : Nat) (w : World) (h1 : x < 18446744073709551616) :
    Calls Try.prog 26 #[.int .u64 x] w fun e w' => e = .returned (.string (txt (be 8 x))) ∧ Below w.heap.size w w' := by
  have HS := Lib.hid (be8_split x)
  have HE1 : Hid (((x : Int) / 4294967296).toNat = hi32 x) := by show _ = x / 4294967296; omega
  have HE2 : Hid (((x : Int) % 4294967296).toNat = lo32 x) := by show _ = x % 4294967296; omega
  have hq0 : (x : Int) / 4294967296 < 4294967296 := by omega
  have H1 := Lib.hid h1
  clear h1
  go_enter Try.func26, Try.ntmps26
  go_wp2_with fail
  refine (refU32 _ w (by omega) (by omega)).mono ?_
  rw [HE1.out]
  rintro e w1 ⟨rfl, h1⟩
  have HB1 := Lib.hid h1
  clear h1
  go_wp2_with fail
  refine (refU32 _ w1 (by omega) (by omega)).mono ?_
  rw [HE2.out]
  rintro e w2 ⟨rfl, h2⟩
  have HB2 := Lib.hid (HB1.out.trans (h2.mono HB1.out.size))
  clear h2 HB1
  have z1 := txt_be 4 (hi32 x)
  have z2 := txt_be 4 (lo32 x)
  go_wp2_with fail
  go_ret
  refine ⟨?_, HB2.out⟩
  rw [← HS.out, ← txt_append]
  rfl

theorem refBool (b : Bool) (w : World) : Calls Try.prog 24 #[.bool b] w fun e w' => e = .returned (.string (txt (be 4 (b01 b)))) ∧ Below w.heap.size w w' := by
  cases b
  all_goals
    go_enter Try.func24, Try.ntmps24
    go_wp2_with fail
    refine (refU32 _ w (by omega) (by omega)).mono ?_
    rintro e w1 ⟨rfl, h1⟩
    have HB1 := Lib.hid h1
    clear h1
    generalize hl : be 4 (Int.toNat _) = l
    have HL := Lib.hid hl
    clear hl
    go_wp2_with fail
    go_ret
    refine ⟨?_, HB1.out⟩
    rw [← HL.out]
    rfl

end Go.Proofs.Ytjionpkflpnejaa
