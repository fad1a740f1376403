/-
  Bytes in a block of the call's own that is written in place; bits of bytes (these words stand in crc's XCBurst too).
-/
import Derived.Test.YtbikfmcppfkjgaaSAwake
namespace Go.Proofs.Ytbikfmcppfkjgaa
open Go.RowKit

/-- Bytes in a block g of the call's own. -/
def Blk (w0 wr : World) (g : Nat) (l : List UInt8) : Prop :=
  Below w0.heap.size w0 wr ∧ w0.heap.size ≤ g ∧ ∃ cur : Array Value, wr.heap[g]? = some (.cells cur 5 (0, 0)) ∧ ∀ j (hj : j < l.length), cur[j]? = some (.int .u8 (l[j].toNat : Int))
theorem Blk.bs {w0 wr : World} {g : Nat} {l : List UInt8} (h : Blk w0 wr g l) : BS wr (some ⟨g, 0, none⟩) l.length l := by
  obtain ⟨_, _, cur, hg, hc⟩ := h
  refine ⟨rfl, fun _ => ⟨g, 0, rfl, fun j hj => ?_⟩⟩
  rw [Nat.zero_add, cell_of_row _ _ _ _ _ _ hg]
  exact hc j hj
theorem Blk.cell {w0 wr : World} {g : Nat} {l : List UInt8} (h : Blk w0 wr g l) (j : Nat) (hj : j < l.length) : wr.cell? ⟨g, j, none⟩ = some (.int .u8 (l[j].toNat : Int)) := by
  obtain ⟨_, _, cur, hg, hc⟩ := h
  rw [cell_of_row _ _ _ _ _ _ hg]
  exact hc j hj
theorem Blk.froz {w0 wr : World} {g : Nat} {l : List UInt8} (h : Blk w0 wr g l) (j : Nat) : wr.frozen? ⟨g, j, none⟩ = false := by
  obtain ⟨_, _, cur, hg, _⟩ := h
  simp [World.frozen?, hg]
theorem Blk.set {w0 wr : World} {g : Nat} {l : List UInt8} (h : Blk w0 wr g l) (j : Nat) (b : UInt8) (hj : j < l.length) : Blk w0 (wr.setCell ⟨g, j, none⟩ (.int .u8 (b.toNat : Int))) g (l.set j b) := by
  obtain ⟨hb, hg0, cur, hg, hc⟩ := h
  refine ⟨hb.setCell hg0 _, hg0, cur.setIfInBounds j (.int .u8 (b.toNat : Int)), ?_, fun i hi => ?_⟩
  · rw [setCell_eq_setRow _ _ _ _ _ _ _ hg, setRow_heap _ _ _ _ _ _ hg]
  · have hi' : i < l.length := by simpa using hi
    have hjc := hc j hj
    have hjs : j < cur.size := by
      rcases Nat.lt_or_ge j cur.size with h1 | h1
      · exact h1
      · rw [Array.getElem?_eq_none h1] at hjc; cases hjc
    rw [Array.getElem?_setIfInBounds]
    by_cases e : j = i
    · subst e
      simp [hjs]
    · rw [if_neg e, hc i hi', List.getElem_set_ne e]
theorem Own.blk {w w' : World} {A : Option Addr} {n c : Nat} {l : List UInt8} (h : Own w w' A n c l) (hn : 0 < n) (w0 : World) (h0 : Below w0.heap.size w0 w) : ∃ g, A = some ⟨g, 0, none⟩ ∧ Blk w0 w' g l := by
  have hl : l.length = n := h.bs.1
  rcases h.1.2 with ⟨h1, h2⟩ | ⟨g, cap, cur, h1, h2, h3, _⟩
  · omega
  · injection h1 with h4 _ h5
    subst h4
    refine ⟨g, rfl, h0.trans (h.2.mono h0.size), Nat.le_trans h0.size h2, cur, h3, fun j hj => ?_⟩
    rw [← cell_of_row w' g j cur _ _ h3]
    have := h.1.cells (g := g) rfl j _ (bc_get l j hj)
    rw [add_plain, Nat.zero_add] at this
    exact this
theorem Blk.below {w0 w1 w2 : World} {g : Nat} {l : List UInt8} (h : Blk w0 w1 g l) (hb : Below w1.heap.size w1 w2) : Blk w0 w2 g l := by
  obtain ⟨h0, hg0, cur, hg, hc⟩ := h
  refine ⟨h0.trans (hb.mono h0.size), hg0, cur, ?_, hc⟩
  rw [hb.block g ?_, hg]
  exact (Array.getElem?_eq_some_iff.1 hg).1
theorem flip_set (l : List UInt8) (j : Nat) (h : j / 8 < l.length) : flip l j = l.set (j / 8) (fl l[j / 8] (j % 8)) := by
  unfold flip
  apply List.ext_getElem?
  intro i
  rw [List.getElem?_modify, List.getElem?_set]
  by_cases e : j / 8 = i
  · subst e
    simp [h]
  · simp [e]

theorem fl_int (b : UInt8) (r : Nat) : bits .xor .u8 (b.toNat : Int) (128 / 2 ^ r) = ((fl b r).toNat : Int) := by
  have hb := b.toNat_lt
  have e : (128 : Int) / 2 ^ r = ((128 / 2 ^ r : Nat) : Int) := by rw [Int.natCast_ediv, Int.natCast_pow]; rfl
  have h1 : 128 / 2 ^ r < 256 := Nat.lt_of_le_of_lt (Nat.div_le_self _ _) (by omega)
  have h2 : b.toNat ^^^ 128 / 2 ^ r < 2 ^ 8 := Nat.xor_lt_two_pow (by omega) (by omega)
  rw [e, u8_xor_nat _ _ (by omega) h1]
  unfold fl
  rw [UInt8.toNat_ofNat', Nat.mod_eq_of_lt h2]
theorem bit_test (B j : Nat) (hB : B < 4294967296) : (bits .and .u32 ((B : Int) / 2 ^ j) 1 == 1) = B.testBit j := by
  have e : (B : Int) / 2 ^ j = ((B / 2 ^ j : Nat) : Int) := by rw [Int.natCast_ediv, Int.natCast_pow]; rfl
  have h1 : B / 2 ^ j < 4294967296 := Nat.lt_of_le_of_lt (Nat.div_le_self _ _) hB
  have h2 := u32_and_nat (B / 2 ^ j) 1 h1 (by omega)
  rw [e, show (1 : Int) = ((1 : Nat) : Int) from rfl, h2, Nat.and_one_is_mod, Nat.testBit_eq_decide_div_mod_eq, Bool.eq_iff_iff]
  simp
  omega

theorem burst_zero (l : List UInt8) (k i : Nat) : burst l k 0 i = l := by
  induction i with
  | zero => rfl
  | succ i ih => rw [burst, if_neg (by simp), ih]
end Go.Proofs.Ytbikfmcppfkjgaa
