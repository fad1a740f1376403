/-
  The walk of CrcBurst: what is sealed is right; with up to 32 bits on end changed it isn't: the law's function returns true for every input.
-/
import Derived.Test.YtlnnokjkohcdnaaCAwake
namespace Go.Proofs.Ytlnnokjkohcdnaa
open Go.RowKit

/-- Bytes in a block g of the call's own. -/
def Blk (w0 wr : World) (g : Nat) (l : List UInt8) : Prop :=
  Below w0.heap.size w0 wr ∧ w0.heap.size ≤ g ∧ ∃ cur : Array Value, wr.heap[g]? = some (.cells cur 5 (0, 0)) ∧ ∀ j (hj : j < l.length), cur[j]? = some (.int .u8 (l[j].toNat : Int))
theorem Blk.bs {w0 wr : World} {g : Nat} {l : List UInt8} (h : Blk w0 wr g l) : BS wr (some ⟨g, 0, none⟩) l.length l := by
  obtain ⟨_, _, cur, hg, hc⟩ := h
  refine ⟨rfl, fun _ => ⟨g, 0, rfl, fun j hj => ?_⟩⟩
  rw [Nat.zero_add, cell_of_row _ _ _ _ _ _ hg]
  exact hc j hj
theorem Blk.cell {w0 wr : World} {g : Nat} {l : List UInt8} (h : Blk w0 wr g l) (j : Nat) (hj : j < l.length) : wr.cell? ⟨g, j, none⟩ = some (.int .u8 (l[j].toNat : Int)) := by
  obtain ⟨_, _, cur, hg, hc⟩ := h
  rw [cell_of_row _ _ _ _ _ _ hg]
  exact hc j hj
theorem Blk.froz {w0 wr : World} {g : Nat} {l : List UInt8} (h : Blk w0 wr g l) (j : Nat) : wr.frozen? ⟨g, j, none⟩ = false := by
  obtain ⟨_, _, cur, hg, _⟩ := h
  simp [World.frozen?, hg]
theorem Blk.set {w0 wr : World} {g : Nat} {l : List UInt8} (h : Blk w0 wr g l) (j : Nat) (b : UInt8) (hj : j < l.length) : Blk w0 (wr.setCell ⟨g, j, none⟩ (.int .u8 (b.toNat : Int))) g (l.set j b) := by
  obtain ⟨hb, hg0, cur, hg, hc⟩ := h
  refine ⟨hb.setCell hg0 _, hg0, cur.setIfInBounds j (.int .u8 (b.toNat : Int)), ?_, fun i hi => ?_⟩
  · rw [setCell_eq_setRow _ _ _ _ _ _ _ hg, setRow_heap _ _ _ _ _ _ hg]
  · have hi' : i < l.length := by simpa using hi
    have hjc := hc j hj
    have hjs : j < cur.size := by
      rcases Nat.lt_or_ge j cur.size with h1 | h1
      · exact h1
      · rw [Array.getElem?_eq_none h1] at hjc; cases hjc
    rw [Array.getElem?_setIfInBounds]
    by_cases e : j = i
    · subst e
      simp [hjs]
    · rw [if_neg e, hc i hi', List.getElem_set_ne e]
theorem Own.blk {w w' : World} {A : Option Addr} {n c : Nat} {l : List UInt8} (h : Own w w' A n c l) (hn : 0 < n) (w0 : World) (h0 : Below w0.heap.size w0 w) : ∃ g, A = some ⟨g, 0, none⟩ ∧ Blk w0 w' g l := by
  have hl : l.length = n := h.bs.1
  rcases h.1.2 with ⟨h1, h2⟩ | ⟨g, cap, cur, h1, h2, h3, _⟩
  · omega
  · injection h1 with h4 _ h5
    subst h4
    refine ⟨g, rfl, h0.trans (h.2.mono h0.size), Nat.le_trans h0.size h2, cur, h3, fun j hj => ?_⟩
    rw [← cell_of_row w' g j cur _ _ h3]
    have := h.1.cells (g := g) rfl j _ (bc_get l j hj)
    rw [add_plain, Nat.zero_add] at this
    exact this
theorem Blk.below {w0 w1 w2 : World} {g : Nat} {l : List UInt8} (h : Blk w0 w1 g l) (hb : Below w1.heap.size w1 w2) : Blk w0 w2 g l := by
  obtain ⟨h0, hg0, cur, hg, hc⟩ := h
  refine ⟨h0.trans (hb.mono h0.size), hg0, cur, ?_, hc⟩
  rw [hb.block g ?_, hg]
  exact (Array.getElem?_eq_some_iff.1 hg).1
theorem flip_set (l : List UInt8) (j : Nat) (h : j / 8 < l.length) : flip l j = l.set (j / 8) (fl l[j / 8] (j % 8)) := by
  unfold flip
  apply List.ext_getElem?
  intro i
  rw [List.getElem?_modify, List.getElem?_set]
  by_cases e : j / 8 = i
  · subst e
    simp [h]
  · simp [e]

theorem fl_int (b : UInt8) (r : Nat) : bits .xor .u8 (b.toNat : Int) (128 / 2 ^ r) = ((fl b r).toNat : Int) := by
  have hb := b.toNat_lt
  have e : (128 : Int) / 2 ^ r = ((128 / 2 ^ r : Nat) : Int) := by rw [Int.natCast_ediv, Int.natCast_pow]; rfl
  have h1 : 128 / 2 ^ r < 256 := Nat.lt_of_le_of_lt (Nat.div_le_self _ _) (by omega)
  have h2 : b.toNat ^^^ 128 / 2 ^ r < 2 ^ 8 := Nat.xor_lt_two_pow (by omega) (by omega)
  rw [e, u8_xor_nat _ _ (by omega) h1]
  unfold fl
  rw [UInt8.toNat_ofNat', Nat.mod_eq_of_lt h2]
theorem bit_test (B j : Nat) (hB : B < 4294967296) : (bits .and .u32 ((B : Int) / 2 ^ j) 1 == 1) = B.testBit j := by
  have e : (B : Int) / 2 ^ j = ((B / 2 ^ j : Nat) : Int) := by rw [Int.natCast_ediv, Int.natCast_pow]; rfl
  have h1 : B / 2 ^ j < 4294967296 := Nat.lt_of_le_of_lt (Nat.div_le_self _ _) hB
  have h2 := u32_and_nat (B / 2 ^ j) 1 h1 (by omega)
  rw [e, show (1 : Int) = ((1 : Nat) : Int) from rfl, h2, Nat.and_one_is_mod, Nat.testBit_eq_decide_div_mod_eq, Bool.eq_iff_iff]
  simp
  omega

set_option maxRecDepth 100000 in
set_option maxHeartbeats 4000000 in
theorem burst_walk (A : Option Addr) (n c : Nat) (l : List UInt8) (m B : Nat) (w : World) (hb : BS w A n l) (hm : m ≤ 65535) (hB : B < 4294967296) :
    Calls Try.prog 4 #[.slice A n c, .int .u16 (m : Int), .int .u32 (B : Int)] w fun e w' => e = .returned (.bool true) ∧ Below w.heap.size w w' := by
  have HA := Lib.hid (awake_any w)
  have HB := Lib.hid hb
  have Hn : Hid (l.length = n) := hb.1
  clear hb
  by_cases h300 : 300 < n
  · go_enter Try.func4, Try.ntmps4
    have hd : decide ((300 : Int) < (n : Int)) = true := by simp; omega
    go_wp2_with fail
    refine HA.out.mono ?_
    rintro e w1 ⟨rfl, hw1⟩
    have HW1 := Lib.hid hw1
    clear hw1
    go_wp2_with fail
    go_ret
    exact ⟨rfl, HW1.out⟩
  · by_cases hB0 : B = 0
    · subst hB0
      go_enter Try.func4, Try.ntmps4
      have hd : decide ((300 : Int) < (n : Int)) = false := by simp; omega
      go_wp2_with fail
      refine HA.out.mono ?_
      rintro e w1 ⟨rfl, hw1⟩
      have HW1 := Lib.hid hw1
      clear hw1
      go_wp2_with fail
      refine (sealed_any A n c l w1 (HB.out.below HW1.out) (by omega)).mono ?_
      rintro e w2 ⟨A2, c2, rfl, ho⟩
      have HW2 := Lib.hid (HW1.out.trans (ho.2.mono HW1.out.size))
      have HS := Lib.hid ho.bs
      have hc2 := ho.cap
      clear ho HW1
      go_wp2_with fail
      refine (right_any A2 (n + 4) c2 (sealed l) w2 HS.out (by omega) hc2).mono ?_
      rw [right_sealed]
      rintro e w3 ⟨rfl, hb3⟩
      have HW3 := Lib.hid (HW2.out.trans (hb3.mono HW2.out.size))
      clear hb3 HW2
      go_wp2_with fail
      go_ret
      exact ⟨rfl, HW3.out⟩
    · go_enter Try.func4, Try.ntmps4
      have hd : decide ((300 : Int) < (n : Int)) = false := by simp; omega
      have hd0 : ((B : Int) == 0) = false := by simp; omega
      go_wp2_with fail
      refine HA.out.mono ?_
      rintro e w1 ⟨rfl, hw1⟩
      have HW1 := Lib.hid hw1
      clear hw1
      go_wp2_with fail
      refine (sealed_any A n c l w1 (HB.out.below HW1.out) (by omega)).mono ?_
      rintro e w2 ⟨A2, c2, rfl, ho⟩
      obtain ⟨g, rfl, hblk⟩ := ho.blk (by omega) w HW1.out
      have HK := Lib.hid hblk
      have HS := Lib.hid ho.bs
      have hc2 := ho.cap
      clear ho HW1 hblk
      go_wp2_with fail
      refine (right_any (some ⟨g, 0, none⟩) (n + 4) c2 (sealed l) w2 HS.out (by omega) hc2).mono ?_
      rw [right_sealed]
      rintro e w3 ⟨rfl, hb3⟩
      have HK3 := Lib.hid (HK.out.below hb3)
      clear hb3 HK HS
      have Hk : Hid ((m : Int) % (8 * ((n : Int) + 4) - 31) = ((m % (8 * (n + 4) - 31) : Nat) : Int)) := by
        show _ = _
        rw [Int.natCast_emod, show ((8 * (n + 4) - 31 : Nat) : Int) = 8 * ((n : Int) + 4) - 31 by omega]
      have hk : m % (8 * (n + 4) - 31) < 8 * (n + 4) - 31 := Nat.mod_lt _ (by omega)
      go_wp2_with fail
      rw [Hk.out]
      generalize m % (8 * (n + 4) - 31) = k at *
      have HL : Hid (∀ i, (burst (sealed l) k B i).length = n + 4) := fun i => by rw [burst_length, sealed_length, Hn.out]
      have HF : Hid (right (burst (sealed l) k B 32) = false) := burst_wrong _ _ _ (right_sealed l) (by rw [sealed_length, Hn.out]; omega) hB0 hB
      go_loopw [11] (fun i wr => ∃ j : Nat, j ≤ 32 ∧ i = .int .i64 j ∧ Hid (Blk w wr g (burst (sealed l) k B j))) (fun i _ => 32 - (intOf i).toNat)
      case atStart => exact ⟨0, by omega, rfl, HK3⟩
      case round =>
        clear HK3
        obtain ⟨j, hj, rfl, HK3⟩ := hrel
        by_cases hlt : j < 32
        · have hdj : decide ((j : Int) < 32) = true := by simp; omega
          have hq : (k + j) / 8 < n + 4 := by omega
          have hl := HL.out j
          by_cases hbit : B.testBit j = true
          · have htb : (bits .and .u32 ((B : Int) / 2 ^ j) 1 == 1) = true := by rw [bit_test B j hB]; exact hbit
            have hcell := HK3.out.cell ((k + j) / 8) (by omega)
            have hfroz := HK3.out.froz ((k + j) / 8)
            have HE : Hid (burst (sealed l) k B (j + 1) = (burst (sealed l) k B j).set ((k + j) / 8) (fl (burst (sealed l) k B j)[(k + j) / 8] ((k + j) % 8))) := by
              show _ = _
              rw [burst, if_pos hbit, flip_set _ _ (by omega)]
            have HK4 := Lib.hid (HK3.out.set ((k + j) / 8) (fl (burst (sealed l) k B j)[(k + j) / 8] ((k + j) % 8)) (by omega))
            generalize (burst (sealed l) k B j)[(k + j) / 8] = by0 at *
            clear hl hbit
            have HX := Lib.hid (fl_int by0 ((k + j) % 8))
            go_wp2_with fail
            refine ⟨⟨j + 1, by omega, by go_num, ?_⟩, by simp [intOf]; omega⟩
            rw [HX.out, HE.out]
            exact HK4
          · have htb : (bits .and .u32 ((B : Int) / 2 ^ j) 1 == 1) = false := by rw [bit_test B j hB]; simpa using hbit
            have HE : Hid (burst (sealed l) k B (j + 1) = burst (sealed l) k B j) := by
              show _ = _
              rw [burst, if_neg hbit]
            clear hl hbit
            go_wp2_with fail
            refine ⟨⟨j + 1, by omega, by go_num, ?_⟩, by simp [intOf]; omega⟩
            rw [HE.out]
            exact HK3
        · have Hj : Hid (j = 32) := by show _ = _; omega
          have hdj : decide ((j : Int) < 32) = false := by simp; omega
          rw [Hj.out] at HK3
          have HS : Hid (BS wr (some ⟨g, 0, none⟩) (n + 4) (burst (sealed l) k B 32)) := by
            have := HK3.out.bs
            rw [HL.out 32] at this
            exact this
          go_wp2_with fail
          refine (right_any (some ⟨g, 0, none⟩) (n + 4) c2 _ wr HS.out (by omega) hc2).mono ?_
          rw [HF.out]
          rintro e w5 ⟨rfl, hb5⟩
          have HW5 := Lib.hid (HK3.out.1.trans (hb5.mono HK3.out.1.size))
          clear hb5
          go_wp2_with fail
          go_ret
          exact ⟨rfl, HW5.out⟩
end Go.Proofs.Ytlnnokjkohcdnaa
