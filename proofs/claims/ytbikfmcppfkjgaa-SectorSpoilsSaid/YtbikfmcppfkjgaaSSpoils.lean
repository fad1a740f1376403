/-
  The walk of SectorSpoils: a sector in which up to 32 bits on end are others is refused: the law's function returns true for every input.
-/
import Derived.Test.YtbikfmcppfkjgaaSBlk
import Derived.Test.YtbikfmcppfkjgaaSPuts
namespace Go.Proofs.Ytbikfmcppfkjgaa
open Go.RowKit

set_option maxRecDepth 100000 in
set_option maxHeartbeats 4000000 in
theorem spoils_no (k i c s a : Int) (B : Option Addr) (n cap m b : Nat) (w : World) (hm : ¬ may k i c n) :
    Calls Try.prog 5 #[.agg #[.int .i64 k, .int .i64 i, .int .i64 c, .int .u64 s, .int .u32 a, .slice B n cap], .int .u16 (m : Int), .int .u32 (b : Int)] w fun e w' => e = .returned (.bool true) ∧ Below w.heap.size w w' := by
  have HA := Lib.hid awake_any
  have HM := Lib.hid hm
  clear hm
  go_enter Try.func5, Try.ntmps5
  go_wp2_with fail
  refine (HA.out _).mono ?_
  rintro e w1 ⟨rfl, hw1⟩
  have HF1 : Hid (FI w w.heap.size k i c s a B n cap w1) := (FI.new (Below.refl _ w) rfl).step hw1
  clear hw1
  obtain ⟨c0, c1, c2, c3, c4, c5⟩ := HF1.out.cells
  go_wp2_with fail
  refine (put_no k i c s a B n cap w1 HM.out).mono ?_
  rintro e w2 ⟨rfl, hw2⟩
  have HF2 := Lib.hid (HF1.out.step hw2)
  clear hw2 HF1 c0 c1 c2 c3 c4 c5
  go_wp2_with fail
  go_ret
  exact ⟨rfl, HF2.out.below⟩

/-- What becomes of a sector in which bits are others. -/
theorem spoiled (f : Fm) (hf : f.ok) (k b : Nat) (hk : k < 993) (hb : b < 4294967296) (hb0 : b ≠ 0) : right (burst (sealed f.enc) k b 32) = false ∧ getE (burst (sealed f.enc) k b 32) = 14 := by
  have hl : (sealed f.enc).length = 128 := by rw [sealed_length, f.enc_length hf.b]
  have hr : right (burst (sealed f.enc) k b 32) = false := burst_wrong _ _ _ (right_sealed _) (by rw [hl]; omega) hb0 hb
  exact ⟨hr, getE_sum (by rw [burst_length, hl]) hr⟩

set_option maxRecDepth 100000 in
set_option maxHeartbeats 8000000 in
theorem spoils_ok (f : Fm) (A : Option Addr) (n cap m b : Nat) (w : World) (hbs : BS w A n f.b) (hf : f.ok) (hm : m ≤ 65535) (hB : b < 4294967296) :
    Calls Try.prog 5 #[.agg #[.int .i64 (f.k.toNat : Int), .int .i64 (f.i.toNat : Int), .int .i64 (f.c.toNat : Int), .int .u64 (f.s : Int), .int .u32 (f.a : Int), .slice A n cap], .int .u16 (m : Int), .int .u32 (b : Int)] w fun e w' => e = .returned (.bool true) ∧ Below w.heap.size w w' := by
  have HA := Lib.hid awake_any
  have HB := Lib.hid hbs
  have HOK := Lib.hid hf
  clear hbs hf
  go_enter Try.func5, Try.ntmps5
  go_wp2_with fail
  refine (HA.out _).mono ?_
  rintro e w1 ⟨rfl, hw1⟩
  have HF1 : Hid (FI w w.heap.size f.k.toNat f.i.toNat f.c.toNat f.s f.a A n cap w1) := (FI.new (Below.refl _ w) rfl).step hw1
  clear hw1
  obtain ⟨c0, c1, c2, c3, c4, c5⟩ := HF1.out.cells
  go_wp2_with fail
  refine (put_ok f A n cap w1 (HB.out.below HF1.out.below) HOK.out).mono ?_
  rintro e w2 ⟨A2, cc2, rfl, ho⟩
  obtain ⟨g, rfl, hblk⟩ := ho.blk (by omega) w HF1.out.below
  have HK := Lib.hid hblk
  have hcc2 := ho.cap
  clear ho HF1 hblk c0 c1 c2 c3 c4 c5
  have Hk : Hid ((m : Int) % 993 = ((m % 993 : Nat) : Int)) := by show _ = _; omega
  have hk : m % 993 < 993 := Nat.mod_lt _ (by omega)
  go_wp2_with fail
  rw [Hk.out]
  generalize m % 993 = k at *
  have HL : Hid (∀ i, (burst (sealed f.enc) k b i).length = 128) := fun i => by rw [burst_length, sealed_length, f.enc_length HOK.out.b]
  go_loopw [11] (fun i wr => ∃ j : Nat, j ≤ 32 ∧ i = .int .i64 j ∧ Hid (Blk w wr g (burst (sealed f.enc) k b j))) (fun i _ => 32 - (intOf i).toNat)
  case atStart => exact ⟨0, by omega, rfl, HK⟩
  case round =>
    clear HK
    obtain ⟨j, hj, rfl, HK⟩ := hrel
    by_cases hlt : j < 32
    · have hdj : decide ((j : Int) < 32) = true := by simp; omega
      have hq : (k + j) / 8 < 128 := by omega
      have hl := HL.out j
      by_cases hbit : b.testBit j = true
      · have htb : (bits .and .u32 ((b : Int) / 2 ^ j) 1 == 1) = true := by rw [bit_test b j hB]; exact hbit
        have hcell := HK.out.cell ((k + j) / 8) (by omega)
        have hfroz := HK.out.froz ((k + j) / 8)
        have HE : Hid (burst (sealed f.enc) k b (j + 1) = (burst (sealed f.enc) k b j).set ((k + j) / 8) (fl (burst (sealed f.enc) k b j)[(k + j) / 8] ((k + j) % 8))) := by
          show _ = _
          rw [burst, if_pos hbit, flip_set _ _ (by omega)]
        have HK4 := Lib.hid (HK.out.set ((k + j) / 8) (fl (burst (sealed f.enc) k b j)[(k + j) / 8] ((k + j) % 8)) (by omega))
        generalize (burst (sealed f.enc) k b j)[(k + j) / 8] = by0 at *
        clear hl hbit
        have HX := Lib.hid (fl_int by0 ((k + j) % 8))
        go_wp2_with fail
        refine ⟨⟨j + 1, by omega, by go_num, ?_⟩, by simp [intOf]; omega⟩
        rw [HX.out, HE.out]
        exact HK4
      · have htb : (bits .and .u32 ((b : Int) / 2 ^ j) 1 == 1) = false := by rw [bit_test b j hB]; simpa using hbit
        have HE : Hid (burst (sealed f.enc) k b (j + 1) = burst (sealed f.enc) k b j) := by
          show _ = _
          rw [burst, if_neg hbit]
        clear hl hbit
        go_wp2_with fail
        refine ⟨⟨j + 1, by omega, by go_num, ?_⟩, by simp [intOf]; omega⟩
        rw [HE.out]
        exact HK
    · have Hj : Hid (j = 32) := by show _ = _; omega
      have hdj : decide ((j : Int) < 32) = false := by simp; omega
      rw [Hj.out] at HK
      have HS : Hid (BS wr (some ⟨g, 0, none⟩) 128 (burst (sealed f.enc) k b 32)) := by
        have := HK.out.bs
        rw [HL.out 32] at this
        exact this
      go_wp2_with fail
      refine (get_any (some ⟨g, 0, none⟩) 128 cc2 _ wr HS.out hcc2).mono ?_
      rintro e w5 ⟨B5, n5, cap5, rfl, hb5, hw5⟩
      have HW5 := Lib.hid (HK.out.1.trans (hw5.mono HK.out.1.size))
      have HS5 := Lib.hid (HS.out.below hw5)
      clear hb5 hw5
      by_cases hb0 : b = 0
      · subst hb0
        rw [burst_zero, (get_put f HOK.out).1]
        rw [burst_zero] at HS5
        unfold fv frc
        go_wp2_with fail
        refine (right_any (some ⟨g, 0, none⟩) 128 cc2 _ _ (HS5.out.alloc _) (by omega) hcc2).mono ?_
        rw [right_sealed]
        rintro e w6 ⟨rfl, hb6⟩
        have HW6 := Lib.hid ((HW5.out.alloc HW5.out.size _).trans (hb6.mono (by have := HW5.out.size; simp; omega)))
        clear hb6
        go_wp2_with fail
        go_ret
        exact ⟨rfl, HW6.out⟩
      · obtain ⟨hsp1, hsp2⟩ := spoiled f HOK.out k b hk hB hb0
        have HSP := Lib.hid hsp1
        rw [hsp2]
        have hd0 : ((b : Int) == 0) = false := by simp; omega
        clear hsp1 hsp2
        unfold fv frc
        go_wp2_with fail
        refine (right_any (some ⟨g, 0, none⟩) 128 cc2 _ _ (HS5.out.alloc _) (by omega) hcc2).mono ?_
        rw [HSP.out]
        rintro e w6 ⟨rfl, hb6⟩
        have HW6 := Lib.hid ((HW5.out.alloc HW5.out.size _).trans (hb6.mono (by have := HW5.out.size; simp; omega)))
        clear hb6
        go_wp2_with fail
        go_ret
        exact ⟨rfl, HW6.out⟩

theorem spoils_walk (k i c : Int) (s a : Nat) (B : Option Addr) (n cap m b : Nat) (l : List UInt8) (w : World) (hb : BS w B n l) (hs : s < 18446744073709551616) (ha : a < 4294967296) (hm : m ≤ 65535) (hB : b < 4294967296) :
    Calls Try.prog 5 #[.agg #[.int .i64 k, .int .i64 i, .int .i64 c, .int .u64 (s : Int), .int .u32 (a : Int), .slice B n cap], .int .u16 (m : Int), .int .u32 (b : Int)] w fun e w' => e = .returned (.bool true) ∧ Below w.heap.size w w' := by
  by_cases h : may k i c n
  · obtain ⟨f, hf, rfl, rfl, rfl, rfl, rfl, rfl⟩ := may_fm h hb.1 hs ha
    exact spoils_ok f B n cap m b w hb hf hm hB
  · exact spoils_no k i c s a B n cap m b w h
end Go.Proofs.Ytbikfmcppfkjgaa
