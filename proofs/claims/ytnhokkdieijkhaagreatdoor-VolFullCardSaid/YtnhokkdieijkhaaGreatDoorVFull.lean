/-
  The law VolFull (layer 12).
-/
import Derived.Test.YtnhokkdieijkhaaGreatDoorVLaw
namespace Go.Proofs.YtnhokkdieijkhaaGreatDoor
open Go.RowKit Go.Shelf
attribute [local go_sem] Oper.semAt_some

set_option maxRecDepth 100000 in
set_option maxHeartbeats 1000000 in
theorem full_walk (a b c : Nat) (w : World) (ha : a < 65536) (hb : b < 65536) (hc : c < 65536) :
    Calls Tryz.prog 8 #[.int .u16 (a : Int), .int .u16 (b : Int), .int .u16 (c : Int)] w fun e w' => e = .returned (.bool true) ∧ Below w.heap.size w w' := by
  have hmk : ∀ W : World, (Instr.makeSlice 26 (.int .i64 43) (.int .i64 43)).run Tryz.prog W = .ok (.slice (some ⟨W.heap.size, 0, none⟩) 43 43) (W.alloc (.cells (Array.replicate 43 (.slice none 0 0)) 30)) := fun W => run_make_rows W 43 (by omega)
  go_enter Tryz.func8, Tryz.ntmps8
  go_wp2_with fail
  refine (awake_any w).mono ?_
  rintro e w1 ⟨rfl, hw1⟩
  have HW1 := Lib.hid hw1
  clear hw1
  go_wp2_with fail
  refine (new_fresh (B := w.heap.size) 43 _ 43 _ (RI.made w1 43) (by omega) (by omega) (by have := HW1.out.size; simp; omega)).mono ?_
  rintro e w2 ⟨p, m, g, rfl, hv, hw2, -⟩
  have HV2 := Lib.hid hv.vm
  have HW2 : Hid (Below w.heap.size w w2) := HW1.out.trans ((((Below.refl _ _).alloc (Nat.le_refl _) _).trans (hw2.mono (by simp))).mono HW1.out.size)
  clear hv hw2 HW1 hmk
  obtain ⟨na, hna⟩ : ∃ na, a % 769 = na := ⟨_, rfl⟩
  obtain ⟨nb, hnb⟩ : ∃ nb, b % 769 = nb := ⟨_, rfl⟩
  obtain ⟨nc, hnc⟩ : ∃ nc, c % 769 = nc := ⟨_, rfl⟩
  obtain ⟨Za, hza⟩ : ∃ Z, Z = List.replicate na (0 : UInt8) := ⟨_, rfl⟩
  obtain ⟨Zb, hzb⟩ : ∃ Z, Z = List.replicate nb (0 : UInt8) := ⟨_, rfl⟩
  obtain ⟨Zc, hzc⟩ : ∃ Z, Z = List.replicate nc (0 : UInt8) := ⟨_, rfl⟩
  have hma := run_make769 hna hza
  have hmb := run_make769 hnb hzb
  have hmc := run_make769 hnc hzc
  have HA := Lib.hid hza
  have HB := Lib.hid hzb
  have HC := Lib.hid hzc
  have hla : na ≤ 768 := by omega
  have hlb : nb ≤ 768 := by omega
  have hlc : nc ≤ 768 := by omega
  clear hza hzb hzc
  go_upto_region 8 with fail
  have hA2 := (((BS.made' HA.out w2).alloc (.cells (bc Zb).toArray 5)).alloc (.cells (bc Zc).toArray 5))
  have hB2 := ((BS.made' HB.out (w2.alloc (.cells (bc Za).toArray 5))).alloc (.cells (bc Zc).toArray 5))
  have hC2 := BS.made' HC.out ((w2.alloc (.cells (bc Za).toArray 5)).alloc (.cells (bc Zb).toArray 5))
  have hbl : Below w2.heap.size w2 (((w2.alloc (.cells (bc Za).toArray 5)).alloc (.cells (bc Zb).toArray 5)).alloc (.cells (bc Zc).toArray 5)) := (((Below.refl _ _).alloc (Nat.le_refl _) _).alloc (by simp) _).alloc (by simp; omega) _
  simp only [World.size_alloc] at hA2 hB2 hC2
  generalize (((w2.alloc (.cells (bc Za).toArray 5)).alloc (.cells (bc Zb).toArray 5)).alloc (.cells (bc Zc).toArray 5)) = w3 at *
  have HV3 := Lib.hid (HV2.out.below hbl)
  have HW3 := Lib.hid (HW2.out.trans (hbl.mono HW2.out.size))
  have HA3 : Hid (BS w3 (some ⟨w2.heap.size, 0, none⟩) na (Vl.one 1 0 Za).dt) := hA2
  have HB3 : Hid (BS w3 (some ⟨w2.heap.size + 1, 0, none⟩) nb (Vl.one 2 0 Zb).dt) := hB2
  have HC3 : Hid (BS w3 (some ⟨w2.heap.size + 1 + 1, 0, none⟩) nc (Vl.one 3 0 Zc).dt) := hC2
  have hzal : Za.length = na := by rw [HA.out]; simp
  have hzbl : Zb.length = nb := by rw [HB.out]; simp
  have hzcl : Zc.length = nc := by rw [HC.out]; simp
  have HNA : Hid (need (Vl.one 1 0 Za).dt.length = need na) := by show need Za.length = _; rw [hzal]
  have HNB : Hid (need (Vl.one 2 0 Zb).dt.length = need nb) := by show need Zb.length = _; rw [hzbl]
  have HNC : Hid (need (Vl.one 3 0 Zc).dt.length = need nc) := by show need Zc.length = _; rw [hzcl]
  obtain ⟨S1, hS1⟩ : ∃ S, S = Vl.upd Vl.bare (Vl.one 1 0 Za).ino (Vl.one 1 0 Za) := ⟨_, rfl⟩
  have HT1 : Hid (Vl.tot S1 = need na) := by
    have h1 := Vl.tot_upd Vl.bare (Vl.one 1 0 Za) (by show 1 < 24; omega)
    rw [Vl.tot_none, HNA.out, Vl.need_bare, ← hS1] at h1
    show _ = _
    omega
  have HS12 : Hid (need (S1 2).dt.length = 0) := by
    show _ = _
    rw [hS1, Vl.upd_other _ _ (show (2 : Nat) ≠ (Vl.one 1 0 Za).ino by show (2 : Nat) ≠ 1; decide)]
    exact Vl.need_bare 2
  have HS1 := Lib.hid hS1
  clear hS1
  have hna8 : need na ≤ 8 := by unfold need; omega
  have hnb8 : need nb ≤ 8 := by unfold need; omega
  have hnc8 : need nc ≤ 8 := by unfold need; omega
  clear hA2 hB2 hC2 hbl HV2 HW2 hma hmb hmc hna hnb hnc HA HB HC
  go_wp2_with fail
  refine (HV3.out.saveOne (Vl.one 1 0 Za) (some ⟨w2.heap.size, 0, none⟩) na na (Vl.one_ok (by omega) (by rw [hzal]; exact hla)) (Vl.one_fits (by omega) (by omega)) HA3.out (Nat.le_refl _) 8 (need na) rfl S1 HS1.out HT1.out _ rfl).mono ?_
  rintro e w4 (⟨-, rfl, hv4, hc4⟩ | ⟨h1, -⟩)
  rotate_left
  · exact absurd hna8 h1
  have HV4 := Lib.hid hv4
  have hbl4 : Below w3.heap.size w3 (w3.alloc (.cells #[.int .u32 1, .int .u32 1, .int .u32 0, .int .u32 1, .int .u32 0, .int .u64 0, .int .u64 0, .int .u64 0, .slice (some ⟨w2.heap.size, 0, none⟩) na na] 32)) := (Below.refl _ _).alloc (Nat.le_refl _) _
  have HB4 := Lib.hid ((HB3.out.below hbl4).ch hc4)
  have HC4 := Lib.hid ((HC3.out.below hbl4).ch hc4)
  have HW4 : Hid (Below w.heap.size w w4) := (HW3.out.trans (hbl4.mono HW3.out.size)).trans (hc4.bel (HV3.out.below hbl4))
  have hfree := HV4.out.free
  rw [HT1.out] at hfree
  have HFR := Lib.hid hfree
  clear hv4 hc4 hbl4 hfree HV3 HW3 HA3 HB3 HC3
  go_wp2_with fail
  refine HFR.out.mono ?_
  rintro e w5 ⟨rfl, hw5⟩
  have HB5 := Lib.hid (HB4.out.below hw5)
  have HC5 := Lib.hid (HC4.out.below hw5)
  have HV5 := Lib.hid (HV4.out.below hw5)
  have HW5 := Lib.hid (HW4.out.trans (hw5.mono HW4.out.size))
  clear hw5 HB4 HC4 HV4 HW4 HFR
  go_wp2_with fail
  obtain ⟨S2, hS2⟩ : ∃ S, S = Vl.upd S1 (Vl.one 2 0 Zb).ino (Vl.one 2 0 Zb) := ⟨_, rfl⟩
  have HT2 : Hid (Vl.tot S2 = need na + need nb) := by
    have h1 := Vl.tot_upd S1 (Vl.one 2 0 Zb) (by show 2 < 24; omega)
    rw [HT1.out, HNB.out, show need (S1 (Vl.one 2 0 Zb).ino).dt.length = 0 from HS12.out, ← hS2] at h1
    show _ = _
    omega
  have HS2 := Lib.hid hS2
  clear hS2
  refine (HV5.out.saveOne (Vl.one 2 0 Zb) (some ⟨w2.heap.size + 1, 0, none⟩) nb nb (Vl.one_ok (by omega) (by rw [hzbl]; exact hlb)) (Vl.one_fits (by omega) (by omega)) HB5.out (Nat.le_refl _) 8 (need na + need nb) rfl S2 HS2.out HT2.out _ rfl).mono ?_
  have hbl5 : Below w5.heap.size w5 (w5.alloc (.cells #[.int .u32 2, .int .u32 1, .int .u32 0, .int .u32 1, .int .u32 0, .int .u64 0, .int .u64 0, .int .u64 0, .slice (some ⟨w2.heap.size + 1, 0, none⟩) nb nb] 32)) := (Below.refl _ _).alloc (Nat.le_refl _) _
  rintro e w6 (⟨hle, rfl, hv6, hc6⟩ | ⟨hle, rfl, hv6, hc6⟩)
  · have HV6 := Lib.hid hv6
    have HC6 := Lib.hid ((HC5.out.below hbl5).ch hc6)
    have HW6 : Hid (Below w.heap.size w w6) := (HW5.out.trans (hbl5.mono HW5.out.size)).trans (hc6.bel (HV5.out.below hbl5))
    clear hv6 hc6 hbl5 HV5 HW5 HB5 HC5
    go_upto_region 13 with fail
    rw [show ((na : Int) + 95) / 96 = ((need na : Nat) : Int) by unfold need; omega, show ((nb : Int) + 95) / 96 = ((need nb : Nat) : Int) by unfold need; omega]
    have hma0 := HNA.out
    generalize need na = ma at *
    generalize need nb = mb at *
    have HMA : Hid (need (Vl.upd Vl.bare (Vl.one 1 0 Za).ino (Vl.one 1 0 Za) 1).dt.length = ma) := by
      show _ = _
      rw [show Vl.upd Vl.bare (Vl.one 1 0 Za).ino (Vl.one 1 0 Za) 1 = Vl.one 1 0 Za from Vl.upd_same Vl.bare 1 _]
      exact hma0
    clear hma0
    have hd : decide (ma + mb ≤ 8) = true := by simpa using hle
    have hd2 : decide ((ma : Int) + (mb : Int) ≤ 8) = true := by simp; omega
    have HZ1 : Hid (need (S2 1).dt.length = ma) := by
      show _ = _
      rw [HS2.out, Vl.upd_other S1 (Vl.one 2 0 Zb) (show (1 : Nat) ≠ (Vl.one 2 0 Zb).ino by show (1 : Nat) ≠ 2; decide), HS1.out]
      exact HMA.out
    have HZ3 : Hid (need (S2 3).dt.length = 0) := by
      show _ = _
      rw [HS2.out, Vl.upd_other S1 (Vl.one 2 0 Zb) (show (3 : Nat) ≠ (Vl.one 2 0 Zb).ino by show (3 : Nat) ≠ 2; decide), HS1.out, Vl.upd_other Vl.bare (Vl.one 1 0 Za) (show (3 : Nat) ≠ (Vl.one 1 0 Za).ino by show (3 : Nat) ≠ 1; decide)]
      exact Vl.need_bare 3
    have HTT : Hid (Vl.tot S2 = ma + mb) := HT2.out
    go_wp2_with fail
    obtain ⟨S3, hS3⟩ : ∃ S, S = Vl.upd (Vl.upd S2 (Vl.bare 1).ino (Vl.bare 1)) (Vl.one 3 0 Zc).ino (Vl.one 3 0 Zc) := ⟨_, rfl⟩
    have HT3 : Hid (Vl.tot S3 = mb + need nc) := by
      have h1 := Vl.tot_upd S2 (Vl.bare 1) (by show 1 < 24; omega)
      have h2 := Vl.tot_upd (Vl.upd S2 (Vl.bare 1).ino (Vl.bare 1)) (Vl.one 3 0 Zc) (by show 3 < 24; omega)
      have h3 : need (Vl.upd S2 (Vl.bare 1).ino (Vl.bare 1) (Vl.one 3 0 Zc).ino).dt.length = 0 := by
        rw [Vl.upd_other S2 (Vl.bare 1) (show (Vl.one 3 0 Zc).ino ≠ (Vl.bare 1).ino by show (3 : Nat) ≠ 1; decide)]
        exact HZ3.out
      rw [Vl.need_bare, HTT.out, show need (S2 (Vl.bare 1).ino).dt.length = ma from HZ1.out] at h1
      rw [h3, HNC.out, ← hS3] at h2
      show _ = _
      omega
    have HS3 := Lib.hid hS3
    clear hS3
    refine (HV6.out.saveTwo (Vl.bare 1) (Vl.one 3 0 Zc) none 0 0 (some ⟨w2.heap.size + 1 + 1, 0, none⟩) nc nc rfl (Vl.one_ok (by omega) (by rw [hzcl]; exact hlc)) ⟨by show 1 < _; omega, by show (0 : Nat) < _; omega, ⟨by show (0 : Nat) < _; omega, by show (0 : Nat) < _; omega, by show (0 : Nat) < _; omega, by show (0 : Nat) < _; omega, by show (0 : Nat) < _; omega, by show (0 : Nat) < _; omega⟩⟩ (Vl.one_fits (by omega) (by omega)) (by show (1 : Nat) ≠ 3; decide) BS.nil (Nat.le_refl _) HC6.out (Nat.le_refl _) 8 (mb + need nc) rfl S3 HS3.out HT3.out _ rfl).mono ?_
    have hbl6 : Below w6.heap.size w6 (w6.alloc (.cells (sc (Vl.bare 1) (.slice none 0 0) ++ sc (Vl.one 3 0 Zc) (.slice (some ⟨w2.heap.size + 1 + 1, 0, none⟩) nc nc)).toArray 32)) := (Below.refl _ _).alloc (Nat.le_refl _) _
    have HBL6 := Lib.hid hbl6
    clear hbl6
    rintro e w7 (⟨hle7, rfl, hv7, hc7⟩ | ⟨hle7, rfl, hv7, hc7⟩)
    · have HV7 := Lib.hid hv7
      have HW7 : Hid (Below w.heap.size w w7) := (HW6.out.trans (HBL6.out.mono HW6.out.size)).trans (hc7.bel (HV6.out.below HBL6.out))
      have hfree : ∀ W, Below w7.heap.size w7 W → Calls Tryz.prog 17 #[.pointer (some ⟨p, 0, none⟩)] W fun e w' => e = .returned (.int .i64 ((8 - (mb + need nc) : Nat) : Int)) ∧ Below W.heap.size W w' := fun W hW => by
        have := (HV7.out.below hW).free
        rw [HT3.out] at this
        exact this
      have HFE : Hid (((8 - (mb + need nc) : Nat) : Int) = 8 - (mb : Int) - ((need nc : Nat) : Int)) := by show _ = _; omega
      rw [HFE.out] at hfree
      have HFRB := Lib.hid hfree
      clear hv7 hc7 hfree HFE
      go_upto_region 19 with fail
      rw [show ((nc : Int) + 95) / 96 = ((need nc : Nat) : Int) by unfold need; omega]
      clear HNC
      generalize need nc = mc at *
      have hd7 : decide (mb + mc ≤ 8) = true := by simpa using hle7
      have hd8 : decide ((mb : Int) + (mc : Int) ≤ 8) = true := by simp; omega
      go_wp2_with fail
      refine (HV7.out.wrong (by omega)).mono ?_
      rintro e w8 ⟨rfl, hw8⟩
      have HW8 := Lib.hid (HW7.out.trans (hw8.mono HW7.out.size))
      have HV8 := Lib.hid (HV7.out.below hw8)
      have HFR8 := Lib.hid (HFRB.out w8 hw8)
      clear hw8 HV7 HW7 HFRB
      go_wp2_with fail
      refine HFR8.out.mono ?_
      rintro e w9 ⟨rfl, hw9⟩
      have HW9 := Lib.hid (HW8.out.trans (hw9.mono HW8.out.size))
      clear hw9 HW8 HV8 HFR8
      go_wp2_with fail
      go_ret
      exact ⟨rfl, HW9.out⟩
    · have HV7 := Lib.hid hv7
      have HW7 : Hid (Below w.heap.size w w7) := (HW6.out.trans (HBL6.out.mono HW6.out.size)).trans (hc7.bel (HV6.out.below HBL6.out))
      clear hv7 hc7
      go_upto_region 19 with fail
      rw [show ((nc : Int) + 95) / 96 = ((need nc : Nat) : Int) by unfold need; omega]
      clear HNC
      generalize need nc = mc at *
      have hd7 : decide (mb + mc ≤ 8) = false := by simpa using hle7
      have hd8 : decide ((mb : Int) + (mc : Int) ≤ 8) = false := by simp; omega
      have hd9 : decide ((8 : Int) < (mb : Int) + (mc : Int)) = true := by simp; omega
      have hd10 : decide (8 < mb + mc) = true := by simp; omega
      go_wp2_with fail
      refine (HV7.out.wrong (by omega)).mono ?_
      rintro e w8 ⟨rfl, hw8⟩
      have HW8 := Lib.hid (HW7.out.trans (hw8.mono HW7.out.size))
      clear hw8 HV7 HW7
      go_wp2_with fail
      go_ret
      exact ⟨rfl, HW8.out⟩
  · have HV6 := Lib.hid hv6
    have HC6 := Lib.hid ((HC5.out.below hbl5).ch hc6)
    have HW6 : Hid (Below w.heap.size w w6) := (HW5.out.trans (hbl5.mono HW5.out.size)).trans (hc6.bel (HV5.out.below hbl5))
    have hfr6 := hv6.free
    rw [HT1.out] at hfr6
    have HFR6 : Hid (Calls Tryz.prog 17 #[.pointer (some ⟨p, 0, none⟩)] w6 fun e w' => e = .returned (.int .i64 ((8 - need na : Nat) : Int)) ∧ Below w6.heap.size w6 w') := hfr6
    clear hv6 hc6 hbl5 HV5 HW5 HB5 HC5 hfr6
    go_upto_region 13 with fail
    rw [show ((na : Int) + 95) / 96 = ((need na : Nat) : Int) by unfold need; omega, show ((nb : Int) + 95) / 96 = ((need nb : Nat) : Int) by unfold need; omega]
    have hma0 := HNA.out
    generalize need na = ma at *
    generalize need nb = mb at *
    have HMA : Hid (need (Vl.upd Vl.bare (Vl.one 1 0 Za).ino (Vl.one 1 0 Za) 1).dt.length = ma) := by
      show _ = _
      rw [show Vl.upd Vl.bare (Vl.one 1 0 Za).ino (Vl.one 1 0 Za) 1 = Vl.one 1 0 Za from Vl.upd_same Vl.bare 1 _]
      exact hma0
    clear hma0
    have hd : decide (ma + mb ≤ 8) = false := by simpa using hle
    have hd2 : decide ((ma : Int) + (mb : Int) ≤ 8) = false := by simp; omega
    go_wp2_with fail
    refine HFR6.out.mono ?_
    rintro e w6' ⟨rfl, hw6⟩
    have HV6' := Lib.hid (HV6.out.below hw6)
    have HC6' := Lib.hid (HC6.out.below hw6)
    have HW6' := Lib.hid (HW6.out.trans (hw6.mono HW6.out.size))
    clear hw6 HV6 HC6 HW6 HFR6
    have HV6 := HV6'
    have HC6 := HC6'
    have HW6 := HW6'
    clear HV6' HC6' HW6'
    have HZ1 : Hid (need (S1 1).dt.length = ma) := by
      show _ = _
      rw [HS1.out]
      exact HMA.out
    have HZ3 : Hid (need (S1 3).dt.length = 0) := by
      show _ = _
      rw [HS1.out, Vl.upd_other Vl.bare (Vl.one 1 0 Za) (show (3 : Nat) ≠ (Vl.one 1 0 Za).ino by show (3 : Nat) ≠ 1; decide)]
      exact Vl.need_bare 3
    have HTT : Hid (Vl.tot S1 = ma) := HT1.out
    go_wp2_with fail
    obtain ⟨S3, hS3⟩ : ∃ S, S = Vl.upd (Vl.upd S1 (Vl.bare 1).ino (Vl.bare 1)) (Vl.one 3 0 Zc).ino (Vl.one 3 0 Zc) := ⟨_, rfl⟩
    have HT3 : Hid (Vl.tot S3 = need nc) := by
      have h1 := Vl.tot_upd S1 (Vl.bare 1) (by show 1 < 24; omega)
      have h2 := Vl.tot_upd (Vl.upd S1 (Vl.bare 1).ino (Vl.bare 1)) (Vl.one 3 0 Zc) (by show 3 < 24; omega)
      have h3 : need (Vl.upd S1 (Vl.bare 1).ino (Vl.bare 1) (Vl.one 3 0 Zc).ino).dt.length = 0 := by
        rw [Vl.upd_other S1 (Vl.bare 1) (show (Vl.one 3 0 Zc).ino ≠ (Vl.bare 1).ino by show (3 : Nat) ≠ 1; decide)]
        exact HZ3.out
      rw [Vl.need_bare, HTT.out, show need (S1 (Vl.bare 1).ino).dt.length = ma from HZ1.out] at h1
      rw [h3, HNC.out, ← hS3] at h2
      show _ = _
      omega
    have HS3 := Lib.hid hS3
    clear hS3
    refine (HV6.out.saveTwo (Vl.bare 1) (Vl.one 3 0 Zc) none 0 0 (some ⟨w2.heap.size + 1 + 1, 0, none⟩) nc nc rfl (Vl.one_ok (by omega) (by rw [hzcl]; exact hlc)) ⟨by show 1 < _; omega, by show (0 : Nat) < _; omega, ⟨by show (0 : Nat) < _; omega, by show (0 : Nat) < _; omega, by show (0 : Nat) < _; omega, by show (0 : Nat) < _; omega, by show (0 : Nat) < _; omega, by show (0 : Nat) < _; omega⟩⟩ (Vl.one_fits (by omega) (by omega)) (by show (1 : Nat) ≠ 3; decide) BS.nil (Nat.le_refl _) HC6.out (Nat.le_refl _) 8 (need nc) rfl S3 HS3.out HT3.out _ rfl).mono ?_
    have hbl6 : Below w6'.heap.size w6' (w6'.alloc (.cells (sc (Vl.bare 1) (.slice none 0 0) ++ sc (Vl.one 3 0 Zc) (.slice (some ⟨w2.heap.size + 1 + 1, 0, none⟩) nc nc)).toArray 32)) := (Below.refl _ _).alloc (Nat.le_refl _) _
    have HBL6 := Lib.hid hbl6
    clear hbl6
    rintro e w7 (⟨hle7, rfl, hv7, hc7⟩ | ⟨hle7, rfl, hv7, hc7⟩)
    · have HV7 := Lib.hid hv7
      have HW7 : Hid (Below w.heap.size w w7) := (HW6.out.trans (HBL6.out.mono HW6.out.size)).trans (hc7.bel (HV6.out.below HBL6.out))
      have hfree : ∀ W, Below w7.heap.size w7 W → Calls Tryz.prog 17 #[.pointer (some ⟨p, 0, none⟩)] W fun e w' => e = .returned (.int .i64 ((8 - (need nc) : Nat) : Int)) ∧ Below W.heap.size W w' := fun W hW => by
        have := (HV7.out.below hW).free
        rw [HT3.out] at this
        exact this
      have HFE : Hid (((8 - (need nc) : Nat) : Int) = 8 - ((need nc : Nat) : Int)) := by show _ = _; omega
      rw [HFE.out] at hfree
      have HFRB := Lib.hid hfree
      clear hv7 hc7 hfree HFE
      go_upto_region 19 with fail
      rw [show ((nc : Int) + 95) / 96 = ((need nc : Nat) : Int) by unfold need; omega]
      clear HNC
      generalize need nc = mc at *
      have hd7 : decide (mc ≤ 8) = true := by simpa using hle7
      have hd8 : decide ((mc : Int) ≤ 8) = true := by simp; omega
      go_wp2_with fail
      refine (HV7.out.wrong (by omega)).mono ?_
      rintro e w8 ⟨rfl, hw8⟩
      have HW8 := Lib.hid (HW7.out.trans (hw8.mono HW7.out.size))
      have HV8 := Lib.hid (HV7.out.below hw8)
      have HFR8 := Lib.hid (HFRB.out w8 hw8)
      clear hw8 HV7 HW7 HFRB
      go_wp2_with fail
      refine HFR8.out.mono ?_
      rintro e w9 ⟨rfl, hw9⟩
      have HW9 := Lib.hid (HW8.out.trans (hw9.mono HW8.out.size))
      clear hw9 HW8 HV8 HFR8
      go_wp2_with fail
      go_ret
      exact ⟨rfl, HW9.out⟩
    · exact absurd hnc8 hle7
end Go.Proofs.YtnhokkdieijkhaaGreatDoor
