/-
  The walk of DiskStops.
-/
import Derived.Test.YthokobooekmegaaDPicks
import Derived.IntWalk
namespace Go.Proofs.Ythokobooekmegaa
open Go.RowKit

/-- What DiskStops knows of its disk behind j calls. -/
def StI (k j n : Nat) (s : DS) : Prop := s.n = 3 ∧ s.pend.length = n ∧ n ≤ j ∧ ((j ≤ k ∧ s.down = false ∧ s.left = (k : Int) - (j : Int)) ∨ (k < j ∧ s.down = true))

theorem fl_nil : fl [] = zs := by simp [fl, zs]
theorem StI.up {k j n : Nat} {s : DS} (h : StI k j n s) (hj : j < k) : s.count.down = false ∧ s.down = false ∧ StI k (j + 1) 0 s.count.flushed ∧ ∀ i l, StI k (j + 1) (n + 1) (s.count.push i l) := by
  obtain ⟨h1, h2, h3, h4⟩ := h
  rcases h4 with ⟨_, hd, hl⟩ | ⟨h4, _⟩
  · have hne : ¬ s.left = 0 := by omega
    have hpos : 0 < s.left := by omega
    have hc : s.count = { s with left := s.left - 1 } := by simp [DS.count, hne, hpos]
    rw [hc]
    refine ⟨hd, hd, ⟨h1, rfl, by omega, .inl ⟨by omega, hd, ?_⟩⟩, fun i l => ⟨h1, by simp [DS.push, h2], by omega, .inl ⟨by omega, hd, ?_⟩⟩⟩
    · show s.left - 1 = _; omega
    · show s.left - 1 = _; omega
  · omega
theorem StI.stop {k n : Nat} {s : DS} (h : StI k k n s) : s.count.down = true ∧ s.down = false ∧ StI k (k + 1) n s.count := by
  obtain ⟨h1, h2, h3, h4⟩ := h
  rcases h4 with ⟨_, hd, hl⟩ | ⟨h4, _⟩
  · have hz : s.left = 0 := by omega
    have hc : s.count = { s with down := true } := by simp [DS.count, hz]
    rw [hc]
    exact ⟨rfl, hd, h1, h2, by omega, .inr ⟨by omega, rfl⟩⟩
  · omega
theorem StI.off {k j n : Nat} {s : DS} (h : StI k j n s) (hj : k < j) : s.down = true ∧ StI k (j + 1) n s := by
  obtain ⟨h1, h2, h3, h4⟩ := h
  rcases h4 with ⟨h4, _⟩ | ⟨h4, hd⟩
  · omega
  · exact ⟨hd, h1, h2, by omega, .inr ⟨by omega, hd⟩⟩

set_option maxRecDepth 100000 in
set_option maxHeartbeats 2000000 in
theorem stops_walk (n : Nat) (A : Option Addr) (m c : Nat) (L : List UInt8) (w : World) (hn : n ≤ 255) (hL : BS w A m L) (hm : m ≤ maxLen) :
    Calls Try.prog 5 #[.int .u8 (n : Int), .slice A m c] w fun e w' => e = .returned (.bool true) ∧ Below w.heap.size w w' := by
  unfold maxLen at hm
  obtain ⟨K, hK⟩ : ∃ K : Nat, K = n % 30 := ⟨_, rfl⟩
  have HK : Hid ((n : Int) % 30 = (K : Int)) := by show _ = _; omega
  have hK2 : K ≤ 29 := by omega
  have HL := Lib.hid hL
  clear hK hL
  by_cases hm40 : 40 < m
  · go_enter Try.func5, Try.ntmps5
    go_wp2_with fail
    refine (awake_any w).mono ?_
    rintro e w1 ⟨rfl, hw1⟩
    have HW1 := Lib.hid hw1
    clear hw1
    go_wp2
    go_ret
    exact ⟨rfl, HW1.out⟩
  · go_enter Try.func5, Try.ntmps5
    go_wp2_with fail
    refine (awake_any w).mono ?_
    rintro e w1 ⟨rfl, hw1⟩
    have HW1 := Lib.hid hw1
    clear hw1
    go_wp2_with fail
    refine (new_any 3 w1 (by omega) (by omega)).mono ?_
    rintro e w2 ⟨p, S, rfl, hd, hb, hS⟩
    have HD := Lib.hid hd
    have HB : Hid (Below w.heap.size w w2) := HW1.out.trans (hb.mono HW1.out.size)
    have HS : Hid (∀ k, S k → w.heap.size ≤ k) := fun k hk => Nat.le_trans HW1.out.size (hS k hk)
    clear hd hb hS
    go_wp2_with fail
    rw [HK.out]
    refine (stop_any p S _ (K : Int) w2 HD.out (by omega) (by omega)).mono ?_
    rintro e w3 ⟨⟨v3, rfl⟩, hd3, hf3⟩
    have HD3 := Lib.hid hd3
    have HB3 : Hid (Below w.heap.size w w3) := HB.out.trans (hf3.below HB.out.size HS.out)
    clear hd3 hf3
    go_wp2_with fail
    go_loopw [9, 10] (fun q i wr => ∃ j a : Nat, j ≤ m ∧ i = .int .i64 j ∧ q = .int .i64 a ∧ Hid (a ≤ j) ∧ Hid (∃ S s, Dk wr p S s ∧ StI K j a s ∧ ∀ j, S j → w.heap.size ≤ j) ∧ Hid (Below w.heap.size w wr)) (fun _ i _ => m - (intOf i).toNat)
    case atStart => exact ⟨0, 0, by omega, rfl, rfl, Nat.le_refl _, ⟨S, _, HD3.out, ⟨rfl, rfl, Nat.le_refl _, .inl ⟨by omega, rfl, by simp⟩⟩, HS.out⟩, HB3⟩
    case round =>
      obtain ⟨j, a, hj, rfl, rfl, HAJ, HDK, HBK⟩ := hrel
      clear HD HB HD3 HB3 HS
      obtain ⟨S3, s3, hd3, hi3, hS3⟩ := HDK.out
      have HD3 := Lib.hid hd3
      have HS3 := Lib.hid hS3
      have HI3 := Lib.hid hi3
      have HPL : Hid (s3.pend.length ≤ 1000000) := by show _ ≤ _; rw [hi3.2.1]; have := HAJ.out; omega
      have haj := HAJ.out
      clear hd3 hS3 hi3 HDK
      by_cases hlt : j < m
      · obtain ⟨b, o, rfl, hjl, hcell⟩ := HL.out.at hlt
        have hx3 : (0 : Int) ≤ (L[j].toNat : Int) ∧ (L[j].toNat : Int) ≤ 255 := by have := L[j].toNat_lt; omega
        obtain ⟨x, hx⟩ : ∃ x : Nat, L[j].toNat = x := ⟨_, rfl⟩
        rw [hx] at hcell hx3
        have HC0 := Lib.hid hcell
        have HBC : Hid (b < w.heap.size) := HL.out.lt_block (by omega) _ rfl
        clear hx hcell
        have hcell : wr.cell? ⟨b, o + j, none⟩ = some (.int .u8 (x : Int)) := (HBK.out.cell (p := ⟨b, o + j, none⟩) HBC.out).trans HC0.out
        cases hb : (Go.bits BinOp.and IntKind.u8 (x : Int) 3 == 0) with
        | true =>
          by_cases hjk : j < K
          · obtain ⟨hcd, hdn, hsf, hsp⟩ := HI3.out.up hjk
            have HCD := Lib.hid hcd
            have HDN := Lib.hid hdn
            have HSF := Lib.hid hsf
            have HDF : Hid (s3.count.flushed.down = false) := hcd
            have HPF : Hid (s3.count.flushed.pend.length = 0) := rfl
            clear hcd hdn hsf hsp
            go_wp2_with fail
            refine (flush_up p S3 s3 wr HD3.out HPL.out HDN.out HCD.out).mono ?_
            rintro e w5 ⟨rfl, hd5, hf5⟩
            have HD5 := Lib.hid hd5
            have HB5 : Hid (Below w.heap.size w w5) := HBK.out.trans (hf5.below HBK.out.size HS3.out)
            have hcell5 : w5.cell? ⟨b, o + j, none⟩ = some (.int .u8 (x : Int)) := (HB5.out.cell (p := ⟨b, o + j, none⟩) HBC.out).trans HC0.out
            clear hd5 hf5
            go_wp2_with fail
            refine (down_any p S3 _ w5 HD5.out).mono ?_
            rintro e w6 ⟨rfl, rfl⟩
            rw [HDF.out]
            go_wp2_with fail
            refine (waits_any p S3 _ w5 HD5.out).mono ?_
            rintro e w6 ⟨rfl, rfl⟩
            rw [HPF.out]
            go_wp2
            go_roundw
            case rel => exact ⟨j + 1, 0, by omega, by go_num, rfl, by show _ ≤ _; omega, ⟨S3, _, HD5.out, HSF.out, HS3.out⟩, HB5⟩
            case measure => simp [intOf]; omega
          · by_cases hjk2 : j = K
            · subst hjk2
              obtain ⟨hcd, hdn, hsf⟩ := HI3.out.stop
              have HCD := Lib.hid hcd
              have HDN := Lib.hid hdn
              have HSF := Lib.hid hsf
              have HPF : Hid (s3.count.pend.length = a) := hsf.2.1
              clear hcd hdn hsf hjk
              go_wp2_with fail
              refine (flush_down p S3 s3 wr HD3.out HDN.out HCD.out).mono ?_
              rintro e w5 ⟨rfl, hd5, hf5⟩
              have HD5 := Lib.hid hd5
              have HB5 : Hid (Below w.heap.size w w5) := HBK.out.trans (hf5.below HBK.out.size HS3.out)
              clear hd5 hf5
              go_wp2_with fail
              refine (down_any p S3 _ w5 HD5.out).mono ?_
              rintro e w6 ⟨rfl, rfl⟩
              rw [HCD.out]
              go_wp2_with fail
              refine (waits_any p S3 _ w5 HD5.out).mono ?_
              rintro e w6 ⟨rfl, rfl⟩
              rw [HPF.out]
              go_wp2
              go_roundw
              case rel => exact ⟨j + 1, a, by omega, by go_num, rfl, by show _ ≤ _; omega, ⟨S3, _, HD5.out, HSF.out, HS3.out⟩, HB5⟩
              case measure => simp [intOf]; omega
            · obtain ⟨hdn, hsf⟩ := HI3.out.off (by omega)
              have HDN := Lib.hid hdn
              have HSF := Lib.hid hsf
              have HPF : Hid (s3.pend.length = a) := hsf.2.1
              clear hdn hsf
              have hjk3 : K < j := by omega
              clear hjk hjk2
              go_wp2_with fail
              refine (flush_no p S3 s3 wr HD3.out HDN.out).mono ?_
              rintro e w5 ⟨rfl, rfl⟩
              go_wp2_with fail
              refine (down_any p S3 _ wr HD3.out).mono ?_
              rintro e w6 ⟨rfl, rfl⟩
              rw [HDN.out]
              go_wp2_with fail
              refine (waits_any p S3 _ wr HD3.out).mono ?_
              rintro e w6 ⟨rfl, rfl⟩
              rw [HPF.out]
              go_wp2
              go_roundw
              case rel => exact ⟨j + 1, a, by omega, by go_num, rfl, by show _ ≤ _; omega, ⟨S3, _, HD3.out, HSF.out, HS3.out⟩, HBK⟩
              case measure => simp [intOf]; omega
        | false =>
          obtain ⟨y, hy3, hwt⟩ : ∃ y : Nat, y < 3 ∧ IntKind.i64.wrap ((x : Int).tmod 3) = (y : Int) := ⟨x % 3, by omega, by rw [Int.tmod_eq_emod_of_nonneg (by omega), IntWalk.i64_in _ (by omega)]; omega⟩
          by_cases hjk : j < K
          · obtain ⟨hcd, hdn, hsf, hsp⟩ := HI3.out.up hjk
            have HCD := Lib.hid hcd
            have HDN := Lib.hid hdn
            have HSP := Lib.hid hsp
            clear hcd hdn hsf hsp
            go_wp2_with fail
            go_region_with (first
              | (go_at_call 13
                 refine (full_any _ 0 0 [] false _ BS.nil (by unfold maxLen; omega)).mono ?_
                 rintro e w4 ⟨rfl, hb4, hw4⟩
                 have HB4 := Lib.hid hb4
                 have HW4 : Hid (Below wr.heap.size wr w4) := (Below.refl wr.heap.size wr).drew.trans hw4
                 have hcell4 : w4.cell? ⟨b, o + j, none⟩ = some (.int .u8 (x : Int)) := (HW4.out.cell (p := ⟨b, o + j, none⟩) (Nat.lt_of_lt_of_le HBC.out HBK.out.size)).trans hcell
                 clear hb4 hw4)
              | (go_at_call 14
                 refine (write_up p S3 s3 (y : Int) _ 128 (fl []) w4 (HD3.out.below HW4.out) HPL.out (refus_ok HDN.out (Int.natCast_nonneg y) (by rw [HI3.out.1]; exact Int.ofNat_lt.2 hy3)) (block_BS HB4.out (fl_len _)) (not_S HD3.out.2.1 (Nat.le_refl _)) HCD.out).mono ?_
                 rintro e w5 ⟨rfl, S5, hd5, hf5, hS5⟩
                 have HD5 := Lib.hid hd5
                 have HF5 := Lib.hid hf5
                 have HS5 := Lib.hid hS5
                 clear hd5 hf5 hS5))
            all_goals
              clear hwt hcell4
              have HB5 : Hid (Below w.heap.size w w5) := (HBK.out.trans (HW4.out.mono HBK.out.size)).trans (HF5.out.below (Nat.le_trans HBK.out.size HW4.out.size) HS3.out)
              have HS6 : Hid (∀ j, S5 j → w.heap.size ≤ j) := fun j hj => by
                rcases HS5.out j hj with h | h
                · exact HS3.out j h
                · have := HBK.out.size; have := HW4.out.size; omega
              have hcell5 : w5.cell? ⟨b, o + j, none⟩ = some (.int .u8 (x : Int)) := (HB5.out.cell (p := ⟨b, o + j, none⟩) HBC.out).trans HC0.out
              have HSI := Lib.hid (HSP.out (y : Int) (fl []))
              have HDF : Hid ((s3.count.push (y : Int) (fl [])).down = false) := HCD.out
              have HPF : Hid ((s3.count.push (y : Int) (fl [])).pend.length = a + 1) := HSI.out.2.1
              generalize s3.count.push (y : Int) (fl []) = s5 at *
              go_wp2_with fail
              refine (down_any p S5 _ w5 HD5.out).mono ?_
              rintro e w6 ⟨rfl, rfl⟩
              rw [HDF.out]
              go_wp2_with fail
              refine (waits_any p S5 _ w5 HD5.out).mono ?_
              rintro e w6 ⟨rfl, rfl⟩
              rw [HPF.out]
              go_wp2
              go_roundw
              case rel => exact ⟨j + 1, a + 1, by omega, by go_num, by go_num, by show _ ≤ _; omega, ⟨S5, _, HD5.out, HSI.out, HS6.out⟩, HB5⟩
              case measure => simp [intOf]; omega
          · by_cases hjk2 : j = K
            · subst hjk2
              obtain ⟨hcd, hdn, hsf⟩ := HI3.out.stop
              have HCD := Lib.hid hcd
              have HDN := Lib.hid hdn
              have HSF := Lib.hid hsf
              have HPF : Hid (s3.count.pend.length = a) := hsf.2.1
              clear hcd hdn hsf hjk
              go_wp2_with fail
              go_region_with (first
                | (go_at_call 13
                   refine (full_any _ 0 0 [] false _ BS.nil (by unfold maxLen; omega)).mono ?_
                   rintro e w4 ⟨rfl, hb4, hw4⟩
                   have HB4 := Lib.hid hb4
                   have HW4 : Hid (Below wr.heap.size wr w4) := (Below.refl wr.heap.size wr).drew.trans hw4
                   have hcell4 : w4.cell? ⟨b, o + j, none⟩ = some (.int .u8 (x : Int)) := (HW4.out.cell (p := ⟨b, o + j, none⟩) (Nat.lt_of_lt_of_le HBC.out HBK.out.size)).trans hcell
                   clear hb4 hw4)
                | (go_at_call 14
                   refine (write_down p S3 s3 (y : Int) _ 128 w4 (HD3.out.below HW4.out) (refus_ok HDN.out (Int.natCast_nonneg y) (by rw [HI3.out.1]; exact Int.ofNat_lt.2 hy3)) HCD.out).mono ?_
                   rintro e w5 ⟨rfl, hd5, hf5⟩
                   have HD5 := Lib.hid hd5
                   have HF5 := Lib.hid hf5
                   clear hd5 hf5))
              all_goals
                clear hwt hcell4
                have HB5 : Hid (Below w.heap.size w w5) := (HBK.out.trans (HW4.out.mono HBK.out.size)).trans (HF5.out.below (Nat.le_trans HBK.out.size HW4.out.size) HS3.out)
                go_wp2_with fail
                refine (down_any p S3 _ w5 HD5.out).mono ?_
                rintro e w6 ⟨rfl, rfl⟩
                rw [HCD.out]
                go_wp2_with fail
                refine (waits_any p S3 _ w5 HD5.out).mono ?_
                rintro e w6 ⟨rfl, rfl⟩
                rw [HPF.out]
                go_wp2
                go_roundw
                case rel => exact ⟨j + 1, a, by omega, by go_num, rfl, by show _ ≤ _; omega, ⟨S3, _, HD5.out, HSF.out, HS3.out⟩, HB5⟩
                case measure => simp [intOf]; omega
            · obtain ⟨hdn, hsf⟩ := HI3.out.off (by omega)
              have HDN := Lib.hid hdn
              have HSF := Lib.hid hsf
              have HPF : Hid (s3.pend.length = a) := hsf.2.1
              have HRF : Hid (refus s3 (y : Int) = 20) := by show _ = _; simp [refus, hdn]
              have HNE : Hid (refus s3 (y : Int) ≠ 0) := by show _ ≠ _; rw [HRF.out]; omega
              clear hdn hsf
              have hjk3 : K < j := by omega
              clear hjk hjk2
              go_wp2_with fail
              go_region_with (first
                | (go_at_call 13
                   refine (full_any _ 0 0 [] false _ BS.nil (by unfold maxLen; omega)).mono ?_
                   rintro e w4 ⟨rfl, hb4, hw4⟩
                   have HB4 := Lib.hid hb4
                   have HW4 : Hid (Below wr.heap.size wr w4) := (Below.refl wr.heap.size wr).drew.trans hw4
                   have hcell4 : w4.cell? ⟨b, o + j, none⟩ = some (.int .u8 (x : Int)) := (HW4.out.cell (p := ⟨b, o + j, none⟩) (Nat.lt_of_lt_of_le HBC.out HBK.out.size)).trans hcell
                   clear hb4 hw4)
                | (go_at_call 14
                   refine (write_no p S3 s3 (y : Int) _ 128 128 w4 (HD3.out.below HW4.out) HNE.out).mono ?_
                   rw [HRF.out]
                   rintro e w5 ⟨rfl, rfl⟩))
              all_goals
                clear hwt hcell4
                have HB5 : Hid (Below w.heap.size w w4) := HBK.out.trans (HW4.out.mono HBK.out.size)
                go_wp2_with fail
                refine (down_any p S3 _ w4 (HD3.out.below HW4.out)).mono ?_
                rintro e w6 ⟨rfl, rfl⟩
                rw [HDN.out]
                go_wp2_with fail
                refine (waits_any p S3 _ w4 (HD3.out.below HW4.out)).mono ?_
                rintro e w6 ⟨rfl, rfl⟩
                rw [HPF.out]
                go_wp2
                go_roundw
                case rel => exact ⟨j + 1, a, by omega, by go_num, rfl, by show _ ≤ _; omega, ⟨S3, _, HD3.out.below HW4.out, HSF.out, HS3.out⟩, HB5⟩
                case measure => simp [intOf]; omega
      · go_wp2_with fail
        refine (crash_any p S3 s3 none 0 0 [] wr HD3.out HPL.out BS.nil (fun h => absurd h (by omega)) (by unfold maxLen; omega)).mono ?_
        rintro e w5 ⟨rfl, hd5, hf5⟩
        have HD5 := Lib.hid hd5
        have HB5 : Hid (Below w.heap.size w w5) := HBK.out.trans (hf5.below HBK.out.size HS3.out)
        have HDF : Hid ((s3.crashed []).down = false) := rfl
        have HLF : Hid ((s3.crashed []).left = -1) := rfl
        have HPF : Hid ((s3.crashed []).pend.length ≤ 1000000) := Nat.zero_le _
        have HFL : Hid ((s3.crashed []).count.flushed.pend.length = 0) := rfl
        clear hd5 hf5
        generalize s3.crashed [] = s5 at *
        go_wp2_with fail
        refine (down_any p S3 _ w5 HD5.out).mono ?_
        rintro e w6 ⟨rfl, rfl⟩
        rw [HDF.out]
        go_wp2_with fail
        refine (flush_up p S3 s5 w5 HD5.out HPF.out HDF.out (DS.count_down HLF.out HDF.out)).mono ?_
        rintro e w6 ⟨rfl, hd6, hf6⟩
        have HD6 := Lib.hid hd6
        have HB6 : Hid (Below w.heap.size w w6) := HB5.out.trans (hf6.below HB5.out.size HS3.out)
        clear hd6 hf6
        go_wp2_with fail
        refine (waits_any p S3 _ w6 HD6.out).mono ?_
        rintro e w7 ⟨rfl, rfl⟩
        rw [HFL.out]
        go_wp2
        go_ret
        exact ⟨rfl, HB6.out⟩
end Go.Proofs.Ythokobooekmegaa
