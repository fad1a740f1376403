/-
  The walk of DiskAll, continued.
-/
import Derived.Test.YthokobooekmegaaDAll
namespace Go.Proofs.Ythokobooekmegaa
open Go.RowKit

theorem fl_nil' : fl [] = zs := by simp [fl, zs]
/-- A store into a block of bytes. -/
theorem bytes_set {w : World} {g : Nat} {l : List UInt8} {t : TypeId} (h : w.heap[g]? = some (.cells (bc l).toArray t (0, 0))) {k : Nat} (hk : k < l.length) (b : UInt8) :
    (w.setCell ⟨g, k, none⟩ (.int .u8 (b.toNat : Int))).heap[g]? = some (.cells (bc (l.set k b)).toArray t (0, 0)) ∧ Fr (fun j => j = g) w (w.setCell ⟨g, k, none⟩ (.int .u8 (b.toNat : Int))) ∧
      w.cell? ⟨g, k, none⟩ = some (.int .u8 (l[k].toNat : Int)) ∧ w.frozen? ⟨g, k, none⟩ = false := by
  refine ⟨?_, Keep.setCell (Fr.refl (fun j => j = g) w) (p := ⟨g, k, none⟩) (fun h => h.2 rfl) _, ?_, by simp [World.frozen?, h]⟩
  · rw [setCell_eq_setRow _ _ _ _ _ _ _ h, setRow_heap _ _ _ _ _ _ h]
    congr 2
    simp [bc, List.map_set]
  · rw [cell_of_row _ _ _ _ _ _ h]
    simpa using bc_get l k hk

set_option maxRecDepth 100000 in
set_option maxHeartbeats 2000000 in
theorem all_walk (A : Option Addr) (n ca : Nat) (WR : List UInt8) (w : World) (hWR : BS w A n WR) (hn : n ≤ maxLen) :
    Calls Try.prog 6 #[.slice A n ca] w fun e w' => e = .returned (.bool true) ∧ Below w.heap.size w w' := by
  unfold maxLen at hn
  have HWR := Lib.hid hWR
  clear hWR
  by_cases h40 : 40 < n
  · go_enter Try.func6, Try.ntmps6
    go_wp2_with fail
    refine (awake_any w).mono ?_
    rintro e w1 ⟨rfl, hw1⟩
    have HW1 := Lib.hid hw1
    clear hw1
    go_wp2
    go_ret
    exact ⟨rfl, HW1.out⟩
  · go_enter Try.func6, Try.ntmps6
    go_wp2_with fail
    refine (awake_any w).mono ?_
    rintro e w1 ⟨rfl, hw1⟩
    have HW1 := Lib.hid hw1
    clear hw1
    go_wp2_with (refine wpList_make_bytes rfl (.const (.int .i64 8)) (.const (.int .i64 8)) rfl 8 rfl rfl (by omega) ?_; intro w3 hb3 hs3 hw3; have HB3 : Hid (w3.heap[w1.heap.size]? = some (.cells (bc (alk 0)).toArray 5 (0, 0))) := hb3; have HW3 : Hid (Below w.heap.size w w3) := HW1.out.trans (hw3.mono HW1.out.size); clear hb3 hs3 hw3)
    have HGA : Hid (w.heap.size ≤ w1.heap.size) := HW1.out.size
    go_loopw [5] (fun i wr => ∃ k : Nat, k ≤ 8 ∧ i = .int .i64 k ∧ Hid (wr.heap[w1.heap.size]? = some (.cells (bc (alk k)).toArray 5 (0, 0))) ∧ Hid (Below w.heap.size w wr)) (fun i _ => 8 - (intOf i).toNat)
    case atStart => exact ⟨0, by omega, rfl, HB3, HW3⟩
    case round =>
      clear HB3 HW3
      obtain ⟨k, hk, rfl, HG, HBK⟩ := hrel
      by_cases hlt : k < 8
      · obtain ⟨t1, t2, t3, t4⟩ := bytes_set HG.out (k := k) (by rw [alk_len k (by omega)]; omega) 255
        rw [alk_step k hlt] at t1
        have HT1 : Hid ((wr.setCell ⟨w1.heap.size, k, none⟩ (.int .u8 255)).heap[w1.heap.size]? = some (.cells (bc (alk (k + 1))).toArray 5 (0, 0))) := t1
        have HT2 : Hid (Below w.heap.size w (wr.setCell ⟨w1.heap.size, k, none⟩ (.int .u8 255))) := HBK.out.trans (t2.below HBK.out.size (fun j hj => by rw [hj]; exact HGA.out))
        clear t1 t2
        go_wp2
        go_roundw
        case rel => exact ⟨k + 1, by omega, by go_num, HT1, HT2⟩
        case measure => simp [intOf]; omega
      · obtain rfl : k = 8 := by omega
        clear hlt
        have HGL : Hid (w1.heap.size < wr.heap.size) := (Array.getElem?_eq_some_iff.1 HG.out).1
        go_wp2_with fail
        refine (new_any 4 wr (by omega) (by omega)).mono ?_
        rintro e wa ⟨p1, S1, rfl, hd1, hb1, hS1⟩
        have HD1 := Lib.hid hd1
        have HB1 := Lib.hid hb1
        have HS1 := Lib.hid hS1
        clear hd1 hb1 hS1
        go_wp2_with fail
        refine (new_any 4 wa (by omega) (by omega)).mono ?_
        rintro e wb ⟨p2, S2, rfl, hd2, hb2, hS2⟩
        have HD2 := Lib.hid hd2
        have HB2 := Lib.hid hb2
        have HS2 := Lib.hid hS2
        clear hd2 hb2 hS2
        go_wp2_with fail
        refine (new_any 4 wb (by omega) (by omega)).mono ?_
        rintro e wc ⟨p3, S3, rfl, hd3, hb3, hS3⟩
        have HBC : Hid (Below w.heap.size w wc) := HBK.out.trans ((HB1.out.mono HBK.out.size).trans ((HB2.out.mono (Nat.le_trans HBK.out.size HB1.out.size)).trans (hb3.mono (Nat.le_trans HBK.out.size (Nat.le_trans HB1.out.size HB2.out.size)))))
        have HTH : Hid (Th w p1 p2 p3 w1.heap.size (s3 WR 0) (s3 WR 0) (s3 WR 0) wc) := by
          have z1 := HB1.out.size
          have z2 := HB2.out.size
          have z0 := HBK.out.size
          have zg := HGL.out
          refine ⟨S1, S2, S3, (HD1.out.below HB2.out).below hb3, HD2.out.below hb3, hd3, (Dj.new HS2.out HD1.out.2.1).symm, (Dj.new hS3 (fun k hk => Nat.lt_of_lt_of_le (HD1.out.2.1 k hk) z2)).symm, (Dj.new hS3 HD2.out.2.1).symm,
            fun k hk => Nat.le_trans z0 (HS1.out k hk), fun k hk => Nat.le_trans (Nat.le_trans z0 z1) (HS2.out k hk), fun k hk => Nat.le_trans (Nat.le_trans z0 (Nat.le_trans z1 z2)) (hS3 k hk), ?_, fun h => ?_, fun h => ?_, fun h => ?_⟩
          · rw [hb3.block _ (by omega), HB2.out.block _ (by omega), HB1.out.block _ (by omega)]
            exact HG.out
          · have := HS1.out _ h; omega
          · have := HS2.out _ h; omega
          · have := hS3 _ h; omega
        clear hd3 hb3 hS3 HD1 HD2 HB1 HB2 HS1 HS2 HBK HG HGL
        go_wp2_with fail
        go_loopw [12] (fun i wr => ∃ a : Nat, a ≤ n ∧ i = .int .i64 a ∧ Hid (Th w p1 p2 p3 w1.heap.size (s3 WR a) (s3 WR a) (s3 WR a) wr) ∧ Hid (Below w.heap.size w wr)) (fun i _ => n - (intOf i).toNat)
        case atStart => exact ⟨0, by omega, rfl, HTH, HBC⟩
        case round =>
          clear HTH HBC
          obtain ⟨a, ha, rfl, HTH, HBA⟩ := hrel
          have HPL : Hid ((s3 WR a).pend.length = a) := by show (wrs _ a).length = _; rw [wrs_len]
          by_cases han : a < n
          · obtain ⟨b, o, rfl, hjl, hcell⟩ := HWR.out.at han
            obtain ⟨x, hx⟩ : ∃ x : Nat, WR[a].toNat = x := ⟨_, rfl⟩
            have hx255 : x ≤ 255 := by have := WR[a].toNat_lt; omega
            have HBT : Hid (#[Value.int .u8 (x : Int), Value.int .u8 (a : Int)] = (bc [WR[a], UInt8.ofNat a]).toArray) := by show _ = _; simp only [bc, List.map_cons, List.map_nil]; rw [byte_nat (by omega), hx]
            have HC0 : Hid (w.cell? ⟨b, o + a, none⟩ = some (.int .u8 (x : Int))) := by show _ = _; rw [hcell, hx]
            have HBL : Hid (b < w.heap.size) := HWR.out.lt_block (by omega) _ rfl
            clear hcell
            have hcell : wr.cell? ⟨b, o + a, none⟩ = some (.int .u8 (x : Int)) := (HBA.out.cell (p := ⟨b, o + a, none⟩) HBL.out).trans HC0.out
            obtain ⟨y, hy4, hyx, hand⟩ : ∃ y : Nat, y < 4 ∧ y = x % 4 ∧ Go.bits BinOp.and IntKind.u8 (x : Int) 3 = (y : Int) := ⟨x % 4, by omega, rfl, and_three_u8 ⟨x, by omega⟩⟩
            have HPU : Hid ((s3 WR a).count.push (y : Int) (fl [WR[a], UInt8.ofNat a]) = s3 WR (a + 1)) := by
              have h := sG_push 4 (fun _ => zs) (g3 WR) a
              have e : g3 WR a = ((y : Int), fl [WR[a], UInt8.ofNat a]) := by simp [g3, hjl, hx, hyx]
              rw [e] at h
              exact h
            clear hx hyx
            go_wp2_with fail
            refine (full_any _ 2 _ [WR[a], UInt8.ofNat a] false _ (BS.built' wr _ _ 2 5 HBT.out rfl) (by unfold maxLen; omega)).mono ?_
            rintro e w4 ⟨rfl, hb4, hw4⟩
            have HW4 : Hid (Below wr.heap.size wr w4) := ((Below.refl _ wr).alloc (Nat.le_refl _) _).trans (hw4.mono (by simp))
            have HB4 := Lib.hid hb4
            have HBA4 : Hid (Below w.heap.size w w4) := HBA.out.trans (HW4.out.mono HBA.out.size)
            have hcell4 : w4.cell? ⟨b, o + a, none⟩ = some (.int .u8 (x : Int)) := (HBA4.out.cell (p := ⟨b, o + a, none⟩) HBL.out).trans HC0.out
            clear hb4 hw4 HBT
            simp only [World.size_alloc] at HB4 ⊢
            -- the block of x lies in no disk
            have HTX : Hid (∃ S1 S2 S3, Dk w4 p1 S1 (s3 WR a) ∧ Dk w4 p2 S2 (s3 WR a) ∧ Dk w4 p3 S3 (s3 WR a) ∧ Dj S1 S2 ∧ Dj S1 S3 ∧ Dj S2 S3 ∧ (∀ k, S1 k → w.heap.size ≤ k) ∧ (∀ k, S2 k → w.heap.size ≤ k) ∧ (∀ k, S3 k → w.heap.size ≤ k) ∧
                w4.heap[w1.heap.size]? = some (.cells (bc (alk 8)).toArray 5 (0, 0)) ∧ (¬ S1 w1.heap.size ∧ ¬ S2 w1.heap.size ∧ ¬ S3 w1.heap.size) ∧ ¬ S1 (wr.heap.size + 1) ∧ ¬ S2 (wr.heap.size + 1) ∧ ¬ S3 (wr.heap.size + 1)) := by
              obtain ⟨S1, S2, S3, h1, h2, h3, h4, h5, h6, h7, h8, h9, h10, h11⟩ := HTH.out
              exact ⟨S1, S2, S3, h1.below HW4.out, h2.below HW4.out, h3.below HW4.out, h4, h5, h6, h7, h8, h9, (HW4.out.block _ (Array.getElem?_eq_some_iff.1 h10).1).trans h10, h11, fun h => by have := h1.2.1 _ h; omega, fun h => by have := h2.2.1 _ h; omega, fun h => by have := h3.2.1 _ h; omega⟩
            obtain ⟨S1, S2, S3, h1, h2, h3, h4, h5, h6, h7, h8, h9, h10, ⟨h11, h12, h13⟩, h14, h15, h16⟩ := HTX.out
            have G : ∀ (T : Nat → Prop), ¬ T (wr.heap.size + 1) → ∀ ad : Addr, some (⟨wr.heap.size + 1, 0, none⟩ : Addr) = some ad → ¬ T ad.block := fun T hT ad e => by cases e; exact hT
            have hgx : wr.heap.size + 1 < w4.heap.size := (Array.getElem?_eq_some_iff.1 HB4.out).1
            have hga : w1.heap.size < w4.heap.size := (Array.getElem?_eq_some_iff.1 h10).1
            have HRF : Hid (refus (s3 WR a) (y : Int) = 0) := refus_ok rfl (Int.natCast_nonneg y) (Int.ofNat_lt.2 hy4)
            have HPS : Hid ((s3 WR a).pend.length ≤ 1000000) := by show _ ≤ _; rw [HPL.out]; omega
            have HDN : Hid ((s3 WR a).count.down = false) := DS.count_down rfl rfl
            have HU1 := Lib.hid (write_up p1 S1 (s3 WR a) (y : Int) _ 128 (fl [WR[a], UInt8.ofNat a]) w4 h1 HPS.out HRF.out (block_BS HB4.out (fl_len _)) (G S1 h14) HDN.out)
            have H1 := Lib.hid (And.intro h1 (And.intro h2 h3))
            have H2 := Lib.hid (And.intro h4 (And.intro h5 h6))
            have H3 := Lib.hid (And.intro h7 (And.intro h8 h9))
            have H4 := Lib.hid (And.intro h10 (And.intro h11 (And.intro h12 h13)))
            have H5 := Lib.hid (And.intro h14 (And.intro h15 h16))
            have HG := Lib.hid G
            have HGX := Lib.hid hgx
            have HGA4 := Lib.hid hga
            clear h1 h2 h3 h4 h5 h6 h7 h8 h9 h10 h11 h12 h13 h14 h15 h16 G hgx hga HTX
            rw [HPU.out] at HU1
            go_wp2_with fail
            clear hand
            refine HU1.out.mono ?_
            rintro e w5 ⟨rfl, T1, hd1, hf1, hT1⟩
            -- second
            have hb5 : w5.heap[wr.heap.size + 1]? = some (.cells (bc (fl [WR[a], UInt8.ofNat a])).toArray 5 (0, 0)) := (hf1.block _ ⟨HGX.out, H5.out.1⟩).trans HB4.out
            have HU2 := Lib.hid (write_up p2 S2 (s3 WR a) (y : Int) _ 128 (fl [WR[a], UInt8.ofNat a]) w5 (H1.out.2.1.keep hf1 H2.out.1.symm) HPS.out HRF.out (block_BS hb5 (fl_len _)) (HG.out S2 H5.out.2.1) HDN.out)
            rw [HPU.out] at HU2
            have HD1 := Lib.hid hd1
            have HF1 := Lib.hid hf1
            have HT1 := Lib.hid hT1
            have HB5 := Lib.hid hb5
            have HZ5 : Hid (w4.heap.size ≤ w5.heap.size) := hf1.size
            clear hd1 hf1 hT1 hb5 HU1
            go_wp2_with fail
            refine HU2.out.mono ?_
            rintro e w6 ⟨rfl, T2, hd2, hf2, hT2⟩
            have hb6 : w6.heap[wr.heap.size + 1]? = some (.cells (bc (fl [WR[a], UInt8.ofNat a])).toArray 5 (0, 0)) := (hf2.block _ ⟨Nat.lt_of_lt_of_le HGX.out HZ5.out, H5.out.2.1⟩).trans HB5.out
            have HU3 := Lib.hid (write_up p3 S3 (s3 WR a) (y : Int) _ 128 (fl [WR[a], UInt8.ofNat a]) w6 ((H1.out.2.2.keep HF1.out H2.out.2.1.symm).keep hf2 H2.out.2.2.symm) HPS.out HRF.out (block_BS hb6 (fl_len _)) (HG.out S3 H5.out.2.2) HDN.out)
            rw [HPU.out] at HU3
            have HD2 := Lib.hid hd2
            have HF2 := Lib.hid hf2
            have HT2 := Lib.hid hT2
            have HZ6 : Hid (w5.heap.size ≤ w6.heap.size) := hf2.size
            clear hd2 hf2 hT2 hb6 HU2
            go_wp2_with fail
            refine HU3.out.mono ?_
            rintro e w7 ⟨rfl, T3, hd3, hf3, hT3⟩
            have hj12 : Dj T1 S2 := H2.out.1.grow HT1.out H1.out.2.1.2.1
            have hj13 : Dj T1 S3 := H2.out.2.1.grow HT1.out H1.out.2.2.2.1
            have l1 : ∀ k, T1 k → k < w5.heap.size := HD1.out.2.1
            have l2 : ∀ k, T2 k → k < w6.heap.size := HD2.out.2.1
            have l3 : ∀ k, S3 k → k < w5.heap.size := fun k hk => Nat.lt_of_lt_of_le (H1.out.2.2.2.1 k hk) HZ5.out
            have hk12 : Dj T2 T1 := hj12.symm.grow HT2.out l1
            have hk23 : Dj T2 S3 := H2.out.2.2.grow HT2.out l3
            have hm1 : Dj T3 T1 := hj13.symm.grow hT3 (fun k hk => Nat.lt_of_lt_of_le (l1 k hk) HZ6.out)
            have hm2 : Dj T3 T2 := hk23.symm.grow hT3 l2
            have z0 := HBA4.out.size
            have HTN : Hid (Th w p1 p2 p3 w1.heap.size (s3 WR (a + 1)) (s3 WR (a + 1)) (s3 WR (a + 1)) w7) := by
              refine ⟨T1, T2, T3, (HD1.out.keep HF2.out hj12).keep hf3 hj13, HD2.out.keep hf3 hk23, hd3, hk12.symm, hm1.symm, hm2.symm, fun k hk => ?_, fun k hk => ?_, fun k hk => ?_, ?_, fun hk => ?_, fun hk => ?_, fun hk => ?_⟩
              · rcases HT1.out k hk with h | h
                · exact H3.out.1 k h
                · omega
              · rcases HT2.out k hk with h | h
                · exact H3.out.2.1 k h
                · have := HZ5.out; omega
              · rcases hT3 k hk with h | h
                · exact H3.out.2.2 k h
                · have := HZ5.out; have := HZ6.out; omega
              · have g4 := HGA4.out
                rw [hf3.block _ ⟨by have := HZ5.out; have := HZ6.out; omega, H4.out.2.2.2⟩, HF2.out.block _ ⟨by have := HZ5.out; omega, H4.out.2.2.1⟩, HF1.out.block _ ⟨g4, H4.out.2.1⟩]
                exact H4.out.1
              · rcases HT1.out _ hk with h | h
                · exact H4.out.2.1 h
                · have := HGA4.out; omega
              · rcases HT2.out _ hk with h | h
                · exact H4.out.2.2.1 h
                · have := HGA4.out; have := HZ5.out; omega
              · rcases hT3 _ hk with h | h
                · exact H4.out.2.2.2 h
                · have := HGA4.out; have := HZ5.out; have := HZ6.out; omega
            have HB7 : Hid (Below w.heap.size w w7) := ((HBA4.out.trans (HF1.out.below z0 H3.out.1)).trans (HF2.out.below (Nat.le_trans z0 HZ5.out) H3.out.2.1)).trans (hf3.below (Nat.le_trans z0 (Nat.le_trans HZ5.out HZ6.out)) H3.out.2.2)
            clear hd3 hf3 hT3 hj12 hj13 l1 l2 l3 hk12 hk23 hm1 hm2 z0 HU3
            go_wp2
            go_roundw
            case rel => exact ⟨a + 1, by omega, by go_num, HTN, HB7⟩
            case measure => simp [intOf]; omega
          · obtain rfl : a = n := by omega
            clear han
            have HPS : Hid ((s3 WR a).pend.length ≤ 1000000) := by show _ ≤ _; rw [HPL.out]; omega
            have hga : w1.heap.size < wr.heap.size := by
              obtain ⟨S1, S2, S3, h1, h2, h3, h4, h5, h6, h7, h8, h9, h10, h11⟩ := HTH.out
              exact (Array.getElem?_eq_some_iff.1 h10).1
            obtain ⟨S1, hd1, hS1, hg1, hn1⟩ := HTH.out.call HBA.out.size
            have HN1 := Lib.hid hn1
            have HS1 := Lib.hid hS1
            have HC1 := Lib.hid (flush_up p1 S1 _ wr hd1 HPS.out rfl (DS.count_down rfl rfl))
            clear hd1 hS1 hg1 hn1 HTH
            go_wp2_with fail
            refine HC1.out.mono ?_
            rintro e w5 ⟨rfl, hd5, hf5⟩
            have HT5 := Lib.hid (HN1.out w5 S1 _ hd5 hf5 (fun k hk => .inl hk)).rot
            have HB5 : Hid (Below w.heap.size w w5) := HBA.out.trans (hf5.below HBA.out.size HS1.out)
            clear hd5 hf5 HN1 HC1 HS1 HBA
            obtain ⟨S2, hd2, hS2, hg2, hn2⟩ := HT5.out.call HB5.out.size
            have hal : w5.heap[w1.heap.size]? = some (.cells (bc (alk 8)).toArray 5 (0, 0)) := by
              obtain ⟨S1, S2, S3, h1, h2, h3, h4, h5, h6, h7, h8, h9, h10, h11⟩ := HT5.out
              exact h10
            have hcho : cho (alk 8) (s3 WR a).pend (s3 WR a).pend.length = (s3 WR a).pend := by
              rw [cho_all _ _ _ (Nat.le_refl _) (fun i hi => by have e : alk 8 = List.replicate 8 255 := rfl; rw [e]; exact bit_255 i (by rw [HPL.out] at hi; omega)), List.take_length]
            have HC2 := Lib.hid (crash_any p2 S2 _ (some ⟨w1.heap.size, 0, none⟩) 8 8 (alk 8) w5 hd2 HPS.out (by have := BS.of_block hal; rwa [alk_len 8 (by omega)] at this) (fun _ ad e => by cases e; exact hg2) (by unfold maxLen; omega))
            rw [hcho, HPL.out] at HC2
            have HCH := Lib.hid hcho
            have HN2 := Lib.hid hn2
            have HS2 := Lib.hid hS2
            clear hd2 hS2 hg2 hn2 hal hcho HT5
            go_wp2_with fail
            refine HC2.out.mono ?_
            rintro e w6 ⟨rfl, hd6, hf6⟩
            have HT6 := Lib.hid (HN2.out w6 S2 _ hd6 hf6 (fun k hk => .inl hk)).rot
            have HB6 : Hid (Below w.heap.size w w6) := HB5.out.trans (hf6.below HB5.out.size HS2.out)
            clear hd6 hf6 HN2 HC2 HS2 HB5
            obtain ⟨S3, hd3, hS3, hg3, hn3⟩ := HT6.out.call HB6.out.size
            have HC3 := Lib.hid (crash_any p3 S3 _ none 0 0 [] w6 hd3 HPS.out BS.nil (fun h => absurd h (by omega)) (by unfold maxLen; omega))
            rw [cho_none] at HC3
            have HN3 := Lib.hid hn3
            have HS3 := Lib.hid hS3
            clear hd3 hS3 hg3 hn3 HT6
            go_wp2_with fail
            refine HC3.out.mono ?_
            rintro e w7 ⟨rfl, hd7, hf7⟩
            have HT7 : Hid (Th w p1 p2 p3 w1.heap.size (s3 WR a).count.flushed ((s3 WR a).crashed (alk 8)) ((s3 WR a).crashed []) w7) := (HN3.out w7 S3 _ hd7 hf7 (fun k hk => .inl hk)).rot
            have HB7 : Hid (Below w.heap.size w w7) := HB6.out.trans (hf7.below HB6.out.size HS3.out)
            clear hd7 hf7 HN3 HC3 HS3 HB6 hga
            have HRA : Hid (∀ i, (s3 WR a).count.flushed.read i = (s3 WR a).read i) := fun i => rfl
            have HRB : Hid (∀ i, ((s3 WR a).crashed (alk 8)).read i = (s3 WR a).read i) := fun i => by
              show rd (cho (alk 8) (s3 WR a).pend (s3 WR a).pend.length) i zs = _
              rw [HCH.out]
              rfl
            have HRC : Hid (∀ i, ((s3 WR a).crashed []).read i = zs) := fun i => by
              show rd (cho [] (s3 WR a).pend (s3 WR a).pend.length) i zs = _
              rw [cho_none]
              rfl
            have HX1 : Hid ((s3 WR a).count.flushed.pend.length ≤ 1000000 ∧ ∀ t : Nat, t < 4 → refus (s3 WR a).count.flushed (t : Int) = 0) := ⟨Nat.zero_le _, fun t ht => refus_ok rfl (Int.natCast_nonneg t) (Int.ofNat_lt.2 ht)⟩
            have HX2 : Hid (((s3 WR a).crashed (alk 8)).pend.length ≤ 1000000 ∧ ∀ t : Nat, t < 4 → refus ((s3 WR a).crashed (alk 8)) (t : Int) = 0) := ⟨Nat.zero_le _, fun t ht => refus_ok rfl (Int.natCast_nonneg t) (Int.ofNat_lt.2 ht)⟩
            have HX3 : Hid (((s3 WR a).crashed []).pend.length ≤ 1000000 ∧ ∀ t : Nat, t < 4 → refus ((s3 WR a).crashed []) (t : Int) = 0) := ⟨Nat.zero_le _, fun t ht => refus_ok rfl (Int.natCast_nonneg t) (Int.ofNat_lt.2 ht)⟩
            have HSR : Hid (∀ i, ((s3 WR a).read i).length = 128) := fun i => by
              obtain ⟨S1, S2, S3, h1, h2, h3, h4⟩ := HT7.out
              exact h1.1.2.1 i
            generalize (s3 WR a).count.flushed = sa at *
            generalize (s3 WR a).crashed (alk 8) = sb at *
            generalize (s3 WR a).crashed [] = sc at *
            go_wp2_with fail
            go_loopw [15] (fun i wr => ∃ t : Nat, t ≤ 4 ∧ i = .int .i64 t ∧ Hid (Th w p1 p2 p3 w1.heap.size sa sb sc wr) ∧ Hid (Below w.heap.size w wr)) (fun i _ => 4 - (intOf i).toNat)
            case atStart => exact ⟨0, by omega, rfl, HT7, HB7⟩
            case round =>
              clear HT7 HB7
              obtain ⟨t, ht, rfl, HT7, HB7⟩ := hrel
              by_cases ht4 : t < 4
              · obtain ⟨S1, S2, S3, h1, h2, h3, h4⟩ := HT7.out
                have H1 := Lib.hid h1
                have H2 := Lib.hid h2
                have H3 := Lib.hid h3
                clear h1 h2 h3 h4
                go_wp2_with fail
                refine (read_any p1 S1 sa (t : Int) wr H1.out HX1.out.1 (HX1.out.2 t ht4)).mono ?_
                rw [HRA.out]
                rintro e v1 ⟨g1, rfl, hb1, hg1, hw1⟩
                have HW1 := Lib.hid hw1
                have HBA := Lib.hid hb1
                clear hb1 hw1
                go_wp2_with fail
                refine (read_any p2 S2 sb (t : Int) v1 (H2.out.below HW1.out) HX2.out.1 (HX2.out.2 t ht4)).mono ?_
                rw [HRB.out]
                rintro e v2 ⟨g2, rfl, hb2, hg2, hw2⟩
                have HW2 := Lib.hid hw2
                have HBB := Lib.hid hb2
                clear hb2 hw2
                go_wp2_with fail
                refine (read_any p3 S3 sc (t : Int) v2 ((H3.out.below HW1.out).below HW2.out) HX3.out.1 (HX3.out.2 t ht4)).mono ?_
                rw [HRC.out]
                rintro e v3 ⟨g3, rfl, hb3, hg3, hw3⟩
                have HW3 := Lib.hid hw3
                have hA3 : v3.heap[g1]? = some (.cells (bc ((s3 WR a).read (t : Int))).toArray 64 (0, 0)) := by
                  have l1 := (Array.getElem?_eq_some_iff.1 HBA.out).1
                  rw [hw3.block _ (Nat.lt_of_lt_of_le l1 HW2.out.size), HW2.out.block _ l1]
                  exact HBA.out
                have hB3 : v3.heap[g2]? = some (.cells (bc ((s3 WR a).read (t : Int))).toArray 64 (0, 0)) := (hw3.block _ (Array.getElem?_eq_some_iff.1 HBB.out).1).trans HBB.out
                have HA3 : Hid (BS v3 (some ⟨g1, 0, none⟩) 128 ((s3 WR a).read (t : Int))) := block_BS hA3 (HSR.out _)
                have HB3 : Hid (BS v3 (some ⟨g2, 0, none⟩) 128 ((s3 WR a).read (t : Int))) := block_BS hB3 (HSR.out _)
                have HC3 : Hid (BS v3 (some ⟨g3, 0, none⟩) 128 zs) := block_BS hb3 zs_len
                clear hb3 hw3 hA3 hB3
                go_wp2_with fail
                have c1 : (convert 34 9 (.slice (some ⟨g1, 0, none⟩) 128 128)).run Try.prog v3.drew = .ok (.string (txt ((s3 WR a).read (t : Int)))) v3.drew := run_convert_bs v3.drew _ 128 128 _ HA3.out
                have c2 : (convert 34 9 (.slice (some ⟨g2, 0, none⟩) 128 128)).run Try.prog v3.drew = .ok (.string (txt ((s3 WR a).read (t : Int)))) v3.drew := run_convert_bs v3.drew _ 128 128 _ HB3.out
                have c3 : (convert 34 9 (.slice (some ⟨g3, 0, none⟩) 128 128)).run Try.prog v3.drew = .ok (.string (txt zs)) v3.drew := run_convert_bs v3.drew _ 128 128 _ HC3.out
                go_region_law
                  ((go_simp
                    go_at_call 13
                    refine (full_any _ 0 0 [] false _ BS.nil (by unfold maxLen; omega)).mono ?_
                    rintro e w9 ⟨rfl, hb9, hw9⟩
                    have HW9 : Hid (Below v3.heap.size v3 w9) := (Below.refl v3.heap.size v3).drew.trans hw9
                    have c4 := run_convert_bs w9 (some ⟨g3, 0, none⟩) 128 128 zs (HC3.out.below HW9.out)
                    have c5 : (convert 34 9 (.slice (some ⟨v3.heap.size, 0, none⟩) 128 128)).run Try.prog w9 = .ok (.string (txt zs)) w9 := by
                      rw [fl_nil'] at hb9
                      exact run_convert_bs w9 _ 128 128 zs (block_BS hb9 zs_len)
                    clear hb9 hw9))
                all_goals
                  clear c1 c2 c3 c4 c5
                  have HBX : Hid (Below wr.heap.size wr w9) := HW1.out.trans ((HW2.out.mono HW1.out.size).trans ((HW3.out.mono (Nat.le_trans HW1.out.size HW2.out.size)).trans (HW9.out.mono (Nat.le_trans HW1.out.size (Nat.le_trans HW2.out.size HW3.out.size)))))
                  go_wp2
                  go_roundw
                  case rel => exact ⟨t + 1, by omega, by go_num, HT7.out.below HBX.out, HB7.out.trans (HBX.out.mono HB7.out.size)⟩
                  case measure => simp [intOf]; omega
              · go_wp2
                go_ret
                exact ⟨rfl, HB7.out⟩
end Go.Proofs.Ythokobooekmegaa
