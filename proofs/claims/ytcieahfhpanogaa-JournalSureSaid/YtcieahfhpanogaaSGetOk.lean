/-
  Contract of layer 4's Get, where it goes, and for all bytes.
-/
import Derived.Test.YtcieahfhpanogaaSGet
namespace Go.Proofs.Ytcieahfhpanogaa
open Go.RowKit

theorem BS.aside {w w' : World} {A : Option Addr} {n g : Nat} {l : List UInt8} (h : BS w A n l) (hk : Keep (· ≠ g) w w') (hA : ∀ ad, A = some ad → ad.block ≠ g) : BS w' A n l :=
  ⟨h.1, fun hn => by
    obtain ⟨b, o, e, hc⟩ := h.2 hn
    refine ⟨b, o, e, fun j hj => ?_⟩
    rw [← hc j hj]
    exact World.cell?_of_block (hk.block b (hA _ e))⟩

set_option maxRecDepth 100000 in
set_option maxHeartbeats 4000000 in
theorem get_ok (A : Option Addr) (c : Nat) (l : List UInt8) (w : World) (h : BS w A 128 l) (hc : 128 ≤ c) (hr : right l = true) (hk : ¬ ((l.getD 0 0).toNat < 1 ∨ 4 < (l.getD 0 0).toNat ∨ 108 < (l.getD 3 0).toNat))
    (hz : nought ((l.drop (16 + (l.getD 3 0).toNat)).take (108 - (l.getD 3 0).toNat)) = true) :
    Calls Try.prog 50 #[.slice A 128 c] w (Got w l) := by
  have HE : Hid (getE l = 0) := getE_ok h.1 hr hk hz
  have HGR : Hid (getF l = ⟨l.getD 0 0, l.getD 1 0, l.getD 2 0, num ((l.drop 4).take 8), num ((l.drop 12).take 4), (l.drop 16).take (l.getD 3 0).toNat⟩) := getF_ok HE.out
  have HR := Lib.hid hr
  have HZ := Lib.hid hz
  have HB := Lib.hid h
  clear h hr hz
  go_enter Try.func50, Try.ntmps50
  go_wp2_with (first
    | (refine wpList_alloc_at rfl 76 rfl _ zero_frame w.heap.size rfl ?_
       intro w1 hb1 hw1
       have HG1 : Hid (GS w A l w1 w.heap.size) := ⟨HB.out.below hw1, hb1, hw1, Nat.le_refl _⟩
       clear hb1 hw1))
  refine (right_any A 128 c l w1 HG1.out.bs (by omega) hc).mono ?_
  rw [HR.out]
  rintro e w2 ⟨rfl, hb2⟩
  have HG2 := Lib.hid (HG1.out.step hb2)
  clear hb2 HG1
  obtain ⟨b, o, rfl, hcell⟩ := HG2.out.byte
  have h0 : w2.cell? ⟨b, o, none⟩ = some (.int .u8 ((l.getD 0 0).toNat : Int)) := hcell 0 (by omega)
  have h3 := hcell 3 (by omega)
  clear hcell
  generalize l.getD 0 0 = x0 at *
  generalize l.getD 3 0 = x3 at *
  have b0 := x0.toNat_lt
  have b3 := x3.toNat_lt
  go_wp2_with fail
  go_quiet (fail)
  go_wp2_with fail
  refine (within_one 1 4 _ _ _ _ _ (by simp)).mono ?_
  have HG3 : Hid (GS w (some ⟨b, o, none⟩) l ((w2.drewN nq).alloc (.cells #[.int .i64 (x0.toNat : Int)] 3)) w.heap.size) := (HG2.out.drewN nq).step ((Below.refl _ _).alloc (Nat.le_refl _) _)
  clear HG2
  rw [allIn_one (by omega) (by omega)]
  rintro e w' ⟨rfl, rfl⟩
  have hx3 : decide ((108 : Int) < (x3.toNat : Int)) = false := by simp; omega
  generalize (w2.drewN nq).alloc (.cells #[.int .i64 (x0.toNat : Int)] 3) = w3 at *
  go_wp2_with fail
  refine (blank_any _ _ _ _ w3 (HG3.out.bs.part (16 + x3.toNat) (124 - (16 + x3.toNat)) (by omega)) (by omega)).mono ?_
  rw [show 124 - (16 + x3.toNat) = 108 - x3.toNat by omega, HZ.out]
  rintro e w' ⟨rfl, rfl⟩
  obtain ⟨b', o', hbo, hcell⟩ := HG3.out.byte
  cases hbo
  have h1 := hcell 1 (by omega)
  have h2 := hcell 2 (by omega)
  clear hcell h0 h3
  generalize l.getD 1 0 = x1 at *
  generalize l.getD 2 0 = x2 at *
  have b1 := x1.toNat_lt
  have b2 := x2.toNat_lt
  go_wp2_with fail
  have hblt : b < w3.heap.size := World.block_lt_of_cell? w3 _ h1
  have z1 : IntKind.i64.wrap (x1.toNat : Int) = (x1.toNat : Int) := by rw [IntKind.wrap_i64]; omega
  have z2 : IntKind.i64.wrap (x2.toNat : Int) = (x2.toNat : Int) := by rw [IntKind.wrap_i64]; omega
  go_region_held3 (fun W => W.cell? ⟨b, o + 1, none⟩ = some (.int .u8 (x1.toNat : Int)) ∧ W.cell? ⟨b, o + 2, none⟩ = some (.int .u8 (x2.toNat : Int)))
    (first | go_keep)
    (first | fail)
  have HQ4 : Hid (GQ w (w3.alloc (.cells (frc x0.toNat x1.toNat x2.toNat 0 0 none 0 0) 76)).drew w.heap.size w3.heap.size (frc x0.toNat x1.toNat x2.toNat 0 0 none 0 0)) := HG3.out.frame _
  rename_i hheld
  clear h1 h2 z1 z2 hblt HG3 hheld
  change Exit.then _ _ _ _ (w3.alloc (.cells (frc x0.toNat x1.toNat x2.toNat 0 0 none 0 0) 76)).drew
  generalize (w3.alloc (.cells (frc x0.toNat x1.toNat x2.toNat 0 0 none 0 0) 76)).drew = w4 at *
  generalize w3.heap.size = q at *
  go_wp2_with fail
  refine (num8_any _ 8 _ _ w4 ((HB.out.below HQ4.out.below).part 4 8 (by omega)) (by omega)).mono ?_
  rintro e w' ⟨rfl, rfl⟩
  have HN8 : Hid (num ((l.drop 4).take 8) < 18446744073709551616) := by
    have := num_lt ((l.drop 4).take 8)
    rw [List.length_take, List.length_drop, HB.out.1] at this
    exact this
  have HN4 : Hid (num ((l.drop 12).take 4) < 4294967296) := by
    have := num_lt ((l.drop 12).take 4)
    rw [List.length_take, List.length_drop, HB.out.1] at this
    exact this
  generalize hs8 : num ((l.drop 4).take 8) = s8 at *
  generalize hs4 : num ((l.drop 12).take 4) = s4 at *
  have HS8 := Lib.hid hs8
  have HS4 := Lib.hid hs4
  clear hs8 hs4
  obtain ⟨c3, f3⟩ := HQ4.out.at 3 (.int .u64 0) rfl
  go_upto_region 13 with (fail)
  have HQ5 := Lib.hid (HQ4.out.set 3 (.int .u64 (s8 : Int)))
  clear HQ4 c3 f3
  generalize w4.setCell ⟨q, 3, none⟩ (.int .u64 (s8 : Int)) = w5 at *
  go_wp2_with fail
  refine (num8_any _ 4 _ _ w5 ((HB.out.below HQ5.out.below).part 12 4 (by omega)) (by omega)).mono ?_
  rintro e w' ⟨rfl, rfl⟩
  rw [HS4.out]
  have hn4 := HN4.out
  obtain ⟨c4, f4⟩ := HQ5.out.at 4 (.int .u32 0) rfl
  go_upto_region 14 with (fail)
  have HQ6 := Lib.hid (HQ5.out.set 4 (.int .u32 (s4 : Int)))
  clear HQ5 c4 f4
  generalize w5.setCell ⟨q, 4, none⟩ (.int .u32 (s4 : Int)) = w6 at *
  have HLT : Hid (q < w6.heap.size ∧ w.heap.size < w6.heap.size ∧ w.heap.size ≤ w6.heap.size) := ⟨(Array.getElem?_eq_some_iff.1 HQ6.out.fr).1, (Array.getElem?_eq_some_iff.1 HQ6.out.res).1, HQ6.out.below.size⟩
  go_upto_region 15 with
    (refine wpList_make_bytes rfl (.tmp 60) (.tmp 60) rfl x3.toNat rfl rfl (by omega) ?_
     intro w7 hb7 hs7 hw7
     have HQ7 := Lib.hid (HQ6.out.step hw7)
     have HK7 : Hid (Bk w7 w6.heap.size 5 (List.replicate x3.toNat 0)) := hb7
     obtain ⟨c5, f5⟩ := HQ7.out.at 5 (.slice none 0 0) rfl
     clear hb7 hs7 hw7)
  have HQ8 := Lib.hid (HQ7.out.set 5 (.slice (some ⟨w6.heap.size, 0, none⟩) x3.toNat x3.toNat))
  have HK8 : Hid (Bk (w7.setCell ⟨q, 5, none⟩ (.slice (some ⟨w6.heap.size, 0, none⟩) x3.toNat x3.toNat)) w6.heap.size 5 (List.replicate x3.toNat 0)) := HK7.out.of (Below.heap_setCell w7 _ _ _ (by have := HLT.out.1; simp; omega))
  clear HQ7 HK7 c5 f5 HQ6
  generalize w6.heap.size = g at *
  generalize w7.setCell ⟨q, 5, none⟩ (.slice (some ⟨g, 0, none⟩) x3.toNat x3.toNat) = w8 at *
  obtain ⟨c5, f5⟩ := HQ8.out.drew.at 5 (.slice (some ⟨g, 0, none⟩) x3.toNat x3.toNat) rfl
  have y0 : ¬ c = 16 := by omega
  have y1 : (16 : Int) ≤ 16 + (x3.toNat : Int) := by omega
  have y2 : 16 + (x3.toNat : Int) ≤ (c : Int) := by omega
  refine wp_region_still_tail 5 (by kernel_rfl) (by kernel_rfl) ?_
  simp only [List.take_succ_cons, List.take_zero, List.drop_succ_cons, List.drop_zero]
  change wpStill _ _ (World.drew _) _ _ _
  iterate 5 still_step
  refine wpStill_nil ?_
  change wpList _ _ _ _ _ (World.drew _)
  clear c5 f5
  rw [show (16 + (x3.toNat : Int)).toNat - 16 = x3.toNat by omega]
  have HB8 := Lib.hid ((HB.out.below HQ8.out.drew.below).part 16 x3.toNat (by omega))
  refine wpList_copy_bs rfl (.tmp 64) (.tmp 67) 23 23 rfl 5 g 0 x3.toNat x3.toNat _ _ (some ⟨b, o + 16, none⟩) x3.toNat (c - 16) _ rfl rfl Try.underlying23 size_u8 (HK8.out : Bk w8.drew _ _ _) HB8.out (by simp) (by omega) ?_
  intro w9 hb9 hs9 hk9
  have HQ9 := Lib.hid (HQ8.out.drew.keep hk9 (by have := HLT.out.2.1; omega) (by have := HLT.out.1; omega) HLT.out.2.2)
  have HB9 : Hid (BS w9 (some ⟨g, 0, none⟩) x3.toNat ((l.drop 16).take x3.toNat)) := by
    have h9 : Bk w9 g 5 ((l.drop 16).take x3.toNat) := by simpa using hb9
    have := h9.bs
    rw [HB8.out.1] at this
    exact this
  have HW9 := Lib.hid hk9
  clear hb9 hs9 hk9 HQ8 HK8 HB8
  go_wp2_with (first
    | (refine Did.list rfl (did_load 76 (.tmp 7) rfl ⟨q, 0, none⟩ rfl _ Try.underlying76 rfl (frc x0.toNat x1.toNat x2.toNat s8 s4 (some ⟨g, 0, none⟩) x3.toNat x3.toNat).toList size_frame (fun j u hu => World.news_of_block HQ9.out.fr j u (by simpa [frc] using hu))) ?_)
    | (refine wpList_store_any rfl 76 (.tmp 2) (.tmp 69) rfl w.heap.size (frc x0.toNat x1.toNat x2.toNat s8 s4 (some ⟨g, 0, none⟩) x3.toNat x3.toNat) rfl rfl 76 _ HQ9.out.res size_frame rfl (frc_all _ _ _ _ _ _ _ _) ?_
       intro wz hb hs hw
       have HBZ := Lib.hid hb
       have HWZ : Hid (Below w.heap.size w wz) := HQ9.out.below.trans (Keep.below (hw.mono fun k hk => by have := HQ9.out.lo; omega))
       have HSZ : Hid (BS wz (some ⟨g, 0, none⟩) x3.toNat ((l.drop 16).take x3.toNat)) := HB9.out.aside hw (fun ad e => by cases e; have := HLT.out.2.1; simp; omega)
       clear hb hs hw))
  refine bodyPost_ret (results_fr rfl _ wz w.heap.size _ HBZ.out size_frame (by rfl) (by rfl) Try.underlying76) rfl ⟨some ⟨g, 0, none⟩, x3.toNat, x3.toNat, ?_, ?_, HWZ.out, fun ad e => by (cases e; exact HLT.out.2.2), Nat.le_refl _⟩
  · rw [HGR.out, HE.out]
    rfl
  · rw [HGR.out]
    exact HSZ.out

/-- Get, whatever the bytes. -/
theorem get_any (A : Option Addr) (n c : Nat) (l : List UInt8) (w : World) (h : BS w A n l) (hc : n ≤ c) :
    Calls Try.prog 50 #[.slice A n c] w (Got w l) := by
  by_cases h1 : n = 128
  · subst h1
    by_cases h2 : right l = true
    · by_cases h3 : (l.getD 0 0).toNat < 1 ∨ 4 < (l.getD 0 0).toNat ∨ 108 < (l.getD 3 0).toNat
      · exact get_kind A c l w h hc h2 h3
      · by_cases h4 : nought ((l.drop (16 + (l.getD 3 0).toNat)).take (108 - (l.getD 3 0).toNat)) = true
        · exact get_ok A c l w h hc h2 h3 h4
        · exact get_rest A c l w h hc h2 h3 (by simpa using h4)
    · exact get_sum A c l w h hc (by simpa using h2)
  · exact get_len A n c l w h h1
end Go.Proofs.Ytcieahfhpanogaa
