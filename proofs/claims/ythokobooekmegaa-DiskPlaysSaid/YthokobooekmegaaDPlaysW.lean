/-
  The walk of DiskPlays.
-/
import Derived.Test.YthokobooekmegaaDPlays
namespace Go.Proofs.Ythokobooekmegaa
open Go.RowKit

set_option maxRecDepth 100000 in
set_option maxHeartbeats 4000000 in
theorem plays_walk (n : Int) (A : Option Addr) (m c : Nat) (w : World) (hA : AC w A m) (hm : m ≤ maxLen) :
    Calls Try.prog 3 #[.int .i64 n, .slice A m c] w fun e w' => e = .returned (.bool true) ∧ Below w.heap.size w w' := by
  have HAC := Lib.hid hA
  clear hA
  unfold maxLen at hm
  go_enter Try.func3, Try.ntmps3
  go_wp2_with fail
  refine (awake_any w).mono ?_
  rintro e w1 ⟨rfl, hw1⟩
  have HW1 := Lib.hid hw1
  clear hw1
  by_cases h40 : 40 < n
  · go_wp2
    go_ret
    exact ⟨rfl, HW1.out⟩
  · by_cases h1 : n < 1
    · go_wp2_with fail
      refine (new_no n w1 (.inl h1)).mono ?_
      rintro e w2 ⟨rfl, rfl⟩
      go_wp2_with fail
      refine (newR_no n w1 (.inl h1)).mono ?_
      rintro e w3 ⟨rfl, hw3⟩
      have HW3 : Hid (Below w.heap.size w w3) := HW1.out.trans (hw3.mono HW1.out.size)
      clear hw3 HW1
      have HW4 : Hid (Below w.heap.size w (w3.alloc (.cells #[.slice none 0 0, .slice none 0 0, .int .i64 0, .bool false] 31))) := HW3.out.alloc HW3.out.size _
      go_wp2_with fail
      generalize w3.alloc (.cells #[.slice none 0 0, .slice none 0 0, .int .i64 0, .bool false] 31) = w4 at HW4 ⊢
      go_loopw [10] (fun i wr => i = .int .i64 0 ∧ wr = w4) (fun _ _ => 0)
      case atStart => exact ⟨rfl, rfl⟩
      case round =>
        obtain ⟨rfl, rfl⟩ := hrel
        by_cases hm0 : (0 : Int) < (m : Int)
        all_goals
          go_wp2_with (first
            | (go_at_call 18; refine (stop_nil _ _).mono ?_; rintro e wz ⟨⟨v, rfl⟩, rfl⟩)
            | (go_at_call 23; refine (read_nil _ _).mono ?_; rintro e wz ⟨rfl, rfl⟩)
            | (go_at_call 14; refine (write_nil _ _ _ _ _).mono ?_; rintro e wz ⟨rfl, rfl⟩)
            | (go_at_call 16; refine (flush_nil _).mono ?_; rintro e wz ⟨rfl, rfl⟩)
            | (go_at_call 24; refine (len_nil _).mono ?_; rintro e wz ⟨rfl, rfl⟩)
            | (go_at_call 25; refine (waits_nil _).mono ?_; rintro e wz ⟨rfl, rfl⟩)
            | (go_at_call 20; refine (crash_nil _ _ _ _).mono ?_; rintro e wz ⟨rfl, HZ⟩; have HZ := Lib.hid HZ)
            | (go_at_call 26; refine (down_nil _).mono ?_; rintro e wz ⟨rfl, rfl⟩))
          go_ret
          exact ⟨rfl, HW4.out.trans (HZ.out.mono HW4.out.size)⟩
    · obtain ⟨N, rfl⟩ := Int.eq_ofNat_of_zero_le (show 0 ≤ n by omega)
      go_wp2_with fail
      refine (new_any N w1 (by omega) (by omega)).mono ?_
      rintro e w2 ⟨p, S, rfl, hd, hb, hS⟩
      have HD := Lib.hid hd
      have HB : Hid (Below w.heap.size w w2) := HW1.out.trans (hb.mono HW1.out.size)
      have HS : Hid (∀ k, S k → w.heap.size ≤ k) := fun k hk => Nat.le_trans HW1.out.size (hS k hk)
      clear hd hb hS HW1
      go_wp2_with fail
      refine (newR_any N w2 (by omega) (by omega)).mono ?_
      rintro e w3 ⟨AL, cL, rfl, hr3, hw3, hAL⟩
      have HR := Lib.hid hr3
      have HW3 := Lib.hid hw3
      have HAL := Lib.hid hAL
      clear hr3 hw3 hAL
      unfold dv
      have HI : Hid (Mid w w3.heap.size p S (DS.new N) (DS.new N) AL none cL 0 (w3.alloc (.cells #[.slice AL (DS.new N).n cL, .slice none (DS.new N).pend.length 0, .int .i64 (nrm (DS.new N).left), .bool (DS.new N).down] 31))) := by
        have hb4 := (Below.refl w3.heap.size w3).alloc (Nat.le_refl _) (.cells #[.slice AL (DS.new N).n cL, .slice none (DS.new N).pend.length 0, .int .i64 (nrm (DS.new N).left), .bool (DS.new N).down] 31)
        have hz1 := HB.out.size
        have hz2 := HW3.out.size
        have hn0 : 0 < (DS.new N).n := by show 0 < N; omega
        refine ⟨(HD.out.below HW3.out).below hb4, HR.out.below hb4, heap_alloc_new _ _, (HB.out.trans (HW3.out.mono hz1)).alloc (by omega) _, by omega, hn0, fun x hx => ⟨HS.out x hx, ?_⟩, fun ad e => ⟨fun hx => ?_, ?_⟩, fun ad e => by cases e⟩
        · have := HD.out.2.1 x hx
          omega
        · have := HD.out.2.1 _ hx
          have := HAL.out ad e
          omega
        · have := HR.out.ltL hn0 ad e
          omega
      generalize hq : w3.heap.size = q at HI
      go_wp2_with fail
      try rw [hq]
      clear hq HD HB HS HR HW3 HAL
      generalize w3.alloc (.cells #[.slice AL (DS.new N).n cL, .slice none (DS.new N).pend.length 0, .int .i64 (nrm (DS.new N).left), .bool (DS.new N).down] 31) = w4 at HI ⊢
      go_loopw [10] (fun i wr => ∃ k : Nat, k ≤ m ∧ k ≤ 40 ∧ i = .int .i64 k ∧ ∃ S s AL AW cL cW, Hid (Mid w q p S s s AL AW cL cW wr ∧ s.n = N ∧ s.pend.length ≤ k ∧ s.inside)) (fun i _ => 40 - (intOf i).toNat)
      case atStart => exact ⟨0, by omega, by omega, rfl, S, DS.new N, AL, none, cL, 0, HI.out, rfl, Nat.zero_le _, DS.inside_new N⟩
      case round =>
        clear HI
        obtain ⟨k, hkm, hk40, rfl, S, s, AL, AW, cL, cW, HI⟩ := hrel
        by_cases hlt : k < m
        · by_cases hlt40 : k < 40
          · obtain ⟨b, o, x, y, z, B, nn, cc, L, rfl, c0, c1, c2, c3, hx1, hx2, hx3, hx4⟩ := HAC.out.at HI.out.1.2.2.2.1 hlt
            have HX : Hid (BS wr B nn L ∧ nn ≤ maxLen ∧ -9223372036854775808 ≤ z ∧ z ≤ 9223372036854775807) := ⟨hx1, hx2, hx3⟩
            have HBO := Lib.hid hx4
            clear hx1 hx2 hx3 hx4
            obtain ⟨y15, hy0, hy1, hand⟩ : ∃ y : Int, 0 ≤ y ∧ y ≤ 15 ∧ Go.bits BinOp.and IntKind.i64 x 15 = y := ⟨x % 16, by omega, by omega, and15 x⟩
            by_cases h140 : 140 < nn
            · go_wp2
              go_ret
              exact ⟨rfl, HI.out.1.2.2.2.1.alloc HI.out.1.2.2.2.1.size _⟩
            · go_upto_region 18 with fail
              have HM : Hid (Mid w q p S s s AL AW cL cW (wr.alloc (.cells #[.int .i64 x, .int .i64 y, .int .i64 z, .slice B nn cc] 36))) := HI.out.1.below ((Below.refl _ _).alloc (Nat.le_refl _) _)
              have HG : Hid ((wr.alloc (.cells #[.int .i64 x, .int .i64 y, .int .i64 z, .slice B nn cc] 36)).heap[wr.heap.size]? = some (.cells #[.int .i64 x, .int .i64 y, .int .i64 z, .slice B nn cc] 36 (0, 0))) := heap_alloc_new wr _
              have HX2 : Hid (BS (wr.alloc (.cells #[.int .i64 x, .int .i64 y, .int .i64 z, .slice B nn cc] 36)) B nn L) := HX.out.1.below ((Below.refl _ _).alloc (Nat.le_refl _) _)
              have HGS : Hid (¬ S wr.heap.size) := fun h => Nat.lt_irrefl _ (HI.out.1.1.2.1 _ h)
              have HBB : Hid (0 < nn → ∀ ad, B = some ad → ¬ S ad.block) := fun h0 ad e hx => by
                have h1 := (HI.out.1.2.2.2.2.2.2.1 _ hx).1
                have h2 := HBO.out h0 ad e
                omega
              generalize wr.alloc (.cells #[.int .i64 x, .int .i64 y, .int .i64 z, .slice B nn cc] 36) = W1 at HM HG HX2 ⊢
              generalize wr.heap.size = g at HG HGS ⊢
              have g0 : W1.cell? ⟨g, 0, none⟩ = some (.int .i64 x) := by rw [cell_of_row _ _ _ _ _ _ HG.out]; rfl
              have g1 : W1.cell? ⟨g, 1, none⟩ = some (.int .i64 y) := by rw [cell_of_row _ _ _ _ _ _ HG.out]; rfl
              have g2 : W1.cell? ⟨g, 2, none⟩ = some (.int .i64 z) := by rw [cell_of_row _ _ _ _ _ _ HG.out]; rfl
              have g3 : W1.cell? ⟨g, 3, none⟩ = some (.slice B nn cc) := by rw [cell_of_row _ _ _ _ _ _ HG.out]; rfl
              have hgl : Hid (g < W1.heap.size) := (Array.getElem?_eq_some_iff.1 HG.out).1
              clear c0 c1 c2 c3 HBO
              have HSP : Hid (s.pend.length ≤ 1000000 ∧ s.left ≤ 9223372036854775807) := ⟨by have := HI.out.2.2.1; omega, HM.out.1.1.2.2.2.2⟩
              rcases (show (y15 = 0 ∨ y15 = 1 ∨ y15 = 2 ∨ y15 = 3 ∨ y15 = 4 ∨ y15 = 5 ∨ y15 = 6) ∨ (y15 = 7 ∨ y15 = 8 ∨ y15 = 9) ∨ (y15 = 10 ∨ y15 = 11) ∨ (y15 = 12 ∨ y15 = 13 ∨ y15 = 14 ∨ y15 = 15) by omega) with hy | hy | hy | hy
              · rcases hy with rfl | rfl | rfl | rfl | rfl | rfl | rfl
                all_goals
                  go_wp2_with fail
                  refine (full_any B nn cc L _ W1 HX2.out HX.out.2.1).mono ?_
                  rintro e W2 ⟨rfl, hb2, hw2⟩
                  obtain ⟨nl, hnl, hnl2⟩ : ∃ nl : Nat, (if (z == 1) then 127 else 128) = nl ∧ nl ≤ 128 := ⟨_, rfl, by split <;> omega⟩
                  rw [hnl]
                  clear hnl
                  have HB2 := Lib.hid (full_BS hb2 (fl_len L) nl hnl2)
                  generalize (fl L).take nl = l at HB2
                  have HM2 := Lib.hid (HM.out.below hw2)
                  have HG2 : Hid (W2.heap[g]? = _) := (hw2.block g hgl.out).trans HG.out
                  have HH : Hid (¬ S W1.heap.size ∧ W1.heap.size < W2.heap.size) := ⟨fun h => Nat.lt_irrefl _ (HM.out.1.2.1 _ h), (Array.getElem?_eq_some_iff.1 hb2).1⟩
                  have HGL2 : Hid (g < W2.heap.size) := Nat.lt_of_lt_of_le hgl.out hw2.size
                  generalize W1.heap.size = h at HB2 HH ⊢
                  have k1 : W2.cell? ⟨g, 1, none⟩ = some (.int .i64 y) := by rw [cell_of_row _ _ _ _ _ _ HG2.out]; rfl
                  clear hb2 hw2 HM HG HX2 g0 g1 g2 g3 hgl
                  go_wp2_with fail
                  refine (write_all p S s y (some ⟨h, 0, none⟩) nl 128 l W2 HM2.out.1 HSP.out.1 HB2.out (fun ad e => by cases e; exact HH.out.1)).mono ?_
                  rintro e W3 ⟨rfl, hs3⟩
                  obtain ⟨hf3, S3, hm3⟩ := HM2.out.step hs3
                  have HM3 := Lib.hid hm3
                  have k3 : W3.cell? ⟨g, 1, none⟩ = some (.int .i64 y) := (World.cell?_of_block (a := ⟨g, 1, none⟩) (hf3.block g ⟨HGL2.out, HGS.out⟩)).trans k1
                  have hb3 : BS W3 (some ⟨h, 0, none⟩) nl l := HB2.out.keepK hf3 (fun _ ad e => by cases e; exact ⟨HH.out.2, HH.out.1⟩)
                  have v := run_convert_bs W3 (some ⟨h, 0, none⟩) nl 128 l hb3
                  have HWR := writeR_all AL AW cL cW s y l W3 HM3.out.2.1 HSP.out.1 HSP.out.2
                  unfold dv at HWR
                  have HWR := Lib.hid HWR
                  clear hs3 hf3 hm3 hb3 k1 HM2 HG2 HGL2 HH HB2
                  go_wp2_with (refine wpList_load_row rfl 31 (.tmp 8) rfl q rfl 31 #[.slice AL s.n cL, .slice AW s.pend.length cW, .int .i64 (nrm s.left), .bool s.down] (0, 0) _ HM3.out.2.2.1 Try.underlying31 rfl size_D ?_)
                  refine HWR.out.mono ?_
                  rintro e W4 ⟨AL4, AW4, cL4, cW4, rfl, hr4⟩
                  have HR4 := Lib.hid hr4
                  have HGD := Lib.hid (wst_good HI.out.2.2.2 y l HI.out.2.2.1)
                  have HQ4 := Lib.hid ((hr4.2.1.block q HM3.out.lt).trans HM3.out.2.2.1)
                  clear hr4 HWR v k3
                  generalize wst s y l = s4 at HM3 HR4 HGD ⊢
                  generalize wer s y l = er
                  go_wp2_with (refine wpList_store_any rfl 31 (.tmp 8) (.tmp 111) rfl q #[.slice AL4 s4.n cL4, .slice AW4 s4.pend.length cW4, .int .i64 (nrm s4.left), .bool s4.down] rfl rfl 31 _ HQ4.out size_D rfl (all_D _ _ _ _ _ _ _ _) ?_
                               intro W5 hb5 hs5 hw5
                               have HM5 := Lib.hid (HM3.out.doc HGD.out.2.2 HR4.out hb5 hw5)
                               clear hb5 hs5 hw5 HM3 HR4 HQ4
                               have q0 : W5.cell? ⟨q, 0, none⟩ = some (.slice AL4 s4.n cL4) := by rw [cell_of_row _ _ _ _ _ _ HM5.out.2.2.1]; rfl
                               have q1 : W5.cell? ⟨q, 1, none⟩ = some (.slice AW4 s4.pend.length cW4) := by rw [cell_of_row _ _ _ _ _ _ HM5.out.2.2.1]; rfl
                               have q2 : W5.cell? ⟨q, 2, none⟩ = some (.int .i64 (nrm s4.left)) := by rw [cell_of_row _ _ _ _ _ _ HM5.out.2.2.1]; rfl
                               have q3 : W5.cell? ⟨q, 3, none⟩ = some (.bool s4.down) := by rw [cell_of_row _ _ _ _ _ _ HM5.out.2.2.1]; rfl)
                  refine (alike_any p S3 AL4 AW4 cL4 cW4 s4 W5 HM5.out.1 HM5.out.2.1 (by have := HGD.out.2.1; omega)).mono ?_
                  rintro e W6 ⟨rfl, hw6⟩
                  have HM6 := Lib.hid (HM5.out.below hw6)
                  clear q0 q1 q2 q3 hw6
                  go_wp2
                  go_roundw
                  case rel => exact ⟨k + 1, by omega, by omega, by go_num, S3, s4, AL4, AW4, cL4, cW4, HM6.out, HGD.out.2.2.trans HI.out.2.1, HGD.out.2.1, HGD.out.1⟩
                  case measure => simp [intOf]; omega
              · rcases hy with rfl | rfl | rfl
                all_goals
                  go_wp2_with fail
                  refine (flush_all p S s W1 HM.out.1 HSP.out.1).mono ?_
                  rintro e W3 ⟨rfl, hs3⟩
                  obtain ⟨hf3, S3, hm3⟩ := HM.out.step hs3
                  have HM3 := Lib.hid hm3
                  have HWR := flushR_all AL AW cL cW s W3 HM3.out.2.1 HSP.out.1 HSP.out.2 HM.out.1.1.2.2.1 HM.out.2.2.2.2.2.1 HI.out.2.2.2
                  unfold dv at HWR
                  have HWR := Lib.hid HWR
                  clear hs3 hf3 hm3 HM HG HX2 g0 g1 g2 g3 hgl
                  go_wp2_with (refine wpList_load_row rfl 31 (.tmp 8) rfl q rfl 31 #[.slice AL s.n cL, .slice AW s.pend.length cW, .int .i64 (nrm s.left), .bool s.down] (0, 0) _ HM3.out.2.2.1 Try.underlying31 rfl size_D ?_)
                  refine HWR.out.mono ?_
                  rintro e W4 ⟨AL4, AW4, cL4, cW4, rfl, hr4⟩
                  have HR4 := Lib.hid hr4
                  have HGD := Lib.hid (fst_good HI.out.2.2.2 HI.out.2.2.1)
                  have HQ4 := Lib.hid ((hr4.2.1.block q HM3.out.lt).trans HM3.out.2.2.1)
                  clear hr4 HWR
                  generalize Go.Proofs.Ythokobooekmegaa.fst s = s4 at HM3 HR4 HGD ⊢
                  generalize fer s = er
                  go_wp2_with (refine wpList_store_any rfl 31 (.tmp 8) (.tmp 122) rfl q #[.slice AL4 s4.n cL4, .slice AW4 s4.pend.length cW4, .int .i64 (nrm s4.left), .bool s4.down] rfl rfl 31 _ HQ4.out size_D rfl (all_D _ _ _ _ _ _ _ _) ?_
                               intro W5 hb5 hs5 hw5
                               have HM5 := Lib.hid (HM3.out.doc HGD.out.2.2 HR4.out hb5 hw5)
                               clear hb5 hs5 hw5 HM3 HR4 HQ4
                               have q0 : W5.cell? ⟨q, 0, none⟩ = some (.slice AL4 s4.n cL4) := by rw [cell_of_row _ _ _ _ _ _ HM5.out.2.2.1]; rfl
                               have q1 : W5.cell? ⟨q, 1, none⟩ = some (.slice AW4 s4.pend.length cW4) := by rw [cell_of_row _ _ _ _ _ _ HM5.out.2.2.1]; rfl
                               have q2 : W5.cell? ⟨q, 2, none⟩ = some (.int .i64 (nrm s4.left)) := by rw [cell_of_row _ _ _ _ _ _ HM5.out.2.2.1]; rfl
                               have q3 : W5.cell? ⟨q, 3, none⟩ = some (.bool s4.down) := by rw [cell_of_row _ _ _ _ _ _ HM5.out.2.2.1]; rfl)
                  refine (alike_any p S3 AL4 AW4 cL4 cW4 s4 W5 HM5.out.1 HM5.out.2.1 (by have := HGD.out.2.1; omega)).mono ?_
                  rintro e W6 ⟨rfl, hw6⟩
                  have HM6 := Lib.hid (HM5.out.below hw6)
                  clear q0 q1 q2 q3 hw6
                  go_wp2
                  go_roundw
                  case rel => exact ⟨k + 1, by omega, by omega, by go_num, S3, s4, AL4, AW4, cL4, cW4, HM6.out, HGD.out.2.2.trans HI.out.2.1, HGD.out.2.1, HGD.out.1⟩
                  case measure => simp [intOf]; omega
              · rcases hy with rfl | rfl
                all_goals
                  go_wp2_with fail
                  refine (stop_all p S s z W1 HM.out.1 HX.out.2.2.1 HX.out.2.2.2).mono ?_
                  rintro e W3 ⟨⟨v, rfl⟩, hs3⟩
                  obtain ⟨hf3, S3, hm3⟩ := HM.out.step hs3
                  have HM3 := Lib.hid hm3
                  have k3 : W3.cell? ⟨g, 2, none⟩ = some (.int .i64 z) := (World.cell?_of_block (a := ⟨g, 2, none⟩) (hf3.block g ⟨hgl.out, HGS.out⟩)).trans g2
                  have HWR := stopR_all AL AW cL cW s z W3 HM3.out.2.1
                  have HGD : Hid (({ s with left := z } : DS).inside ∧ ({ s with left := z } : DS).pend.length ≤ k + 1 ∧ ({ s with left := z } : DS).n = s.n) := ⟨HI.out.2.2.2, Nat.le_succ_of_le HI.out.2.2.1, rfl⟩
                  clear hs3 hm3
                  generalize ({ s with left := z } : DS) = s4 at HM3 HWR HGD
                  unfold dv at HWR
                  have HWR := Lib.hid HWR
                  clear hf3 HM HG HX2 g0 g1 g2 g3 hgl
                  go_wp2_with (refine wpList_load_row rfl 31 (.tmp 8) rfl q rfl 31 #[.slice AL s.n cL, .slice AW s.pend.length cW, .int .i64 (nrm s.left), .bool s.down] (0, 0) _ HM3.out.2.2.1 Try.underlying31 rfl size_D ?_)
                  refine HWR.out.mono ?_
                  rintro e W4 ⟨AL4, AW4, cL4, cW4, rfl, hr4⟩
                  have HR4 := Lib.hid hr4
                  have HQ4 := Lib.hid ((hr4.2.1.block q HM3.out.lt).trans HM3.out.2.2.1)
                  clear hr4 HWR k3
                  go_wp2_with (refine wpList_store_any rfl 31 (.tmp 8) (.tmp 134) rfl q #[.slice AL4 s4.n cL4, .slice AW4 s4.pend.length cW4, .int .i64 (nrm s4.left), .bool s4.down] rfl rfl 31 _ HQ4.out size_D rfl (all_D _ _ _ _ _ _ _ _) ?_
                               intro W5 hb5 hs5 hw5
                               have HM5 := Lib.hid (HM3.out.doc HGD.out.2.2 HR4.out hb5 hw5)
                               clear hb5 hs5 hw5 HM3 HR4 HQ4
                               have q0 : W5.cell? ⟨q, 0, none⟩ = some (.slice AL4 s4.n cL4) := by rw [cell_of_row _ _ _ _ _ _ HM5.out.2.2.1]; rfl
                               have q1 : W5.cell? ⟨q, 1, none⟩ = some (.slice AW4 s4.pend.length cW4) := by rw [cell_of_row _ _ _ _ _ _ HM5.out.2.2.1]; rfl
                               have q2 : W5.cell? ⟨q, 2, none⟩ = some (.int .i64 (nrm s4.left)) := by rw [cell_of_row _ _ _ _ _ _ HM5.out.2.2.1]; rfl
                               have q3 : W5.cell? ⟨q, 3, none⟩ = some (.bool s4.down) := by rw [cell_of_row _ _ _ _ _ _ HM5.out.2.2.1]; rfl)
                  refine (alike_any p S3 AL4 AW4 cL4 cW4 s4 W5 HM5.out.1 HM5.out.2.1 (by have := HGD.out.2.1; omega)).mono ?_
                  rintro e W6 ⟨rfl, hw6⟩
                  have HM6 := Lib.hid (HM5.out.below hw6)
                  clear q0 q1 q2 q3 hw6
                  go_wp2
                  go_roundw
                  case rel => exact ⟨k + 1, by omega, by omega, by go_num, S3, s4, AL4, AW4, cL4, cW4, HM6.out, HGD.out.2.2.trans HI.out.2.1, HGD.out.2.1, HGD.out.1⟩
                  case measure => simp [intOf]; omega
              · rcases hy with rfl | rfl | rfl | rfl
                all_goals
                  go_wp2_with fail
                  refine (crash_all p S s B nn cc L W1 HM.out.1 HSP.out.1 HX2.out HBB.out HX.out.2.1).mono ?_
                  rintro e W3 ⟨rfl, hs3⟩
                  obtain ⟨hf3, S3, hm3⟩ := HM.out.step hs3
                  have HM3 := Lib.hid hm3
                  have k3 : W3.cell? ⟨g, 3, none⟩ = some (.slice B nn cc) := (World.cell?_of_block (a := ⟨g, 3, none⟩) (hf3.block g ⟨hgl.out, HGS.out⟩)).trans g3
                  have hb3 : BS W3 B nn L := HX2.out.keepK hf3 (fun h0 ad e => ⟨HX2.out.lt_block h0 ad e, HBB.out h0 ad e⟩)
                  have v := run_convert_bs W3 B nn cc L hb3
                  have HWR := crashR_all AL AW cL cW s L W3 HM3.out.2.1 HSP.out.1 HM.out.1.1.2.2.1 HM.out.2.2.2.2.2.1 (by rw [hb3.1]; omega) HI.out.2.2.2
                  unfold dv at HWR
                  have HWR := Lib.hid HWR
                  clear hs3 hf3 hm3 hb3 HM HG HX2 g0 g1 g2 g3 hgl
                  go_wp2_with (refine wpList_load_row rfl 31 (.tmp 8) rfl q rfl 31 #[.slice AL s.n cL, .slice AW s.pend.length cW, .int .i64 (nrm s.left), .bool s.down] (0, 0) _ HM3.out.2.2.1 Try.underlying31 rfl size_D ?_)
                  refine HWR.out.mono ?_
                  rintro e W4 ⟨AL4, AW4, cL4, cW4, rfl, hr4⟩
                  have HGD := Lib.hid (crashed_good s L k)
                  clear HWR v k3
                  generalize s.crashed L = s4 at HM3 hr4 HGD ⊢
                  generalize ((cho L s.pend s.pend.length).length : Int) = er
                  have HR4 := Lib.hid (hr4.below ((Below.refl W4.heap.size W4).alloc (Nat.le_refl _) (.cells #[.slice AL4 s4.n cL4, .slice AW4 s4.pend.length cW4, .int .i64 (nrm s4.left), .bool s4.down] 31)))
                  have HQ4 := Lib.hid ((HR4.out.2.1.block q HM3.out.lt).trans HM3.out.2.2.1)
                  clear hr4
                  go_wp2_with (refine wpList_store_any rfl 31 (.tmp 8) (.tmp 81) rfl q #[.slice AL4 s4.n cL4, .slice AW4 s4.pend.length cW4, .int .i64 (nrm s4.left), .bool s4.down] rfl rfl 31 _ HQ4.out size_D rfl (all_D _ _ _ _ _ _ _ _) ?_
                               intro W5 hb5 hs5 hw5
                               have HM5 := Lib.hid (HM3.out.doc HGD.out.2.2 HR4.out hb5 hw5)
                               clear hb5 hs5 hw5 HM3 HR4 HQ4
                               have q0 : W5.cell? ⟨q, 0, none⟩ = some (.slice AL4 s4.n cL4) := by rw [cell_of_row _ _ _ _ _ _ HM5.out.2.2.1]; rfl
                               have q1 : W5.cell? ⟨q, 1, none⟩ = some (.slice AW4 s4.pend.length cW4) := by rw [cell_of_row _ _ _ _ _ _ HM5.out.2.2.1]; rfl
                               have q2 : W5.cell? ⟨q, 2, none⟩ = some (.int .i64 (nrm s4.left)) := by rw [cell_of_row _ _ _ _ _ _ HM5.out.2.2.1]; rfl
                               have q3 : W5.cell? ⟨q, 3, none⟩ = some (.bool s4.down) := by rw [cell_of_row _ _ _ _ _ _ HM5.out.2.2.1]; rfl)
                  refine (alike_any p S3 AL4 AW4 cL4 cW4 s4 W5 HM5.out.1 HM5.out.2.1 (by have := HGD.out.2.1; omega)).mono ?_
                  rintro e W6 ⟨rfl, hw6⟩
                  have HM6 := Lib.hid (HM5.out.below hw6)
                  clear q0 q1 q2 q3 hw6
                  go_wp2
                  go_roundw
                  case rel => exact ⟨k + 1, by omega, by omega, by go_num, S3, s4, AL4, AW4, cL4, cW4, HM6.out, HGD.out.2.2.trans HI.out.2.1, HGD.out.2.1, HGD.out.1⟩
                  case measure => simp [intOf]; omega
          · have hge : ¬ (k : Int) < 40 := by omega
            go_wp2_with (first
              | (go_at_call 18; refine (stop_nil _ _).mono ?_; rintro e wz ⟨⟨v, rfl⟩, rfl⟩)
              | (go_at_call 23; refine (read_nil _ _).mono ?_; rintro e wz ⟨rfl, rfl⟩)
              | (go_at_call 14; refine (write_nil _ _ _ _ _).mono ?_; rintro e wz ⟨rfl, rfl⟩)
              | (go_at_call 16; refine (flush_nil _).mono ?_; rintro e wz ⟨rfl, rfl⟩)
              | (go_at_call 24; refine (len_nil _).mono ?_; rintro e wz ⟨rfl, rfl⟩)
              | (go_at_call 25; refine (waits_nil _).mono ?_; rintro e wz ⟨rfl, rfl⟩)
              | (go_at_call 20; refine (crash_nil _ _ _ _).mono ?_; rintro e wz ⟨rfl, HZ⟩; have HZ := Lib.hid HZ)
              | (go_at_call 26; refine (down_nil _).mono ?_; rintro e wz ⟨rfl, rfl⟩))
            go_ret
            exact ⟨rfl, HI.out.1.2.2.2.1.trans (HZ.out.mono HI.out.1.2.2.2.1.size)⟩
        · have hge : ¬ (k : Int) < (m : Int) := by omega
          go_wp2_with (first
            | (go_at_call 18; refine (stop_nil _ _).mono ?_; rintro e wz ⟨⟨v, rfl⟩, rfl⟩)
            | (go_at_call 23; refine (read_nil _ _).mono ?_; rintro e wz ⟨rfl, rfl⟩)
            | (go_at_call 14; refine (write_nil _ _ _ _ _).mono ?_; rintro e wz ⟨rfl, rfl⟩)
            | (go_at_call 16; refine (flush_nil _).mono ?_; rintro e wz ⟨rfl, rfl⟩)
            | (go_at_call 24; refine (len_nil _).mono ?_; rintro e wz ⟨rfl, rfl⟩)
            | (go_at_call 25; refine (waits_nil _).mono ?_; rintro e wz ⟨rfl, rfl⟩)
            | (go_at_call 20; refine (crash_nil _ _ _ _).mono ?_; rintro e wz ⟨rfl, HZ⟩; have HZ := Lib.hid HZ)
            | (go_at_call 26; refine (down_nil _).mono ?_; rintro e wz ⟨rfl, rfl⟩))
          go_ret
          exact ⟨rfl, HI.out.1.2.2.2.1.trans (HZ.out.mono HI.out.1.2.2.2.1.size)⟩
end Go.Proofs.Ythokobooekmegaa
