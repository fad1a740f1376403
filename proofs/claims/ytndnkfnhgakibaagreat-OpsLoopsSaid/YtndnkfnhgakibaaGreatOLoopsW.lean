/-
  The law OpsLoops (layer 13).
-/
import Derived.Test.YtndnkfnhgakibaaGreatOLoopM
import Derived.Test.YtndnkfnhgakibaaGreatODraw
import Derived.Test.YtndnkfnhgakibaaGreatOSnd
namespace Go.Proofs.YtndnkfnhgakibaaGreat
open Go.RowKit Go.Shelf
attribute [local go_sem] Oper.semAt_some

set_option maxRecDepth 100000 in
set_option maxHeartbeats 8000000 in
theorem loops_walk (HP : Pk) (x y z : Nat) (w : World) (hx : x < 256) (hy : y < 256) (hz : z < 256) :
    Calls Tryz.prog 8 #[.int .u8 (x : Int), .int .u8 (y : Int), .int .u8 (z : Int)] w fun e w' => e = .returned (.bool true) ∧ Below w.heap.size w w' := by
  have HPK := Lib.hid HP
  clear HP
  obtain ⟨n, hn⟩ : ∃ n, x % 8 + 1 = n := ⟨_, rfl⟩
  have HNI : Hid ((x : Int) % 8 + 1 = (n : Int)) := by show _ = _; omega
  have hn8 : 1 ≤ n ∧ n < 9 := by omega
  clear hn
  obtain ⟨a, ha⟩ : ∃ a, y % n = a := ⟨_, rfl⟩
  have HAI : Hid ((y : Int) % (n : Int) = (a : Int)) := by show _ = _; rw [← ha]; push_cast; rfl
  have han : a < n := by rw [← ha]; exact Nat.mod_lt _ (by omega)
  clear ha
  obtain ⟨b, hb⟩ : ∃ b, z % (n + 1) = b := ⟨_, rfl⟩
  have HBI : Hid ((z : Int) % ((n : Int) + 1) = (b : Int)) := by show _ = _; rw [← hb]; push_cast; rfl
  have hbn : b < n + 1 := by rw [← hb]; exact Nat.mod_lt _ (by omega)
  clear hb
  have HAB : Hid (a < n ∧ b < n + 1) := ⟨han, hbn⟩
  clear han hbn
  go_enter Tryz.func8, Tryz.ntmps8
  go_wp2_with fail
  refine (awakeO_any HPK.out w).mono ?_
  rintro e w0 ⟨rfl, hb0⟩
  have HB0 := Lib.hid hb0
  clear hb0
  go_wp2_with fail
  first | rw [HNI.out] | skip
  refine (HPK.out.format 40 w0 (by omega)).mono ?_
  rintro e w1 ⟨A0, k0, rfl, tm0, hb1⟩
  have HT0 := Lib.hid tm0
  have HV0 : Hid (VT w w1 []) := VT.nil (HB0.out.trans (hb1.mono HB0.out.size))
  clear tm0 hb1 HB0 HNI
  go_upto_region 6 with (first
    | (refine wpList_alloc_any rfl 27 rfl _ zero_Th ?_; intro w3 hb2 hs2 hw2)
    | (refine wpList_store_part rfl 27 (.tmp 9) (.tmp 27) rfl _ 0 (tc (Op.format 40) (.slice A0 24 k0)) rfl rfl 27 (tc Op.zeroT (.slice none 0 0)) hb2 size_Th (by simp [tc]) (tc_row _ _ _ _) ?_
       intro w4 hb3 hs3 hk3))
  have HVx : Hid (VT w w4 [(w1.heap.size, .th A0 k0 (Op.format 40))]) := HV0.out.push (Nat.le_refl _) hb3 (hw2.trans (hk3.below2 (fun k hk => by omega))) HT0.out
  clear hb2 hs2 hw2 hb3 hs3 hk3 HT0 HV0
  generalize w1.heap.size = g1 at *
  have HR0 : Hid (TR (w4.alloc (.cells #[.int .u32 0, .int .u32 1] 35)) w.heap.size 35 2 (some ⟨w4.heap.size, 0, none⟩) 1 1 (hL 0)) := TR.one (xs := [.int .u32 0, .int .u32 1]) HVx.out.bel.size rfl (fun u hu => by
    simp only [List.mem_cons, List.not_mem_nil, or_false] at hu
    rcases hu with rfl | rfl <;> exact dry_u32 _)
  have HV := Lib.hid (HVx.out.below (alloc_below w4 (.cells #[.int .u32 0, .int .u32 1] 35)))
  clear HVx
  go_upto_region 7 with fail
  generalize w4.alloc (.cells #[.int .u32 0, .int .u32 1] 35) = w5 at *
  generalize w4.heap.size = gl at *
  go_wp2_with fail
  go_loopw [10, 11] (fun lv i wr => ∃ (j : Nat) (A : Option Addr) (k : Nat) (B : Option Addr) (kk : Nat), j ≤ n ∧ i = .int .i64 j ∧ lv = .slice B (j + 1) kk ∧ Hid (VT w wr [(g1, .th A k (Op.chT j))]) ∧ Hid (TR wr w.heap.size 35 2 B (j + 1) kk (hL j))) (fun _ i _ => n - (intOf i).toNat)
  case atStart => exact ⟨0, A0, k0, _, 1, by omega, rfl, rfl, HV, HR0⟩
  case round =>
    clear HV HR0
    obtain ⟨j, A, k, B, kk, hj, rfl, rfl, HV, HTR⟩ := hrel
    obtain ⟨wo, rfl⟩ : ∃ wo, wo = wr := ⟨wr, rfl⟩
    by_cases hlt : j < n
    · have HSj : Hid (Op.Sound (Op.chT j)) := Op.ch_sound j (by omega)
      obtain ⟨b', rfl, -, -, hcl, -, -⟩ := HTR.out.at (by omega)
      have HC0 : Hid (wo.cell? ⟨b', j * 2, none⟩ = some (.int .u32 (j : Int))) := hcl _ _ (hL_at j j (Nat.le_refl _)).1
      have HC1 : Hid (wo.cell? ⟨b', j * 2 + 1, none⟩ = some (.int .u32 1)) := hcl _ _ (hL_at j j (Nat.le_refl _)).2
      have hbl : b' < wo.heap.size := World.block_lt_of_cell? wo _ HC0.out
      clear hcl
      go_upto_region 10 with fail
      go_cut [12, 13] from 30 to 53 (fun tv rv W => ∃ (gtq grq : Nat) (Aq : Option Addr) (kq : Nat) (Bq : Option Addr) (nq dq : Nat) (Cq : Option Addr) (mq fq : Nat), tv = .pointer (some ⟨gtq, 0, none⟩) ∧ rv = .pointer (some ⟨grq, 0, none⟩) ∧ Hid (VT w W [(g1, .th A k (Op.chT j)), (gtq, .th Aq kq (Op.chT (j + 1))), (grq, .rp Bq nq dq Cq mq fq (Op.chR j))]) ∧ Hid (Below wo.heap.size wo W))
      case first =>
        have HSd : Hid ((fun W : World => Below wo.heap.size wo W) wo.drew) := (Below.refl _ wo).drew
        refine wp_region_held_drew (S := (fun W : World => Below wo.heap.size wo W)) (by kernel_rfl) HSd.out (fun _ => ?_)
        change wpAnyH _ _ _ _ _ 14 (Array.replicate 14 false) _ _
        refine takeH (i := 0) 36 (.agg (tc (Op.chT j) (.slice A 24 k)).toArray) rfl rfl (by kernel_rfl) (by kernel_rfl) (by kernel_rfl) (fun _ _ _ h => h) (.inl ⟨by rfl, fun W hW => by exact run_load_part 27 (.tmp 9) rfl g1 0 rfl _ Tryz.underlying27 rfl (tc (Op.chT j) (.slice A 24 k)) 27 _ ((VT.below HV.out hW).bw 0 rfl) size_Th (fun j u hu => by rw [Nat.zero_add]; exact hu)⟩) HSd.out ?_
        simp only [Act.put, List.setIfInBounds_toArray, List.set_cons_zero, List.set_cons_succ]
        refine takeH (i := 1) 37 ((.slice (some ⟨b', 0, none⟩) (j + 1) kk)) rfl rfl (by kernel_rfl) (by kernel_rfl) (by kernel_rfl) (fun _ _ _ h => h) (.inl ⟨by rfl, fun W hW => by go_simp⟩) HSd.out ?_
        simp only [Act.put, List.setIfInBounds_toArray, List.set_cons_zero, List.set_cons_succ]
        refine takeH (i := 2) 38 (.int .i64 (j : Int)) rfl rfl (by kernel_rfl) (by kernel_rfl) (by kernel_rfl) (fun _ _ _ h => h) (.inl ⟨by rfl, fun W hW => by go_simp⟩) HSd.out ?_
        simp only [Act.put, List.setIfInBounds_toArray, List.set_cons_zero, List.set_cons_succ]
        refine takeH (i := 3) 39 ((.pointer (some ⟨b', j * 2, none⟩))) rfl rfl (by kernel_rfl) (by kernel_rfl) (by kernel_rfl) (fun _ _ _ h => h) (.inl ⟨by rfl, fun W hW => by (go_simp; intro hh; omega)⟩) HSd.out ?_
        simp only [Act.put, List.setIfInBounds_toArray, List.set_cons_zero, List.set_cons_succ]
        refine takeH (i := 4) 40 (.agg #[.int .u32 (j : Int), .int .u32 1]) rfl rfl (by kernel_rfl) (by kernel_rfl) (by kernel_rfl) (fun _ _ _ h => h) (.inl ⟨by rfl, fun W hW => by (have z0 := (Below.cell hW (p := ⟨b', j * 2, none⟩) hbl).trans HC0.out; have z1 := (Below.cell hW (p := ⟨b', j * 2 + 1, none⟩) hbl).trans HC1.out; go_simp)⟩) HSd.out ?_
        simp only [Act.put, List.setIfInBounds_toArray, List.set_cons_zero, List.set_cons_succ]
        refine takeH (i := 5) 41 (.agg #[.int .u32 0, .int .u32 0, .int .u32 7, .int .u32 (j : Int), .int .u32 1, .string ⟨#[100]⟩, .int .u32 0, .int .u32 0, .string ⟨#[]⟩, .int .u64 0, .int .u64 0, .int .u32 0, .int .u32 0, .slice none 0 0]) rfl rfl (by kernel_rfl) (by kernel_rfl) (by kernel_rfl) (fun _ _ _ h => h) (.inl ⟨by rfl, fun W hW => by go_simp⟩) HSd.out ?_
        simp only [Act.put, List.setIfInBounds_toArray, List.set_cons_zero, List.set_cons_succ]
        refine wpAnyH_ready (rs := [6, 10, 11]) (by kernel_rfl) (by simp) ?_
        refine AllReadyH.cons rfl (fun K hK => ?_) (AllReadyH.cons rfl (fun K hK => ?_) (AllReadyH.cons rfl (fun K hK => ?_) AllReadyH.nil))
        · skip
          go_simp
          refine (HPK.out.run (Op.chT j) A k (Op.mkD j) none 0 0 _ (show TM _ A k (Op.chT j) from (VT.below HV.out HSd.out).ok 0 rfl) HSj.out (Op.mkD_wide (by omega)) (Nat.le_of_ble_eq_true rfl) (Nat.le_of_ble_eq_true rfl) (Nat.le_of_ble_eq_true rfl) BS.nil (Nat.le_refl _)).mono ?_
          rintro e wac ⟨Ac, kc, Bc, nc, dc, Cc, mc, fc, rfl, tmc, rmc, hbc⟩
          have ec := Op.do_step (c := (Op.mkD j)) HSj.out.inv.may (Nat.le_of_ble_eq_true rfl) (Nat.le_of_ble_eq_true rfl) (Nat.ne_of_beq_eq_false rfl)
          rw [show Op.doT (Op.chT j) (Op.mkD j) = (Op.chT (j + 1)) from ec.1] at tmc ⊢
          rw [show Op.doR (Op.chT j) (Op.mkD j) = (Op.chR j) from ec.2] at rmc ⊢
          have hzc := hbc.size
          have HSc : Hid ((fun W : World => Below wo.heap.size wo W) wac) := HSd.out.trans (hbc.mono HSd.out.size)
          refine hK.out _ _ HSc.out fun _ => ?_
          clear hK K ec
          refine takeH (i := 7) 35 (.tuple #[.agg (tc (Op.chT (j + 1)) (.slice Ac 24 kc)).toArray, .agg (rc (Op.chR j) (.slice Bc nc dc) (.slice Cc mc fc)).toArray]) rfl rfl (by kernel_rfl) (by kernel_rfl) (by kernel_rfl) (fun _ _ _ h => h) (.inl ⟨by rfl, fun W hW => by go_simp⟩) HSc.out ?_
          simp only [Act.put, List.setIfInBounds_toArray, List.set_cons_zero, List.set_cons_succ]
          refine takeH (i := 8) 43 (.agg (tc (Op.chT (j + 1)) (.slice Ac 24 kc)).toArray) rfl rfl (by kernel_rfl) (by kernel_rfl) (by kernel_rfl) (fun _ _ _ h => h) (.inl ⟨by rfl, fun W hW => by go_simp⟩) HSc.out ?_
          simp only [Act.put, List.setIfInBounds_toArray, List.set_cons_zero, List.set_cons_succ]
          refine takeH (i := 9) 44 (.agg (rc (Op.chR j) (.slice Bc nc dc) (.slice Cc mc fc)).toArray) rfl rfl (by kernel_rfl) (by kernel_rfl) (by kernel_rfl) (fun _ _ _ h => h) (.inl ⟨by rfl, fun W hW => by go_simp⟩) HSc.out ?_
          simp only [Act.put, List.setIfInBounds_toArray, List.set_cons_zero, List.set_cons_succ]
          refine wpAnyH_ready (rs := [10, 11]) (by kernel_rfl) (by simp) ?_
          refine AllReadyH.cons rfl (fun K hK => ?_) (AllReadyH.cons rfl (fun K hK => ?_) AllReadyH.nil)
          · skip
            refine alloc_wp 27 rfl _ zero_Th ?_
            intro wact hbtct hsct hwct
            have HSZct := Lib.hid hsct
            clear hsct
            have HSct : Hid ((fun W : World => Below wo.heap.size wo W) wact) := HSc.out.trans (hwct.mono HSc.out.size)
            have hgxct := HSc.out.size
            refine hK.out _ _ HSct.out fun _ => ?_
            clear hK K
            simp only [List.getElem_toArray, List.getElem_cons_succ, List.getElem_cons_zero, Act.put, List.setIfInBounds_toArray, List.set_cons_zero, List.set_cons_succ]
            have tmct := TM.below tmc hwct
            have rmct := RM.below rmc hwct
            refine wpAnyH_ready (rs := [11]) (by kernel_rfl) (by simp) ?_
            refine AllReadyH.cons rfl (fun K hK => ?_) AllReadyH.nil
            · skip
              refine alloc_wp 49 rfl _ zero_Rp ?_
              intro wactr hbrctr hsctr hwctr
              have HSZctr := Lib.hid hsctr
              clear hsctr
              have HSctr : Hid ((fun W : World => Below wo.heap.size wo W) wactr) := HSct.out.trans (hwctr.mono HSct.out.size)
              have hgxctr := HSct.out.size
              refine hK.out _ _ HSctr.out fun _ => ?_
              clear hK K
              simp only [List.getElem_toArray, List.getElem_cons_succ, List.getElem_cons_zero, Act.put, List.setIfInBounds_toArray, List.set_cons_zero, List.set_cons_succ]
              have hbtctr := Bw.below hbtct hwctr
              have tmctr := TM.below tmct hwctr
              have rmctr := RM.below rmct hwctr
              refine wpAnyH_ready (rs := [12]) (by kernel_rfl) (by simp) ?_
              refine AllReadyH.cons rfl (fun K hK => ?_) AllReadyH.nil
              refine store_wp (P := Tryz.prog) 27 (.tmp 12) (.tmp 43) rfl (wac.heap.size) (tc (Op.chT (j + 1)) (.slice Ac 24 kc)) rfl rfl 27 _ hbtctr size_Th rfl (tc_row _ _ _ _) ?_
              intro w8ctr hb8ctr hs8ctr hk8ctr
              have HTctr : Hid ((fun W : World => Below wo.heap.size wo W) w8ctr) := HSctr.out.trans (hk8ctr.below2 (fun q hq => by have := HSZct.out; have := HSZctr.out; omega))
              refine hK.out _ _ HTctr.out fun _ => ?_
              clear hK K
              refine wpAnyH_ready (rs := [13]) (by kernel_rfl) (by simp) ?_
              refine AllReadyH.cons rfl (fun K hK => ?_) AllReadyH.nil
              refine store_wp (P := Tryz.prog) 49 (.tmp 13) (.tmp 44) rfl (wact.heap.size) (rc (Op.chR j) (.slice Bc nc dc) (.slice Cc mc fc)) rfl rfl 49 _ (Bw.keep hbrctr hk8ctr (by have := HSZct.out; have := HSZctr.out; omega)) size_Rp rfl (rc_row _ _ _ _ _ _ _) ?_
              intro w9ctr hb9ctr hs9ctr hk9ctr
              have HUctr : Hid ((fun W : World => Below wo.heap.size wo W) w9ctr) := HTctr.out.trans (hk9ctr.below2 (fun q hq => by have := HSZct.out; have := HSZctr.out; omega))
              refine hK.out _ _ HUctr.out fun _ => ?_
              clear hK K
              refine wpAnyH_done (by kernel_rfl) ?_ _
              have HFctr := Lib.hid (VT.two (gt := wac.heap.size) (gr := wact.heap.size) HV.out HSctr.out (by have := HSZct.out; have := HSZctr.out; omega) (by have := HSZct.out; have := HSZctr.out; omega) (by have := HSZct.out; have := HSZctr.out; omega) hbtctr hbrctr tmctr rmctr hb8ctr hk8ctr hb9ctr hk9ctr)
              simp only [List.getElem_toArray, List.getElem_cons_succ, List.getElem_cons_zero, Act.put]
              go_step
              go_step
              go_meet
              case rel => exact ⟨_, _, Ac, kc, Bc, nc, dc, Cc, mc, fc, rfl, rfl, HFctr.out.1, HFctr.out.2⟩
          · skip
            refine alloc_wp 49 rfl _ zero_Rp ?_
            intro wacr hbrcr hscr hwcr
            have HSZcr := Lib.hid hscr
            clear hscr
            have HScr : Hid ((fun W : World => Below wo.heap.size wo W) wacr) := HSc.out.trans (hwcr.mono HSc.out.size)
            have hgxcr := HSc.out.size
            refine hK.out _ _ HScr.out fun _ => ?_
            clear hK K
            simp only [List.getElem_toArray, List.getElem_cons_succ, List.getElem_cons_zero, Act.put, List.setIfInBounds_toArray, List.set_cons_zero, List.set_cons_succ]
            have tmcr := TM.below tmc hwcr
            have rmcr := RM.below rmc hwcr
            refine wpAnyH_ready (rs := [10]) (by kernel_rfl) (by simp) ?_
            refine AllReadyH.cons rfl (fun K hK => ?_) AllReadyH.nil
            · skip
              refine alloc_wp 27 rfl _ zero_Th ?_
              intro wacrt hbtcrt hscrt hwcrt
              have HSZcrt := Lib.hid hscrt
              clear hscrt
              have HScrt : Hid ((fun W : World => Below wo.heap.size wo W) wacrt) := HScr.out.trans (hwcrt.mono HScr.out.size)
              have hgxcrt := HScr.out.size
              refine hK.out _ _ HScrt.out fun _ => ?_
              clear hK K
              simp only [List.getElem_toArray, List.getElem_cons_succ, List.getElem_cons_zero, Act.put, List.setIfInBounds_toArray, List.set_cons_zero, List.set_cons_succ]
              have hbrcrt := Bw.below hbrcr hwcrt
              have tmcrt := TM.below tmcr hwcrt
              have rmcrt := RM.below rmcr hwcrt
              refine wpAnyH_ready (rs := [12]) (by kernel_rfl) (by simp) ?_
              refine AllReadyH.cons rfl (fun K hK => ?_) AllReadyH.nil
              refine store_wp (P := Tryz.prog) 27 (.tmp 12) (.tmp 43) rfl (wacr.heap.size) (tc (Op.chT (j + 1)) (.slice Ac 24 kc)) rfl rfl 27 _ hbtcrt size_Th rfl (tc_row _ _ _ _) ?_
              intro w8crt hb8crt hs8crt hk8crt
              have HTcrt : Hid ((fun W : World => Below wo.heap.size wo W) w8crt) := HScrt.out.trans (hk8crt.below2 (fun q hq => by have := HSZcr.out; have := HSZcrt.out; omega))
              refine hK.out _ _ HTcrt.out fun _ => ?_
              clear hK K
              refine wpAnyH_ready (rs := [13]) (by kernel_rfl) (by simp) ?_
              refine AllReadyH.cons rfl (fun K hK => ?_) AllReadyH.nil
              refine store_wp (P := Tryz.prog) 49 (.tmp 13) (.tmp 44) rfl (wac.heap.size) (rc (Op.chR j) (.slice Bc nc dc) (.slice Cc mc fc)) rfl rfl 49 _ (Bw.keep hbrcrt hk8crt (by have := HSZcr.out; have := HSZcrt.out; omega)) size_Rp rfl (rc_row _ _ _ _ _ _ _) ?_
              intro w9crt hb9crt hs9crt hk9crt
              have HUcrt : Hid ((fun W : World => Below wo.heap.size wo W) w9crt) := HTcrt.out.trans (hk9crt.below2 (fun q hq => by have := HSZcr.out; have := HSZcrt.out; omega))
              refine hK.out _ _ HUcrt.out fun _ => ?_
              clear hK K
              refine wpAnyH_done (by kernel_rfl) ?_ _
              have HFcrt := Lib.hid (VT.two (gt := wacr.heap.size) (gr := wac.heap.size) HV.out HScrt.out (by have := HSZcr.out; have := HSZcrt.out; omega) (by have := HSZcr.out; have := HSZcrt.out; omega) (by have := HSZcr.out; have := HSZcrt.out; omega) hbtcrt hbrcrt tmcrt rmcrt hb8crt hk8crt hb9crt hk9crt)
              simp only [List.getElem_toArray, List.getElem_cons_succ, List.getElem_cons_zero, Act.put]
              go_step
              go_step
              go_meet
              case rel => exact ⟨_, _, Ac, kc, Bc, nc, dc, Cc, mc, fc, rfl, rfl, HFcrt.out.1, HFcrt.out.2⟩
        · skip
          refine alloc_wp 27 rfl _ zero_Th ?_
          intro wat hbtt hst hwt
          have HSZt := Lib.hid hst
          clear hst
          have HSt : Hid ((fun W : World => Below wo.heap.size wo W) wat) := HSd.out.trans (hwt.mono HSd.out.size)
          have hgxt := HSd.out.size
          refine hK.out _ _ HSt.out fun _ => ?_
          clear hK K
          simp only [List.getElem_toArray, List.getElem_cons_succ, List.getElem_cons_zero, Act.put, List.setIfInBounds_toArray, List.set_cons_zero, List.set_cons_succ]
          refine wpAnyH_ready (rs := [6, 11]) (by kernel_rfl) (by simp) ?_
          refine AllReadyH.cons rfl (fun K hK => ?_) (AllReadyH.cons rfl (fun K hK => ?_) AllReadyH.nil)
          · skip
            go_simp
            refine (HPK.out.run (Op.chT j) A k (Op.mkD j) none 0 0 _ (show TM _ A k (Op.chT j) from (VT.below HV.out HSt.out).ok 0 rfl) HSj.out (Op.mkD_wide (by omega)) (Nat.le_of_ble_eq_true rfl) (Nat.le_of_ble_eq_true rfl) (Nat.le_of_ble_eq_true rfl) BS.nil (Nat.le_refl _)).mono ?_
            rintro e watc ⟨Atc, ktc, Btc, ntc, dtc, Ctc, mtc, ftc, rfl, tmtc, rmtc, hbtc⟩
            have etc := Op.do_step (c := (Op.mkD j)) HSj.out.inv.may (Nat.le_of_ble_eq_true rfl) (Nat.le_of_ble_eq_true rfl) (Nat.ne_of_beq_eq_false rfl)
            rw [show Op.doT (Op.chT j) (Op.mkD j) = (Op.chT (j + 1)) from etc.1] at tmtc ⊢
            rw [show Op.doR (Op.chT j) (Op.mkD j) = (Op.chR j) from etc.2] at rmtc ⊢
            have hztc := hbtc.size
            have HStc : Hid ((fun W : World => Below wo.heap.size wo W) watc) := HSt.out.trans (hbtc.mono HSt.out.size)
            have hbttc := Bw.below hbtt hbtc
            refine hK.out _ _ HStc.out fun _ => ?_
            clear hK K etc
            refine takeH (i := 7) 35 (.tuple #[.agg (tc (Op.chT (j + 1)) (.slice Atc 24 ktc)).toArray, .agg (rc (Op.chR j) (.slice Btc ntc dtc) (.slice Ctc mtc ftc)).toArray]) rfl rfl (by kernel_rfl) (by kernel_rfl) (by kernel_rfl) (fun _ _ _ h => h) (.inl ⟨by rfl, fun W hW => by go_simp⟩) HStc.out ?_
            simp only [Act.put, List.setIfInBounds_toArray, List.set_cons_zero, List.set_cons_succ]
            refine takeH (i := 8) 43 (.agg (tc (Op.chT (j + 1)) (.slice Atc 24 ktc)).toArray) rfl rfl (by kernel_rfl) (by kernel_rfl) (by kernel_rfl) (fun _ _ _ h => h) (.inl ⟨by rfl, fun W hW => by go_simp⟩) HStc.out ?_
            simp only [Act.put, List.setIfInBounds_toArray, List.set_cons_zero, List.set_cons_succ]
            refine takeH (i := 9) 44 (.agg (rc (Op.chR j) (.slice Btc ntc dtc) (.slice Ctc mtc ftc)).toArray) rfl rfl (by kernel_rfl) (by kernel_rfl) (by kernel_rfl) (fun _ _ _ h => h) (.inl ⟨by rfl, fun W hW => by go_simp⟩) HStc.out ?_
            simp only [Act.put, List.setIfInBounds_toArray, List.set_cons_zero, List.set_cons_succ]
            refine wpAnyH_ready (rs := [11]) (by kernel_rfl) (by simp) ?_
            refine AllReadyH.cons rfl (fun K hK => ?_) AllReadyH.nil
            · skip
              refine alloc_wp 49 rfl _ zero_Rp ?_
              intro watcr hbrtcr hstcr hwtcr
              have HSZtcr := Lib.hid hstcr
              clear hstcr
              have HStcr : Hid ((fun W : World => Below wo.heap.size wo W) watcr) := HStc.out.trans (hwtcr.mono HStc.out.size)
              have hgxtcr := HStc.out.size
              refine hK.out _ _ HStcr.out fun _ => ?_
              clear hK K
              simp only [List.getElem_toArray, List.getElem_cons_succ, List.getElem_cons_zero, Act.put, List.setIfInBounds_toArray, List.set_cons_zero, List.set_cons_succ]
              have hbttcr := Bw.below hbttc hwtcr
              have tmtcr := TM.below tmtc hwtcr
              have rmtcr := RM.below rmtc hwtcr
              refine wpAnyH_ready (rs := [12]) (by kernel_rfl) (by simp) ?_
              refine AllReadyH.cons rfl (fun K hK => ?_) AllReadyH.nil
              refine store_wp (P := Tryz.prog) 27 (.tmp 12) (.tmp 43) rfl (wo.drew.heap.size) (tc (Op.chT (j + 1)) (.slice Atc 24 ktc)) rfl rfl 27 _ hbttcr size_Th rfl (tc_row _ _ _ _) ?_
              intro w8tcr hb8tcr hs8tcr hk8tcr
              have HTtcr : Hid ((fun W : World => Below wo.heap.size wo W) w8tcr) := HStcr.out.trans (hk8tcr.below2 (fun q hq => by have := HSZt.out; have := HSZtcr.out; omega))
              refine hK.out _ _ HTtcr.out fun _ => ?_
              clear hK K
              refine wpAnyH_ready (rs := [13]) (by kernel_rfl) (by simp) ?_
              refine AllReadyH.cons rfl (fun K hK => ?_) AllReadyH.nil
              refine store_wp (P := Tryz.prog) 49 (.tmp 13) (.tmp 44) rfl (watc.heap.size) (rc (Op.chR j) (.slice Btc ntc dtc) (.slice Ctc mtc ftc)) rfl rfl 49 _ (Bw.keep hbrtcr hk8tcr (by have := HSZt.out; have := HSZtcr.out; omega)) size_Rp rfl (rc_row _ _ _ _ _ _ _) ?_
              intro w9tcr hb9tcr hs9tcr hk9tcr
              have HUtcr : Hid ((fun W : World => Below wo.heap.size wo W) w9tcr) := HTtcr.out.trans (hk9tcr.below2 (fun q hq => by have := HSZt.out; have := HSZtcr.out; omega))
              refine hK.out _ _ HUtcr.out fun _ => ?_
              clear hK K
              refine wpAnyH_done (by kernel_rfl) ?_ _
              have HFtcr := Lib.hid (VT.two (gt := wo.drew.heap.size) (gr := watc.heap.size) HV.out HStcr.out (by have := HSZt.out; have := HSZtcr.out; omega) (by have := HSZt.out; have := HSZtcr.out; omega) (by have := HSZt.out; have := HSZtcr.out; omega) hbttcr hbrtcr tmtcr rmtcr hb8tcr hk8tcr hb9tcr hk9tcr)
              simp only [List.getElem_toArray, List.getElem_cons_succ, List.getElem_cons_zero, Act.put]
              go_step
              go_step
              go_meet
              case rel => exact ⟨_, _, Atc, ktc, Btc, ntc, dtc, Ctc, mtc, ftc, rfl, rfl, HFtcr.out.1, HFtcr.out.2⟩
          · skip
            refine alloc_wp 49 rfl _ zero_Rp ?_
            intro watr hbrtr hstr hwtr
            have HSZtr := Lib.hid hstr
            clear hstr
            have HStr : Hid ((fun W : World => Below wo.heap.size wo W) watr) := HSt.out.trans (hwtr.mono HSt.out.size)
            have hgxtr := HSt.out.size
            refine hK.out _ _ HStr.out fun _ => ?_
            clear hK K
            simp only [List.getElem_toArray, List.getElem_cons_succ, List.getElem_cons_zero, Act.put, List.setIfInBounds_toArray, List.set_cons_zero, List.set_cons_succ]
            have hbttr := Bw.below hbtt hwtr
            refine wpAnyH_ready (rs := [6]) (by kernel_rfl) (by simp) ?_
            refine AllReadyH.cons rfl (fun K hK => ?_) AllReadyH.nil
            · skip
              go_simp
              refine (HPK.out.run (Op.chT j) A k (Op.mkD j) none 0 0 _ (show TM _ A k (Op.chT j) from (VT.below HV.out HStr.out).ok 0 rfl) HSj.out (Op.mkD_wide (by omega)) (Nat.le_of_ble_eq_true rfl) (Nat.le_of_ble_eq_true rfl) (Nat.le_of_ble_eq_true rfl) BS.nil (Nat.le_refl _)).mono ?_
              rintro e watrc ⟨Atrc, ktrc, Btrc, ntrc, dtrc, Ctrc, mtrc, ftrc, rfl, tmtrc, rmtrc, hbtrc⟩
              have etrc := Op.do_step (c := (Op.mkD j)) HSj.out.inv.may (Nat.le_of_ble_eq_true rfl) (Nat.le_of_ble_eq_true rfl) (Nat.ne_of_beq_eq_false rfl)
              rw [show Op.doT (Op.chT j) (Op.mkD j) = (Op.chT (j + 1)) from etrc.1] at tmtrc ⊢
              rw [show Op.doR (Op.chT j) (Op.mkD j) = (Op.chR j) from etrc.2] at rmtrc ⊢
              have hztrc := hbtrc.size
              have HStrc : Hid ((fun W : World => Below wo.heap.size wo W) watrc) := HStr.out.trans (hbtrc.mono HStr.out.size)
              have hbttrc := Bw.below hbttr hbtrc
              have hbrtrc := Bw.below hbrtr hbtrc
              refine hK.out _ _ HStrc.out fun _ => ?_
              clear hK K etrc
              refine takeH (i := 7) 35 (.tuple #[.agg (tc (Op.chT (j + 1)) (.slice Atrc 24 ktrc)).toArray, .agg (rc (Op.chR j) (.slice Btrc ntrc dtrc) (.slice Ctrc mtrc ftrc)).toArray]) rfl rfl (by kernel_rfl) (by kernel_rfl) (by kernel_rfl) (fun _ _ _ h => h) (.inl ⟨by rfl, fun W hW => by go_simp⟩) HStrc.out ?_
              simp only [Act.put, List.setIfInBounds_toArray, List.set_cons_zero, List.set_cons_succ]
              refine takeH (i := 8) 43 (.agg (tc (Op.chT (j + 1)) (.slice Atrc 24 ktrc)).toArray) rfl rfl (by kernel_rfl) (by kernel_rfl) (by kernel_rfl) (fun _ _ _ h => h) (.inl ⟨by rfl, fun W hW => by go_simp⟩) HStrc.out ?_
              simp only [Act.put, List.setIfInBounds_toArray, List.set_cons_zero, List.set_cons_succ]
              refine takeH (i := 9) 44 (.agg (rc (Op.chR j) (.slice Btrc ntrc dtrc) (.slice Ctrc mtrc ftrc)).toArray) rfl rfl (by kernel_rfl) (by kernel_rfl) (by kernel_rfl) (fun _ _ _ h => h) (.inl ⟨by rfl, fun W hW => by go_simp⟩) HStrc.out ?_
              simp only [Act.put, List.setIfInBounds_toArray, List.set_cons_zero, List.set_cons_succ]
              refine wpAnyH_ready (rs := [12]) (by kernel_rfl) (by simp) ?_
              refine AllReadyH.cons rfl (fun K hK => ?_) AllReadyH.nil
              refine store_wp (P := Tryz.prog) 27 (.tmp 12) (.tmp 43) rfl (wo.drew.heap.size) (tc (Op.chT (j + 1)) (.slice Atrc 24 ktrc)) rfl rfl 27 _ hbttrc size_Th rfl (tc_row _ _ _ _) ?_
              intro w8trc hb8trc hs8trc hk8trc
              have HTtrc : Hid ((fun W : World => Below wo.heap.size wo W) w8trc) := HStrc.out.trans (hk8trc.below2 (fun q hq => by have := HSZt.out; have := HSZtr.out; omega))
              refine hK.out _ _ HTtrc.out fun _ => ?_
              clear hK K
              refine wpAnyH_ready (rs := [13]) (by kernel_rfl) (by simp) ?_
              refine AllReadyH.cons rfl (fun K hK => ?_) AllReadyH.nil
              refine store_wp (P := Tryz.prog) 49 (.tmp 13) (.tmp 44) rfl (wat.heap.size) (rc (Op.chR j) (.slice Btrc ntrc dtrc) (.slice Ctrc mtrc ftrc)) rfl rfl 49 _ (Bw.keep hbrtrc hk8trc (by have := HSZt.out; have := HSZtr.out; omega)) size_Rp rfl (rc_row _ _ _ _ _ _ _) ?_
              intro w9trc hb9trc hs9trc hk9trc
              have HUtrc : Hid ((fun W : World => Below wo.heap.size wo W) w9trc) := HTtrc.out.trans (hk9trc.below2 (fun q hq => by have := HSZt.out; have := HSZtr.out; omega))
              refine hK.out _ _ HUtrc.out fun _ => ?_
              clear hK K
              refine wpAnyH_done (by kernel_rfl) ?_ _
              have HFtrc := Lib.hid (VT.two (gt := wo.drew.heap.size) (gr := wat.heap.size) HV.out HStrc.out (by have := HSZt.out; have := HSZtr.out; omega) (by have := HSZt.out; have := HSZtr.out; omega) (by have := HSZt.out; have := HSZtr.out; omega) hbttrc hbrtrc tmtrc rmtrc hb8trc hk8trc hb9trc hk9trc)
              simp only [List.getElem_toArray, List.getElem_cons_succ, List.getElem_cons_zero, Act.put]
              go_step
              go_step
              go_meet
              case rel => exact ⟨_, _, Atrc, ktrc, Btrc, ntrc, dtrc, Ctrc, mtrc, ftrc, rfl, rfl, HFtrc.out.1, HFtrc.out.2⟩
        · skip
          refine alloc_wp 49 rfl _ zero_Rp ?_
          intro war hbrr hsr hwr
          have HSZr := Lib.hid hsr
          clear hsr
          have HSr : Hid ((fun W : World => Below wo.heap.size wo W) war) := HSd.out.trans (hwr.mono HSd.out.size)
          have hgxr := HSd.out.size
          refine hK.out _ _ HSr.out fun _ => ?_
          clear hK K
          simp only [List.getElem_toArray, List.getElem_cons_succ, List.getElem_cons_zero, Act.put, List.setIfInBounds_toArray, List.set_cons_zero, List.set_cons_succ]
          refine wpAnyH_ready (rs := [6, 10]) (by kernel_rfl) (by simp) ?_
          refine AllReadyH.cons rfl (fun K hK => ?_) (AllReadyH.cons rfl (fun K hK => ?_) AllReadyH.nil)
          · skip
            go_simp
            refine (HPK.out.run (Op.chT j) A k (Op.mkD j) none 0 0 _ (show TM _ A k (Op.chT j) from (VT.below HV.out HSr.out).ok 0 rfl) HSj.out (Op.mkD_wide (by omega)) (Nat.le_of_ble_eq_true rfl) (Nat.le_of_ble_eq_true rfl) (Nat.le_of_ble_eq_true rfl) BS.nil (Nat.le_refl _)).mono ?_
            rintro e warc ⟨Arc, krc, Brc, nrc, drc, Crc, mrc, frc, rfl, tmrc, rmrc, hbrc⟩
            have erc := Op.do_step (c := (Op.mkD j)) HSj.out.inv.may (Nat.le_of_ble_eq_true rfl) (Nat.le_of_ble_eq_true rfl) (Nat.ne_of_beq_eq_false rfl)
            rw [show Op.doT (Op.chT j) (Op.mkD j) = (Op.chT (j + 1)) from erc.1] at tmrc ⊢
            rw [show Op.doR (Op.chT j) (Op.mkD j) = (Op.chR j) from erc.2] at rmrc ⊢
            have hzrc := hbrc.size
            have HSrc : Hid ((fun W : World => Below wo.heap.size wo W) warc) := HSr.out.trans (hbrc.mono HSr.out.size)
            have hbrrc := Bw.below hbrr hbrc
            refine hK.out _ _ HSrc.out fun _ => ?_
            clear hK K erc
            refine takeH (i := 7) 35 (.tuple #[.agg (tc (Op.chT (j + 1)) (.slice Arc 24 krc)).toArray, .agg (rc (Op.chR j) (.slice Brc nrc drc) (.slice Crc mrc frc)).toArray]) rfl rfl (by kernel_rfl) (by kernel_rfl) (by kernel_rfl) (fun _ _ _ h => h) (.inl ⟨by rfl, fun W hW => by go_simp⟩) HSrc.out ?_
            simp only [Act.put, List.setIfInBounds_toArray, List.set_cons_zero, List.set_cons_succ]
            refine takeH (i := 8) 43 (.agg (tc (Op.chT (j + 1)) (.slice Arc 24 krc)).toArray) rfl rfl (by kernel_rfl) (by kernel_rfl) (by kernel_rfl) (fun _ _ _ h => h) (.inl ⟨by rfl, fun W hW => by go_simp⟩) HSrc.out ?_
            simp only [Act.put, List.setIfInBounds_toArray, List.set_cons_zero, List.set_cons_succ]
            refine takeH (i := 9) 44 (.agg (rc (Op.chR j) (.slice Brc nrc drc) (.slice Crc mrc frc)).toArray) rfl rfl (by kernel_rfl) (by kernel_rfl) (by kernel_rfl) (fun _ _ _ h => h) (.inl ⟨by rfl, fun W hW => by go_simp⟩) HSrc.out ?_
            simp only [Act.put, List.setIfInBounds_toArray, List.set_cons_zero, List.set_cons_succ]
            refine wpAnyH_ready (rs := [10]) (by kernel_rfl) (by simp) ?_
            refine AllReadyH.cons rfl (fun K hK => ?_) AllReadyH.nil
            · skip
              refine alloc_wp 27 rfl _ zero_Th ?_
              intro warct hbtrct hsrct hwrct
              have HSZrct := Lib.hid hsrct
              clear hsrct
              have HSrct : Hid ((fun W : World => Below wo.heap.size wo W) warct) := HSrc.out.trans (hwrct.mono HSrc.out.size)
              have hgxrct := HSrc.out.size
              refine hK.out _ _ HSrct.out fun _ => ?_
              clear hK K
              simp only [List.getElem_toArray, List.getElem_cons_succ, List.getElem_cons_zero, Act.put, List.setIfInBounds_toArray, List.set_cons_zero, List.set_cons_succ]
              have hbrrct := Bw.below hbrrc hwrct
              have tmrct := TM.below tmrc hwrct
              have rmrct := RM.below rmrc hwrct
              refine wpAnyH_ready (rs := [12]) (by kernel_rfl) (by simp) ?_
              refine AllReadyH.cons rfl (fun K hK => ?_) AllReadyH.nil
              refine store_wp (P := Tryz.prog) 27 (.tmp 12) (.tmp 43) rfl (warc.heap.size) (tc (Op.chT (j + 1)) (.slice Arc 24 krc)) rfl rfl 27 _ hbtrct size_Th rfl (tc_row _ _ _ _) ?_
              intro w8rct hb8rct hs8rct hk8rct
              have HTrct : Hid ((fun W : World => Below wo.heap.size wo W) w8rct) := HSrct.out.trans (hk8rct.below2 (fun q hq => by have := HSZr.out; have := HSZrct.out; omega))
              refine hK.out _ _ HTrct.out fun _ => ?_
              clear hK K
              refine wpAnyH_ready (rs := [13]) (by kernel_rfl) (by simp) ?_
              refine AllReadyH.cons rfl (fun K hK => ?_) AllReadyH.nil
              refine store_wp (P := Tryz.prog) 49 (.tmp 13) (.tmp 44) rfl (wo.drew.heap.size) (rc (Op.chR j) (.slice Brc nrc drc) (.slice Crc mrc frc)) rfl rfl 49 _ (Bw.keep hbrrct hk8rct (by have := HSZr.out; have := HSZrct.out; omega)) size_Rp rfl (rc_row _ _ _ _ _ _ _) ?_
              intro w9rct hb9rct hs9rct hk9rct
              have HUrct : Hid ((fun W : World => Below wo.heap.size wo W) w9rct) := HTrct.out.trans (hk9rct.below2 (fun q hq => by have := HSZr.out; have := HSZrct.out; omega))
              refine hK.out _ _ HUrct.out fun _ => ?_
              clear hK K
              refine wpAnyH_done (by kernel_rfl) ?_ _
              have HFrct := Lib.hid (VT.two (gt := warc.heap.size) (gr := wo.drew.heap.size) HV.out HSrct.out (by have := HSZr.out; have := HSZrct.out; omega) (by have := HSZr.out; have := HSZrct.out; omega) (by have := HSZr.out; have := HSZrct.out; omega) hbtrct hbrrct tmrct rmrct hb8rct hk8rct hb9rct hk9rct)
              simp only [List.getElem_toArray, List.getElem_cons_succ, List.getElem_cons_zero, Act.put]
              go_step
              go_step
              go_meet
              case rel => exact ⟨_, _, Arc, krc, Brc, nrc, drc, Crc, mrc, frc, rfl, rfl, HFrct.out.1, HFrct.out.2⟩
          · skip
            refine alloc_wp 27 rfl _ zero_Th ?_
            intro wart hbtrt hsrt hwrt
            have HSZrt := Lib.hid hsrt
            clear hsrt
            have HSrt : Hid ((fun W : World => Below wo.heap.size wo W) wart) := HSr.out.trans (hwrt.mono HSr.out.size)
            have hgxrt := HSr.out.size
            refine hK.out _ _ HSrt.out fun _ => ?_
            clear hK K
            simp only [List.getElem_toArray, List.getElem_cons_succ, List.getElem_cons_zero, Act.put, List.setIfInBounds_toArray, List.set_cons_zero, List.set_cons_succ]
            have hbrrt := Bw.below hbrr hwrt
            refine wpAnyH_ready (rs := [6]) (by kernel_rfl) (by simp) ?_
            refine AllReadyH.cons rfl (fun K hK => ?_) AllReadyH.nil
            · skip
              go_simp
              refine (HPK.out.run (Op.chT j) A k (Op.mkD j) none 0 0 _ (show TM _ A k (Op.chT j) from (VT.below HV.out HSrt.out).ok 0 rfl) HSj.out (Op.mkD_wide (by omega)) (Nat.le_of_ble_eq_true rfl) (Nat.le_of_ble_eq_true rfl) (Nat.le_of_ble_eq_true rfl) BS.nil (Nat.le_refl _)).mono ?_
              rintro e wartc ⟨Artc, krtc, Brtc, nrtc, drtc, Crtc, mrtc, frtc, rfl, tmrtc, rmrtc, hbrtc⟩
              have ertc := Op.do_step (c := (Op.mkD j)) HSj.out.inv.may (Nat.le_of_ble_eq_true rfl) (Nat.le_of_ble_eq_true rfl) (Nat.ne_of_beq_eq_false rfl)
              rw [show Op.doT (Op.chT j) (Op.mkD j) = (Op.chT (j + 1)) from ertc.1] at tmrtc ⊢
              rw [show Op.doR (Op.chT j) (Op.mkD j) = (Op.chR j) from ertc.2] at rmrtc ⊢
              have hzrtc := hbrtc.size
              have HSrtc : Hid ((fun W : World => Below wo.heap.size wo W) wartc) := HSrt.out.trans (hbrtc.mono HSrt.out.size)
              have hbtrtc := Bw.below hbtrt hbrtc
              have hbrrtc := Bw.below hbrrt hbrtc
              refine hK.out _ _ HSrtc.out fun _ => ?_
              clear hK K ertc
              refine takeH (i := 7) 35 (.tuple #[.agg (tc (Op.chT (j + 1)) (.slice Artc 24 krtc)).toArray, .agg (rc (Op.chR j) (.slice Brtc nrtc drtc) (.slice Crtc mrtc frtc)).toArray]) rfl rfl (by kernel_rfl) (by kernel_rfl) (by kernel_rfl) (fun _ _ _ h => h) (.inl ⟨by rfl, fun W hW => by go_simp⟩) HSrtc.out ?_
              simp only [Act.put, List.setIfInBounds_toArray, List.set_cons_zero, List.set_cons_succ]
              refine takeH (i := 8) 43 (.agg (tc (Op.chT (j + 1)) (.slice Artc 24 krtc)).toArray) rfl rfl (by kernel_rfl) (by kernel_rfl) (by kernel_rfl) (fun _ _ _ h => h) (.inl ⟨by rfl, fun W hW => by go_simp⟩) HSrtc.out ?_
              simp only [Act.put, List.setIfInBounds_toArray, List.set_cons_zero, List.set_cons_succ]
              refine takeH (i := 9) 44 (.agg (rc (Op.chR j) (.slice Brtc nrtc drtc) (.slice Crtc mrtc frtc)).toArray) rfl rfl (by kernel_rfl) (by kernel_rfl) (by kernel_rfl) (fun _ _ _ h => h) (.inl ⟨by rfl, fun W hW => by go_simp⟩) HSrtc.out ?_
              simp only [Act.put, List.setIfInBounds_toArray, List.set_cons_zero, List.set_cons_succ]
              refine wpAnyH_ready (rs := [12]) (by kernel_rfl) (by simp) ?_
              refine AllReadyH.cons rfl (fun K hK => ?_) AllReadyH.nil
              refine store_wp (P := Tryz.prog) 27 (.tmp 12) (.tmp 43) rfl (war.heap.size) (tc (Op.chT (j + 1)) (.slice Artc 24 krtc)) rfl rfl 27 _ hbtrtc size_Th rfl (tc_row _ _ _ _) ?_
              intro w8rtc hb8rtc hs8rtc hk8rtc
              have HTrtc : Hid ((fun W : World => Below wo.heap.size wo W) w8rtc) := HSrtc.out.trans (hk8rtc.below2 (fun q hq => by have := HSZr.out; have := HSZrt.out; omega))
              refine hK.out _ _ HTrtc.out fun _ => ?_
              clear hK K
              refine wpAnyH_ready (rs := [13]) (by kernel_rfl) (by simp) ?_
              refine AllReadyH.cons rfl (fun K hK => ?_) AllReadyH.nil
              refine store_wp (P := Tryz.prog) 49 (.tmp 13) (.tmp 44) rfl (wo.drew.heap.size) (rc (Op.chR j) (.slice Brtc nrtc drtc) (.slice Crtc mrtc frtc)) rfl rfl 49 _ (Bw.keep hbrrtc hk8rtc (by have := HSZr.out; have := HSZrt.out; omega)) size_Rp rfl (rc_row _ _ _ _ _ _ _) ?_
              intro w9rtc hb9rtc hs9rtc hk9rtc
              have HUrtc : Hid ((fun W : World => Below wo.heap.size wo W) w9rtc) := HTrtc.out.trans (hk9rtc.below2 (fun q hq => by have := HSZr.out; have := HSZrt.out; omega))
              refine hK.out _ _ HUrtc.out fun _ => ?_
              clear hK K
              refine wpAnyH_done (by kernel_rfl) ?_ _
              have HFrtc := Lib.hid (VT.two (gt := war.heap.size) (gr := wo.drew.heap.size) HV.out HSrtc.out (by have := HSZr.out; have := HSZrt.out; omega) (by have := HSZr.out; have := HSZrt.out; omega) (by have := HSZr.out; have := HSZrt.out; omega) hbtrtc hbrrtc tmrtc rmrtc hb8rtc hk8rtc hb9rtc hk9rtc)
              simp only [List.getElem_toArray, List.getElem_cons_succ, List.getElem_cons_zero, Act.put]
              go_step
              go_step
              go_meet
              case rel => exact ⟨_, _, Artc, krtc, Brtc, nrtc, drtc, Crtc, mrtc, frtc, rfl, rfl, HFrtc.out.1, HFrtc.out.2⟩
      case rest =>
      obtain ⟨gat, gar, Aa, ka, Ba, na, da, Ca, ma, fa, rfl, rfl, HVa, HBEa⟩ := hcut
      have ea := Op.do_step (c := (Op.mkD j)) HSj.out.inv.may (Nat.le_of_ble_eq_true rfl) (Nat.le_of_ble_eq_true rfl) (Nat.ne_of_beq_eq_false rfl)
      have HSa : Hid (Op.Sound (Op.chT (j + 1))) := by show Op.Sound _; rw [show (Op.chT (j + 1)) = Op.doT (Op.chT j) (Op.mkD j) from ea.1.symm]; exact HSj.out.doT (Op.mkD_wide (by omega))
      clear ea HV
      have HR_a := Lib.hid (HTR.out.below HBEa.out)
      clear HTR
      have HC1a := Lib.hid (Op.ch1 j (by omega))
      have r2 := HVa.out.cell 2 rfl 2 _ rfl
      have r3 := HVa.out.cell 2 rfl 3 _ rfl
      have r4 := HVa.out.cell 2 rfl 4 _ rfl
      rw [HC1a.out.1] at r2
      rw [HC1a.out.2.1] at r3
      rw [HC1a.out.2.2] at r4
      go_upto_region 14 with (first
        | (refine wpList_load_part rfl 27 (.tmp 12) rfl gat 0 rfl _ Tryz.underlying27 rfl (tc (Op.chT (j + 1)) (.slice Aa 24 ka)) 27 _ (HVa.out.bw 1 rfl) size_Th (fun j u hu => by rw [Nat.zero_add]; exact hu) ?_)
        | (refine wpList_store_part rfl 27 (.tmp 9) (.tmp 48) rfl g1 0 (tc (Op.chT (j + 1)) (.slice Aa 24 ka)) rfl rfl 27 _ (HVa.out.bw 0 rfl) size_Th (by simp [tc, Vr.cells]) (tc_row _ _ _ _) ?_
           intro w6u hbu6 hsu6 hku6
           have HV6 : Hid (VT w w6u [(g1, .th Aa ka (Op.chT (j + 1))), (gat, .th Aa ka (Op.chT (j + 1))), (gar, .rp Ba na da Ca ma fa (Op.chR j))]) := HVa.out.put 0 (u := .th Aa ka (Op.chT (j + 1))) rfl hbu6 hku6 (show TM _ _ _ _ from HVa.out.ok 1 rfl)
           have HR_6 := Lib.hid (HR_a.out.keep (HVa.out.bw 0 rfl) (Nat.ne_of_beq_eq_false rfl) hku6)
           clear hbu6 hsu6 hku6))
      clear HVa
      clear HR_a
      clear r2 r3 r4
      have r3 := HV6.out.cell 2 rfl 3 _ rfl
      have r4 := HV6.out.cell 2 rfl 4 _ rfl
      rw [HC1a.out.2.1] at r3
      rw [HC1a.out.2.2] at r4
      go_wp2_with (refine wpList_app rfl (.tmp 49) (.tmp 52) rfl rfl ⟨w6u.heap.size, 0, none⟩ rfl (HR_6.out.below (alloc_below _ _)) elem_H (by omega) (by have := HV6.out.bel.size; simp; omega) (by omega) [.int .u32 ((j : Int) + 1), .int .u32 1] rfl (fun u hu => by
          simp only [List.mem_cons, List.not_mem_nil, or_false] at hu
          rcases hu with rfl | rfl <;> rfl) (fun u hu => by
          simp only [List.mem_cons, List.not_mem_nil, or_false] at hu
          rcases hu with rfl | rfl <;> exact dry_u32 _) (World.news_of_block (heap_alloc_new w6u _)) ?_; intro B2 kk2 w7 htr hgr)
      have HVg0 := Lib.hid (VT.grown (HV6.out.below (alloc_below _ _)) (HR_6.out.below (alloc_below _ _)) (Nat.le_refl _) (by decide) hgr)
      have HVg : Hid (VT w w7 [(g1, .th Aa ka (Op.chT (j + 1)))]) := VT.left (us := [(gat, .th Aa ka (Op.chT (j + 1))), (gar, .rp Ba na da Ca ma fa (Op.chR j))]) HVg0.out
      have HTg : Hid (TR w7 w.heap.size 35 2 B2 (j + 1 + 1) kk2 (hL (j + 1))) := htr
      clear htr hgr HV6 HVg0 HR_6 r3 r4
      go_roundw
      case rel => exact ⟨j + 1, Aa, ka, B2, kk2, by omega, by go_num, by go_num, HVg, HTg⟩
      case measure => simp [intOf]; omega
    · skip
      obtain rfl : n = j := by omega
      have HSj : Hid (Op.Sound (Op.chT n)) := Op.ch_sound n (by omega)
      obtain ⟨b', rfl, -, -, hcl, -, -⟩ := HTR.out.at (by omega)
      have HCL : Hid (∀ i, i ≤ n → wo.cell? ⟨b', i * 2, none⟩ = some (.int .u32 (i : Int)) ∧ wo.cell? ⟨b', i * 2 + 1, none⟩ = some (.int .u32 1)) := fun i hi => ⟨hcl _ _ (hL_at i n hi).1, hcl _ _ (hL_at i n hi).2⟩
      have hbl : b' < wo.heap.size := World.block_lt_of_cell? wo _ (HCL.out 0 (by omega)).1
      have ha := HAB.out.1
      have hb := HAB.out.2
      have HC2 := Lib.hid (Op.ch2 n hn8.2 a ha b hb)
      clear hcl hlt hj
      go_upto_region 16 with fail
      first | rw [HAI.out] | skip
      go_upto_region 17 with fail
      first | rw [HBI.out] | skip
      go_cut [16, 17] (fun tv rv W => ∃ (gtq grq : Nat) (Aq : Option Addr) (kq : Nat) (Bq : Option Addr) (nq dq : Nat) (Cq : Option Addr) (mq fq : Nat), tv = .pointer (some ⟨gtq, 0, none⟩) ∧ rv = .pointer (some ⟨grq, 0, none⟩) ∧ Hid (VT w W [(g1, .th A k (Op.chT n)), (gtq, .th Aq kq (Op.stepR (Op.chT n) (Op.chC a b)).1), (grq, .rp Bq nq dq Cq mq fq (Op.stepR (Op.chT n) (Op.chC a b)).2)]) ∧ Hid (Below wo.heap.size wo W))
      case first =>
        have HSd : Hid ((fun W : World => Below wo.heap.size wo W) wo.drew) := (Below.refl _ wo).drew
        refine wp_region_held_drew (S := (fun W : World => Below wo.heap.size wo W)) (by kernel_rfl) HSd.out (fun _ => ?_)
        change wpAnyH _ _ _ _ _ 18 (Array.replicate 18 false) _ _
        refine takeH (i := 0) 64 (.agg (tc (Op.chT n) (.slice A 24 k)).toArray) rfl rfl (by kernel_rfl) (by kernel_rfl) (by kernel_rfl) (fun _ _ _ h => h) (.inl ⟨by rfl, fun W hW => by exact run_load_part 27 (.tmp 9) rfl g1 0 rfl _ Tryz.underlying27 rfl (tc (Op.chT n) (.slice A 24 k)) 27 _ ((VT.below HV.out hW).bw 0 rfl) size_Th (fun j u hu => by rw [Nat.zero_add]; exact hu)⟩) HSd.out ?_
        simp only [Act.put, List.setIfInBounds_toArray, List.set_cons_zero, List.set_cons_succ]
        refine takeH (i := 1) 65 ((.slice (some ⟨b', 0, none⟩) (n + 1) kk)) rfl rfl (by kernel_rfl) (by kernel_rfl) (by kernel_rfl) (fun _ _ _ h => h) (.inl ⟨by rfl, fun W hW => by go_simp⟩) HSd.out ?_
        simp only [Act.put, List.setIfInBounds_toArray, List.set_cons_zero, List.set_cons_succ]
        refine takeH (i := 2) 66 (.int .i64 (a : Int)) rfl rfl (by kernel_rfl) (by kernel_rfl) (by kernel_rfl) (fun _ _ _ h => h) (.inl ⟨by rfl, fun W hW => by go_simp⟩) HSd.out ?_
        simp only [Act.put, List.setIfInBounds_toArray, List.set_cons_zero, List.set_cons_succ]
        refine takeH (i := 3) 67 ((.pointer (some ⟨b', a * 2, none⟩))) rfl rfl (by kernel_rfl) (by kernel_rfl) (by kernel_rfl) (fun _ _ _ h => h) (.inl ⟨by rfl, fun W hW => by (go_simp; intro hh; omega)⟩) HSd.out ?_
        simp only [Act.put, List.setIfInBounds_toArray, List.set_cons_zero, List.set_cons_succ]
        refine takeH (i := 4) 68 (.agg #[.int .u32 (a : Int), .int .u32 1]) rfl rfl (by kernel_rfl) (by kernel_rfl) (by kernel_rfl) (fun _ _ _ h => h) (.inl ⟨by rfl, fun W hW => by (have z0 := (Below.cell hW (p := ⟨b', a * 2, none⟩) hbl).trans (HCL.out a (by omega)).1; have z1 := (Below.cell hW (p := ⟨b', a * 2 + 1, none⟩) hbl).trans (HCL.out a (by omega)).2; go_simp)⟩) HSd.out ?_
        simp only [Act.put, List.setIfInBounds_toArray, List.set_cons_zero, List.set_cons_succ]
        refine takeH (i := 5) 69 ((.slice (some ⟨b', 0, none⟩) (n + 1) kk)) rfl rfl (by kernel_rfl) (by kernel_rfl) (by kernel_rfl) (fun _ _ _ h => h) (.inl ⟨by rfl, fun W hW => by go_simp⟩) HSd.out ?_
        simp only [Act.put, List.setIfInBounds_toArray, List.set_cons_zero, List.set_cons_succ]
        refine takeH (i := 6) 70 (.int .i64 (b : Int)) rfl rfl (by kernel_rfl) (by kernel_rfl) (by kernel_rfl) (fun _ _ _ h => h) (.inl ⟨by rfl, fun W hW => by go_simp⟩) HSd.out ?_
        simp only [Act.put, List.setIfInBounds_toArray, List.set_cons_zero, List.set_cons_succ]
        refine takeH (i := 7) 71 ((.pointer (some ⟨b', b * 2, none⟩))) rfl rfl (by kernel_rfl) (by kernel_rfl) (by kernel_rfl) (fun _ _ _ h => h) (.inl ⟨by rfl, fun W hW => by (go_simp; intro hh; omega)⟩) HSd.out ?_
        simp only [Act.put, List.setIfInBounds_toArray, List.set_cons_zero, List.set_cons_succ]
        refine takeH (i := 8) 72 (.agg #[.int .u32 (b : Int), .int .u32 1]) rfl rfl (by kernel_rfl) (by kernel_rfl) (by kernel_rfl) (fun _ _ _ h => h) (.inl ⟨by rfl, fun W hW => by (have z0 := (Below.cell hW (p := ⟨b', b * 2, none⟩) hbl).trans (HCL.out b (by omega)).1; have z1 := (Below.cell hW (p := ⟨b', b * 2 + 1, none⟩) hbl).trans (HCL.out b (by omega)).2; go_simp)⟩) HSd.out ?_
        simp only [Act.put, List.setIfInBounds_toArray, List.set_cons_zero, List.set_cons_succ]
        refine takeH (i := 9) 73 (.agg #[.int .u32 0, .int .u32 0, .int .u32 12, .int .u32 (a : Int), .int .u32 1, .string ⟨#[100]⟩, .int .u32 (b : Int), .int .u32 1, .string ⟨#[101]⟩, .int .u64 0, .int .u64 0, .int .u32 0, .int .u32 0, .slice none 0 0]) rfl rfl (by kernel_rfl) (by kernel_rfl) (by kernel_rfl) (fun _ _ _ h => h) (.inl ⟨by rfl, fun W hW => by go_simp⟩) HSd.out ?_
        simp only [Act.put, List.setIfInBounds_toArray, List.set_cons_zero, List.set_cons_succ]
        refine wpAnyH_ready (rs := [10, 14, 15]) (by kernel_rfl) (by simp) ?_
        refine AllReadyH.cons rfl (fun K hK => ?_) (AllReadyH.cons rfl (fun K hK => ?_) (AllReadyH.cons rfl (fun K hK => ?_) AllReadyH.nil))
        · skip
          go_simp
          refine (HPK.out.run (Op.chT n) A k (Op.chC a b) none 0 0 _ (show TM _ A k (Op.chT n) from (VT.below HV.out HSd.out).ok 0 rfl) HSj.out (Op.chC_wide (by omega) (by omega)) (Nat.le_of_ble_eq_true rfl) (Nat.le_of_ble_eq_true rfl) (Nat.le_of_ble_eq_true rfl) BS.nil (Nat.le_refl _)).mono ?_
          rintro e wbc ⟨Ac, kc, Bc, nc, dc, Cc, mc, fc, rfl, tmc, rmc, hbc⟩
          have ec := Op.do_stepR (c := (Op.chC a b)) HSj.out.inv.may rfl HC2.out.1
          rw [show Op.doT (Op.chT n) (Op.chC a b) = (Op.stepR (Op.chT n) (Op.chC a b)).1 from ec.1] at tmc ⊢
          rw [show Op.doR (Op.chT n) (Op.chC a b) = (Op.stepR (Op.chT n) (Op.chC a b)).2 from ec.2] at rmc ⊢
          have hzc := hbc.size
          have HSc : Hid ((fun W : World => Below wo.heap.size wo W) wbc) := HSd.out.trans (hbc.mono HSd.out.size)
          refine hK.out _ _ HSc.out fun _ => ?_
          clear hK K ec
          refine takeH (i := 11) 63 (.tuple #[.agg (tc (Op.stepR (Op.chT n) (Op.chC a b)).1 (.slice Ac 24 kc)).toArray, .agg (rc (Op.stepR (Op.chT n) (Op.chC a b)).2 (.slice Bc nc dc) (.slice Cc mc fc)).toArray]) rfl rfl (by kernel_rfl) (by kernel_rfl) (by kernel_rfl) (fun _ _ _ h => h) (.inl ⟨by rfl, fun W hW => by go_simp⟩) HSc.out ?_
          simp only [Act.put, List.setIfInBounds_toArray, List.set_cons_zero, List.set_cons_succ]
          refine takeH (i := 12) 75 (.agg (tc (Op.stepR (Op.chT n) (Op.chC a b)).1 (.slice Ac 24 kc)).toArray) rfl rfl (by kernel_rfl) (by kernel_rfl) (by kernel_rfl) (fun _ _ _ h => h) (.inl ⟨by rfl, fun W hW => by go_simp⟩) HSc.out ?_
          simp only [Act.put, List.setIfInBounds_toArray, List.set_cons_zero, List.set_cons_succ]
          refine takeH (i := 13) 76 (.agg (rc (Op.stepR (Op.chT n) (Op.chC a b)).2 (.slice Bc nc dc) (.slice Cc mc fc)).toArray) rfl rfl (by kernel_rfl) (by kernel_rfl) (by kernel_rfl) (fun _ _ _ h => h) (.inl ⟨by rfl, fun W hW => by go_simp⟩) HSc.out ?_
          simp only [Act.put, List.setIfInBounds_toArray, List.set_cons_zero, List.set_cons_succ]
          refine wpAnyH_ready (rs := [14, 15]) (by kernel_rfl) (by simp) ?_
          refine AllReadyH.cons rfl (fun K hK => ?_) (AllReadyH.cons rfl (fun K hK => ?_) AllReadyH.nil)
          · skip
            refine alloc_wp 27 rfl _ zero_Th ?_
            intro wbct hbtct hsct hwct
            have HSZct := Lib.hid hsct
            clear hsct
            have HSct : Hid ((fun W : World => Below wo.heap.size wo W) wbct) := HSc.out.trans (hwct.mono HSc.out.size)
            have hgxct := HSc.out.size
            refine hK.out _ _ HSct.out fun _ => ?_
            clear hK K
            simp only [List.getElem_toArray, List.getElem_cons_succ, List.getElem_cons_zero, Act.put, List.setIfInBounds_toArray, List.set_cons_zero, List.set_cons_succ]
            have tmct := TM.below tmc hwct
            have rmct := RM.below rmc hwct
            refine wpAnyH_ready (rs := [15]) (by kernel_rfl) (by simp) ?_
            refine AllReadyH.cons rfl (fun K hK => ?_) AllReadyH.nil
            · skip
              refine alloc_wp 49 rfl _ zero_Rp ?_
              intro wbctr hbrctr hsctr hwctr
              have HSZctr := Lib.hid hsctr
              clear hsctr
              have HSctr : Hid ((fun W : World => Below wo.heap.size wo W) wbctr) := HSct.out.trans (hwctr.mono HSct.out.size)
              have hgxctr := HSct.out.size
              refine hK.out _ _ HSctr.out fun _ => ?_
              clear hK K
              simp only [List.getElem_toArray, List.getElem_cons_succ, List.getElem_cons_zero, Act.put, List.setIfInBounds_toArray, List.set_cons_zero, List.set_cons_succ]
              have hbtctr := Bw.below hbtct hwctr
              have tmctr := TM.below tmct hwctr
              have rmctr := RM.below rmct hwctr
              refine wpAnyH_ready (rs := [16]) (by kernel_rfl) (by simp) ?_
              refine AllReadyH.cons rfl (fun K hK => ?_) AllReadyH.nil
              refine store_wp (P := Tryz.prog) 27 (.tmp 16) (.tmp 75) rfl (wbc.heap.size) (tc (Op.stepR (Op.chT n) (Op.chC a b)).1 (.slice Ac 24 kc)) rfl rfl 27 _ hbtctr size_Th rfl (tc_row _ _ _ _) ?_
              intro w8ctr hb8ctr hs8ctr hk8ctr
              have HTctr : Hid ((fun W : World => Below wo.heap.size wo W) w8ctr) := HSctr.out.trans (hk8ctr.below2 (fun q hq => by have := HSZct.out; have := HSZctr.out; omega))
              refine hK.out _ _ HTctr.out fun _ => ?_
              clear hK K
              refine wpAnyH_ready (rs := [17]) (by kernel_rfl) (by simp) ?_
              refine AllReadyH.cons rfl (fun K hK => ?_) AllReadyH.nil
              refine store_wp (P := Tryz.prog) 49 (.tmp 17) (.tmp 76) rfl (wbct.heap.size) (rc (Op.stepR (Op.chT n) (Op.chC a b)).2 (.slice Bc nc dc) (.slice Cc mc fc)) rfl rfl 49 _ (Bw.keep hbrctr hk8ctr (by have := HSZct.out; have := HSZctr.out; omega)) size_Rp rfl (rc_row _ _ _ _ _ _ _) ?_
              intro w9ctr hb9ctr hs9ctr hk9ctr
              have HUctr : Hid ((fun W : World => Below wo.heap.size wo W) w9ctr) := HTctr.out.trans (hk9ctr.below2 (fun q hq => by have := HSZct.out; have := HSZctr.out; omega))
              refine hK.out _ _ HUctr.out fun _ => ?_
              clear hK K
              refine wpAnyH_done (by kernel_rfl) ?_ _
              have HFctr := Lib.hid (VT.two (gt := wbc.heap.size) (gr := wbct.heap.size) HV.out HSctr.out (by have := HSZct.out; have := HSZctr.out; omega) (by have := HSZct.out; have := HSZctr.out; omega) (by have := HSZct.out; have := HSZctr.out; omega) hbtctr hbrctr tmctr rmctr hb8ctr hk8ctr hb9ctr hk9ctr)
              simp only [List.getElem_toArray, List.getElem_cons_succ, List.getElem_cons_zero, Act.put]
              go_step
              go_step
              go_meet
              case rel => exact ⟨_, _, Ac, kc, Bc, nc, dc, Cc, mc, fc, rfl, rfl, HFctr.out.1, HFctr.out.2⟩
          · skip
            refine alloc_wp 49 rfl _ zero_Rp ?_
            intro wbcr hbrcr hscr hwcr
            have HSZcr := Lib.hid hscr
            clear hscr
            have HScr : Hid ((fun W : World => Below wo.heap.size wo W) wbcr) := HSc.out.trans (hwcr.mono HSc.out.size)
            have hgxcr := HSc.out.size
            refine hK.out _ _ HScr.out fun _ => ?_
            clear hK K
            simp only [List.getElem_toArray, List.getElem_cons_succ, List.getElem_cons_zero, Act.put, List.setIfInBounds_toArray, List.set_cons_zero, List.set_cons_succ]
            have tmcr := TM.below tmc hwcr
            have rmcr := RM.below rmc hwcr
            refine wpAnyH_ready (rs := [14]) (by kernel_rfl) (by simp) ?_
            refine AllReadyH.cons rfl (fun K hK => ?_) AllReadyH.nil
            · skip
              refine alloc_wp 27 rfl _ zero_Th ?_
              intro wbcrt hbtcrt hscrt hwcrt
              have HSZcrt := Lib.hid hscrt
              clear hscrt
              have HScrt : Hid ((fun W : World => Below wo.heap.size wo W) wbcrt) := HScr.out.trans (hwcrt.mono HScr.out.size)
              have hgxcrt := HScr.out.size
              refine hK.out _ _ HScrt.out fun _ => ?_
              clear hK K
              simp only [List.getElem_toArray, List.getElem_cons_succ, List.getElem_cons_zero, Act.put, List.setIfInBounds_toArray, List.set_cons_zero, List.set_cons_succ]
              have hbrcrt := Bw.below hbrcr hwcrt
              have tmcrt := TM.below tmcr hwcrt
              have rmcrt := RM.below rmcr hwcrt
              refine wpAnyH_ready (rs := [16]) (by kernel_rfl) (by simp) ?_
              refine AllReadyH.cons rfl (fun K hK => ?_) AllReadyH.nil
              refine store_wp (P := Tryz.prog) 27 (.tmp 16) (.tmp 75) rfl (wbcr.heap.size) (tc (Op.stepR (Op.chT n) (Op.chC a b)).1 (.slice Ac 24 kc)) rfl rfl 27 _ hbtcrt size_Th rfl (tc_row _ _ _ _) ?_
              intro w8crt hb8crt hs8crt hk8crt
              have HTcrt : Hid ((fun W : World => Below wo.heap.size wo W) w8crt) := HScrt.out.trans (hk8crt.below2 (fun q hq => by have := HSZcr.out; have := HSZcrt.out; omega))
              refine hK.out _ _ HTcrt.out fun _ => ?_
              clear hK K
              refine wpAnyH_ready (rs := [17]) (by kernel_rfl) (by simp) ?_
              refine AllReadyH.cons rfl (fun K hK => ?_) AllReadyH.nil
              refine store_wp (P := Tryz.prog) 49 (.tmp 17) (.tmp 76) rfl (wbc.heap.size) (rc (Op.stepR (Op.chT n) (Op.chC a b)).2 (.slice Bc nc dc) (.slice Cc mc fc)) rfl rfl 49 _ (Bw.keep hbrcrt hk8crt (by have := HSZcr.out; have := HSZcrt.out; omega)) size_Rp rfl (rc_row _ _ _ _ _ _ _) ?_
              intro w9crt hb9crt hs9crt hk9crt
              have HUcrt : Hid ((fun W : World => Below wo.heap.size wo W) w9crt) := HTcrt.out.trans (hk9crt.below2 (fun q hq => by have := HSZcr.out; have := HSZcrt.out; omega))
              refine hK.out _ _ HUcrt.out fun _ => ?_
              clear hK K
              refine wpAnyH_done (by kernel_rfl) ?_ _
              have HFcrt := Lib.hid (VT.two (gt := wbcr.heap.size) (gr := wbc.heap.size) HV.out HScrt.out (by have := HSZcr.out; have := HSZcrt.out; omega) (by have := HSZcr.out; have := HSZcrt.out; omega) (by have := HSZcr.out; have := HSZcrt.out; omega) hbtcrt hbrcrt tmcrt rmcrt hb8crt hk8crt hb9crt hk9crt)
              simp only [List.getElem_toArray, List.getElem_cons_succ, List.getElem_cons_zero, Act.put]
              go_step
              go_step
              go_meet
              case rel => exact ⟨_, _, Ac, kc, Bc, nc, dc, Cc, mc, fc, rfl, rfl, HFcrt.out.1, HFcrt.out.2⟩
        · skip
          refine alloc_wp 27 rfl _ zero_Th ?_
          intro wbt hbtt hst hwt
          have HSZt := Lib.hid hst
          clear hst
          have HSt : Hid ((fun W : World => Below wo.heap.size wo W) wbt) := HSd.out.trans (hwt.mono HSd.out.size)
          have hgxt := HSd.out.size
          refine hK.out _ _ HSt.out fun _ => ?_
          clear hK K
          simp only [List.getElem_toArray, List.getElem_cons_succ, List.getElem_cons_zero, Act.put, List.setIfInBounds_toArray, List.set_cons_zero, List.set_cons_succ]
          refine wpAnyH_ready (rs := [10, 15]) (by kernel_rfl) (by simp) ?_
          refine AllReadyH.cons rfl (fun K hK => ?_) (AllReadyH.cons rfl (fun K hK => ?_) AllReadyH.nil)
          · skip
            go_simp
            refine (HPK.out.run (Op.chT n) A k (Op.chC a b) none 0 0 _ (show TM _ A k (Op.chT n) from (VT.below HV.out HSt.out).ok 0 rfl) HSj.out (Op.chC_wide (by omega) (by omega)) (Nat.le_of_ble_eq_true rfl) (Nat.le_of_ble_eq_true rfl) (Nat.le_of_ble_eq_true rfl) BS.nil (Nat.le_refl _)).mono ?_
            rintro e wbtc ⟨Atc, ktc, Btc, ntc, dtc, Ctc, mtc, ftc, rfl, tmtc, rmtc, hbtc⟩
            have etc := Op.do_stepR (c := (Op.chC a b)) HSj.out.inv.may rfl HC2.out.1
            rw [show Op.doT (Op.chT n) (Op.chC a b) = (Op.stepR (Op.chT n) (Op.chC a b)).1 from etc.1] at tmtc ⊢
            rw [show Op.doR (Op.chT n) (Op.chC a b) = (Op.stepR (Op.chT n) (Op.chC a b)).2 from etc.2] at rmtc ⊢
            have hztc := hbtc.size
            have HStc : Hid ((fun W : World => Below wo.heap.size wo W) wbtc) := HSt.out.trans (hbtc.mono HSt.out.size)
            have hbttc := Bw.below hbtt hbtc
            refine hK.out _ _ HStc.out fun _ => ?_
            clear hK K etc
            refine takeH (i := 11) 63 (.tuple #[.agg (tc (Op.stepR (Op.chT n) (Op.chC a b)).1 (.slice Atc 24 ktc)).toArray, .agg (rc (Op.stepR (Op.chT n) (Op.chC a b)).2 (.slice Btc ntc dtc) (.slice Ctc mtc ftc)).toArray]) rfl rfl (by kernel_rfl) (by kernel_rfl) (by kernel_rfl) (fun _ _ _ h => h) (.inl ⟨by rfl, fun W hW => by go_simp⟩) HStc.out ?_
            simp only [Act.put, List.setIfInBounds_toArray, List.set_cons_zero, List.set_cons_succ]
            refine takeH (i := 12) 75 (.agg (tc (Op.stepR (Op.chT n) (Op.chC a b)).1 (.slice Atc 24 ktc)).toArray) rfl rfl (by kernel_rfl) (by kernel_rfl) (by kernel_rfl) (fun _ _ _ h => h) (.inl ⟨by rfl, fun W hW => by go_simp⟩) HStc.out ?_
            simp only [Act.put, List.setIfInBounds_toArray, List.set_cons_zero, List.set_cons_succ]
            refine takeH (i := 13) 76 (.agg (rc (Op.stepR (Op.chT n) (Op.chC a b)).2 (.slice Btc ntc dtc) (.slice Ctc mtc ftc)).toArray) rfl rfl (by kernel_rfl) (by kernel_rfl) (by kernel_rfl) (fun _ _ _ h => h) (.inl ⟨by rfl, fun W hW => by go_simp⟩) HStc.out ?_
            simp only [Act.put, List.setIfInBounds_toArray, List.set_cons_zero, List.set_cons_succ]
            refine wpAnyH_ready (rs := [15]) (by kernel_rfl) (by simp) ?_
            refine AllReadyH.cons rfl (fun K hK => ?_) AllReadyH.nil
            · skip
              refine alloc_wp 49 rfl _ zero_Rp ?_
              intro wbtcr hbrtcr hstcr hwtcr
              have HSZtcr := Lib.hid hstcr
              clear hstcr
              have HStcr : Hid ((fun W : World => Below wo.heap.size wo W) wbtcr) := HStc.out.trans (hwtcr.mono HStc.out.size)
              have hgxtcr := HStc.out.size
              refine hK.out _ _ HStcr.out fun _ => ?_
              clear hK K
              simp only [List.getElem_toArray, List.getElem_cons_succ, List.getElem_cons_zero, Act.put, List.setIfInBounds_toArray, List.set_cons_zero, List.set_cons_succ]
              have hbttcr := Bw.below hbttc hwtcr
              have tmtcr := TM.below tmtc hwtcr
              have rmtcr := RM.below rmtc hwtcr
              refine wpAnyH_ready (rs := [16]) (by kernel_rfl) (by simp) ?_
              refine AllReadyH.cons rfl (fun K hK => ?_) AllReadyH.nil
              refine store_wp (P := Tryz.prog) 27 (.tmp 16) (.tmp 75) rfl (wo.drew.heap.size) (tc (Op.stepR (Op.chT n) (Op.chC a b)).1 (.slice Atc 24 ktc)) rfl rfl 27 _ hbttcr size_Th rfl (tc_row _ _ _ _) ?_
              intro w8tcr hb8tcr hs8tcr hk8tcr
              have HTtcr : Hid ((fun W : World => Below wo.heap.size wo W) w8tcr) := HStcr.out.trans (hk8tcr.below2 (fun q hq => by have := HSZt.out; have := HSZtcr.out; omega))
              refine hK.out _ _ HTtcr.out fun _ => ?_
              clear hK K
              refine wpAnyH_ready (rs := [17]) (by kernel_rfl) (by simp) ?_
              refine AllReadyH.cons rfl (fun K hK => ?_) AllReadyH.nil
              refine store_wp (P := Tryz.prog) 49 (.tmp 17) (.tmp 76) rfl (wbtc.heap.size) (rc (Op.stepR (Op.chT n) (Op.chC a b)).2 (.slice Btc ntc dtc) (.slice Ctc mtc ftc)) rfl rfl 49 _ (Bw.keep hbrtcr hk8tcr (by have := HSZt.out; have := HSZtcr.out; omega)) size_Rp rfl (rc_row _ _ _ _ _ _ _) ?_
              intro w9tcr hb9tcr hs9tcr hk9tcr
              have HUtcr : Hid ((fun W : World => Below wo.heap.size wo W) w9tcr) := HTtcr.out.trans (hk9tcr.below2 (fun q hq => by have := HSZt.out; have := HSZtcr.out; omega))
              refine hK.out _ _ HUtcr.out fun _ => ?_
              clear hK K
              refine wpAnyH_done (by kernel_rfl) ?_ _
              have HFtcr := Lib.hid (VT.two (gt := wo.drew.heap.size) (gr := wbtc.heap.size) HV.out HStcr.out (by have := HSZt.out; have := HSZtcr.out; omega) (by have := HSZt.out; have := HSZtcr.out; omega) (by have := HSZt.out; have := HSZtcr.out; omega) hbttcr hbrtcr tmtcr rmtcr hb8tcr hk8tcr hb9tcr hk9tcr)
              simp only [List.getElem_toArray, List.getElem_cons_succ, List.getElem_cons_zero, Act.put]
              go_step
              go_step
              go_meet
              case rel => exact ⟨_, _, Atc, ktc, Btc, ntc, dtc, Ctc, mtc, ftc, rfl, rfl, HFtcr.out.1, HFtcr.out.2⟩
          · skip
            refine alloc_wp 49 rfl _ zero_Rp ?_
            intro wbtr hbrtr hstr hwtr
            have HSZtr := Lib.hid hstr
            clear hstr
            have HStr : Hid ((fun W : World => Below wo.heap.size wo W) wbtr) := HSt.out.trans (hwtr.mono HSt.out.size)
            have hgxtr := HSt.out.size
            refine hK.out _ _ HStr.out fun _ => ?_
            clear hK K
            simp only [List.getElem_toArray, List.getElem_cons_succ, List.getElem_cons_zero, Act.put, List.setIfInBounds_toArray, List.set_cons_zero, List.set_cons_succ]
            have hbttr := Bw.below hbtt hwtr
            refine wpAnyH_ready (rs := [10]) (by kernel_rfl) (by simp) ?_
            refine AllReadyH.cons rfl (fun K hK => ?_) AllReadyH.nil
            · skip
              go_simp
              refine (HPK.out.run (Op.chT n) A k (Op.chC a b) none 0 0 _ (show TM _ A k (Op.chT n) from (VT.below HV.out HStr.out).ok 0 rfl) HSj.out (Op.chC_wide (by omega) (by omega)) (Nat.le_of_ble_eq_true rfl) (Nat.le_of_ble_eq_true rfl) (Nat.le_of_ble_eq_true rfl) BS.nil (Nat.le_refl _)).mono ?_
              rintro e wbtrc ⟨Atrc, ktrc, Btrc, ntrc, dtrc, Ctrc, mtrc, ftrc, rfl, tmtrc, rmtrc, hbtrc⟩
              have etrc := Op.do_stepR (c := (Op.chC a b)) HSj.out.inv.may rfl HC2.out.1
              rw [show Op.doT (Op.chT n) (Op.chC a b) = (Op.stepR (Op.chT n) (Op.chC a b)).1 from etrc.1] at tmtrc ⊢
              rw [show Op.doR (Op.chT n) (Op.chC a b) = (Op.stepR (Op.chT n) (Op.chC a b)).2 from etrc.2] at rmtrc ⊢
              have hztrc := hbtrc.size
              have HStrc : Hid ((fun W : World => Below wo.heap.size wo W) wbtrc) := HStr.out.trans (hbtrc.mono HStr.out.size)
              have hbttrc := Bw.below hbttr hbtrc
              have hbrtrc := Bw.below hbrtr hbtrc
              refine hK.out _ _ HStrc.out fun _ => ?_
              clear hK K etrc
              refine takeH (i := 11) 63 (.tuple #[.agg (tc (Op.stepR (Op.chT n) (Op.chC a b)).1 (.slice Atrc 24 ktrc)).toArray, .agg (rc (Op.stepR (Op.chT n) (Op.chC a b)).2 (.slice Btrc ntrc dtrc) (.slice Ctrc mtrc ftrc)).toArray]) rfl rfl (by kernel_rfl) (by kernel_rfl) (by kernel_rfl) (fun _ _ _ h => h) (.inl ⟨by rfl, fun W hW => by go_simp⟩) HStrc.out ?_
              simp only [Act.put, List.setIfInBounds_toArray, List.set_cons_zero, List.set_cons_succ]
              refine takeH (i := 12) 75 (.agg (tc (Op.stepR (Op.chT n) (Op.chC a b)).1 (.slice Atrc 24 ktrc)).toArray) rfl rfl (by kernel_rfl) (by kernel_rfl) (by kernel_rfl) (fun _ _ _ h => h) (.inl ⟨by rfl, fun W hW => by go_simp⟩) HStrc.out ?_
              simp only [Act.put, List.setIfInBounds_toArray, List.set_cons_zero, List.set_cons_succ]
              refine takeH (i := 13) 76 (.agg (rc (Op.stepR (Op.chT n) (Op.chC a b)).2 (.slice Btrc ntrc dtrc) (.slice Ctrc mtrc ftrc)).toArray) rfl rfl (by kernel_rfl) (by kernel_rfl) (by kernel_rfl) (fun _ _ _ h => h) (.inl ⟨by rfl, fun W hW => by go_simp⟩) HStrc.out ?_
              simp only [Act.put, List.setIfInBounds_toArray, List.set_cons_zero, List.set_cons_succ]
              refine wpAnyH_ready (rs := [16]) (by kernel_rfl) (by simp) ?_
              refine AllReadyH.cons rfl (fun K hK => ?_) AllReadyH.nil
              refine store_wp (P := Tryz.prog) 27 (.tmp 16) (.tmp 75) rfl (wo.drew.heap.size) (tc (Op.stepR (Op.chT n) (Op.chC a b)).1 (.slice Atrc 24 ktrc)) rfl rfl 27 _ hbttrc size_Th rfl (tc_row _ _ _ _) ?_
              intro w8trc hb8trc hs8trc hk8trc
              have HTtrc : Hid ((fun W : World => Below wo.heap.size wo W) w8trc) := HStrc.out.trans (hk8trc.below2 (fun q hq => by have := HSZt.out; have := HSZtr.out; omega))
              refine hK.out _ _ HTtrc.out fun _ => ?_
              clear hK K
              refine wpAnyH_ready (rs := [17]) (by kernel_rfl) (by simp) ?_
              refine AllReadyH.cons rfl (fun K hK => ?_) AllReadyH.nil
              refine store_wp (P := Tryz.prog) 49 (.tmp 17) (.tmp 76) rfl (wbt.heap.size) (rc (Op.stepR (Op.chT n) (Op.chC a b)).2 (.slice Btrc ntrc dtrc) (.slice Ctrc mtrc ftrc)) rfl rfl 49 _ (Bw.keep hbrtrc hk8trc (by have := HSZt.out; have := HSZtr.out; omega)) size_Rp rfl (rc_row _ _ _ _ _ _ _) ?_
              intro w9trc hb9trc hs9trc hk9trc
              have HUtrc : Hid ((fun W : World => Below wo.heap.size wo W) w9trc) := HTtrc.out.trans (hk9trc.below2 (fun q hq => by have := HSZt.out; have := HSZtr.out; omega))
              refine hK.out _ _ HUtrc.out fun _ => ?_
              clear hK K
              refine wpAnyH_done (by kernel_rfl) ?_ _
              have HFtrc := Lib.hid (VT.two (gt := wo.drew.heap.size) (gr := wbt.heap.size) HV.out HStrc.out (by have := HSZt.out; have := HSZtr.out; omega) (by have := HSZt.out; have := HSZtr.out; omega) (by have := HSZt.out; have := HSZtr.out; omega) hbttrc hbrtrc tmtrc rmtrc hb8trc hk8trc hb9trc hk9trc)
              simp only [List.getElem_toArray, List.getElem_cons_succ, List.getElem_cons_zero, Act.put]
              go_step
              go_step
              go_meet
              case rel => exact ⟨_, _, Atrc, ktrc, Btrc, ntrc, dtrc, Ctrc, mtrc, ftrc, rfl, rfl, HFtrc.out.1, HFtrc.out.2⟩
        · skip
          refine alloc_wp 49 rfl _ zero_Rp ?_
          intro wbr hbrr hsr hwr
          have HSZr := Lib.hid hsr
          clear hsr
          have HSr : Hid ((fun W : World => Below wo.heap.size wo W) wbr) := HSd.out.trans (hwr.mono HSd.out.size)
          have hgxr := HSd.out.size
          refine hK.out _ _ HSr.out fun _ => ?_
          clear hK K
          simp only [List.getElem_toArray, List.getElem_cons_succ, List.getElem_cons_zero, Act.put, List.setIfInBounds_toArray, List.set_cons_zero, List.set_cons_succ]
          refine wpAnyH_ready (rs := [10, 14]) (by kernel_rfl) (by simp) ?_
          refine AllReadyH.cons rfl (fun K hK => ?_) (AllReadyH.cons rfl (fun K hK => ?_) AllReadyH.nil)
          · skip
            go_simp
            refine (HPK.out.run (Op.chT n) A k (Op.chC a b) none 0 0 _ (show TM _ A k (Op.chT n) from (VT.below HV.out HSr.out).ok 0 rfl) HSj.out (Op.chC_wide (by omega) (by omega)) (Nat.le_of_ble_eq_true rfl) (Nat.le_of_ble_eq_true rfl) (Nat.le_of_ble_eq_true rfl) BS.nil (Nat.le_refl _)).mono ?_
            rintro e wbrc ⟨Arc, krc, Brc, nrc, drc, Crc, mrc, frc, rfl, tmrc, rmrc, hbrc⟩
            have erc := Op.do_stepR (c := (Op.chC a b)) HSj.out.inv.may rfl HC2.out.1
            rw [show Op.doT (Op.chT n) (Op.chC a b) = (Op.stepR (Op.chT n) (Op.chC a b)).1 from erc.1] at tmrc ⊢
            rw [show Op.doR (Op.chT n) (Op.chC a b) = (Op.stepR (Op.chT n) (Op.chC a b)).2 from erc.2] at rmrc ⊢
            have hzrc := hbrc.size
            have HSrc : Hid ((fun W : World => Below wo.heap.size wo W) wbrc) := HSr.out.trans (hbrc.mono HSr.out.size)
            have hbrrc := Bw.below hbrr hbrc
            refine hK.out _ _ HSrc.out fun _ => ?_
            clear hK K erc
            refine takeH (i := 11) 63 (.tuple #[.agg (tc (Op.stepR (Op.chT n) (Op.chC a b)).1 (.slice Arc 24 krc)).toArray, .agg (rc (Op.stepR (Op.chT n) (Op.chC a b)).2 (.slice Brc nrc drc) (.slice Crc mrc frc)).toArray]) rfl rfl (by kernel_rfl) (by kernel_rfl) (by kernel_rfl) (fun _ _ _ h => h) (.inl ⟨by rfl, fun W hW => by go_simp⟩) HSrc.out ?_
            simp only [Act.put, List.setIfInBounds_toArray, List.set_cons_zero, List.set_cons_succ]
            refine takeH (i := 12) 75 (.agg (tc (Op.stepR (Op.chT n) (Op.chC a b)).1 (.slice Arc 24 krc)).toArray) rfl rfl (by kernel_rfl) (by kernel_rfl) (by kernel_rfl) (fun _ _ _ h => h) (.inl ⟨by rfl, fun W hW => by go_simp⟩) HSrc.out ?_
            simp only [Act.put, List.setIfInBounds_toArray, List.set_cons_zero, List.set_cons_succ]
            refine takeH (i := 13) 76 (.agg (rc (Op.stepR (Op.chT n) (Op.chC a b)).2 (.slice Brc nrc drc) (.slice Crc mrc frc)).toArray) rfl rfl (by kernel_rfl) (by kernel_rfl) (by kernel_rfl) (fun _ _ _ h => h) (.inl ⟨by rfl, fun W hW => by go_simp⟩) HSrc.out ?_
            simp only [Act.put, List.setIfInBounds_toArray, List.set_cons_zero, List.set_cons_succ]
            refine wpAnyH_ready (rs := [14]) (by kernel_rfl) (by simp) ?_
            refine AllReadyH.cons rfl (fun K hK => ?_) AllReadyH.nil
            · skip
              refine alloc_wp 27 rfl _ zero_Th ?_
              intro wbrct hbtrct hsrct hwrct
              have HSZrct := Lib.hid hsrct
              clear hsrct
              have HSrct : Hid ((fun W : World => Below wo.heap.size wo W) wbrct) := HSrc.out.trans (hwrct.mono HSrc.out.size)
              have hgxrct := HSrc.out.size
              refine hK.out _ _ HSrct.out fun _ => ?_
              clear hK K
              simp only [List.getElem_toArray, List.getElem_cons_succ, List.getElem_cons_zero, Act.put, List.setIfInBounds_toArray, List.set_cons_zero, List.set_cons_succ]
              have hbrrct := Bw.below hbrrc hwrct
              have tmrct := TM.below tmrc hwrct
              have rmrct := RM.below rmrc hwrct
              refine wpAnyH_ready (rs := [16]) (by kernel_rfl) (by simp) ?_
              refine AllReadyH.cons rfl (fun K hK => ?_) AllReadyH.nil
              refine store_wp (P := Tryz.prog) 27 (.tmp 16) (.tmp 75) rfl (wbrc.heap.size) (tc (Op.stepR (Op.chT n) (Op.chC a b)).1 (.slice Arc 24 krc)) rfl rfl 27 _ hbtrct size_Th rfl (tc_row _ _ _ _) ?_
              intro w8rct hb8rct hs8rct hk8rct
              have HTrct : Hid ((fun W : World => Below wo.heap.size wo W) w8rct) := HSrct.out.trans (hk8rct.below2 (fun q hq => by have := HSZr.out; have := HSZrct.out; omega))
              refine hK.out _ _ HTrct.out fun _ => ?_
              clear hK K
              refine wpAnyH_ready (rs := [17]) (by kernel_rfl) (by simp) ?_
              refine AllReadyH.cons rfl (fun K hK => ?_) AllReadyH.nil
              refine store_wp (P := Tryz.prog) 49 (.tmp 17) (.tmp 76) rfl (wo.drew.heap.size) (rc (Op.stepR (Op.chT n) (Op.chC a b)).2 (.slice Brc nrc drc) (.slice Crc mrc frc)) rfl rfl 49 _ (Bw.keep hbrrct hk8rct (by have := HSZr.out; have := HSZrct.out; omega)) size_Rp rfl (rc_row _ _ _ _ _ _ _) ?_
              intro w9rct hb9rct hs9rct hk9rct
              have HUrct : Hid ((fun W : World => Below wo.heap.size wo W) w9rct) := HTrct.out.trans (hk9rct.below2 (fun q hq => by have := HSZr.out; have := HSZrct.out; omega))
              refine hK.out _ _ HUrct.out fun _ => ?_
              clear hK K
              refine wpAnyH_done (by kernel_rfl) ?_ _
              have HFrct := Lib.hid (VT.two (gt := wbrc.heap.size) (gr := wo.drew.heap.size) HV.out HSrct.out (by have := HSZr.out; have := HSZrct.out; omega) (by have := HSZr.out; have := HSZrct.out; omega) (by have := HSZr.out; have := HSZrct.out; omega) hbtrct hbrrct tmrct rmrct hb8rct hk8rct hb9rct hk9rct)
              simp only [List.getElem_toArray, List.getElem_cons_succ, List.getElem_cons_zero, Act.put]
              go_step
              go_step
              go_meet
              case rel => exact ⟨_, _, Arc, krc, Brc, nrc, drc, Crc, mrc, frc, rfl, rfl, HFrct.out.1, HFrct.out.2⟩
          · skip
            refine alloc_wp 27 rfl _ zero_Th ?_
            intro wbrt hbtrt hsrt hwrt
            have HSZrt := Lib.hid hsrt
            clear hsrt
            have HSrt : Hid ((fun W : World => Below wo.heap.size wo W) wbrt) := HSr.out.trans (hwrt.mono HSr.out.size)
            have hgxrt := HSr.out.size
            refine hK.out _ _ HSrt.out fun _ => ?_
            clear hK K
            simp only [List.getElem_toArray, List.getElem_cons_succ, List.getElem_cons_zero, Act.put, List.setIfInBounds_toArray, List.set_cons_zero, List.set_cons_succ]
            have hbrrt := Bw.below hbrr hwrt
            refine wpAnyH_ready (rs := [10]) (by kernel_rfl) (by simp) ?_
            refine AllReadyH.cons rfl (fun K hK => ?_) AllReadyH.nil
            · skip
              go_simp
              refine (HPK.out.run (Op.chT n) A k (Op.chC a b) none 0 0 _ (show TM _ A k (Op.chT n) from (VT.below HV.out HSrt.out).ok 0 rfl) HSj.out (Op.chC_wide (by omega) (by omega)) (Nat.le_of_ble_eq_true rfl) (Nat.le_of_ble_eq_true rfl) (Nat.le_of_ble_eq_true rfl) BS.nil (Nat.le_refl _)).mono ?_
              rintro e wbrtc ⟨Artc, krtc, Brtc, nrtc, drtc, Crtc, mrtc, frtc, rfl, tmrtc, rmrtc, hbrtc⟩
              have ertc := Op.do_stepR (c := (Op.chC a b)) HSj.out.inv.may rfl HC2.out.1
              rw [show Op.doT (Op.chT n) (Op.chC a b) = (Op.stepR (Op.chT n) (Op.chC a b)).1 from ertc.1] at tmrtc ⊢
              rw [show Op.doR (Op.chT n) (Op.chC a b) = (Op.stepR (Op.chT n) (Op.chC a b)).2 from ertc.2] at rmrtc ⊢
              have hzrtc := hbrtc.size
              have HSrtc : Hid ((fun W : World => Below wo.heap.size wo W) wbrtc) := HSrt.out.trans (hbrtc.mono HSrt.out.size)
              have hbtrtc := Bw.below hbtrt hbrtc
              have hbrrtc := Bw.below hbrrt hbrtc
              refine hK.out _ _ HSrtc.out fun _ => ?_
              clear hK K ertc
              refine takeH (i := 11) 63 (.tuple #[.agg (tc (Op.stepR (Op.chT n) (Op.chC a b)).1 (.slice Artc 24 krtc)).toArray, .agg (rc (Op.stepR (Op.chT n) (Op.chC a b)).2 (.slice Brtc nrtc drtc) (.slice Crtc mrtc frtc)).toArray]) rfl rfl (by kernel_rfl) (by kernel_rfl) (by kernel_rfl) (fun _ _ _ h => h) (.inl ⟨by rfl, fun W hW => by go_simp⟩) HSrtc.out ?_
              simp only [Act.put, List.setIfInBounds_toArray, List.set_cons_zero, List.set_cons_succ]
              refine takeH (i := 12) 75 (.agg (tc (Op.stepR (Op.chT n) (Op.chC a b)).1 (.slice Artc 24 krtc)).toArray) rfl rfl (by kernel_rfl) (by kernel_rfl) (by kernel_rfl) (fun _ _ _ h => h) (.inl ⟨by rfl, fun W hW => by go_simp⟩) HSrtc.out ?_
              simp only [Act.put, List.setIfInBounds_toArray, List.set_cons_zero, List.set_cons_succ]
              refine takeH (i := 13) 76 (.agg (rc (Op.stepR (Op.chT n) (Op.chC a b)).2 (.slice Brtc nrtc drtc) (.slice Crtc mrtc frtc)).toArray) rfl rfl (by kernel_rfl) (by kernel_rfl) (by kernel_rfl) (fun _ _ _ h => h) (.inl ⟨by rfl, fun W hW => by go_simp⟩) HSrtc.out ?_
              simp only [Act.put, List.setIfInBounds_toArray, List.set_cons_zero, List.set_cons_succ]
              refine wpAnyH_ready (rs := [16]) (by kernel_rfl) (by simp) ?_
              refine AllReadyH.cons rfl (fun K hK => ?_) AllReadyH.nil
              refine store_wp (P := Tryz.prog) 27 (.tmp 16) (.tmp 75) rfl (wbr.heap.size) (tc (Op.stepR (Op.chT n) (Op.chC a b)).1 (.slice Artc 24 krtc)) rfl rfl 27 _ hbtrtc size_Th rfl (tc_row _ _ _ _) ?_
              intro w8rtc hb8rtc hs8rtc hk8rtc
              have HTrtc : Hid ((fun W : World => Below wo.heap.size wo W) w8rtc) := HSrtc.out.trans (hk8rtc.below2 (fun q hq => by have := HSZr.out; have := HSZrt.out; omega))
              refine hK.out _ _ HTrtc.out fun _ => ?_
              clear hK K
              refine wpAnyH_ready (rs := [17]) (by kernel_rfl) (by simp) ?_
              refine AllReadyH.cons rfl (fun K hK => ?_) AllReadyH.nil
              refine store_wp (P := Tryz.prog) 49 (.tmp 17) (.tmp 76) rfl (wo.drew.heap.size) (rc (Op.stepR (Op.chT n) (Op.chC a b)).2 (.slice Brtc nrtc drtc) (.slice Crtc mrtc frtc)) rfl rfl 49 _ (Bw.keep hbrrtc hk8rtc (by have := HSZr.out; have := HSZrt.out; omega)) size_Rp rfl (rc_row _ _ _ _ _ _ _) ?_
              intro w9rtc hb9rtc hs9rtc hk9rtc
              have HUrtc : Hid ((fun W : World => Below wo.heap.size wo W) w9rtc) := HTrtc.out.trans (hk9rtc.below2 (fun q hq => by have := HSZr.out; have := HSZrt.out; omega))
              refine hK.out _ _ HUrtc.out fun _ => ?_
              clear hK K
              refine wpAnyH_done (by kernel_rfl) ?_ _
              have HFrtc := Lib.hid (VT.two (gt := wbr.heap.size) (gr := wo.drew.heap.size) HV.out HSrtc.out (by have := HSZr.out; have := HSZrt.out; omega) (by have := HSZr.out; have := HSZrt.out; omega) (by have := HSZr.out; have := HSZrt.out; omega) hbtrtc hbrrtc tmrtc rmrtc hb8rtc hk8rtc hb9rtc hk9rtc)
              simp only [List.getElem_toArray, List.getElem_cons_succ, List.getElem_cons_zero, Act.put]
              go_step
              go_step
              go_meet
              case rel => exact ⟨_, _, Artc, krtc, Brtc, nrtc, drtc, Crtc, mrtc, frtc, rfl, rfl, HFrtc.out.1, HFrtc.out.2⟩
      case rest =>
      obtain ⟨gbt, gbr, Ab, kb, Bb, nb, db, Cb, mb, fb, rfl, rfl, HVb, HBEb⟩ := hcut
      have eb := Op.do_stepR (c := (Op.chC a b)) HSj.out.inv.may rfl HC2.out.1
      have HSb : Hid (Op.Sound (Op.stepR (Op.chT n) (Op.chC a b)).1) := by show Op.Sound _; rw [show (Op.stepR (Op.chT n) (Op.chC a b)).1 = Op.doT (Op.chT n) (Op.chC a b) from eb.1.symm]; exact HSj.out.doT (Op.chC_wide (by omega) (by omega))
      clear eb HV
      have HR_b := Lib.hid (HTR.out.below HBEb.out)
      clear HTR
      obtain ⟨wd, rfl⟩ : ∃ wd, wd = wc := ⟨wc, rfl⟩
      have HCL2 : Hid (∀ i, i ≤ n → wd.cell? ⟨b', i * 2, none⟩ = some (.int .u32 (i : Int)) ∧ wd.cell? ⟨b', i * 2 + 1, none⟩ = some (.int .u32 1)) := fun i hi => ⟨(HBEb.out.cell (p := ⟨b', i * 2, none⟩) hbl).trans (HCL.out i hi).1, (HBEb.out.cell (p := ⟨b', i * 2 + 1, none⟩) hbl).trans (HCL.out i hi).2⟩
      have hbl2 : b' < wd.heap.size := Nat.lt_of_lt_of_le hbl HBEb.out.size
      by_cases hab : a < b
      · have hd : decide ((a : Int) < (b : Int)) = true := by simp; omega
        have hdn : decide (a < b) = true := by simpa using hab
        have c1 := HVb.out.cell 0 rfl 1 _ rfl
        have u1 := HVb.out.cell 1 rfl 1 _ rfl
        have q2 := HVb.out.cell 2 rfl 2 _ rfl
        rw [Op.ch_refused hn8.2 ha hb hab] at u1
        have h2 := HC2.out.2
        rw [if_pos hab] at h2
        rw [h2] at q2
        have HBF : Hid (Below w.heap.size w wd) := HVb.out.bel
        clear h2 HVb HCL HCL2 HC2 HR_b hab
        go_wp2_with fail
        go_ret
        exact ⟨rfl, HBF.out⟩
      · have hd : decide ((a : Int) < (b : Int)) = false := by simp; omega
        have hdn : decide (a < b) = false := by simpa using hab
        have h2 := HC2.out.2
        rw [if_neg hab] at h2
        have HF := Lib.hid h2
        clear h2 hab HCL
        generalize hU : Op.stepR (Op.chT n) (Op.chC a b) = U at *
        go_upto_region 20 with fail
        go_cut [18, 19] (fun tv rv W => ∃ (gtq grq : Nat) (Aq : Option Addr) (kq : Nat) (Bq : Option Addr) (nq dq : Nat) (Cq : Option Addr) (mq fq : Nat), tv = .pointer (some ⟨gtq, 0, none⟩) ∧ rv = .pointer (some ⟨grq, 0, none⟩) ∧ Hid (VT w W [(g1, .th A k (Op.chT n)), (gbt, .th Ab kb U.1), (gbr, .rp Bb nb db Cb mb fb U.2), (gtq, .th Aq kq (Op.step U.1 (Op.lkE b)).1), (grq, .rp Bq nq dq Cq mq fq (Op.step U.1 (Op.lkE b)).2)]) ∧ Hid (Below wd.heap.size wd W))
        case first =>
          have HSd : Hid ((fun W : World => Below wd.heap.size wd W) wd.drew) := (Below.refl _ wd).drew
          refine wp_region_held_drew (S := (fun W : World => Below wd.heap.size wd W)) (by kernel_rfl) HSd.out (fun _ => ?_)
          change wpAnyH _ _ _ _ _ 14 (Array.replicate 14 false) _ _
          refine takeH (i := 0) 91 (.agg (tc U.1 (.slice Ab 24 kb)).toArray) rfl rfl (by kernel_rfl) (by kernel_rfl) (by kernel_rfl) (fun _ _ _ h => h) (.inl ⟨by rfl, fun W hW => by exact run_load_part 27 (.tmp 16) rfl gbt 0 rfl _ Tryz.underlying27 rfl (tc U.1 (.slice Ab 24 kb)) 27 _ ((VT.below HVb.out hW).bw 1 rfl) size_Th (fun j u hu => by rw [Nat.zero_add]; exact hu)⟩) HSd.out ?_
          simp only [Act.put, List.setIfInBounds_toArray, List.set_cons_zero, List.set_cons_succ]
          refine takeH (i := 1) 92 ((.slice (some ⟨b', 0, none⟩) (n + 1) kk)) rfl rfl (by kernel_rfl) (by kernel_rfl) (by kernel_rfl) (fun _ _ _ h => h) (.inl ⟨by rfl, fun W hW => by go_simp⟩) HSd.out ?_
          simp only [Act.put, List.setIfInBounds_toArray, List.set_cons_zero, List.set_cons_succ]
          refine takeH (i := 2) 93 (.int .i64 (b : Int)) rfl rfl (by kernel_rfl) (by kernel_rfl) (by kernel_rfl) (fun _ _ _ h => h) (.inl ⟨by rfl, fun W hW => by go_simp⟩) HSd.out ?_
          simp only [Act.put, List.setIfInBounds_toArray, List.set_cons_zero, List.set_cons_succ]
          refine takeH (i := 3) 94 ((.pointer (some ⟨b', b * 2, none⟩))) rfl rfl (by kernel_rfl) (by kernel_rfl) (by kernel_rfl) (fun _ _ _ h => h) (.inl ⟨by rfl, fun W hW => by (go_simp; intro hh; omega)⟩) HSd.out ?_
          simp only [Act.put, List.setIfInBounds_toArray, List.set_cons_zero, List.set_cons_succ]
          refine takeH (i := 4) 95 (.agg #[.int .u32 (b : Int), .int .u32 1]) rfl rfl (by kernel_rfl) (by kernel_rfl) (by kernel_rfl) (fun _ _ _ h => h) (.inl ⟨by rfl, fun W hW => by (have z0 := (Below.cell hW (p := ⟨b', b * 2, none⟩) hbl2).trans (HCL2.out b (by omega)).1; have z1 := (Below.cell hW (p := ⟨b', b * 2 + 1, none⟩) hbl2).trans (HCL2.out b (by omega)).2; go_simp)⟩) HSd.out ?_
          simp only [Act.put, List.setIfInBounds_toArray, List.set_cons_zero, List.set_cons_succ]
          refine takeH (i := 5) 96 (.agg #[.int .u32 0, .int .u32 0, .int .u32 1, .int .u32 (b : Int), .int .u32 1, .string ⟨#[101]⟩, .int .u32 0, .int .u32 0, .string ⟨#[]⟩, .int .u64 0, .int .u64 0, .int .u32 0, .int .u32 0, .slice none 0 0]) rfl rfl (by kernel_rfl) (by kernel_rfl) (by kernel_rfl) (fun _ _ _ h => h) (.inl ⟨by rfl, fun W hW => by go_simp⟩) HSd.out ?_
          simp only [Act.put, List.setIfInBounds_toArray, List.set_cons_zero, List.set_cons_succ]
          refine wpAnyH_ready (rs := [6, 10, 11]) (by kernel_rfl) (by simp) ?_
          refine AllReadyH.cons rfl (fun K hK => ?_) (AllReadyH.cons rfl (fun K hK => ?_) (AllReadyH.cons rfl (fun K hK => ?_) AllReadyH.nil))
          · skip
            go_simp
            refine (HPK.out.run U.1 Ab kb (Op.lkE b) none 0 0 _ (show TM _ Ab kb U.1 from (VT.below HVb.out HSd.out).ok 1 rfl) HSb.out (Op.lkE_wide (by omega)) (Nat.le_of_ble_eq_true rfl) (Nat.le_of_ble_eq_true rfl) (Nat.le_of_ble_eq_true rfl) BS.nil (Nat.le_refl _)).mono ?_
            rintro e wcc ⟨Ac, kc, Bc, nc, dc, Cc, mc, fc, rfl, tmc, rmc, hbc⟩
            have ec := Op.do_step (c := (Op.lkE b)) HSb.out.inv.may (Nat.le_of_ble_eq_true rfl) (Nat.le_of_ble_eq_true rfl) (Nat.ne_of_beq_eq_false rfl)
            rw [show Op.doT U.1 (Op.lkE b) = (Op.step U.1 (Op.lkE b)).1 from ec.1] at tmc ⊢
            rw [show Op.doR U.1 (Op.lkE b) = (Op.step U.1 (Op.lkE b)).2 from ec.2] at rmc ⊢
            have hzc := hbc.size
            have HSc : Hid ((fun W : World => Below wd.heap.size wd W) wcc) := HSd.out.trans (hbc.mono HSd.out.size)
            refine hK.out _ _ HSc.out fun _ => ?_
            clear hK K ec
            refine takeH (i := 7) 90 (.tuple #[.agg (tc (Op.step U.1 (Op.lkE b)).1 (.slice Ac 24 kc)).toArray, .agg (rc (Op.step U.1 (Op.lkE b)).2 (.slice Bc nc dc) (.slice Cc mc fc)).toArray]) rfl rfl (by kernel_rfl) (by kernel_rfl) (by kernel_rfl) (fun _ _ _ h => h) (.inl ⟨by rfl, fun W hW => by go_simp⟩) HSc.out ?_
            simp only [Act.put, List.setIfInBounds_toArray, List.set_cons_zero, List.set_cons_succ]
            refine takeH (i := 8) 98 (.agg (tc (Op.step U.1 (Op.lkE b)).1 (.slice Ac 24 kc)).toArray) rfl rfl (by kernel_rfl) (by kernel_rfl) (by kernel_rfl) (fun _ _ _ h => h) (.inl ⟨by rfl, fun W hW => by go_simp⟩) HSc.out ?_
            simp only [Act.put, List.setIfInBounds_toArray, List.set_cons_zero, List.set_cons_succ]
            refine takeH (i := 9) 99 (.agg (rc (Op.step U.1 (Op.lkE b)).2 (.slice Bc nc dc) (.slice Cc mc fc)).toArray) rfl rfl (by kernel_rfl) (by kernel_rfl) (by kernel_rfl) (fun _ _ _ h => h) (.inl ⟨by rfl, fun W hW => by go_simp⟩) HSc.out ?_
            simp only [Act.put, List.setIfInBounds_toArray, List.set_cons_zero, List.set_cons_succ]
            refine wpAnyH_ready (rs := [10, 11]) (by kernel_rfl) (by simp) ?_
            refine AllReadyH.cons rfl (fun K hK => ?_) (AllReadyH.cons rfl (fun K hK => ?_) AllReadyH.nil)
            · skip
              refine alloc_wp 27 rfl _ zero_Th ?_
              intro wcct hbtct hsct hwct
              have HSZct := Lib.hid hsct
              clear hsct
              have HSct : Hid ((fun W : World => Below wd.heap.size wd W) wcct) := HSc.out.trans (hwct.mono HSc.out.size)
              have hgxct := HSc.out.size
              refine hK.out _ _ HSct.out fun _ => ?_
              clear hK K
              simp only [List.getElem_toArray, List.getElem_cons_succ, List.getElem_cons_zero, Act.put, List.setIfInBounds_toArray, List.set_cons_zero, List.set_cons_succ]
              have tmct := TM.below tmc hwct
              have rmct := RM.below rmc hwct
              refine wpAnyH_ready (rs := [11]) (by kernel_rfl) (by simp) ?_
              refine AllReadyH.cons rfl (fun K hK => ?_) AllReadyH.nil
              · skip
                refine alloc_wp 49 rfl _ zero_Rp ?_
                intro wcctr hbrctr hsctr hwctr
                have HSZctr := Lib.hid hsctr
                clear hsctr
                have HSctr : Hid ((fun W : World => Below wd.heap.size wd W) wcctr) := HSct.out.trans (hwctr.mono HSct.out.size)
                have hgxctr := HSct.out.size
                refine hK.out _ _ HSctr.out fun _ => ?_
                clear hK K
                simp only [List.getElem_toArray, List.getElem_cons_succ, List.getElem_cons_zero, Act.put, List.setIfInBounds_toArray, List.set_cons_zero, List.set_cons_succ]
                have hbtctr := Bw.below hbtct hwctr
                have tmctr := TM.below tmct hwctr
                have rmctr := RM.below rmct hwctr
                refine wpAnyH_ready (rs := [12]) (by kernel_rfl) (by simp) ?_
                refine AllReadyH.cons rfl (fun K hK => ?_) AllReadyH.nil
                refine store_wp (P := Tryz.prog) 27 (.tmp 18) (.tmp 98) rfl (wcc.heap.size) (tc (Op.step U.1 (Op.lkE b)).1 (.slice Ac 24 kc)) rfl rfl 27 _ hbtctr size_Th rfl (tc_row _ _ _ _) ?_
                intro w8ctr hb8ctr hs8ctr hk8ctr
                have HTctr : Hid ((fun W : World => Below wd.heap.size wd W) w8ctr) := HSctr.out.trans (hk8ctr.below2 (fun q hq => by have := HSZct.out; have := HSZctr.out; omega))
                refine hK.out _ _ HTctr.out fun _ => ?_
                clear hK K
                refine wpAnyH_ready (rs := [13]) (by kernel_rfl) (by simp) ?_
                refine AllReadyH.cons rfl (fun K hK => ?_) AllReadyH.nil
                refine store_wp (P := Tryz.prog) 49 (.tmp 19) (.tmp 99) rfl (wcct.heap.size) (rc (Op.step U.1 (Op.lkE b)).2 (.slice Bc nc dc) (.slice Cc mc fc)) rfl rfl 49 _ (Bw.keep hbrctr hk8ctr (by have := HSZct.out; have := HSZctr.out; omega)) size_Rp rfl (rc_row _ _ _ _ _ _ _) ?_
                intro w9ctr hb9ctr hs9ctr hk9ctr
                have HUctr : Hid ((fun W : World => Below wd.heap.size wd W) w9ctr) := HTctr.out.trans (hk9ctr.below2 (fun q hq => by have := HSZct.out; have := HSZctr.out; omega))
                refine hK.out _ _ HUctr.out fun _ => ?_
                clear hK K
                refine wpAnyH_done (by kernel_rfl) ?_ _
                have HFctr := Lib.hid (VT.two (gt := wcc.heap.size) (gr := wcct.heap.size) HVb.out HSctr.out (by have := HSZct.out; have := HSZctr.out; omega) (by have := HSZct.out; have := HSZctr.out; omega) (by have := HSZct.out; have := HSZctr.out; omega) hbtctr hbrctr tmctr rmctr hb8ctr hk8ctr hb9ctr hk9ctr)
                simp only [List.getElem_toArray, List.getElem_cons_succ, List.getElem_cons_zero, Act.put]
                go_step
                go_step
                go_meet
                case rel => exact ⟨_, _, Ac, kc, Bc, nc, dc, Cc, mc, fc, rfl, rfl, HFctr.out.1, HFctr.out.2⟩
            · skip
              refine alloc_wp 49 rfl _ zero_Rp ?_
              intro wccr hbrcr hscr hwcr
              have HSZcr := Lib.hid hscr
              clear hscr
              have HScr : Hid ((fun W : World => Below wd.heap.size wd W) wccr) := HSc.out.trans (hwcr.mono HSc.out.size)
              have hgxcr := HSc.out.size
              refine hK.out _ _ HScr.out fun _ => ?_
              clear hK K
              simp only [List.getElem_toArray, List.getElem_cons_succ, List.getElem_cons_zero, Act.put, List.setIfInBounds_toArray, List.set_cons_zero, List.set_cons_succ]
              have tmcr := TM.below tmc hwcr
              have rmcr := RM.below rmc hwcr
              refine wpAnyH_ready (rs := [10]) (by kernel_rfl) (by simp) ?_
              refine AllReadyH.cons rfl (fun K hK => ?_) AllReadyH.nil
              · skip
                refine alloc_wp 27 rfl _ zero_Th ?_
                intro wccrt hbtcrt hscrt hwcrt
                have HSZcrt := Lib.hid hscrt
                clear hscrt
                have HScrt : Hid ((fun W : World => Below wd.heap.size wd W) wccrt) := HScr.out.trans (hwcrt.mono HScr.out.size)
                have hgxcrt := HScr.out.size
                refine hK.out _ _ HScrt.out fun _ => ?_
                clear hK K
                simp only [List.getElem_toArray, List.getElem_cons_succ, List.getElem_cons_zero, Act.put, List.setIfInBounds_toArray, List.set_cons_zero, List.set_cons_succ]
                have hbrcrt := Bw.below hbrcr hwcrt
                have tmcrt := TM.below tmcr hwcrt
                have rmcrt := RM.below rmcr hwcrt
                refine wpAnyH_ready (rs := [12]) (by kernel_rfl) (by simp) ?_
                refine AllReadyH.cons rfl (fun K hK => ?_) AllReadyH.nil
                refine store_wp (P := Tryz.prog) 27 (.tmp 18) (.tmp 98) rfl (wccr.heap.size) (tc (Op.step U.1 (Op.lkE b)).1 (.slice Ac 24 kc)) rfl rfl 27 _ hbtcrt size_Th rfl (tc_row _ _ _ _) ?_
                intro w8crt hb8crt hs8crt hk8crt
                have HTcrt : Hid ((fun W : World => Below wd.heap.size wd W) w8crt) := HScrt.out.trans (hk8crt.below2 (fun q hq => by have := HSZcr.out; have := HSZcrt.out; omega))
                refine hK.out _ _ HTcrt.out fun _ => ?_
                clear hK K
                refine wpAnyH_ready (rs := [13]) (by kernel_rfl) (by simp) ?_
                refine AllReadyH.cons rfl (fun K hK => ?_) AllReadyH.nil
                refine store_wp (P := Tryz.prog) 49 (.tmp 19) (.tmp 99) rfl (wcc.heap.size) (rc (Op.step U.1 (Op.lkE b)).2 (.slice Bc nc dc) (.slice Cc mc fc)) rfl rfl 49 _ (Bw.keep hbrcrt hk8crt (by have := HSZcr.out; have := HSZcrt.out; omega)) size_Rp rfl (rc_row _ _ _ _ _ _ _) ?_
                intro w9crt hb9crt hs9crt hk9crt
                have HUcrt : Hid ((fun W : World => Below wd.heap.size wd W) w9crt) := HTcrt.out.trans (hk9crt.below2 (fun q hq => by have := HSZcr.out; have := HSZcrt.out; omega))
                refine hK.out _ _ HUcrt.out fun _ => ?_
                clear hK K
                refine wpAnyH_done (by kernel_rfl) ?_ _
                have HFcrt := Lib.hid (VT.two (gt := wccr.heap.size) (gr := wcc.heap.size) HVb.out HScrt.out (by have := HSZcr.out; have := HSZcrt.out; omega) (by have := HSZcr.out; have := HSZcrt.out; omega) (by have := HSZcr.out; have := HSZcrt.out; omega) hbtcrt hbrcrt tmcrt rmcrt hb8crt hk8crt hb9crt hk9crt)
                simp only [List.getElem_toArray, List.getElem_cons_succ, List.getElem_cons_zero, Act.put]
                go_step
                go_step
                go_meet
                case rel => exact ⟨_, _, Ac, kc, Bc, nc, dc, Cc, mc, fc, rfl, rfl, HFcrt.out.1, HFcrt.out.2⟩
          · skip
            refine alloc_wp 27 rfl _ zero_Th ?_
            intro wct hbtt hst hwt
            have HSZt := Lib.hid hst
            clear hst
            have HSt : Hid ((fun W : World => Below wd.heap.size wd W) wct) := HSd.out.trans (hwt.mono HSd.out.size)
            have hgxt := HSd.out.size
            refine hK.out _ _ HSt.out fun _ => ?_
            clear hK K
            simp only [List.getElem_toArray, List.getElem_cons_succ, List.getElem_cons_zero, Act.put, List.setIfInBounds_toArray, List.set_cons_zero, List.set_cons_succ]
            refine wpAnyH_ready (rs := [6, 11]) (by kernel_rfl) (by simp) ?_
            refine AllReadyH.cons rfl (fun K hK => ?_) (AllReadyH.cons rfl (fun K hK => ?_) AllReadyH.nil)
            · skip
              go_simp
              refine (HPK.out.run U.1 Ab kb (Op.lkE b) none 0 0 _ (show TM _ Ab kb U.1 from (VT.below HVb.out HSt.out).ok 1 rfl) HSb.out (Op.lkE_wide (by omega)) (Nat.le_of_ble_eq_true rfl) (Nat.le_of_ble_eq_true rfl) (Nat.le_of_ble_eq_true rfl) BS.nil (Nat.le_refl _)).mono ?_
              rintro e wctc ⟨Atc, ktc, Btc, ntc, dtc, Ctc, mtc, ftc, rfl, tmtc, rmtc, hbtc⟩
              have etc := Op.do_step (c := (Op.lkE b)) HSb.out.inv.may (Nat.le_of_ble_eq_true rfl) (Nat.le_of_ble_eq_true rfl) (Nat.ne_of_beq_eq_false rfl)
              rw [show Op.doT U.1 (Op.lkE b) = (Op.step U.1 (Op.lkE b)).1 from etc.1] at tmtc ⊢
              rw [show Op.doR U.1 (Op.lkE b) = (Op.step U.1 (Op.lkE b)).2 from etc.2] at rmtc ⊢
              have hztc := hbtc.size
              have HStc : Hid ((fun W : World => Below wd.heap.size wd W) wctc) := HSt.out.trans (hbtc.mono HSt.out.size)
              have hbttc := Bw.below hbtt hbtc
              refine hK.out _ _ HStc.out fun _ => ?_
              clear hK K etc
              refine takeH (i := 7) 90 (.tuple #[.agg (tc (Op.step U.1 (Op.lkE b)).1 (.slice Atc 24 ktc)).toArray, .agg (rc (Op.step U.1 (Op.lkE b)).2 (.slice Btc ntc dtc) (.slice Ctc mtc ftc)).toArray]) rfl rfl (by kernel_rfl) (by kernel_rfl) (by kernel_rfl) (fun _ _ _ h => h) (.inl ⟨by rfl, fun W hW => by go_simp⟩) HStc.out ?_
              simp only [Act.put, List.setIfInBounds_toArray, List.set_cons_zero, List.set_cons_succ]
              refine takeH (i := 8) 98 (.agg (tc (Op.step U.1 (Op.lkE b)).1 (.slice Atc 24 ktc)).toArray) rfl rfl (by kernel_rfl) (by kernel_rfl) (by kernel_rfl) (fun _ _ _ h => h) (.inl ⟨by rfl, fun W hW => by go_simp⟩) HStc.out ?_
              simp only [Act.put, List.setIfInBounds_toArray, List.set_cons_zero, List.set_cons_succ]
              refine takeH (i := 9) 99 (.agg (rc (Op.step U.1 (Op.lkE b)).2 (.slice Btc ntc dtc) (.slice Ctc mtc ftc)).toArray) rfl rfl (by kernel_rfl) (by kernel_rfl) (by kernel_rfl) (fun _ _ _ h => h) (.inl ⟨by rfl, fun W hW => by go_simp⟩) HStc.out ?_
              simp only [Act.put, List.setIfInBounds_toArray, List.set_cons_zero, List.set_cons_succ]
              refine wpAnyH_ready (rs := [11]) (by kernel_rfl) (by simp) ?_
              refine AllReadyH.cons rfl (fun K hK => ?_) AllReadyH.nil
              · skip
                refine alloc_wp 49 rfl _ zero_Rp ?_
                intro wctcr hbrtcr hstcr hwtcr
                have HSZtcr := Lib.hid hstcr
                clear hstcr
                have HStcr : Hid ((fun W : World => Below wd.heap.size wd W) wctcr) := HStc.out.trans (hwtcr.mono HStc.out.size)
                have hgxtcr := HStc.out.size
                refine hK.out _ _ HStcr.out fun _ => ?_
                clear hK K
                simp only [List.getElem_toArray, List.getElem_cons_succ, List.getElem_cons_zero, Act.put, List.setIfInBounds_toArray, List.set_cons_zero, List.set_cons_succ]
                have hbttcr := Bw.below hbttc hwtcr
                have tmtcr := TM.below tmtc hwtcr
                have rmtcr := RM.below rmtc hwtcr
                refine wpAnyH_ready (rs := [12]) (by kernel_rfl) (by simp) ?_
                refine AllReadyH.cons rfl (fun K hK => ?_) AllReadyH.nil
                refine store_wp (P := Tryz.prog) 27 (.tmp 18) (.tmp 98) rfl (wd.drew.heap.size) (tc (Op.step U.1 (Op.lkE b)).1 (.slice Atc 24 ktc)) rfl rfl 27 _ hbttcr size_Th rfl (tc_row _ _ _ _) ?_
                intro w8tcr hb8tcr hs8tcr hk8tcr
                have HTtcr : Hid ((fun W : World => Below wd.heap.size wd W) w8tcr) := HStcr.out.trans (hk8tcr.below2 (fun q hq => by have := HSZt.out; have := HSZtcr.out; omega))
                refine hK.out _ _ HTtcr.out fun _ => ?_
                clear hK K
                refine wpAnyH_ready (rs := [13]) (by kernel_rfl) (by simp) ?_
                refine AllReadyH.cons rfl (fun K hK => ?_) AllReadyH.nil
                refine store_wp (P := Tryz.prog) 49 (.tmp 19) (.tmp 99) rfl (wctc.heap.size) (rc (Op.step U.1 (Op.lkE b)).2 (.slice Btc ntc dtc) (.slice Ctc mtc ftc)) rfl rfl 49 _ (Bw.keep hbrtcr hk8tcr (by have := HSZt.out; have := HSZtcr.out; omega)) size_Rp rfl (rc_row _ _ _ _ _ _ _) ?_
                intro w9tcr hb9tcr hs9tcr hk9tcr
                have HUtcr : Hid ((fun W : World => Below wd.heap.size wd W) w9tcr) := HTtcr.out.trans (hk9tcr.below2 (fun q hq => by have := HSZt.out; have := HSZtcr.out; omega))
                refine hK.out _ _ HUtcr.out fun _ => ?_
                clear hK K
                refine wpAnyH_done (by kernel_rfl) ?_ _
                have HFtcr := Lib.hid (VT.two (gt := wd.drew.heap.size) (gr := wctc.heap.size) HVb.out HStcr.out (by have := HSZt.out; have := HSZtcr.out; omega) (by have := HSZt.out; have := HSZtcr.out; omega) (by have := HSZt.out; have := HSZtcr.out; omega) hbttcr hbrtcr tmtcr rmtcr hb8tcr hk8tcr hb9tcr hk9tcr)
                simp only [List.getElem_toArray, List.getElem_cons_succ, List.getElem_cons_zero, Act.put]
                go_step
                go_step
                go_meet
                case rel => exact ⟨_, _, Atc, ktc, Btc, ntc, dtc, Ctc, mtc, ftc, rfl, rfl, HFtcr.out.1, HFtcr.out.2⟩
            · skip
              refine alloc_wp 49 rfl _ zero_Rp ?_
              intro wctr hbrtr hstr hwtr
              have HSZtr := Lib.hid hstr
              clear hstr
              have HStr : Hid ((fun W : World => Below wd.heap.size wd W) wctr) := HSt.out.trans (hwtr.mono HSt.out.size)
              have hgxtr := HSt.out.size
              refine hK.out _ _ HStr.out fun _ => ?_
              clear hK K
              simp only [List.getElem_toArray, List.getElem_cons_succ, List.getElem_cons_zero, Act.put, List.setIfInBounds_toArray, List.set_cons_zero, List.set_cons_succ]
              have hbttr := Bw.below hbtt hwtr
              refine wpAnyH_ready (rs := [6]) (by kernel_rfl) (by simp) ?_
              refine AllReadyH.cons rfl (fun K hK => ?_) AllReadyH.nil
              · skip
                go_simp
                refine (HPK.out.run U.1 Ab kb (Op.lkE b) none 0 0 _ (show TM _ Ab kb U.1 from (VT.below HVb.out HStr.out).ok 1 rfl) HSb.out (Op.lkE_wide (by omega)) (Nat.le_of_ble_eq_true rfl) (Nat.le_of_ble_eq_true rfl) (Nat.le_of_ble_eq_true rfl) BS.nil (Nat.le_refl _)).mono ?_
                rintro e wctrc ⟨Atrc, ktrc, Btrc, ntrc, dtrc, Ctrc, mtrc, ftrc, rfl, tmtrc, rmtrc, hbtrc⟩
                have etrc := Op.do_step (c := (Op.lkE b)) HSb.out.inv.may (Nat.le_of_ble_eq_true rfl) (Nat.le_of_ble_eq_true rfl) (Nat.ne_of_beq_eq_false rfl)
                rw [show Op.doT U.1 (Op.lkE b) = (Op.step U.1 (Op.lkE b)).1 from etrc.1] at tmtrc ⊢
                rw [show Op.doR U.1 (Op.lkE b) = (Op.step U.1 (Op.lkE b)).2 from etrc.2] at rmtrc ⊢
                have hztrc := hbtrc.size
                have HStrc : Hid ((fun W : World => Below wd.heap.size wd W) wctrc) := HStr.out.trans (hbtrc.mono HStr.out.size)
                have hbttrc := Bw.below hbttr hbtrc
                have hbrtrc := Bw.below hbrtr hbtrc
                refine hK.out _ _ HStrc.out fun _ => ?_
                clear hK K etrc
                refine takeH (i := 7) 90 (.tuple #[.agg (tc (Op.step U.1 (Op.lkE b)).1 (.slice Atrc 24 ktrc)).toArray, .agg (rc (Op.step U.1 (Op.lkE b)).2 (.slice Btrc ntrc dtrc) (.slice Ctrc mtrc ftrc)).toArray]) rfl rfl (by kernel_rfl) (by kernel_rfl) (by kernel_rfl) (fun _ _ _ h => h) (.inl ⟨by rfl, fun W hW => by go_simp⟩) HStrc.out ?_
                simp only [Act.put, List.setIfInBounds_toArray, List.set_cons_zero, List.set_cons_succ]
                refine takeH (i := 8) 98 (.agg (tc (Op.step U.1 (Op.lkE b)).1 (.slice Atrc 24 ktrc)).toArray) rfl rfl (by kernel_rfl) (by kernel_rfl) (by kernel_rfl) (fun _ _ _ h => h) (.inl ⟨by rfl, fun W hW => by go_simp⟩) HStrc.out ?_
                simp only [Act.put, List.setIfInBounds_toArray, List.set_cons_zero, List.set_cons_succ]
                refine takeH (i := 9) 99 (.agg (rc (Op.step U.1 (Op.lkE b)).2 (.slice Btrc ntrc dtrc) (.slice Ctrc mtrc ftrc)).toArray) rfl rfl (by kernel_rfl) (by kernel_rfl) (by kernel_rfl) (fun _ _ _ h => h) (.inl ⟨by rfl, fun W hW => by go_simp⟩) HStrc.out ?_
                simp only [Act.put, List.setIfInBounds_toArray, List.set_cons_zero, List.set_cons_succ]
                refine wpAnyH_ready (rs := [12]) (by kernel_rfl) (by simp) ?_
                refine AllReadyH.cons rfl (fun K hK => ?_) AllReadyH.nil
                refine store_wp (P := Tryz.prog) 27 (.tmp 18) (.tmp 98) rfl (wd.drew.heap.size) (tc (Op.step U.1 (Op.lkE b)).1 (.slice Atrc 24 ktrc)) rfl rfl 27 _ hbttrc size_Th rfl (tc_row _ _ _ _) ?_
                intro w8trc hb8trc hs8trc hk8trc
                have HTtrc : Hid ((fun W : World => Below wd.heap.size wd W) w8trc) := HStrc.out.trans (hk8trc.below2 (fun q hq => by have := HSZt.out; have := HSZtr.out; omega))
                refine hK.out _ _ HTtrc.out fun _ => ?_
                clear hK K
                refine wpAnyH_ready (rs := [13]) (by kernel_rfl) (by simp) ?_
                refine AllReadyH.cons rfl (fun K hK => ?_) AllReadyH.nil
                refine store_wp (P := Tryz.prog) 49 (.tmp 19) (.tmp 99) rfl (wct.heap.size) (rc (Op.step U.1 (Op.lkE b)).2 (.slice Btrc ntrc dtrc) (.slice Ctrc mtrc ftrc)) rfl rfl 49 _ (Bw.keep hbrtrc hk8trc (by have := HSZt.out; have := HSZtr.out; omega)) size_Rp rfl (rc_row _ _ _ _ _ _ _) ?_
                intro w9trc hb9trc hs9trc hk9trc
                have HUtrc : Hid ((fun W : World => Below wd.heap.size wd W) w9trc) := HTtrc.out.trans (hk9trc.below2 (fun q hq => by have := HSZt.out; have := HSZtr.out; omega))
                refine hK.out _ _ HUtrc.out fun _ => ?_
                clear hK K
                refine wpAnyH_done (by kernel_rfl) ?_ _
                have HFtrc := Lib.hid (VT.two (gt := wd.drew.heap.size) (gr := wct.heap.size) HVb.out HStrc.out (by have := HSZt.out; have := HSZtr.out; omega) (by have := HSZt.out; have := HSZtr.out; omega) (by have := HSZt.out; have := HSZtr.out; omega) hbttrc hbrtrc tmtrc rmtrc hb8trc hk8trc hb9trc hk9trc)
                simp only [List.getElem_toArray, List.getElem_cons_succ, List.getElem_cons_zero, Act.put]
                go_step
                go_step
                go_meet
                case rel => exact ⟨_, _, Atrc, ktrc, Btrc, ntrc, dtrc, Ctrc, mtrc, ftrc, rfl, rfl, HFtrc.out.1, HFtrc.out.2⟩
          · skip
            refine alloc_wp 49 rfl _ zero_Rp ?_
            intro wcr hbrr hsr hwr
            have HSZr := Lib.hid hsr
            clear hsr
            have HSr : Hid ((fun W : World => Below wd.heap.size wd W) wcr) := HSd.out.trans (hwr.mono HSd.out.size)
            have hgxr := HSd.out.size
            refine hK.out _ _ HSr.out fun _ => ?_
            clear hK K
            simp only [List.getElem_toArray, List.getElem_cons_succ, List.getElem_cons_zero, Act.put, List.setIfInBounds_toArray, List.set_cons_zero, List.set_cons_succ]
            refine wpAnyH_ready (rs := [6, 10]) (by kernel_rfl) (by simp) ?_
            refine AllReadyH.cons rfl (fun K hK => ?_) (AllReadyH.cons rfl (fun K hK => ?_) AllReadyH.nil)
            · skip
              go_simp
              refine (HPK.out.run U.1 Ab kb (Op.lkE b) none 0 0 _ (show TM _ Ab kb U.1 from (VT.below HVb.out HSr.out).ok 1 rfl) HSb.out (Op.lkE_wide (by omega)) (Nat.le_of_ble_eq_true rfl) (Nat.le_of_ble_eq_true rfl) (Nat.le_of_ble_eq_true rfl) BS.nil (Nat.le_refl _)).mono ?_
              rintro e wcrc ⟨Arc, krc, Brc, nrc, drc, Crc, mrc, frc, rfl, tmrc, rmrc, hbrc⟩
              have erc := Op.do_step (c := (Op.lkE b)) HSb.out.inv.may (Nat.le_of_ble_eq_true rfl) (Nat.le_of_ble_eq_true rfl) (Nat.ne_of_beq_eq_false rfl)
              rw [show Op.doT U.1 (Op.lkE b) = (Op.step U.1 (Op.lkE b)).1 from erc.1] at tmrc ⊢
              rw [show Op.doR U.1 (Op.lkE b) = (Op.step U.1 (Op.lkE b)).2 from erc.2] at rmrc ⊢
              have hzrc := hbrc.size
              have HSrc : Hid ((fun W : World => Below wd.heap.size wd W) wcrc) := HSr.out.trans (hbrc.mono HSr.out.size)
              have hbrrc := Bw.below hbrr hbrc
              refine hK.out _ _ HSrc.out fun _ => ?_
              clear hK K erc
              refine takeH (i := 7) 90 (.tuple #[.agg (tc (Op.step U.1 (Op.lkE b)).1 (.slice Arc 24 krc)).toArray, .agg (rc (Op.step U.1 (Op.lkE b)).2 (.slice Brc nrc drc) (.slice Crc mrc frc)).toArray]) rfl rfl (by kernel_rfl) (by kernel_rfl) (by kernel_rfl) (fun _ _ _ h => h) (.inl ⟨by rfl, fun W hW => by go_simp⟩) HSrc.out ?_
              simp only [Act.put, List.setIfInBounds_toArray, List.set_cons_zero, List.set_cons_succ]
              refine takeH (i := 8) 98 (.agg (tc (Op.step U.1 (Op.lkE b)).1 (.slice Arc 24 krc)).toArray) rfl rfl (by kernel_rfl) (by kernel_rfl) (by kernel_rfl) (fun _ _ _ h => h) (.inl ⟨by rfl, fun W hW => by go_simp⟩) HSrc.out ?_
              simp only [Act.put, List.setIfInBounds_toArray, List.set_cons_zero, List.set_cons_succ]
              refine takeH (i := 9) 99 (.agg (rc (Op.step U.1 (Op.lkE b)).2 (.slice Brc nrc drc) (.slice Crc mrc frc)).toArray) rfl rfl (by kernel_rfl) (by kernel_rfl) (by kernel_rfl) (fun _ _ _ h => h) (.inl ⟨by rfl, fun W hW => by go_simp⟩) HSrc.out ?_
              simp only [Act.put, List.setIfInBounds_toArray, List.set_cons_zero, List.set_cons_succ]
              refine wpAnyH_ready (rs := [10]) (by kernel_rfl) (by simp) ?_
              refine AllReadyH.cons rfl (fun K hK => ?_) AllReadyH.nil
              · skip
                refine alloc_wp 27 rfl _ zero_Th ?_
                intro wcrct hbtrct hsrct hwrct
                have HSZrct := Lib.hid hsrct
                clear hsrct
                have HSrct : Hid ((fun W : World => Below wd.heap.size wd W) wcrct) := HSrc.out.trans (hwrct.mono HSrc.out.size)
                have hgxrct := HSrc.out.size
                refine hK.out _ _ HSrct.out fun _ => ?_
                clear hK K
                simp only [List.getElem_toArray, List.getElem_cons_succ, List.getElem_cons_zero, Act.put, List.setIfInBounds_toArray, List.set_cons_zero, List.set_cons_succ]
                have hbrrct := Bw.below hbrrc hwrct
                have tmrct := TM.below tmrc hwrct
                have rmrct := RM.below rmrc hwrct
                refine wpAnyH_ready (rs := [12]) (by kernel_rfl) (by simp) ?_
                refine AllReadyH.cons rfl (fun K hK => ?_) AllReadyH.nil
                refine store_wp (P := Tryz.prog) 27 (.tmp 18) (.tmp 98) rfl (wcrc.heap.size) (tc (Op.step U.1 (Op.lkE b)).1 (.slice Arc 24 krc)) rfl rfl 27 _ hbtrct size_Th rfl (tc_row _ _ _ _) ?_
                intro w8rct hb8rct hs8rct hk8rct
                have HTrct : Hid ((fun W : World => Below wd.heap.size wd W) w8rct) := HSrct.out.trans (hk8rct.below2 (fun q hq => by have := HSZr.out; have := HSZrct.out; omega))
                refine hK.out _ _ HTrct.out fun _ => ?_
                clear hK K
                refine wpAnyH_ready (rs := [13]) (by kernel_rfl) (by simp) ?_
                refine AllReadyH.cons rfl (fun K hK => ?_) AllReadyH.nil
                refine store_wp (P := Tryz.prog) 49 (.tmp 19) (.tmp 99) rfl (wd.drew.heap.size) (rc (Op.step U.1 (Op.lkE b)).2 (.slice Brc nrc drc) (.slice Crc mrc frc)) rfl rfl 49 _ (Bw.keep hbrrct hk8rct (by have := HSZr.out; have := HSZrct.out; omega)) size_Rp rfl (rc_row _ _ _ _ _ _ _) ?_
                intro w9rct hb9rct hs9rct hk9rct
                have HUrct : Hid ((fun W : World => Below wd.heap.size wd W) w9rct) := HTrct.out.trans (hk9rct.below2 (fun q hq => by have := HSZr.out; have := HSZrct.out; omega))
                refine hK.out _ _ HUrct.out fun _ => ?_
                clear hK K
                refine wpAnyH_done (by kernel_rfl) ?_ _
                have HFrct := Lib.hid (VT.two (gt := wcrc.heap.size) (gr := wd.drew.heap.size) HVb.out HSrct.out (by have := HSZr.out; have := HSZrct.out; omega) (by have := HSZr.out; have := HSZrct.out; omega) (by have := HSZr.out; have := HSZrct.out; omega) hbtrct hbrrct tmrct rmrct hb8rct hk8rct hb9rct hk9rct)
                simp only [List.getElem_toArray, List.getElem_cons_succ, List.getElem_cons_zero, Act.put]
                go_step
                go_step
                go_meet
                case rel => exact ⟨_, _, Arc, krc, Brc, nrc, drc, Crc, mrc, frc, rfl, rfl, HFrct.out.1, HFrct.out.2⟩
            · skip
              refine alloc_wp 27 rfl _ zero_Th ?_
              intro wcrt hbtrt hsrt hwrt
              have HSZrt := Lib.hid hsrt
              clear hsrt
              have HSrt : Hid ((fun W : World => Below wd.heap.size wd W) wcrt) := HSr.out.trans (hwrt.mono HSr.out.size)
              have hgxrt := HSr.out.size
              refine hK.out _ _ HSrt.out fun _ => ?_
              clear hK K
              simp only [List.getElem_toArray, List.getElem_cons_succ, List.getElem_cons_zero, Act.put, List.setIfInBounds_toArray, List.set_cons_zero, List.set_cons_succ]
              have hbrrt := Bw.below hbrr hwrt
              refine wpAnyH_ready (rs := [6]) (by kernel_rfl) (by simp) ?_
              refine AllReadyH.cons rfl (fun K hK => ?_) AllReadyH.nil
              · skip
                go_simp
                refine (HPK.out.run U.1 Ab kb (Op.lkE b) none 0 0 _ (show TM _ Ab kb U.1 from (VT.below HVb.out HSrt.out).ok 1 rfl) HSb.out (Op.lkE_wide (by omega)) (Nat.le_of_ble_eq_true rfl) (Nat.le_of_ble_eq_true rfl) (Nat.le_of_ble_eq_true rfl) BS.nil (Nat.le_refl _)).mono ?_
                rintro e wcrtc ⟨Artc, krtc, Brtc, nrtc, drtc, Crtc, mrtc, frtc, rfl, tmrtc, rmrtc, hbrtc⟩
                have ertc := Op.do_step (c := (Op.lkE b)) HSb.out.inv.may (Nat.le_of_ble_eq_true rfl) (Nat.le_of_ble_eq_true rfl) (Nat.ne_of_beq_eq_false rfl)
                rw [show Op.doT U.1 (Op.lkE b) = (Op.step U.1 (Op.lkE b)).1 from ertc.1] at tmrtc ⊢
                rw [show Op.doR U.1 (Op.lkE b) = (Op.step U.1 (Op.lkE b)).2 from ertc.2] at rmrtc ⊢
                have hzrtc := hbrtc.size
                have HSrtc : Hid ((fun W : World => Below wd.heap.size wd W) wcrtc) := HSrt.out.trans (hbrtc.mono HSrt.out.size)
                have hbtrtc := Bw.below hbtrt hbrtc
                have hbrrtc := Bw.below hbrrt hbrtc
                refine hK.out _ _ HSrtc.out fun _ => ?_
                clear hK K ertc
                refine takeH (i := 7) 90 (.tuple #[.agg (tc (Op.step U.1 (Op.lkE b)).1 (.slice Artc 24 krtc)).toArray, .agg (rc (Op.step U.1 (Op.lkE b)).2 (.slice Brtc nrtc drtc) (.slice Crtc mrtc frtc)).toArray]) rfl rfl (by kernel_rfl) (by kernel_rfl) (by kernel_rfl) (fun _ _ _ h => h) (.inl ⟨by rfl, fun W hW => by go_simp⟩) HSrtc.out ?_
                simp only [Act.put, List.setIfInBounds_toArray, List.set_cons_zero, List.set_cons_succ]
                refine takeH (i := 8) 98 (.agg (tc (Op.step U.1 (Op.lkE b)).1 (.slice Artc 24 krtc)).toArray) rfl rfl (by kernel_rfl) (by kernel_rfl) (by kernel_rfl) (fun _ _ _ h => h) (.inl ⟨by rfl, fun W hW => by go_simp⟩) HSrtc.out ?_
                simp only [Act.put, List.setIfInBounds_toArray, List.set_cons_zero, List.set_cons_succ]
                refine takeH (i := 9) 99 (.agg (rc (Op.step U.1 (Op.lkE b)).2 (.slice Brtc nrtc drtc) (.slice Crtc mrtc frtc)).toArray) rfl rfl (by kernel_rfl) (by kernel_rfl) (by kernel_rfl) (fun _ _ _ h => h) (.inl ⟨by rfl, fun W hW => by go_simp⟩) HSrtc.out ?_
                simp only [Act.put, List.setIfInBounds_toArray, List.set_cons_zero, List.set_cons_succ]
                refine wpAnyH_ready (rs := [12]) (by kernel_rfl) (by simp) ?_
                refine AllReadyH.cons rfl (fun K hK => ?_) AllReadyH.nil
                refine store_wp (P := Tryz.prog) 27 (.tmp 18) (.tmp 98) rfl (wcr.heap.size) (tc (Op.step U.1 (Op.lkE b)).1 (.slice Artc 24 krtc)) rfl rfl 27 _ hbtrtc size_Th rfl (tc_row _ _ _ _) ?_
                intro w8rtc hb8rtc hs8rtc hk8rtc
                have HTrtc : Hid ((fun W : World => Below wd.heap.size wd W) w8rtc) := HSrtc.out.trans (hk8rtc.below2 (fun q hq => by have := HSZr.out; have := HSZrt.out; omega))
                refine hK.out _ _ HTrtc.out fun _ => ?_
                clear hK K
                refine wpAnyH_ready (rs := [13]) (by kernel_rfl) (by simp) ?_
                refine AllReadyH.cons rfl (fun K hK => ?_) AllReadyH.nil
                refine store_wp (P := Tryz.prog) 49 (.tmp 19) (.tmp 99) rfl (wd.drew.heap.size) (rc (Op.step U.1 (Op.lkE b)).2 (.slice Brtc nrtc drtc) (.slice Crtc mrtc frtc)) rfl rfl 49 _ (Bw.keep hbrrtc hk8rtc (by have := HSZr.out; have := HSZrt.out; omega)) size_Rp rfl (rc_row _ _ _ _ _ _ _) ?_
                intro w9rtc hb9rtc hs9rtc hk9rtc
                have HUrtc : Hid ((fun W : World => Below wd.heap.size wd W) w9rtc) := HTrtc.out.trans (hk9rtc.below2 (fun q hq => by have := HSZr.out; have := HSZrt.out; omega))
                refine hK.out _ _ HUrtc.out fun _ => ?_
                clear hK K
                refine wpAnyH_done (by kernel_rfl) ?_ _
                have HFrtc := Lib.hid (VT.two (gt := wcr.heap.size) (gr := wd.drew.heap.size) HVb.out HSrtc.out (by have := HSZr.out; have := HSZrt.out; omega) (by have := HSZr.out; have := HSZrt.out; omega) (by have := HSZr.out; have := HSZrt.out; omega) hbtrtc hbrrtc tmrtc rmrtc hb8rtc hk8rtc hb9rtc hk9rtc)
                simp only [List.getElem_toArray, List.getElem_cons_succ, List.getElem_cons_zero, Act.put]
                go_step
                go_step
                go_meet
                case rel => exact ⟨_, _, Artc, krtc, Brtc, nrtc, drtc, Crtc, mrtc, frtc, rfl, rfl, HFrtc.out.1, HFrtc.out.2⟩
        case rest =>
        obtain ⟨gct, gcr, Ac, kc, Bc, nc, dc, Cc, mc, fc, rfl, rfl, HVc, HBEc⟩ := hcut
        have ec := Op.do_step (c := (Op.lkE b)) HSb.out.inv.may (Nat.le_of_ble_eq_true rfl) (Nat.le_of_ble_eq_true rfl) (Nat.ne_of_beq_eq_false rfl)
        have HSc : Hid (Op.Sound (Op.step U.1 (Op.lkE b)).1) := by show Op.Sound _; rw [show (Op.step U.1 (Op.lkE b)).1 = Op.doT U.1 (Op.lkE b) from ec.1.symm]; exact HSb.out.doT (Op.lkE_wide (by omega))
        clear ec HVb
        obtain ⟨we, rfl⟩ : ∃ we, we = wc := ⟨wc, rfl⟩
        go_upto_region 21 with fail
        have HSe : Hid ((fun W : World => Below we.heap.size we W) we.drew) := (Below.refl _ we).drew
        refine wp_region_held_drew (S := (fun W : World => Below we.heap.size we W)) (by kernel_rfl) HSe.out (fun _ => ?_)
        change wpAnyH _ _ _ _ _ 18 (Array.replicate 18 false) _ _
        refine takeH (i := 0) 100 (.pointer (some ⟨gbr, 2, none⟩)) rfl rfl (by kernel_rfl) (by kernel_rfl) (by kernel_rfl) (fun _ _ _ h => h) (.inl ⟨by rfl, fun W hW => by go_simp⟩) HSe.out ?_
        simp only [Act.put, List.setIfInBounds_toArray, List.set_cons_zero, List.set_cons_succ]
        refine takeH (i := 1) 101 (.int .i64 0) rfl rfl (by kernel_rfl) (by kernel_rfl) (by kernel_rfl) (fun _ _ _ h => h) (.inl ⟨by rfl, fun W hW => by (have hz := (VT.below HVc.out hW).cell 2 rfl 2 _ rfl; rw [HF.out.1] at hz; go_simp)⟩) HSe.out ?_
        simp only [Act.put, List.setIfInBounds_toArray, List.set_cons_zero, List.set_cons_succ]
        refine takeH (i := 2) 102 (.bool true) rfl rfl (by kernel_rfl) (by kernel_rfl) (by kernel_rfl) (fun _ _ _ h => h) (.inl ⟨by rfl, fun W hW => by go_simp⟩) HSe.out ?_
        simp only [Act.put, List.setIfInBounds_toArray, List.set_cons_zero, List.set_cons_succ]
        refine takeH (i := 3) 103 (.bool true) rfl rfl (by kernel_rfl) (by kernel_rfl) (by kernel_rfl) (fun _ _ _ h => h) (.inl ⟨by rfl, fun W hW => by go_simp⟩) HSe.out ?_
        simp only [Act.put, List.setIfInBounds_toArray, List.set_cons_zero, List.set_cons_succ]
        refine takeH (i := 4) 104 (.pointer (some ⟨gcr, 3, none⟩)) rfl rfl (by kernel_rfl) (by kernel_rfl) (by kernel_rfl) (fun _ _ _ h => h) (.inl ⟨by rfl, fun W hW => by go_simp⟩) HSe.out ?_
        simp only [Act.put, List.setIfInBounds_toArray, List.set_cons_zero, List.set_cons_succ]
        refine takeH (i := 5) 105 (.agg #[.int .u32 ((a + 1 : Nat) : Int), .int .u32 1]) rfl rfl (by kernel_rfl) (by kernel_rfl) (by kernel_rfl) (fun _ _ _ h => h) (.inl ⟨by rfl, fun W hW => by (have h3 := (VT.below HVc.out hW).cell 4 rfl 3 _ rfl; have h4 := (VT.below HVc.out hW).cell 4 rfl 4 _ rfl; rw [show (Op.step U.1 (Op.lkE b)).2.ati = a + 1 from HF.out.2.1] at h3; rw [show (Op.step U.1 (Op.lkE b)).2.atg = 1 from HF.out.2.2] at h4; go_simp)⟩) HSe.out ?_
        simp only [Act.put, List.setIfInBounds_toArray, List.set_cons_zero, List.set_cons_succ]
        refine takeH (i := 6) 106 ((.slice (some ⟨b', 0, none⟩) (n + 1) kk)) rfl rfl (by kernel_rfl) (by kernel_rfl) (by kernel_rfl) (fun _ _ _ h => h) (.inl ⟨by rfl, fun W hW => by go_simp⟩) HSe.out ?_
        simp only [Act.put, List.setIfInBounds_toArray, List.set_cons_zero, List.set_cons_succ]
        refine takeH (i := 7) 107 (.int .i64 (a : Int)) rfl rfl (by kernel_rfl) (by kernel_rfl) (by kernel_rfl) (fun _ _ _ h => h) (.inl ⟨by rfl, fun W hW => by go_simp⟩) HSe.out ?_
        simp only [Act.put, List.setIfInBounds_toArray, List.set_cons_zero, List.set_cons_succ]
        refine takeH (i := 8) 108 (.int .i64 ((a : Int) + 1)) rfl rfl (by kernel_rfl) (by kernel_rfl) (by kernel_rfl) (fun _ _ _ h => h) (.inl ⟨by rfl, fun W hW => by (go_simp; first | done | exact IntWalk.i64_in _ (by omega))⟩) HSe.out ?_
        simp only [Act.put, List.setIfInBounds_toArray, List.set_cons_zero, List.set_cons_succ]
        refine takeH (i := 9) 109 ((.pointer (some ⟨b', (a + 1) * 2, none⟩))) rfl rfl (by kernel_rfl) (by kernel_rfl) (by kernel_rfl) (fun _ _ _ h => h) (.inl ⟨by rfl, fun W hW => by (go_simp; first | (intro hh; omega) | omega | skip)⟩) HSe.out ?_
        simp only [Act.put, List.setIfInBounds_toArray, List.set_cons_zero, List.set_cons_succ]
        refine takeH (i := 10) 110 (.agg #[.int .u32 ((a + 1 : Nat) : Int), .int .u32 1]) rfl rfl (by kernel_rfl) (by kernel_rfl) (by kernel_rfl) (fun _ _ _ h => h) (.inl ⟨by rfl, fun W hW => by (have z0 := (Below.cell hW (p := ⟨b', (a + 1) * 2, none⟩) (Nat.lt_of_lt_of_le hbl2 HBEc.out.size)).trans ((HBEc.out.cell (p := ⟨b', (a + 1) * 2, none⟩) hbl2).trans (HCL2.out (a + 1) (by omega)).1); have z1 := (Below.cell hW (p := ⟨b', (a + 1) * 2 + 1, none⟩) (Nat.lt_of_lt_of_le hbl2 HBEc.out.size)).trans ((HBEc.out.cell (p := ⟨b', (a + 1) * 2 + 1, none⟩) hbl2).trans (HCL2.out (a + 1) (by omega)).2); go_simp)⟩) HSe.out ?_
        simp only [Act.put, List.setIfInBounds_toArray, List.set_cons_zero, List.set_cons_succ]
        refine takeH (i := 11) 111 (.bool true) rfl rfl (by kernel_rfl) (by kernel_rfl) (by kernel_rfl) (fun _ _ _ h => h) (.inl ⟨by rfl, fun W hW => by go_simp⟩) HSe.out ?_
        simp only [Act.put, List.setIfInBounds_toArray, List.set_cons_zero, List.set_cons_succ]
        refine takeH (i := 12) 112 (.bool true) rfl rfl (by kernel_rfl) (by kernel_rfl) (by kernel_rfl) (fun _ _ _ h => h) (.inl ⟨by rfl, fun W hW => by go_simp⟩) HSe.out ?_
        simp only [Act.put, List.setIfInBounds_toArray, List.set_cons_zero, List.set_cons_succ]
        refine takeH (i := 13) 113 (.bool true) rfl rfl (by kernel_rfl) (by kernel_rfl) (by kernel_rfl) (fun _ _ _ h => h) (.inl ⟨by rfl, fun W hW => by go_simp⟩) HSe.out ?_
        simp only [Act.put, List.setIfInBounds_toArray, List.set_cons_zero, List.set_cons_succ]
        refine takeH (i := 14) 114 (.agg (tc U.1 (.slice Ab 24 kb)).toArray) rfl rfl (by kernel_rfl) (by kernel_rfl) (by kernel_rfl) (fun _ _ _ h => h) (.inl ⟨by rfl, fun W hW => by exact run_load_part 27 (.tmp 16) rfl gbt 0 rfl _ Tryz.underlying27 rfl (tc U.1 (.slice Ab 24 kb)) 27 _ ((VT.below HVc.out hW).bw 1 rfl) size_Th (fun j u hu => by rw [Nat.zero_add]; exact hu)⟩) HSe.out ?_
        simp only [Act.put, List.setIfInBounds_toArray, List.set_cons_zero, List.set_cons_succ]
        refine wpAnyH_ready (rs := [15]) (by kernel_rfl) (by simp) ?_
        refine AllReadyH.cons rfl (fun K hK => ?_) AllReadyH.nil
        go_simp
        refine (sound_any (show TM _ Ab kb U.1 from (VT.below HVc.out HSe.out).ok 1 rfl) HSb.out).mono ?_
        rintro e w9 ⟨rfl, hb9⟩
        have HS9 : Hid ((fun W : World => Below we.heap.size we W) w9) := HSe.out.trans (hb9.mono HSe.out.size)
        have HBF : Hid (Below w.heap.size w w9) := (VT.below HVc.out HS9.out).bel
        refine hK.out _ _ HS9.out fun _ => ?_
        clear hK K hb9
        refine takeH (i := 16) 116 (.bool true) rfl rfl (by kernel_rfl) (by kernel_rfl) (by kernel_rfl) (fun _ _ _ h => h) (.inl ⟨by rfl, fun W hW => by go_simp⟩) HS9.out ?_
        simp only [Act.put, List.setIfInBounds_toArray, List.set_cons_zero, List.set_cons_succ]
        refine takeH (i := 17) 6 (.bool true) rfl rfl (by kernel_rfl) (by kernel_rfl) (by kernel_rfl) (fun _ _ _ h => h) (.inl ⟨by rfl, fun W hW => by go_simp⟩) HS9.out ?_
        simp only [Act.put, List.setIfInBounds_toArray, List.set_cons_zero, List.set_cons_succ]
        refine wpAnyH_done (by kernel_rfl) ?_ _
        go_wp2_with fail
        go_ret
        exact ⟨rfl, HBF.out⟩
end Go.Proofs.YtndnkfnhgakibaaGreat
