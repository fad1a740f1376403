/-
  The law OpsLinks (layer 13).
-/
import Derived.Test.YtndnkfnhgakibaaGreatOLinksM
import Derived.Test.YtndnkfnhgakibaaGreatOSnd
namespace Go.Proofs.YtndnkfnhgakibaaGreat
open Go.RowKit Go.Shelf
attribute [local go_sem] Oper.semAt_some

def Op.lkR0 : Rp := (Op.step (Op.format 30) (Op.cl 6 0 1 [102])).2
set_option maxRecDepth 100000 in
set_option maxHeartbeats 8000000 in
theorem links_walk (HP : Pk) (a b : Nat) (w : World) (ha : a < 256) (hb : b < 256) :
    Calls Tryz.prog 9 #[.int .u8 (a : Int), .int .u8 (b : Int)] w fun e w' => e = .returned (.bool true) ∧ Below w.heap.size w w' := by
  have HPK := Lib.hid HP
  clear HP
  obtain ⟨n, hn⟩ : ∃ n, a % 8 = n := ⟨_, rfl⟩
  have hni : (a : Int) % 8 = (n : Int) := by omega
  have hn8 : n < 8 := by omega
  clear hn
  obtain ⟨m, hm⟩ : ∃ m, b % (n + 2) = m := ⟨_, rfl⟩
  have HMI : Hid ((b : Int) % ((n : Int) + 2) = (m : Int)) := by show _ = _; rw [← hm]; push_cast; rfl
  have HM : Hid (m < n + 2) := by show _ < _; rw [← hm]; exact Nat.mod_lt _ (by omega)
  clear hm
  go_enter Tryz.func9, Tryz.ntmps9
  go_wp2_with fail
  refine (awakeO_any HPK.out w).mono ?_
  rintro e w0 ⟨rfl, hb0⟩
  have HB0 := Lib.hid hb0
  clear hb0
  go_wp2_with fail
  first | rw [hni] | skip
  refine (HPK.out.format 30 w0 (by omega)).mono ?_
  rintro e w1 ⟨A0, k0, rfl, tm0, hb1⟩
  have HT0 := Lib.hid tm0
  have HV0 : Hid (VT w w1 []) := VT.nil (HB0.out.trans (hb1.mono HB0.out.size))
  have HS0 : Hid (Op.Sound (Op.format 30)) := Op.Sound.format
  clear tm0 hb1 HB0 hni
  go_wp2_with fail
  refine (HPK.out.run (Op.format 30) A0 k0 (Op.cl 6 0 1 [102]) none 0 0 _ HT0.out HS0.out (Op.cl_wide (by decide) (by decide) (by decide)) (Nat.le_of_ble_eq_true rfl) (Nat.le_of_ble_eq_true rfl) (Nat.le_of_ble_eq_true rfl) BS.nil (Nat.le_refl _)).mono ?_
  rintro e w1a ⟨A1, k1, B1, n1, d1, C1, m1, f1, rfl, tm1, rm1, hb1⟩
  have e1 := Op.do_step (c := (Op.cl 6 0 1 [102])) HS0.out.inv.may (Nat.le_of_ble_eq_true rfl) (Nat.le_of_ble_eq_true rfl) (Nat.ne_of_beq_eq_false rfl)
  have HS1 : Hid (Op.Sound (Op.lkT 0)) := by show Op.Sound _; rw [show (Op.lkT 0) = Op.doT (Op.format 30) (Op.cl 6 0 1 [102]) from e1.1.symm]; exact HS0.out.doT (Op.cl_wide (by decide) (by decide) (by decide))
  rw [show Op.doT (Op.format 30) (Op.cl 6 0 1 [102]) = (Op.lkT 0) from e1.1] at tm1 ⊢
  rw [show Op.doR (Op.format 30) (Op.cl 6 0 1 [102]) = Op.lkR0 from e1.2] at rm1 ⊢
  have HV1a := Lib.hid (HV0.out.below hb1)
  clear e1 hb1
  go_upto_region 6 with (first
    | (refine wpList_alloc_any rfl 27 rfl _ zero_Th ?_
       intro w1t hbt1 hst1 hwt1)
    | (refine wpList_alloc_any rfl 49 rfl _ zero_Rp ?_
       intro w1r hbr1 hsr1 hwr1
       have hbt21 : Bw w1r w1a.heap.size (tc Op.zeroT (.slice none 0 0)) 27 := Bw.below hbt1 hwr1)
    | (refine wpList_store_part rfl 27 (.tmp 7) (.tmp 32) rfl w1a.heap.size 0 (tc (Op.lkT 0) (.slice A1 24 k1)) rfl rfl 27 _ hbt21 size_Th (by simp [tc]) (tc_row _ _ _ _) ?_
       intro w1u hbu1 hsu1 hku1
       have hbr21 : Bw w1u w1t.heap.size (rc Rp.zero (.slice none 0 0) (.slice none 0 0)) 49 := Bw.keep hbr1 hku1 (by omega))
    | (refine wpList_store_part rfl 49 (.tmp 8) (.tmp 33) rfl w1t.heap.size 0 (rc Op.lkR0 (.slice B1 n1 d1) (.slice C1 m1 f1)) rfl rfl 49 _ hbr21 size_Rp (by simp [rc]) (rc_row _ _ _ _ _ _ _) ?_
       intro w1v hbv1 hsv1 hkv1))
  have hbe1 : Below w1a.heap.size w1a w1v := ((hwt1.trans (hwr1.mono (by omega))).trans (hku1.below2 (fun k hk => by omega))).trans (hkv1.below2 (fun k hk => by omega))
  have HV1 : Hid (VT w w1v [(w1a.heap.size, .th A1 k1 (Op.lkT 0)), (w1t.heap.size, .rp B1 n1 d1 C1 m1 f1 Op.lkR0)]) := VT.push2 HV1a.out (g := w1a.heap.size) (g' := w1t.heap.size) (v := .th A1 k1 (Op.lkT 0)) (v' := .rp B1 n1 d1 C1 m1 f1 Op.lkR0) (Nat.le_refl _) (by omega) (by omega) (Bw.keep hbu1 hkv1 (by omega)) hbv1 hbe1 tm1 rm1
  clear HV1a hbe1 hbt1 hst1 hwt1 hbr1 hsr1 hwr1 hbt21 hbu1 hsu1 hku1 hbr21 hbv1 hsv1 hkv1 tm1 rm1 HV0
  generalize w1t.heap.size = g1r at *
  generalize w1a.heap.size = g1t at *
  clear HT0 HS0 HS1
  go_wp2_with fail
  go_loopw [9] (fun i wr => ∃ (j : Nat) (A : Option Addr) (k : Nat), j ≤ n ∧ i = .int .i64 j ∧ Hid (VT w wr [(g1t, .th A k (Op.lkT j)), (g1r, .rp B1 n1 d1 C1 m1 f1 Op.lkR0)])) (fun i _ => n - (intOf i).toNat)
  case atStart => exact ⟨0, A1, k1, by omega, rfl, HV1⟩
  case round =>
    clear HV1
    obtain ⟨j, A, k, hj, rfl, HV⟩ := hrel
    obtain ⟨wo, rfl⟩ : ∃ wo, wo = wr := ⟨wr, rfl⟩
    by_cases hlt : j < n
    · have HSj : Hid (Op.Sound (Op.lkT j)) := Op.lk_sound j
      have HNB : Hid (97 + (j : Int) = ((nb j).toNat : Int)) := (nb_int (by omega)).symm
      have r3 := HV.out.cell 1 rfl 3 _ rfl
      have r4 := HV.out.cell 1 rfl 4 _ rfl
      rw [show Op.lkR0.ati = 1 from Op.lk_r.2.1] at r3
      rw [show Op.lkR0.atg = 1 from Op.lk_r.2.2] at r4
      go_wp2_with (first
        | (refine wpList_load_part rfl 27 (.tmp 7) rfl g1t 0 rfl _ Tryz.underlying27 rfl (tc (Op.lkT j) (.slice A 24 k)) 27 _ (HV.out.bw 0 rfl) size_Th (fun j u hu => by rw [Nat.zero_add]; exact hu) ?_)
        | (refine wpList_byte2 rfl (.const (.int .u8 108)) (.tmp 46) rfl 108 (nb j) e108 (congrArg (Value.int .u8) HNB.out) ?_; intro w2b hbs2 hbb2)
        | (refine wpList_conv_bs rfl (.tmp 47) rfl _ 2 2 [108, nb j] rfl hbs2 ?_))
      have HVc2 := Lib.hid (HV.out.below (hbb2))
      refine (HPK.out.run (Op.lkT j) A k (Op.lkC j) none 0 0 _ (show TM _ A k (Op.lkT j) from HVc2.out.ok 0 rfl) HSj.out (Op.lkC_wide j) (Nat.le_of_ble_eq_true rfl) (Nat.le_of_ble_eq_true rfl) (Nat.le_of_ble_eq_true rfl) BS.nil (Nat.le_refl _)).mono ?_
      rintro e w2a ⟨A2, k2, B2, n2, d2, C2, m2, f2, rfl, tm2, rm2, hb2⟩
      have e2 := Op.do_step (c := (Op.lkC j)) HSj.out.inv.may (Nat.le_of_ble_eq_true rfl) (Nat.le_of_ble_eq_true rfl) (Nat.ne_of_beq_eq_false rfl)
      have HS2 : Hid (Op.Sound (Op.lkT (j + 1))) := by show Op.Sound _; rw [show (Op.lkT (j + 1)) = Op.doT (Op.lkT j) (Op.lkC j) from e2.1.symm]; exact HSj.out.doT (Op.lkC_wide j)
      rw [show Op.doT (Op.lkT j) (Op.lkC j) = (Op.lkT (j + 1)) from e2.1] at tm2 ⊢
      rw [show Op.doR (Op.lkT j) (Op.lkC j) = (Op.lkR j) from e2.2] at rm2 ⊢
      have HV2a := Lib.hid (HVc2.out.below hb2)
      clear e2 hb2
      go_upto_region 10 with (first
        | (refine wpList_alloc_any rfl 27 rfl _ zero_Th ?_
           intro w2t hbt2 hst2 hwt2)
        | (refine wpList_alloc_any rfl 49 rfl _ zero_Rp ?_
           intro w2r hbr2 hsr2 hwr2
           have hbt22 : Bw w2r w2a.heap.size (tc Op.zeroT (.slice none 0 0)) 27 := Bw.below hbt2 hwr2)
        | (refine wpList_store_part rfl 27 (.tmp 10) (.tmp 51) rfl w2a.heap.size 0 (tc (Op.lkT (j + 1)) (.slice A2 24 k2)) rfl rfl 27 _ hbt22 size_Th (by simp [tc]) (tc_row _ _ _ _) ?_
           intro w2u hbu2 hsu2 hku2
           have hbr22 : Bw w2u w2t.heap.size (rc Rp.zero (.slice none 0 0) (.slice none 0 0)) 49 := Bw.keep hbr2 hku2 (by omega))
        | (refine wpList_store_part rfl 49 (.tmp 11) (.tmp 52) rfl w2t.heap.size 0 (rc (Op.lkR j) (.slice B2 n2 d2) (.slice C2 m2 f2)) rfl rfl 49 _ hbr22 size_Rp (by simp [rc]) (rc_row _ _ _ _ _ _ _) ?_
           intro w2v hbv2 hsv2 hkv2))
      have hbe2 : Below w2a.heap.size w2a w2v := ((hwt2.trans (hwr2.mono (by omega))).trans (hku2.below2 (fun k hk => by omega))).trans (hkv2.below2 (fun k hk => by omega))
      have HV2 : Hid (VT w w2v [(g1t, .th A k (Op.lkT j)), (g1r, .rp B1 n1 d1 C1 m1 f1 Op.lkR0), (w2a.heap.size, .th A2 k2 (Op.lkT (j + 1))), (w2t.heap.size, .rp B2 n2 d2 C2 m2 f2 (Op.lkR j))]) := VT.push2 HV2a.out (g := w2a.heap.size) (g' := w2t.heap.size) (v := .th A2 k2 (Op.lkT (j + 1))) (v' := .rp B2 n2 d2 C2 m2 f2 (Op.lkR j)) (Nat.le_refl _) (by omega) (by omega) (Bw.keep hbu2 hkv2 (by omega)) hbv2 hbe2 tm2 rm2
      clear HV2a hbe2 hbt2 hst2 hwt2 hbr2 hsr2 hwr2 hbt22 hbu2 hsu2 hku2 hbr22 hbv2 hsv2 hkv2 tm2 rm2 HV HVc2
      generalize w2t.heap.size = g2r at *
      generalize w2a.heap.size = g2t at *
      clear hbs2 hbb2 HNB
      have HLK := Lib.hid (Op.lk_ok j (by omega))
      have s2 := HV2.out.cell 3 rfl 2 _ rfl
      have s3 := HV2.out.cell 3 rfl 3 _ rfl
      have s4 := HV2.out.cell 3 rfl 4 _ rfl
      have s7 := HV2.out.cell 3 rfl 7 _ rfl
      rw [HLK.out.1] at s2
      rw [HLK.out.2.1] at s3
      rw [HLK.out.2.2.1] at s4
      rw [HLK.out.2.2.2] at s7
      clear r3 r4
      have r3 := HV2.out.cell 1 rfl 3 _ rfl
      have r4 := HV2.out.cell 1 rfl 4 _ rfl
      rw [show Op.lkR0.ati = 1 from Op.lk_r.2.1] at r3
      rw [show Op.lkR0.atg = 1 from Op.lk_r.2.2] at r4
      clear HLK
      go_wp2_with (first
        | (refine wpList_load_part rfl 27 (.tmp 10) rfl g2t 0 rfl _ Tryz.underlying27 rfl (tc (Op.lkT (j + 1)) (.slice A2 24 k2)) 27 _ (HV2.out.bw 2 rfl) size_Th (fun j u hu => by rw [Nat.zero_add]; exact hu) ?_)
        | (refine wpList_store_part rfl 27 (.tmp 7) (.tmp 72) rfl g1t 0 (tc (Op.lkT (j + 1)) (.slice A2 24 k2)) rfl rfl 27 _ (HV2.out.bw 0 rfl) size_Th (by simp [tc, Vr.cells]) (tc_row _ _ _ _) ?_
           intro w3u hbu3 hsu3 hku3
           have HV3 : Hid (VT w w3u [(g1t, .th A2 k2 (Op.lkT (j + 1))), (g1r, .rp B1 n1 d1 C1 m1 f1 Op.lkR0), (g2t, .th A2 k2 (Op.lkT (j + 1))), (g2r, .rp B2 n2 d2 C2 m2 f2 (Op.lkR j))]) := HV2.out.put 0 (u := .th A2 k2 (Op.lkT (j + 1))) rfl hbu3 hku3 (show TM _ _ _ _ from HV2.out.ok 2 rfl)
           clear hbu3 hsu3 hku3))
      clear HV2
      have HV4 : Hid (VT w _ [(g1t, .th A2 k2 (Op.lkT (j + 1))), (g1r, .rp B1 n1 d1 C1 m1 f1 Op.lkR0)]) := VT.left (us := [(g2t, .th A2 k2 (Op.lkT (j + 1))), (g2r, .rp B2 n2 d2 C2 m2 f2 (Op.lkR j))]) HV3.out
      clear HV3
      clear s2 s3 s4 s7 r3 r4
      go_wp2_with fail
      go_roundw
      case rel => exact ⟨j + 1, A2, k2, by omega, by go_num, HV4⟩
      case measure => simp [intOf]; omega
    · obtain rfl : n = j := by omega
      have HN8 := Lib.hid hn8
      clear hlt hj
      go_wp2_with fail
      first | rw [HMI.out] | skip
      go_loopw [13] (fun i wr => ∃ (j : Nat) (A : Option Addr) (k : Nat), j ≤ m ∧ i = .int .i64 j ∧ Hid (VT w wr [(g1t, .th A k (Op.rmT n j)), (g1r, .rp B1 n1 d1 C1 m1 f1 Op.lkR0)])) (fun i _ => m - (intOf i).toNat)
      case atStart => exact ⟨0, A, k, by omega, rfl, HV⟩
      case round =>
        clear HV
        obtain ⟨j, A, k, hj, rfl, HV⟩ := hrel
        obtain ⟨wi, rfl⟩ : ∃ wi, wi = wr := ⟨wr, rfl⟩
        by_cases hlt : j < m
        · have HSj : Hid (Op.Sound (Op.rmT n j)) := Op.rm_sound n j
          have hj9 : j < 9 := by have := HM.out; have := HN8.out; omega
          have HLK := Lib.hid (Op.rm_ok n HN8.out j (by have := HM.out; omega))
          by_cases h0 : j = 0
          · skip
            subst h0
            go_upto_region 20 with fail
            go_wp2_with (refine wpList_load_part rfl 27 (.tmp 7) rfl g1t 0 rfl _ Tryz.underlying27 rfl (tc (Op.rmT n 0) (.slice A 24 k)) 27 _ (HV.out.bw 0 rfl) size_Th (fun j u hu => by rw [Nat.zero_add]; exact hu) ?_)
            refine (HPK.out.run (Op.rmT n 0) A k (Op.rmC 0) none 0 0 _ (show TM _ A k (Op.rmT n 0) from HV.out.ok 0 rfl) HSj.out (Op.rmC_wide 0) (Op.rmN_len 0) (Nat.le_of_ble_eq_true rfl) (Nat.le_of_ble_eq_true rfl) BS.nil (Nat.le_refl _)).mono ?_
            rintro e w3a ⟨A3, k3, B3, n3, d3, C3, m3, f3, rfl, tm3, rm3, hb3⟩
            have e3 := Op.do_step (c := (Op.rmC 0)) HSj.out.inv.may (Nat.le_of_ble_eq_true rfl) (Nat.le_of_ble_eq_true rfl) (Nat.ne_of_beq_eq_false rfl)
            have HS3 : Hid (Op.Sound (Op.rmT n 1)) := by show Op.Sound _; rw [show (Op.rmT n 1) = Op.doT (Op.rmT n 0) (Op.rmC 0) from e3.1.symm]; exact HSj.out.doT (Op.rmC_wide 0)
            rw [show Op.doT (Op.rmT n 0) (Op.rmC 0) = (Op.rmT n 1) from e3.1] at tm3 ⊢
            rw [show Op.doR (Op.rmT n 0) (Op.rmC 0) = (Op.rmR n 0) from e3.2] at rm3 ⊢
            have HV3a := Lib.hid (HV.out.below hb3)
            clear e3 hb3
            go_upto_region 21 with (first
              | (refine wpList_alloc_any rfl 27 rfl _ zero_Th ?_
                 intro w3t hbt3 hst3 hwt3)
              | (refine wpList_alloc_any rfl 49 rfl _ zero_Rp ?_
                 intro w3r hbr3 hsr3 hwr3
                 have hbt23 : Bw w3r w3a.heap.size (tc Op.zeroT (.slice none 0 0)) 27 := Bw.below hbt3 hwr3)
              | (refine wpList_store_part rfl 27 (.tmp 15) (.tmp 97) rfl w3a.heap.size 0 (tc (Op.rmT n 1) (.slice A3 24 k3)) rfl rfl 27 _ hbt23 size_Th (by simp [tc]) (tc_row _ _ _ _) ?_
                 intro w3u hbu3 hsu3 hku3
                 have hbr23 : Bw w3u w3t.heap.size (rc Rp.zero (.slice none 0 0) (.slice none 0 0)) 49 := Bw.keep hbr3 hku3 (by omega))
              | (refine wpList_store_part rfl 49 (.tmp 16) (.tmp 98) rfl w3t.heap.size 0 (rc (Op.rmR n 0) (.slice B3 n3 d3) (.slice C3 m3 f3)) rfl rfl 49 _ hbr23 size_Rp (by simp [rc]) (rc_row _ _ _ _ _ _ _) ?_
                 intro w3v hbv3 hsv3 hkv3))
            have hbe3 : Below w3a.heap.size w3a w3v := ((hwt3.trans (hwr3.mono (by omega))).trans (hku3.below2 (fun k hk => by omega))).trans (hkv3.below2 (fun k hk => by omega))
            have HV3 : Hid (VT w w3v [(g1t, .th A k (Op.rmT n 0)), (g1r, .rp B1 n1 d1 C1 m1 f1 Op.lkR0), (w3a.heap.size, .th A3 k3 (Op.rmT n 1)), (w3t.heap.size, .rp B3 n3 d3 C3 m3 f3 (Op.rmR n 0))]) := VT.push2 HV3a.out (g := w3a.heap.size) (g' := w3t.heap.size) (v := .th A3 k3 (Op.rmT n 1)) (v' := .rp B3 n3 d3 C3 m3 f3 (Op.rmR n 0)) (Nat.le_refl _) (by omega) (by omega) (Bw.keep hbu3 hkv3 (by omega)) hbv3 hbe3 tm3 rm3
            clear HV3a hbe3 hbt3 hst3 hwt3 hbr3 hsr3 hwr3 hbt23 hbu3 hsu3 hku3 hbr23 hbv3 hsv3 hkv3 tm3 rm3 HV
            generalize w3t.heap.size = g3r at *
            generalize w3a.heap.size = g3t at *
            have s2 := HV3.out.cell 3 rfl 2 _ rfl
            have s3 := HV3.out.cell 3 rfl 3 _ rfl
            have s4 := HV3.out.cell 3 rfl 4 _ rfl
            rw [HLK.out.1] at s2
            rw [HLK.out.2.1] at s3
            rw [HLK.out.2.2] at s4
            go_wp2_with (first
              | (refine wpList_load_part rfl 27 (.tmp 15) rfl g3t 0 rfl _ Tryz.underlying27 rfl (tc (Op.rmT n 1) (.slice A3 24 k3)) 27 _ (HV3.out.bw 2 rfl) size_Th (fun j u hu => by rw [Nat.zero_add]; exact hu) ?_)
              | (refine wpList_store_part rfl 27 (.tmp 7) (.tmp 114) rfl g1t 0 (tc (Op.rmT n 1) (.slice A3 24 k3)) rfl rfl 27 _ (HV3.out.bw 0 rfl) size_Th (by simp [tc, Vr.cells]) (tc_row _ _ _ _) ?_
                 intro w4u hbu4 hsu4 hku4
                 have HV4 : Hid (VT w w4u [(g1t, .th A3 k3 (Op.rmT n 1)), (g1r, .rp B1 n1 d1 C1 m1 f1 Op.lkR0), (g3t, .th A3 k3 (Op.rmT n 1)), (g3r, .rp B3 n3 d3 C3 m3 f3 (Op.rmR n 0))]) := HV3.out.put 0 (u := .th A3 k3 (Op.rmT n 1)) rfl hbu4 hku4 (show TM _ _ _ _ from HV3.out.ok 2 rfl)
                 clear hbu4 hsu4 hku4))
            clear HV3
            have HV5 : Hid (VT w _ [(g1t, .th A3 k3 (Op.rmT n 1)), (g1r, .rp B1 n1 d1 C1 m1 f1 Op.lkR0)]) := VT.left (us := [(g3t, .th A3 k3 (Op.rmT n 1)), (g3r, .rp B3 n3 d3 C3 m3 f3 (Op.rmR n 0))]) HV4.out
            clear HV4
            clear s2 s3 s4
            go_wp2_with fail
            go_roundw
            case rel => exact ⟨1, A3, k3, by omega, by go_num, HV5⟩
            case measure => simp [intOf]; omega
          · skip
            obtain ⟨q, hq⟩ : ∃ q, q + 1 = j := ⟨j - 1, by omega⟩
            have HNB : Hid (97 + ((j : Int) - 1) = ((nb q).toNat : Int)) := by show _ = _; rw [nb_int (by omega)]; omega
            have HRN : Hid (txt (Op.rmN j) = txt [108, nb q]) := by show _ = _; rw [← hq]; unfold Op.rmN nb; rw [if_neg (by omega), show 96 + (q + 1) = 97 + q by omega]
            have hd : decide ((0 : Int) < (j : Int)) = true := by simp; omega
            have HQ := Lib.hid hq
            clear hq
            go_upto_region 20 with (first
              | (refine wpList_byte2 rfl (.const (.int .u8 108)) (.tmp 88) rfl 108 (nb q) e108 (congrArg (Value.int .u8) HNB.out) ?_; intro wb hbs hbb)
              | (refine wpList_conv_bs rfl (.tmp 89) rfl _ 2 2 [108, nb q] rfl hbs ?_))
            have HVb := Lib.hid (HV.out.below hbb)
            clear HV hbs hbb HNB HQ hd h0
            go_wp2_with (refine wpList_load_part rfl 27 (.tmp 7) rfl g1t 0 rfl _ Tryz.underlying27 rfl (tc (Op.rmT n j) (.slice A 24 k)) 27 _ (HVb.out.bw 0 rfl) size_Th (fun j u hu => by rw [Nat.zero_add]; exact hu) ?_)
            rw [← HRN.out]
            refine (HPK.out.run (Op.rmT n j) A k (Op.rmC j) none 0 0 _ (show TM _ A k (Op.rmT n j) from HVb.out.ok 0 rfl) HSj.out (Op.rmC_wide j) (Op.rmN_len j) (Nat.le_of_ble_eq_true rfl) (Nat.le_of_ble_eq_true rfl) BS.nil (Nat.le_refl _)).mono ?_
            rintro e w3a ⟨A3, k3, B3, n3, d3, C3, m3, f3, rfl, tm3, rm3, hb3⟩
            have e3 := Op.do_step (c := (Op.rmC j)) HSj.out.inv.may (Nat.le_of_ble_eq_true rfl) (Nat.le_of_ble_eq_true rfl) (Nat.ne_of_beq_eq_false rfl)
            have HS3 : Hid (Op.Sound (Op.rmT n (j + 1))) := by show Op.Sound _; rw [show (Op.rmT n (j + 1)) = Op.doT (Op.rmT n j) (Op.rmC j) from e3.1.symm]; exact HSj.out.doT (Op.rmC_wide j)
            rw [show Op.doT (Op.rmT n j) (Op.rmC j) = (Op.rmT n (j + 1)) from e3.1] at tm3 ⊢
            rw [show Op.doR (Op.rmT n j) (Op.rmC j) = (Op.rmR n j) from e3.2] at rm3 ⊢
            have HV3a := Lib.hid (HVb.out.below hb3)
            clear e3 hb3
            go_upto_region 21 with (first
              | (refine wpList_alloc_any rfl 27 rfl _ zero_Th ?_
                 intro w3t hbt3 hst3 hwt3)
              | (refine wpList_alloc_any rfl 49 rfl _ zero_Rp ?_
                 intro w3r hbr3 hsr3 hwr3
                 have hbt23 : Bw w3r w3a.heap.size (tc Op.zeroT (.slice none 0 0)) 27 := Bw.below hbt3 hwr3)
              | (refine wpList_store_part rfl 27 (.tmp 15) (.tmp 97) rfl w3a.heap.size 0 (tc (Op.rmT n (j + 1)) (.slice A3 24 k3)) rfl rfl 27 _ hbt23 size_Th (by simp [tc]) (tc_row _ _ _ _) ?_
                 intro w3u hbu3 hsu3 hku3
                 have hbr23 : Bw w3u w3t.heap.size (rc Rp.zero (.slice none 0 0) (.slice none 0 0)) 49 := Bw.keep hbr3 hku3 (by omega))
              | (refine wpList_store_part rfl 49 (.tmp 16) (.tmp 98) rfl w3t.heap.size 0 (rc (Op.rmR n j) (.slice B3 n3 d3) (.slice C3 m3 f3)) rfl rfl 49 _ hbr23 size_Rp (by simp [rc]) (rc_row _ _ _ _ _ _ _) ?_
                 intro w3v hbv3 hsv3 hkv3))
            have hbe3 : Below w3a.heap.size w3a w3v := ((hwt3.trans (hwr3.mono (by omega))).trans (hku3.below2 (fun k hk => by omega))).trans (hkv3.below2 (fun k hk => by omega))
            have HV3 : Hid (VT w w3v [(g1t, .th A k (Op.rmT n j)), (g1r, .rp B1 n1 d1 C1 m1 f1 Op.lkR0), (w3a.heap.size, .th A3 k3 (Op.rmT n (j + 1))), (w3t.heap.size, .rp B3 n3 d3 C3 m3 f3 (Op.rmR n j))]) := VT.push2 HV3a.out (g := w3a.heap.size) (g' := w3t.heap.size) (v := .th A3 k3 (Op.rmT n (j + 1))) (v' := .rp B3 n3 d3 C3 m3 f3 (Op.rmR n j)) (Nat.le_refl _) (by omega) (by omega) (Bw.keep hbu3 hkv3 (by omega)) hbv3 hbe3 tm3 rm3
            clear HV3a hbe3 hbt3 hst3 hwt3 hbr3 hsr3 hwr3 hbt23 hbu3 hsu3 hku3 hbr23 hbv3 hsv3 hkv3 tm3 rm3 HVb
            generalize w3t.heap.size = g3r at *
            generalize w3a.heap.size = g3t at *
            have s2 := HV3.out.cell 3 rfl 2 _ rfl
            have s3 := HV3.out.cell 3 rfl 3 _ rfl
            have s4 := HV3.out.cell 3 rfl 4 _ rfl
            rw [HLK.out.1] at s2
            rw [HLK.out.2.1] at s3
            rw [HLK.out.2.2] at s4
            go_wp2_with (first
              | (refine wpList_load_part rfl 27 (.tmp 15) rfl g3t 0 rfl _ Tryz.underlying27 rfl (tc (Op.rmT n (j + 1)) (.slice A3 24 k3)) 27 _ (HV3.out.bw 2 rfl) size_Th (fun j u hu => by rw [Nat.zero_add]; exact hu) ?_)
              | (refine wpList_store_part rfl 27 (.tmp 7) (.tmp 114) rfl g1t 0 (tc (Op.rmT n (j + 1)) (.slice A3 24 k3)) rfl rfl 27 _ (HV3.out.bw 0 rfl) size_Th (by simp [tc, Vr.cells]) (tc_row _ _ _ _) ?_
                 intro w4u hbu4 hsu4 hku4
                 have HV4 : Hid (VT w w4u [(g1t, .th A3 k3 (Op.rmT n (j + 1))), (g1r, .rp B1 n1 d1 C1 m1 f1 Op.lkR0), (g3t, .th A3 k3 (Op.rmT n (j + 1))), (g3r, .rp B3 n3 d3 C3 m3 f3 (Op.rmR n j))]) := HV3.out.put 0 (u := .th A3 k3 (Op.rmT n (j + 1))) rfl hbu4 hku4 (show TM _ _ _ _ from HV3.out.ok 2 rfl)
                 clear hbu4 hsu4 hku4))
            clear HV3
            have HV5 : Hid (VT w _ [(g1t, .th A3 k3 (Op.rmT n (j + 1))), (g1r, .rp B1 n1 d1 C1 m1 f1 Op.lkR0)]) := VT.left (us := [(g3t, .th A3 k3 (Op.rmT n (j + 1))), (g3r, .rp B3 n3 d3 C3 m3 f3 (Op.rmR n j))]) HV4.out
            clear HV4
            clear s2 s3 s4
            go_wp2_with fail
            go_roundw
            case rel => exact ⟨j + 1, A3, k3, by omega, by go_num, HV5⟩
            case measure => simp [intOf]; omega
        · obtain rfl : m = j := by omega
          have HSj : Hid (Op.Sound (Op.rmT n m)) := Op.rm_sound n m
          clear hlt hj
          have r3 := HV.out.cell 1 rfl 3 _ rfl
          have r4 := HV.out.cell 1 rfl 4 _ rfl
          rw [show Op.lkR0.ati = 1 from Op.lk_r.2.1] at r3
          rw [show Op.lkR0.atg = 1 from Op.lk_r.2.2] at r4
          go_wp2_with (refine wpList_load_part rfl 27 (.tmp 7) rfl g1t 0 rfl _ Tryz.underlying27 rfl (tc (Op.rmT n m) (.slice A 24 k)) 27 _ (HV.out.bw 0 rfl) size_Th (fun j u hu => by rw [Nat.zero_add]; exact hu) ?_)
          refine (HPK.out.run (Op.rmT n m) A k (Op.cl 2 1 1 []) none 0 0 _ (show TM _ A k (Op.rmT n m) from HV.out.ok 0 rfl) HSj.out (Op.cl_wide (by decide) (by decide) (by decide)) (Nat.le_of_ble_eq_true rfl) (Nat.le_of_ble_eq_true rfl) (Nat.le_of_ble_eq_true rfl) BS.nil (Nat.le_refl _)).mono ?_
          rintro e w4a ⟨A4, k4, B4, n4, d4, C4, m4, f4, rfl, tm4, rm4, hb4⟩
          have e4 := Op.do_step (c := (Op.cl 2 1 1 [])) HSj.out.inv.may (Nat.le_of_ble_eq_true rfl) (Nat.le_of_ble_eq_true rfl) (Nat.ne_of_beq_eq_false rfl)
          have HS4 : Hid (Op.Sound (Op.step (Op.rmT n m) (Op.cl 2 1 1 [])).1) := by show Op.Sound _; rw [show (Op.step (Op.rmT n m) (Op.cl 2 1 1 [])).1 = Op.doT (Op.rmT n m) (Op.cl 2 1 1 []) from e4.1.symm]; exact HSj.out.doT (Op.cl_wide (by decide) (by decide) (by decide))
          rw [show Op.doT (Op.rmT n m) (Op.cl 2 1 1 []) = (Op.step (Op.rmT n m) (Op.cl 2 1 1 [])).1 from e4.1] at tm4 ⊢
          rw [show Op.doR (Op.rmT n m) (Op.cl 2 1 1 []) = (Op.rmG n m) from e4.2] at rm4 ⊢
          have HV4a := Lib.hid (HV.out.below hb4)
          clear e4 hb4
          go_upto_region 25 with (first
            | (refine wpList_alloc_any rfl 27 rfl _ zero_Th ?_
               intro w4t hbt4 hst4 hwt4)
            | (refine wpList_alloc_any rfl 49 rfl _ zero_Rp ?_
               intro w4r hbr4 hsr4 hwr4
               have hbt24 : Bw w4r w4a.heap.size (tc Op.zeroT (.slice none 0 0)) 27 := Bw.below hbt4 hwr4)
            | (refine wpList_store_part rfl 27 (.tmp 17) (.tmp 121) rfl w4a.heap.size 0 (tc (Op.step (Op.rmT n m) (Op.cl 2 1 1 [])).1 (.slice A4 24 k4)) rfl rfl 27 _ hbt24 size_Th (by simp [tc]) (tc_row _ _ _ _) ?_
               intro w4u hbu4 hsu4 hku4
               have hbr24 : Bw w4u w4t.heap.size (rc Rp.zero (.slice none 0 0) (.slice none 0 0)) 49 := Bw.keep hbr4 hku4 (by omega))
            | (refine wpList_store_part rfl 49 (.tmp 18) (.tmp 122) rfl w4t.heap.size 0 (rc (Op.rmG n m) (.slice B4 n4 d4) (.slice C4 m4 f4)) rfl rfl 49 _ hbr24 size_Rp (by simp [rc]) (rc_row _ _ _ _ _ _ _) ?_
               intro w4v hbv4 hsv4 hkv4))
          have hbe4 : Below w4a.heap.size w4a w4v := ((hwt4.trans (hwr4.mono (by omega))).trans (hku4.below2 (fun k hk => by omega))).trans (hkv4.below2 (fun k hk => by omega))
          have HV4 : Hid (VT w w4v [(g1t, .th A k (Op.rmT n m)), (g1r, .rp B1 n1 d1 C1 m1 f1 Op.lkR0), (w4t.heap.size, .rp B4 n4 d4 C4 m4 f4 (Op.rmG n m))]) := HV4a.out.push (g := w4t.heap.size) (v := .rp B4 n4 d4 C4 m4 f4 (Op.rmG n m)) (by omega) hbv4 hbe4 rm4 
          clear HV4a hbe4 hbt4 hst4 hwt4 hbr4 hsr4 hwr4 hbt24 hbu4 hsu4 hku4 hbr24 hbv4 hsv4 hkv4 tm4 rm4 HV
          generalize w4t.heap.size = g4r at *
          generalize w4a.heap.size = g4t at *
          clear r3 r4
          go_wp2_with (refine wpList_load_part rfl 27 (.tmp 7) rfl g1t 0 rfl _ Tryz.underlying27 rfl (tc (Op.rmT n m) (.slice A 24 k)) 27 _ (HV4.out.bw 0 rfl) size_Th (fun j u hu => by rw [Nat.zero_add]; exact hu) ?_)
          refine (HPK.out.run (Op.rmT n m) A k Op.lkD none 0 0 _ (show TM _ A k (Op.rmT n m) from HV4.out.ok 0 rfl) HSj.out Op.lkD_wide (Nat.le_of_ble_eq_true rfl) (Nat.le_of_ble_eq_true rfl) (Nat.le_of_ble_eq_true rfl) BS.nil (Nat.le_refl _)).mono ?_
          rintro e w5a ⟨A5, k5, B5, n5, d5, C5, m5, f5, rfl, tm5, rm5, hb5⟩
          have e5 := Op.do_step (c := Op.lkD) HSj.out.inv.may (Nat.le_of_ble_eq_true rfl) (Nat.le_of_ble_eq_true rfl) (Nat.ne_of_beq_eq_false rfl)
          have HS5 : Hid (Op.Sound (Op.step (Op.rmT n m) Op.lkD).1) := by show Op.Sound _; rw [show (Op.step (Op.rmT n m) Op.lkD).1 = Op.doT (Op.rmT n m) Op.lkD from e5.1.symm]; exact HSj.out.doT Op.lkD_wide
          rw [show Op.doT (Op.rmT n m) Op.lkD = (Op.step (Op.rmT n m) Op.lkD).1 from e5.1] at tm5 ⊢
          rw [show Op.doR (Op.rmT n m) Op.lkD = (Op.step (Op.rmT n m) Op.lkD).2 from e5.2] at rm5 ⊢
          have HV5a := Lib.hid (HV4.out.below hb5)
          clear e5 hb5
          go_upto_region 26 with (first
            | (refine wpList_alloc_any rfl 27 rfl _ zero_Th ?_
               intro w5t hbt5 hst5 hwt5)
            | (refine wpList_alloc_any rfl 49 rfl _ zero_Rp ?_
               intro w5r hbr5 hsr5 hwr5
               have hbt25 : Bw w5r w5a.heap.size (tc Op.zeroT (.slice none 0 0)) 27 := Bw.below hbt5 hwr5)
            | (refine wpList_store_part rfl 27 (.tmp 19) (.tmp 129) rfl w5a.heap.size 0 (tc (Op.step (Op.rmT n m) Op.lkD).1 (.slice A5 24 k5)) rfl rfl 27 _ hbt25 size_Th (by simp [tc]) (tc_row _ _ _ _) ?_
               intro w5u hbu5 hsu5 hku5
               have hbr25 : Bw w5u w5t.heap.size (rc Rp.zero (.slice none 0 0) (.slice none 0 0)) 49 := Bw.keep hbr5 hku5 (by omega))
            | (refine wpList_store_part rfl 49 (.tmp 20) (.tmp 130) rfl w5t.heap.size 0 (rc (Op.step (Op.rmT n m) Op.lkD).2 (.slice B5 n5 d5) (.slice C5 m5 f5)) rfl rfl 49 _ hbr25 size_Rp (by simp [rc]) (rc_row _ _ _ _ _ _ _) ?_
               intro w5v hbv5 hsv5 hkv5))
          have hbe5 : Below w5a.heap.size w5a w5v := ((hwt5.trans (hwr5.mono (by omega))).trans (hku5.below2 (fun k hk => by omega))).trans (hkv5.below2 (fun k hk => by omega))
          have HV5 : Hid (VT w w5v [(g1t, .th A k (Op.rmT n m)), (g1r, .rp B1 n1 d1 C1 m1 f1 Op.lkR0), (g4r, .rp B4 n4 d4 C4 m4 f4 (Op.rmG n m)), (w5t.heap.size, .rp B5 n5 d5 C5 m5 f5 (Op.step (Op.rmT n m) Op.lkD).2)]) := HV5a.out.push (g := w5t.heap.size) (v := .rp B5 n5 d5 C5 m5 f5 (Op.step (Op.rmT n m) Op.lkD).2) (by omega) hbv5 hbe5 rm5 
          clear HV5a hbe5 hbt5 hst5 hwt5 hbr5 hsr5 hwr5 hbt25 hbu5 hsu5 hku5 hbr25 hbv5 hsv5 hkv5 tm5 rm5 HV4
          generalize w5t.heap.size = g5r at *
          generalize w5a.heap.size = g5t at *
          have d2 := HV5.out.cell 3 rfl 2 _ rfl
          rw [Op.lk_d n HN8.out m HM.out] at d2
          have HTM : Hid (TM w5v A k (Op.rmT n m)) := HV5.out.ok 0 rfl
          have HG := Lib.hid (Op.rm_get n HN8.out m HM.out)
          have c0 := HV5.out.cell 0 rfl 0 _ rfl
          have c1 := HV5.out.cell 0 rfl 1 _ rfl
          have c2 := HV5.out.cell 0 rfl 2 _ rfl
          go_wp2_with fail
          refine (sound_any HTM.out HSj.out).mono ?_
          rintro e w6 ⟨rfl, hb6⟩
          have HV6 := Lib.hid (HV5.out.below hb6)
          clear hb6 HV5 d2 HTM HS4 HS5 HSj c0 c1 c2
          have HBF : Hid (Below w.heap.size w w6) := HV6.out.bel
          have g2 := HV6.out.cell 2 rfl 2 _ rfl
          have g7 := HV6.out.cell 2 rfl 7 _ rfl
          clear HV6
          by_cases hm : m = n + 1
          · have h1 := HG.out
            rw [if_pos hm] at h1
            rw [h1] at g2
            have hd : ((m : Int) == (n : Int) + 1) = true := by simp; omega
            clear h1 HG
            go_wp2_with fail
            go_ret
            exact ⟨rfl, HBF.out⟩
          · have h1 := HG.out
            rw [if_neg hm] at h1
            rw [h1.1] at g2
            rw [h1.2] at g7
            have hd : ((m : Int) == (n : Int) + 1) = false := by simp; omega
            have hmn : m ≤ n := by have := HM.out; omega
            have hn8 := HN8.out
            rw [show ((n + 1 - m : Nat) : Int) = (n : Int) + 1 - (m : Int) by omega] at g7
            clear h1 HG hm
            go_wp2_with fail
            go_ret
            exact ⟨rfl, HBF.out⟩
end Go.Proofs.YtndnkfnhgakibaaGreat
