/-
  The law OpsKinds (layer 13).
-/
import Derived.Test.YtndnkfnhgakibaaGreatOAwake
import Derived.Test.YtndnkfnhgakibaaGreatOKinds
namespace Go.Proofs.YtndnkfnhgakibaaGreat
open Go.RowKit Go.Shelf
attribute [local go_sem] Oper.semAt_some

set_option maxRecDepth 100000 in
set_option maxHeartbeats 8000000 in
theorem kinds_walk (HP : Pk) (A : Option Addr) (n c : Nat) (l : List UInt8) (w : World) (hd : BS w A n l) (hnc : n ≤ c) :
    Calls Tryz.prog 12 #[.slice A n c] w fun e w' => e = .returned (.bool true) ∧ Below w.heap.size w w' := by
  have HPK := Lib.hid HP
  clear HP
  have hnl : l.length = n := hd.1
  have HD := Lib.hid hd
  clear hd
  go_enter Tryz.func12, Tryz.ntmps12
  go_wp2_with fail
  refine (awakeO_any HPK.out w).mono ?_
  rintro e w0 ⟨rfl, hb0⟩
  have HB0 := Lib.hid hb0
  clear hb0
  by_cases h0 : n = 0
  · have k1 : ((n : Int) == 0) = true := by simp; omega
    go_wp2_with fail
    go_ret
    exact ⟨rfl, HB0.out⟩
  by_cases h7 : 700 < n
  · have k1 : ((n : Int) == 0) = false := by simp; omega
    have k2 : decide ((700 : Int) < (n : Int)) = true := by simp; omega
    go_wp2_with fail
    go_ret
    exact ⟨rfl, HB0.out⟩
  have k1 : ((n : Int) == 0) = false := by simp; omega
  have k2 : decide ((700 : Int) < (n : Int)) = false := by simp; omega
  have hl0 : l ≠ [] := fun h => h0 (by rw [← hnl, h]; rfl)
  have hl7 : l.length ≤ 700 := by omega
  have h1100 : l.length ≤ 1100 := by omega
  go_wp2_with fail
  clear k1 k2 h0 h7
  refine (HPK.out.format 40 w0 (by omega)).mono ?_
  rintro e w1 ⟨A0, k0, rfl, tm0, hb1⟩
  have HT0 := Lib.hid tm0
  have HV0 : Hid (VT w w1 []) := VT.nil (HB0.out.trans (hb1.mono HB0.out.size))
  have HS0 : Hid (Op.Sound (Op.format 40)) := Op.Sound.format
  clear tm0 hb1 HB0
  go_wp2_with fail
  refine (HPK.out.run (Op.format 40) A0 k0 (Op.cl 6 0 1 [102]) none 0 0 _ HT0.out HS0.out (Op.cl_wide (by decide) (by decide) (by decide)) (Nat.le_of_ble_eq_true rfl) (Nat.le_of_ble_eq_true rfl) (Nat.le_of_ble_eq_true rfl) BS.nil (Nat.le_refl _)).mono ?_
  rintro e w1a ⟨A1, k1, B1, n1, d1, C1, m1, f1, rfl, tm1, rm1, hb1⟩
  have e1 := Op.do_step (c := (Op.cl 6 0 1 [102])) HS0.out.inv.may (Nat.le_of_ble_eq_true rfl) (Nat.le_of_ble_eq_true rfl) (Nat.ne_of_beq_eq_false rfl)
  have HS1 : Hid (Op.Sound Op.kdT1) := by show Op.Sound _; rw [show Op.kdT1 = Op.doT (Op.format 40) (Op.cl 6 0 1 [102]) from e1.1.symm]; exact HS0.out.doT (Op.cl_wide (by decide) (by decide) (by decide))
  rw [show Op.doT (Op.format 40) (Op.cl 6 0 1 [102]) = Op.kdT1 from e1.1] at tm1 ⊢
  rw [show Op.doR (Op.format 40) (Op.cl 6 0 1 [102]) = Op.kdR1 from e1.2] at rm1 ⊢
  have HV1a := Lib.hid (HV0.out.below hb1)
  clear e1 hb1
  go_upto_region 7 with (first
    | (refine wpList_alloc_any rfl 27 rfl _ zero_Th ?_
       intro w1t hbt1 hst1 hwt1)
    | (refine wpList_alloc_any rfl 49 rfl _ zero_Rp ?_
       intro w1r hbr1 hsr1 hwr1
       have hbt21 : Bw w1r w1a.heap.size (tc Op.zeroT (.slice none 0 0)) 27 := Bw.below hbt1 hwr1)
    | (refine wpList_store_part rfl 27 (.tmp 4) (.tmp 45) rfl w1a.heap.size 0 (tc Op.kdT1 (.slice A1 24 k1)) rfl rfl 27 _ hbt21 size_Th (by simp [tc]) (tc_row _ _ _ _) ?_
       intro w1u hbu1 hsu1 hku1
       have hbr21 : Bw w1u w1t.heap.size (rc Rp.zero (.slice none 0 0) (.slice none 0 0)) 49 := Bw.keep hbr1 hku1 (by omega))
    | (refine wpList_store_part rfl 49 (.tmp 5) (.tmp 46) rfl w1t.heap.size 0 (rc Op.kdR1 (.slice B1 n1 d1) (.slice C1 m1 f1)) rfl rfl 49 _ hbr21 size_Rp (by simp [rc]) (rc_row _ _ _ _ _ _ _) ?_
       intro w1v hbv1 hsv1 hkv1))
  have hbe1 : Below w1a.heap.size w1a w1v := ((hwt1.trans (hwr1.mono (by omega))).trans (hku1.below2 (fun k hk => by omega))).trans (hkv1.below2 (fun k hk => by omega))
  have HV1 : Hid (VT w w1v [(w1a.heap.size, .th A1 k1 Op.kdT1), (w1t.heap.size, .rp B1 n1 d1 C1 m1 f1 Op.kdR1)]) := VT.push2 HV1a.out (g := w1a.heap.size) (g' := w1t.heap.size) (v := .th A1 k1 Op.kdT1) (v' := .rp B1 n1 d1 C1 m1 f1 Op.kdR1) (Nat.le_refl _) (by omega) (by omega) (Bw.keep hbu1 hkv1 (by omega)) hbv1 hbe1 tm1 rm1
  clear HV1a hbe1 hbt1 hst1 hwt1 hbr1 hsr1 hwr1 hbt21 hbu1 hsu1 hku1 hbr21 hbv1 hsv1 hkv1 tm1 rm1 HV0
  generalize w1t.heap.size = g1r at *
  generalize w1a.heap.size = g1t at *
  go_wp2_with (refine wpList_load_part rfl 27 (.tmp 4) rfl g1t 0 rfl _ Tryz.underlying27 rfl (tc Op.kdT1 (.slice A1 24 k1)) 27 _ (HV1.out.bw 0 rfl) size_Th (fun j u hu => by rw [Nat.zero_add]; exact hu) ?_)
  refine (HPK.out.run Op.kdT1 A1 k1 (Op.kdC l) A n c _ (show TM _ A1 k1 Op.kdT1 from HV1.out.ok 0 rfl) HS1.out (Op.kdC_wide l) (Nat.le_of_ble_eq_true rfl) (Nat.le_of_ble_eq_true rfl) h1100 (HD.out.below HV1.out.bel) (hnc)).mono ?_
  rintro e w2a ⟨A2, k2, B2, n2, d2, C2, m2, f2, rfl, tm2, rm2, hb2⟩
  have e2 := Op.do_step (c := (Op.kdC l)) HS1.out.inv.may (Nat.le_of_ble_eq_true rfl) (Nat.le_of_ble_eq_true rfl) (Nat.ne_of_beq_eq_false rfl)
  rw [show Op.step Op.kdT1 (Op.kdC l) = ((Op.kdT l), (Op.kdR l)) from (Op.kd_step l hl0 hl7)] at e2
  have HS2 : Hid (Op.Sound (Op.kdT l)) := by show Op.Sound _; rw [show (Op.kdT l) = Op.doT Op.kdT1 (Op.kdC l) from e2.1.symm]; exact HS1.out.doT (Op.kdC_wide l)
  rw [show Op.doT Op.kdT1 (Op.kdC l) = (Op.kdT l) from e2.1] at tm2 ⊢
  rw [show Op.doR Op.kdT1 (Op.kdC l) = (Op.kdR l) from e2.2] at rm2 ⊢
  have HV2a := Lib.hid (HV1.out.below hb2)
  clear e2 hb2
  go_upto_region 8 with (first
    | (refine wpList_alloc_any rfl 49 rfl _ zero_Rp ?_
       intro w2r hbr2 hsr2 hwr2
       have HV2r : Hid (VT w w2r [(g1t, .th A1 k1 Op.kdT1), (g1r, .rp B1 n1 d1 C1 m1 f1 Op.kdR1), (w2a.heap.size, .rp none 0 0 none 0 0 Rp.zero)]) := HV2a.out.push (g := w2a.heap.size) (v := .rp none 0 0 none 0 0 Rp.zero) (Nat.le_refl _) hbr2 hwr2 (RM.zero _)
       have tmr2 := TM.below tm2 hwr2
       have rmr2 := RM.below rm2 hwr2
       clear hbr2 hsr2)
    | (refine wpList_store_part rfl 27 (.tmp 4) (.tmp 53) rfl g1t 0 (tc (Op.kdT l) (.slice A2 24 k2)) rfl rfl 27 _ (HV2r.out.bw 0 rfl) size_Th (by simp [tc, Vr.cells]) (tc_row _ _ _ _) ?_
       intro w2u hbu2 hsu2 hku2
       have HV2u : Hid (VT w w2u [(g1t, .th A2 k2 (Op.kdT l)), (g1r, .rp B1 n1 d1 C1 m1 f1 Op.kdR1), (w2a.heap.size, .rp none 0 0 none 0 0 Rp.zero)]) := HV2r.out.put 0 (u := .th A2 k2 (Op.kdT l)) rfl hbu2 hku2 tmr2
       have rmu2 : RM w2u B2 n2 d2 C2 m2 f2 (Op.kdR l) := Vr.ok.offV (v := .rp B2 n2 d2 C2 m2 f2 (Op.kdR l)) (HV2r.out.bw 0 rfl) rmr2 hku2
       clear hbu2 hsu2 hku2 rmr2 tmr2)
    | (refine wpList_store_part rfl 49 (.tmp 6) (.tmp 54) rfl w2a.heap.size 0 (rc (Op.kdR l) (.slice B2 n2 d2) (.slice C2 m2 f2)) rfl rfl 49 _ (HV2u.out.bw 2 rfl) size_Rp (by simp [rc, Vr.cells]) (rc_row _ _ _ _ _ _ _) ?_
       intro w2v hbv2 hsv2 hkv2
       have HV2 : Hid (VT w w2v [(g1t, .th A2 k2 (Op.kdT l)), (g1r, .rp B1 n1 d1 C1 m1 f1 Op.kdR1), (w2a.heap.size, .rp B2 n2 d2 C2 m2 f2 (Op.kdR l))]) := HV2u.out.put 2 (u := .rp B2 n2 d2 C2 m2 f2 (Op.kdR l)) rfl hbv2 hkv2 rmu2
       clear hbv2 hsv2 hkv2 rmu2))
  clear HV2a HV2r HV2u hwr2 tm2 rm2 HV1
  generalize w2a.heap.size = g2r at *
  have q323 := HV2.out.cell 2 rfl 3 _ rfl
  have q324 := HV2.out.cell 2 rfl 4 _ rfl
  go_wp2_with (refine wpList_load_part rfl 27 (.tmp 4) rfl g1t 0 rfl _ Tryz.underlying27 rfl (tc (Op.kdT l) (.slice A2 24 k2)) 27 _ (HV2.out.bw 0 rfl) size_Th (fun j u hu => by rw [Nat.zero_add]; exact hu) ?_)
  refine (HPK.out.run (Op.kdT l) A2 k2 (Op.kdA l) none 0 0 _ (show TM _ A2 k2 (Op.kdT l) from HV2.out.ok 0 rfl) HS2.out (Op.kdA_wide l) (Nat.le_of_ble_eq_true rfl) (Nat.le_of_ble_eq_true rfl) (Nat.le_of_ble_eq_true rfl) BS.nil (Nat.le_refl _)).mono ?_
  rintro e w3a ⟨A3, k3, B3, n3, d3, C3, m3, f3, rfl, tm3, rm3, hb3⟩
  have e3 := Op.do_step (c := (Op.kdA l)) HS2.out.inv.may (Nat.le_of_ble_eq_true rfl) (Nat.le_of_ble_eq_true rfl) (Nat.ne_of_beq_eq_false rfl)
  have HS3 : Hid (Op.Sound (Op.step (Op.kdT l) (Op.kdA l)).1) := by show Op.Sound _; rw [show (Op.step (Op.kdT l) (Op.kdA l)).1 = Op.doT (Op.kdT l) (Op.kdA l) from e3.1.symm]; exact HS2.out.doT (Op.kdA_wide l)
  rw [show Op.doT (Op.kdT l) (Op.kdA l) = (Op.step (Op.kdT l) (Op.kdA l)).1 from e3.1] at tm3 ⊢
  rw [show Op.doR (Op.kdT l) (Op.kdA l) = (Op.step (Op.kdT l) (Op.kdA l)).2 from e3.2] at rm3 ⊢
  have HV3a := Lib.hid (HV2.out.below hb3)
  clear e3 hb3 q323 q324
  go_upto_region 9 with (first
    | (refine wpList_alloc_any rfl 27 rfl _ zero_Th ?_
       intro w3t hbt3 hst3 hwt3)
    | (refine wpList_alloc_any rfl 49 rfl _ zero_Rp ?_
       intro w3r hbr3 hsr3 hwr3
       have hbt23 : Bw w3r w3a.heap.size (tc Op.zeroT (.slice none 0 0)) 27 := Bw.below hbt3 hwr3)
    | (refine wpList_store_part rfl 27 (.tmp 7) (.tmp 61) rfl w3a.heap.size 0 (tc (Op.step (Op.kdT l) (Op.kdA l)).1 (.slice A3 24 k3)) rfl rfl 27 _ hbt23 size_Th (by simp [tc]) (tc_row _ _ _ _) ?_
       intro w3u hbu3 hsu3 hku3
       have hbr23 : Bw w3u w3t.heap.size (rc Rp.zero (.slice none 0 0) (.slice none 0 0)) 49 := Bw.keep hbr3 hku3 (by omega))
    | (refine wpList_store_part rfl 49 (.tmp 8) (.tmp 62) rfl w3t.heap.size 0 (rc (Op.step (Op.kdT l) (Op.kdA l)).2 (.slice B3 n3 d3) (.slice C3 m3 f3)) rfl rfl 49 _ hbr23 size_Rp (by simp [rc]) (rc_row _ _ _ _ _ _ _) ?_
       intro w3v hbv3 hsv3 hkv3))
  have hbe3 : Below w3a.heap.size w3a w3v := ((hwt3.trans (hwr3.mono (by omega))).trans (hku3.below2 (fun k hk => by omega))).trans (hkv3.below2 (fun k hk => by omega))
  have HV3 : Hid (VT w w3v [(g1t, .th A2 k2 (Op.kdT l)), (g1r, .rp B1 n1 d1 C1 m1 f1 Op.kdR1), (g2r, .rp B2 n2 d2 C2 m2 f2 (Op.kdR l)), (w3t.heap.size, .rp B3 n3 d3 C3 m3 f3 (Op.step (Op.kdT l) (Op.kdA l)).2)]) := HV3a.out.push (g := w3t.heap.size) (v := .rp B3 n3 d3 C3 m3 f3 (Op.step (Op.kdT l) (Op.kdA l)).2) (by omega) hbv3 hbe3 rm3 
  clear HS3 HV3a hbe3 hbt3 hst3 hwt3 hbr3 hsr3 hwr3 hbt23 hbu3 hsu3 hku3 hbr23 hbv3 hsv3 hkv3 tm3 rm3 HV2
  generalize w3t.heap.size = g3r at *
  generalize w3a.heap.size = g3t at *
  have q413 := HV3.out.cell 1 rfl 3 _ rfl
  have q414 := HV3.out.cell 1 rfl 4 _ rfl
  go_wp2_with (refine wpList_load_part rfl 27 (.tmp 4) rfl g1t 0 rfl _ Tryz.underlying27 rfl (tc (Op.kdT l) (.slice A2 24 k2)) 27 _ (HV3.out.bw 0 rfl) size_Th (fun j u hu => by rw [Nat.zero_add]; exact hu) ?_)
  refine (HPK.out.run (Op.kdT l) A2 k2 Op.kdB none 0 0 _ (show TM _ A2 k2 (Op.kdT l) from HV3.out.ok 0 rfl) HS2.out Op.kdB_wide (Nat.le_of_ble_eq_true rfl) (Nat.le_of_ble_eq_true rfl) (Nat.le_of_ble_eq_true rfl) BS.nil (Nat.le_refl _)).mono ?_
  rintro e w4a ⟨A4, k4, B4, n4, d4, C4, m4, f4, rfl, tm4, rm4, hb4⟩
  have e4 := Op.do_step (c := Op.kdB) HS2.out.inv.may (Nat.le_of_ble_eq_true rfl) (Nat.le_of_ble_eq_true rfl) (Nat.ne_of_beq_eq_false rfl)
  have HS4 : Hid (Op.Sound (Op.step (Op.kdT l) Op.kdB).1) := by show Op.Sound _; rw [show (Op.step (Op.kdT l) Op.kdB).1 = Op.doT (Op.kdT l) Op.kdB from e4.1.symm]; exact HS2.out.doT Op.kdB_wide
  rw [show Op.doT (Op.kdT l) Op.kdB = (Op.step (Op.kdT l) Op.kdB).1 from e4.1] at tm4 ⊢
  rw [show Op.doR (Op.kdT l) Op.kdB = (Op.step (Op.kdT l) Op.kdB).2 from e4.2] at rm4 ⊢
  have HV4a := Lib.hid (HV3.out.below hb4)
  clear e4 hb4 q413 q414
  go_upto_region 10 with (first
    | (refine wpList_alloc_any rfl 27 rfl _ zero_Th ?_
       intro w4t hbt4 hst4 hwt4)
    | (refine wpList_alloc_any rfl 49 rfl _ zero_Rp ?_
       intro w4r hbr4 hsr4 hwr4
       have hbt24 : Bw w4r w4a.heap.size (tc Op.zeroT (.slice none 0 0)) 27 := Bw.below hbt4 hwr4)
    | (refine wpList_store_part rfl 27 (.tmp 9) (.tmp 69) rfl w4a.heap.size 0 (tc (Op.step (Op.kdT l) Op.kdB).1 (.slice A4 24 k4)) rfl rfl 27 _ hbt24 size_Th (by simp [tc]) (tc_row _ _ _ _) ?_
       intro w4u hbu4 hsu4 hku4
       have hbr24 : Bw w4u w4t.heap.size (rc Rp.zero (.slice none 0 0) (.slice none 0 0)) 49 := Bw.keep hbr4 hku4 (by omega))
    | (refine wpList_store_part rfl 49 (.tmp 10) (.tmp 70) rfl w4t.heap.size 0 (rc (Op.step (Op.kdT l) Op.kdB).2 (.slice B4 n4 d4) (.slice C4 m4 f4)) rfl rfl 49 _ hbr24 size_Rp (by simp [rc]) (rc_row _ _ _ _ _ _ _) ?_
       intro w4v hbv4 hsv4 hkv4))
  have hbe4 : Below w4a.heap.size w4a w4v := ((hwt4.trans (hwr4.mono (by omega))).trans (hku4.below2 (fun k hk => by omega))).trans (hkv4.below2 (fun k hk => by omega))
  have HV4 : Hid (VT w w4v [(g1t, .th A2 k2 (Op.kdT l)), (g1r, .rp B1 n1 d1 C1 m1 f1 Op.kdR1), (g2r, .rp B2 n2 d2 C2 m2 f2 (Op.kdR l)), (g3r, .rp B3 n3 d3 C3 m3 f3 (Op.step (Op.kdT l) (Op.kdA l)).2), (w4t.heap.size, .rp B4 n4 d4 C4 m4 f4 (Op.step (Op.kdT l) Op.kdB).2)]) := HV4a.out.push (g := w4t.heap.size) (v := .rp B4 n4 d4 C4 m4 f4 (Op.step (Op.kdT l) Op.kdB).2) (by omega) hbv4 hbe4 rm4 
  clear HS4 HV4a hbe4 hbt4 hst4 hwt4 hbr4 hsr4 hwr4 hbt24 hbu4 hsu4 hku4 hbr24 hbv4 hsv4 hkv4 tm4 rm4 HV3
  generalize w4t.heap.size = g4r at *
  generalize w4a.heap.size = g4t at *
  have q523 := HV4.out.cell 2 rfl 3 _ rfl
  have q524 := HV4.out.cell 2 rfl 4 _ rfl
  go_wp2_with (refine wpList_load_part rfl 27 (.tmp 4) rfl g1t 0 rfl _ Tryz.underlying27 rfl (tc (Op.kdT l) (.slice A2 24 k2)) 27 _ (HV4.out.bw 0 rfl) size_Th (fun j u hu => by rw [Nat.zero_add]; exact hu) ?_)
  refine (HPK.out.run (Op.kdT l) A2 k2 (Op.kdCc l) none 0 0 _ (show TM _ A2 k2 (Op.kdT l) from HV4.out.ok 0 rfl) HS2.out (Op.kdCc_wide l) (Nat.le_of_ble_eq_true rfl) (Nat.le_of_ble_eq_true rfl) (Nat.le_of_ble_eq_true rfl) BS.nil (Nat.le_refl _)).mono ?_
  rintro e w5a ⟨A5, k5, B5, n5, d5, C5, m5, f5, rfl, tm5, rm5, hb5⟩
  have e5 := Op.do_step (c := (Op.kdCc l)) HS2.out.inv.may (Nat.le_of_ble_eq_true rfl) (Nat.le_of_ble_eq_true rfl) (Nat.ne_of_beq_eq_false rfl)
  have HS5 : Hid (Op.Sound (Op.step (Op.kdT l) (Op.kdCc l)).1) := by show Op.Sound _; rw [show (Op.step (Op.kdT l) (Op.kdCc l)).1 = Op.doT (Op.kdT l) (Op.kdCc l) from e5.1.symm]; exact HS2.out.doT (Op.kdCc_wide l)
  rw [show Op.doT (Op.kdT l) (Op.kdCc l) = (Op.step (Op.kdT l) (Op.kdCc l)).1 from e5.1] at tm5 ⊢
  rw [show Op.doR (Op.kdT l) (Op.kdCc l) = (Op.step (Op.kdT l) (Op.kdCc l)).2 from e5.2] at rm5 ⊢
  have HV5a := Lib.hid (HV4.out.below hb5)
  clear e5 hb5 q523 q524
  go_upto_region 11 with (first
    | (refine wpList_alloc_any rfl 27 rfl _ zero_Th ?_
       intro w5t hbt5 hst5 hwt5)
    | (refine wpList_alloc_any rfl 49 rfl _ zero_Rp ?_
       intro w5r hbr5 hsr5 hwr5
       have hbt25 : Bw w5r w5a.heap.size (tc Op.zeroT (.slice none 0 0)) 27 := Bw.below hbt5 hwr5)
    | (refine wpList_store_part rfl 27 (.tmp 11) (.tmp 77) rfl w5a.heap.size 0 (tc (Op.step (Op.kdT l) (Op.kdCc l)).1 (.slice A5 24 k5)) rfl rfl 27 _ hbt25 size_Th (by simp [tc]) (tc_row _ _ _ _) ?_
       intro w5u hbu5 hsu5 hku5
       have hbr25 : Bw w5u w5t.heap.size (rc Rp.zero (.slice none 0 0) (.slice none 0 0)) 49 := Bw.keep hbr5 hku5 (by omega))
    | (refine wpList_store_part rfl 49 (.tmp 12) (.tmp 78) rfl w5t.heap.size 0 (rc (Op.step (Op.kdT l) (Op.kdCc l)).2 (.slice B5 n5 d5) (.slice C5 m5 f5)) rfl rfl 49 _ hbr25 size_Rp (by simp [rc]) (rc_row _ _ _ _ _ _ _) ?_
       intro w5v hbv5 hsv5 hkv5))
  have hbe5 : Below w5a.heap.size w5a w5v := ((hwt5.trans (hwr5.mono (by omega))).trans (hku5.below2 (fun k hk => by omega))).trans (hkv5.below2 (fun k hk => by omega))
  have HV5 : Hid (VT w w5v [(g1t, .th A2 k2 (Op.kdT l)), (g1r, .rp B1 n1 d1 C1 m1 f1 Op.kdR1), (g2r, .rp B2 n2 d2 C2 m2 f2 (Op.kdR l)), (g3r, .rp B3 n3 d3 C3 m3 f3 (Op.step (Op.kdT l) (Op.kdA l)).2), (g4r, .rp B4 n4 d4 C4 m4 f4 (Op.step (Op.kdT l) Op.kdB).2), (w5t.heap.size, .rp B5 n5 d5 C5 m5 f5 (Op.step (Op.kdT l) (Op.kdCc l)).2)]) := HV5a.out.push (g := w5t.heap.size) (v := .rp B5 n5 d5 C5 m5 f5 (Op.step (Op.kdT l) (Op.kdCc l)).2) (by omega) hbv5 hbe5 rm5 
  clear HS5 HV5a hbe5 hbt5 hst5 hwt5 hbr5 hsr5 hwr5 hbt25 hbu5 hsu5 hku5 hbr25 hbv5 hsv5 hkv5 tm5 rm5 HV4
  generalize w5t.heap.size = g5r at *
  generalize w5a.heap.size = g5t at *
  go_wp2_with (refine wpList_load_part rfl 27 (.tmp 4) rfl g1t 0 rfl _ Tryz.underlying27 rfl (tc (Op.kdT l) (.slice A2 24 k2)) 27 _ (HV5.out.bw 0 rfl) size_Th (fun j u hu => by rw [Nat.zero_add]; exact hu) ?_)
  refine (HPK.out.run (Op.kdT l) A2 k2 Op.kdD none 0 0 _ (show TM _ A2 k2 (Op.kdT l) from HV5.out.ok 0 rfl) HS2.out Op.kdD_wide (Nat.le_of_ble_eq_true rfl) (Nat.le_of_ble_eq_true rfl) (Nat.le_of_ble_eq_true rfl) BS.nil (Nat.le_refl _)).mono ?_
  rintro e w6a ⟨A6, k6, B6, n6, d6, C6, m6, f6, rfl, tm6, rm6, hb6⟩
  have e6 := Op.do_step (c := Op.kdD) HS2.out.inv.may (Nat.le_of_ble_eq_true rfl) (Nat.le_of_ble_eq_true rfl) (Nat.ne_of_beq_eq_false rfl)
  have HS6 : Hid (Op.Sound (Op.step (Op.kdT l) Op.kdD).1) := by show Op.Sound _; rw [show (Op.step (Op.kdT l) Op.kdD).1 = Op.doT (Op.kdT l) Op.kdD from e6.1.symm]; exact HS2.out.doT Op.kdD_wide
  rw [show Op.doT (Op.kdT l) Op.kdD = (Op.step (Op.kdT l) Op.kdD).1 from e6.1] at tm6 ⊢
  rw [show Op.doR (Op.kdT l) Op.kdD = (Op.step (Op.kdT l) Op.kdD).2 from e6.2] at rm6 ⊢
  have HV6a := Lib.hid (HV5.out.below hb6)
  clear e6 hb6
  go_upto_region 12 with (first
    | (refine wpList_alloc_any rfl 27 rfl _ zero_Th ?_
       intro w6t hbt6 hst6 hwt6)
    | (refine wpList_alloc_any rfl 49 rfl _ zero_Rp ?_
       intro w6r hbr6 hsr6 hwr6
       have hbt26 : Bw w6r w6a.heap.size (tc Op.zeroT (.slice none 0 0)) 27 := Bw.below hbt6 hwr6)
    | (refine wpList_store_part rfl 27 (.tmp 13) (.tmp 84) rfl w6a.heap.size 0 (tc (Op.step (Op.kdT l) Op.kdD).1 (.slice A6 24 k6)) rfl rfl 27 _ hbt26 size_Th (by simp [tc]) (tc_row _ _ _ _) ?_
       intro w6u hbu6 hsu6 hku6
       have hbr26 : Bw w6u w6t.heap.size (rc Rp.zero (.slice none 0 0) (.slice none 0 0)) 49 := Bw.keep hbr6 hku6 (by omega))
    | (refine wpList_store_part rfl 49 (.tmp 14) (.tmp 85) rfl w6t.heap.size 0 (rc (Op.step (Op.kdT l) Op.kdD).2 (.slice B6 n6 d6) (.slice C6 m6 f6)) rfl rfl 49 _ hbr26 size_Rp (by simp [rc]) (rc_row _ _ _ _ _ _ _) ?_
       intro w6v hbv6 hsv6 hkv6))
  have hbe6 : Below w6a.heap.size w6a w6v := ((hwt6.trans (hwr6.mono (by omega))).trans (hku6.below2 (fun k hk => by omega))).trans (hkv6.below2 (fun k hk => by omega))
  have HV6 : Hid (VT w w6v [(g1t, .th A2 k2 (Op.kdT l)), (g1r, .rp B1 n1 d1 C1 m1 f1 Op.kdR1), (g2r, .rp B2 n2 d2 C2 m2 f2 (Op.kdR l)), (g3r, .rp B3 n3 d3 C3 m3 f3 (Op.step (Op.kdT l) (Op.kdA l)).2), (g4r, .rp B4 n4 d4 C4 m4 f4 (Op.step (Op.kdT l) Op.kdB).2), (g5r, .rp B5 n5 d5 C5 m5 f5 (Op.step (Op.kdT l) (Op.kdCc l)).2), (w6t.heap.size, .rp B6 n6 d6 C6 m6 f6 (Op.step (Op.kdT l) Op.kdD).2)]) := HV6a.out.push (g := w6t.heap.size) (v := .rp B6 n6 d6 C6 m6 f6 (Op.step (Op.kdT l) Op.kdD).2) (by omega) hbv6 hbe6 rm6 
  clear HS6 HV6a hbe6 hbt6 hst6 hwt6 hbr6 hsr6 hwr6 hbt26 hbu6 hsu6 hku6 hbr26 hbv6 hsv6 hkv6 tm6 rm6 HV5
  generalize w6t.heap.size = g6r at *
  generalize w6a.heap.size = g6t at *
  go_wp2_with (refine wpList_load_part rfl 27 (.tmp 4) rfl g1t 0 rfl _ Tryz.underlying27 rfl (tc (Op.kdT l) (.slice A2 24 k2)) 27 _ (HV6.out.bw 0 rfl) size_Th (fun j u hu => by rw [Nat.zero_add]; exact hu) ?_)
  refine (HPK.out.run (Op.kdT l) A2 k2 (Op.kdE l) A n c _ (show TM _ A2 k2 (Op.kdT l) from HV6.out.ok 0 rfl) HS2.out (Op.kdE_wide l) (Nat.le_of_ble_eq_true rfl) (Nat.le_of_ble_eq_true rfl) h1100 (HD.out.below HV6.out.bel) (hnc)).mono ?_
  rintro e w7a ⟨A7, k7, B7, n7, d7, C7, m7, f7, rfl, tm7, rm7, hb7⟩
  have e7 := Op.do_step (c := (Op.kdE l)) HS2.out.inv.may (Nat.le_of_ble_eq_true rfl) (Nat.le_of_ble_eq_true rfl) (Nat.ne_of_beq_eq_false rfl)
  have HS7 : Hid (Op.Sound (Op.step (Op.kdT l) (Op.kdE l)).1) := by show Op.Sound _; rw [show (Op.step (Op.kdT l) (Op.kdE l)).1 = Op.doT (Op.kdT l) (Op.kdE l) from e7.1.symm]; exact HS2.out.doT (Op.kdE_wide l)
  rw [show Op.doT (Op.kdT l) (Op.kdE l) = (Op.step (Op.kdT l) (Op.kdE l)).1 from e7.1] at tm7 ⊢
  rw [show Op.doR (Op.kdT l) (Op.kdE l) = (Op.step (Op.kdT l) (Op.kdE l)).2 from e7.2] at rm7 ⊢
  have HV7a := Lib.hid (HV6.out.below hb7)
  clear e7 hb7
  go_upto_region 13 with (first
    | (refine wpList_alloc_any rfl 27 rfl _ zero_Th ?_
       intro w7t hbt7 hst7 hwt7)
    | (refine wpList_alloc_any rfl 49 rfl _ zero_Rp ?_
       intro w7r hbr7 hsr7 hwr7
       have hbt27 : Bw w7r w7a.heap.size (tc Op.zeroT (.slice none 0 0)) 27 := Bw.below hbt7 hwr7)
    | (refine wpList_store_part rfl 27 (.tmp 15) (.tmp 92) rfl w7a.heap.size 0 (tc (Op.step (Op.kdT l) (Op.kdE l)).1 (.slice A7 24 k7)) rfl rfl 27 _ hbt27 size_Th (by simp [tc]) (tc_row _ _ _ _) ?_
       intro w7u hbu7 hsu7 hku7
       have hbr27 : Bw w7u w7t.heap.size (rc Rp.zero (.slice none 0 0) (.slice none 0 0)) 49 := Bw.keep hbr7 hku7 (by omega))
    | (refine wpList_store_part rfl 49 (.tmp 16) (.tmp 93) rfl w7t.heap.size 0 (rc (Op.step (Op.kdT l) (Op.kdE l)).2 (.slice B7 n7 d7) (.slice C7 m7 f7)) rfl rfl 49 _ hbr27 size_Rp (by simp [rc]) (rc_row _ _ _ _ _ _ _) ?_
       intro w7v hbv7 hsv7 hkv7))
  have hbe7 : Below w7a.heap.size w7a w7v := ((hwt7.trans (hwr7.mono (by omega))).trans (hku7.below2 (fun k hk => by omega))).trans (hkv7.below2 (fun k hk => by omega))
  have HV7 : Hid (VT w w7v [(g1t, .th A2 k2 (Op.kdT l)), (g1r, .rp B1 n1 d1 C1 m1 f1 Op.kdR1), (g2r, .rp B2 n2 d2 C2 m2 f2 (Op.kdR l)), (g3r, .rp B3 n3 d3 C3 m3 f3 (Op.step (Op.kdT l) (Op.kdA l)).2), (g4r, .rp B4 n4 d4 C4 m4 f4 (Op.step (Op.kdT l) Op.kdB).2), (g5r, .rp B5 n5 d5 C5 m5 f5 (Op.step (Op.kdT l) (Op.kdCc l)).2), (g6r, .rp B6 n6 d6 C6 m6 f6 (Op.step (Op.kdT l) Op.kdD).2), (w7t.heap.size, .rp B7 n7 d7 C7 m7 f7 (Op.step (Op.kdT l) (Op.kdE l)).2)]) := HV7a.out.push (g := w7t.heap.size) (v := .rp B7 n7 d7 C7 m7 f7 (Op.step (Op.kdT l) (Op.kdE l)).2) (by omega) hbv7 hbe7 rm7 
  clear HS7 HV7a hbe7 hbt7 hst7 hwt7 hbr7 hsr7 hwr7 hbt27 hbu7 hsu7 hku7 hbr27 hbv7 hsv7 hkv7 tm7 rm7 HV6
  generalize w7t.heap.size = g7r at *
  generalize w7a.heap.size = g7t at *
  have q823 := HV7.out.cell 2 rfl 3 _ rfl
  have q824 := HV7.out.cell 2 rfl 4 _ rfl
  go_wp2_with (refine wpList_load_part rfl 27 (.tmp 4) rfl g1t 0 rfl _ Tryz.underlying27 rfl (tc (Op.kdT l) (.slice A2 24 k2)) 27 _ (HV7.out.bw 0 rfl) size_Th (fun j u hu => by rw [Nat.zero_add]; exact hu) ?_)
  refine (HPK.out.run (Op.kdT l) A2 k2 (Op.kdG l) A n c _ (show TM _ A2 k2 (Op.kdT l) from HV7.out.ok 0 rfl) HS2.out (Op.kdG_wide l) (Nat.le_of_ble_eq_true rfl) (Nat.le_of_ble_eq_true rfl) h1100 (HD.out.below HV7.out.bel) (hnc)).mono ?_
  rintro e w8a ⟨A8, k8, B8, n8, d8, C8, m8, f8, rfl, tm8, rm8, hb8⟩
  have e8 := Op.do_step (c := (Op.kdG l)) HS2.out.inv.may (Nat.le_of_ble_eq_true rfl) (Nat.le_of_ble_eq_true rfl) (Nat.ne_of_beq_eq_false rfl)
  have HS8 : Hid (Op.Sound (Op.step (Op.kdT l) (Op.kdG l)).1) := by show Op.Sound _; rw [show (Op.step (Op.kdT l) (Op.kdG l)).1 = Op.doT (Op.kdT l) (Op.kdG l) from e8.1.symm]; exact HS2.out.doT (Op.kdG_wide l)
  rw [show Op.doT (Op.kdT l) (Op.kdG l) = (Op.step (Op.kdT l) (Op.kdG l)).1 from e8.1] at tm8 ⊢
  rw [show Op.doR (Op.kdT l) (Op.kdG l) = (Op.step (Op.kdT l) (Op.kdG l)).2 from e8.2] at rm8 ⊢
  have HV8a := Lib.hid (HV7.out.below hb8)
  clear e8 hb8 q823 q824
  go_upto_region 14 with (first
    | (refine wpList_alloc_any rfl 27 rfl _ zero_Th ?_
       intro w8t hbt8 hst8 hwt8)
    | (refine wpList_alloc_any rfl 49 rfl _ zero_Rp ?_
       intro w8r hbr8 hsr8 hwr8
       have hbt28 : Bw w8r w8a.heap.size (tc Op.zeroT (.slice none 0 0)) 27 := Bw.below hbt8 hwr8)
    | (refine wpList_store_part rfl 27 (.tmp 17) (.tmp 101) rfl w8a.heap.size 0 (tc (Op.step (Op.kdT l) (Op.kdG l)).1 (.slice A8 24 k8)) rfl rfl 27 _ hbt28 size_Th (by simp [tc]) (tc_row _ _ _ _) ?_
       intro w8u hbu8 hsu8 hku8
       have hbr28 : Bw w8u w8t.heap.size (rc Rp.zero (.slice none 0 0) (.slice none 0 0)) 49 := Bw.keep hbr8 hku8 (by omega))
    | (refine wpList_store_part rfl 49 (.tmp 18) (.tmp 102) rfl w8t.heap.size 0 (rc (Op.step (Op.kdT l) (Op.kdG l)).2 (.slice B8 n8 d8) (.slice C8 m8 f8)) rfl rfl 49 _ hbr28 size_Rp (by simp [rc]) (rc_row _ _ _ _ _ _ _) ?_
       intro w8v hbv8 hsv8 hkv8))
  have hbe8 : Below w8a.heap.size w8a w8v := ((hwt8.trans (hwr8.mono (by omega))).trans (hku8.below2 (fun k hk => by omega))).trans (hkv8.below2 (fun k hk => by omega))
  have HV8 : Hid (VT w w8v [(g1t, .th A2 k2 (Op.kdT l)), (g1r, .rp B1 n1 d1 C1 m1 f1 Op.kdR1), (g2r, .rp B2 n2 d2 C2 m2 f2 (Op.kdR l)), (g3r, .rp B3 n3 d3 C3 m3 f3 (Op.step (Op.kdT l) (Op.kdA l)).2), (g4r, .rp B4 n4 d4 C4 m4 f4 (Op.step (Op.kdT l) Op.kdB).2), (g5r, .rp B5 n5 d5 C5 m5 f5 (Op.step (Op.kdT l) (Op.kdCc l)).2), (g6r, .rp B6 n6 d6 C6 m6 f6 (Op.step (Op.kdT l) Op.kdD).2), (g7r, .rp B7 n7 d7 C7 m7 f7 (Op.step (Op.kdT l) (Op.kdE l)).2), (w8t.heap.size, .rp B8 n8 d8 C8 m8 f8 (Op.step (Op.kdT l) (Op.kdG l)).2)]) := HV8a.out.push (g := w8t.heap.size) (v := .rp B8 n8 d8 C8 m8 f8 (Op.step (Op.kdT l) (Op.kdG l)).2) (by omega) hbv8 hbe8 rm8 
  clear HS8 HV8a hbe8 hbt8 hst8 hwt8 hbr8 hsr8 hwr8 hbt28 hbu8 hsu8 hku8 hbr28 hbv8 hsv8 hkv8 tm8 rm8 HV7
  generalize w8t.heap.size = g8r at *
  generalize w8a.heap.size = g8t at *
  have q913 := HV8.out.cell 1 rfl 3 _ rfl
  have q914 := HV8.out.cell 1 rfl 4 _ rfl
  go_wp2_with (refine wpList_load_part rfl 27 (.tmp 4) rfl g1t 0 rfl _ Tryz.underlying27 rfl (tc (Op.kdT l) (.slice A2 24 k2)) 27 _ (HV8.out.bw 0 rfl) size_Th (fun j u hu => by rw [Nat.zero_add]; exact hu) ?_)
  refine (HPK.out.run (Op.kdT l) A2 k2 Op.kdH none 0 0 _ (show TM _ A2 k2 (Op.kdT l) from HV8.out.ok 0 rfl) HS2.out Op.kdH_wide (Nat.le_of_ble_eq_true rfl) (Nat.le_of_ble_eq_true rfl) (Nat.le_of_ble_eq_true rfl) BS.nil (Nat.le_refl _)).mono ?_
  rintro e w9a ⟨A9, k9, B9, n9, d9, C9, m9, f9, rfl, tm9, rm9, hb9⟩
  have e9 := Op.do_step (c := Op.kdH) HS2.out.inv.may (Nat.le_of_ble_eq_true rfl) (Nat.le_of_ble_eq_true rfl) (Nat.ne_of_beq_eq_false rfl)
  have HS9 : Hid (Op.Sound (Op.step (Op.kdT l) Op.kdH).1) := by show Op.Sound _; rw [show (Op.step (Op.kdT l) Op.kdH).1 = Op.doT (Op.kdT l) Op.kdH from e9.1.symm]; exact HS2.out.doT Op.kdH_wide
  rw [show Op.doT (Op.kdT l) Op.kdH = (Op.step (Op.kdT l) Op.kdH).1 from e9.1] at tm9 ⊢
  rw [show Op.doR (Op.kdT l) Op.kdH = (Op.step (Op.kdT l) Op.kdH).2 from e9.2] at rm9 ⊢
  have HV9a := Lib.hid (HV8.out.below hb9)
  clear e9 hb9 q913 q914
  go_upto_region 15 with (first
    | (refine wpList_alloc_any rfl 27 rfl _ zero_Th ?_
       intro w9t hbt9 hst9 hwt9)
    | (refine wpList_alloc_any rfl 49 rfl _ zero_Rp ?_
       intro w9r hbr9 hsr9 hwr9
       have hbt29 : Bw w9r w9a.heap.size (tc Op.zeroT (.slice none 0 0)) 27 := Bw.below hbt9 hwr9)
    | (refine wpList_store_part rfl 27 (.tmp 19) (.tmp 109) rfl w9a.heap.size 0 (tc (Op.step (Op.kdT l) Op.kdH).1 (.slice A9 24 k9)) rfl rfl 27 _ hbt29 size_Th (by simp [tc]) (tc_row _ _ _ _) ?_
       intro w9u hbu9 hsu9 hku9
       have hbr29 : Bw w9u w9t.heap.size (rc Rp.zero (.slice none 0 0) (.slice none 0 0)) 49 := Bw.keep hbr9 hku9 (by omega))
    | (refine wpList_store_part rfl 49 (.tmp 20) (.tmp 110) rfl w9t.heap.size 0 (rc (Op.step (Op.kdT l) Op.kdH).2 (.slice B9 n9 d9) (.slice C9 m9 f9)) rfl rfl 49 _ hbr29 size_Rp (by simp [rc]) (rc_row _ _ _ _ _ _ _) ?_
       intro w9v hbv9 hsv9 hkv9))
  have hbe9 : Below w9a.heap.size w9a w9v := ((hwt9.trans (hwr9.mono (by omega))).trans (hku9.below2 (fun k hk => by omega))).trans (hkv9.below2 (fun k hk => by omega))
  have HV9 : Hid (VT w w9v [(g1t, .th A2 k2 (Op.kdT l)), (g1r, .rp B1 n1 d1 C1 m1 f1 Op.kdR1), (g2r, .rp B2 n2 d2 C2 m2 f2 (Op.kdR l)), (g3r, .rp B3 n3 d3 C3 m3 f3 (Op.step (Op.kdT l) (Op.kdA l)).2), (g4r, .rp B4 n4 d4 C4 m4 f4 (Op.step (Op.kdT l) Op.kdB).2), (g5r, .rp B5 n5 d5 C5 m5 f5 (Op.step (Op.kdT l) (Op.kdCc l)).2), (g6r, .rp B6 n6 d6 C6 m6 f6 (Op.step (Op.kdT l) Op.kdD).2), (g7r, .rp B7 n7 d7 C7 m7 f7 (Op.step (Op.kdT l) (Op.kdE l)).2), (g8r, .rp B8 n8 d8 C8 m8 f8 (Op.step (Op.kdT l) (Op.kdG l)).2), (w9t.heap.size, .rp B9 n9 d9 C9 m9 f9 (Op.step (Op.kdT l) Op.kdH).2)]) := HV9a.out.push (g := w9t.heap.size) (v := .rp B9 n9 d9 C9 m9 f9 (Op.step (Op.kdT l) Op.kdH).2) (by omega) hbv9 hbe9 rm9 
  clear HS9 HV9a hbe9 hbt9 hst9 hwt9 hbr9 hsr9 hwr9 hbt29 hbu9 hsu9 hku9 hbr29 hbv9 hsv9 hkv9 tm9 rm9 HV8
  generalize w9t.heap.size = g9r at *
  generalize w9a.heap.size = g9t at *
  have q1013 := HV9.out.cell 1 rfl 3 _ rfl
  have q1014 := HV9.out.cell 1 rfl 4 _ rfl
  go_wp2_with (refine wpList_load_part rfl 27 (.tmp 4) rfl g1t 0 rfl _ Tryz.underlying27 rfl (tc (Op.kdT l) (.slice A2 24 k2)) 27 _ (HV9.out.bw 0 rfl) size_Th (fun j u hu => by rw [Nat.zero_add]; exact hu) ?_)
  refine (HPK.out.run (Op.kdT l) A2 k2 Op.kdI none 0 0 _ (show TM _ A2 k2 (Op.kdT l) from HV9.out.ok 0 rfl) HS2.out Op.kdI_wide (Nat.le_of_ble_eq_true rfl) (Nat.le_of_ble_eq_true rfl) (Nat.le_of_ble_eq_true rfl) BS.nil (Nat.le_refl _)).mono ?_
  rintro e w10a ⟨A10, k10, B10, n10, d10, C10, m10, f10, rfl, tm10, rm10, hb10⟩
  have e10 := Op.do_step (c := Op.kdI) HS2.out.inv.may (Nat.le_of_ble_eq_true rfl) (Nat.le_of_ble_eq_true rfl) (Nat.ne_of_beq_eq_false rfl)
  have HS10 : Hid (Op.Sound (Op.step (Op.kdT l) Op.kdI).1) := by show Op.Sound _; rw [show (Op.step (Op.kdT l) Op.kdI).1 = Op.doT (Op.kdT l) Op.kdI from e10.1.symm]; exact HS2.out.doT Op.kdI_wide
  rw [show Op.doT (Op.kdT l) Op.kdI = (Op.step (Op.kdT l) Op.kdI).1 from e10.1] at tm10 ⊢
  rw [show Op.doR (Op.kdT l) Op.kdI = (Op.step (Op.kdT l) Op.kdI).2 from e10.2] at rm10 ⊢
  have HV10a := Lib.hid (HV9.out.below hb10)
  clear e10 hb10 q1013 q1014
  go_upto_region 16 with (first
    | (refine wpList_alloc_any rfl 27 rfl _ zero_Th ?_
       intro w10t hbt10 hst10 hwt10)
    | (refine wpList_alloc_any rfl 49 rfl _ zero_Rp ?_
       intro w10r hbr10 hsr10 hwr10
       have hbt210 : Bw w10r w10a.heap.size (tc Op.zeroT (.slice none 0 0)) 27 := Bw.below hbt10 hwr10)
    | (refine wpList_store_part rfl 27 (.tmp 21) (.tmp 117) rfl w10a.heap.size 0 (tc (Op.step (Op.kdT l) Op.kdI).1 (.slice A10 24 k10)) rfl rfl 27 _ hbt210 size_Th (by simp [tc]) (tc_row _ _ _ _) ?_
       intro w10u hbu10 hsu10 hku10
       have hbr210 : Bw w10u w10t.heap.size (rc Rp.zero (.slice none 0 0) (.slice none 0 0)) 49 := Bw.keep hbr10 hku10 (by omega))
    | (refine wpList_store_part rfl 49 (.tmp 22) (.tmp 118) rfl w10t.heap.size 0 (rc (Op.step (Op.kdT l) Op.kdI).2 (.slice B10 n10 d10) (.slice C10 m10 f10)) rfl rfl 49 _ hbr210 size_Rp (by simp [rc]) (rc_row _ _ _ _ _ _ _) ?_
       intro w10v hbv10 hsv10 hkv10))
  have hbe10 : Below w10a.heap.size w10a w10v := ((hwt10.trans (hwr10.mono (by omega))).trans (hku10.below2 (fun k hk => by omega))).trans (hkv10.below2 (fun k hk => by omega))
  have HV10 : Hid (VT w w10v [(g1t, .th A2 k2 (Op.kdT l)), (g1r, .rp B1 n1 d1 C1 m1 f1 Op.kdR1), (g2r, .rp B2 n2 d2 C2 m2 f2 (Op.kdR l)), (g3r, .rp B3 n3 d3 C3 m3 f3 (Op.step (Op.kdT l) (Op.kdA l)).2), (g4r, .rp B4 n4 d4 C4 m4 f4 (Op.step (Op.kdT l) Op.kdB).2), (g5r, .rp B5 n5 d5 C5 m5 f5 (Op.step (Op.kdT l) (Op.kdCc l)).2), (g6r, .rp B6 n6 d6 C6 m6 f6 (Op.step (Op.kdT l) Op.kdD).2), (g7r, .rp B7 n7 d7 C7 m7 f7 (Op.step (Op.kdT l) (Op.kdE l)).2), (g8r, .rp B8 n8 d8 C8 m8 f8 (Op.step (Op.kdT l) (Op.kdG l)).2), (g9r, .rp B9 n9 d9 C9 m9 f9 (Op.step (Op.kdT l) Op.kdH).2), (w10t.heap.size, .rp B10 n10 d10 C10 m10 f10 (Op.step (Op.kdT l) Op.kdI).2)]) := HV10a.out.push (g := w10t.heap.size) (v := .rp B10 n10 d10 C10 m10 f10 (Op.step (Op.kdT l) Op.kdI).2) (by omega) hbv10 hbe10 rm10 
  clear HS10 HV10a hbe10 hbt10 hst10 hwt10 hbr10 hsr10 hwr10 hbt210 hbu10 hsu10 hku10 hbr210 hbv10 hsv10 hkv10 tm10 rm10 HV9
  generalize w10t.heap.size = g10r at *
  generalize w10a.heap.size = g10t at *
  go_wp2_with (refine wpList_load_part rfl 27 (.tmp 4) rfl g1t 0 rfl _ Tryz.underlying27 rfl (tc (Op.kdT l) (.slice A2 24 k2)) 27 _ (HV10.out.bw 0 rfl) size_Th (fun j u hu => by rw [Nat.zero_add]; exact hu) ?_)
  refine (HPK.out.run (Op.kdT l) A2 k2 Op.kdJ none 0 0 _ (show TM _ A2 k2 (Op.kdT l) from HV10.out.ok 0 rfl) HS2.out Op.kdJ_wide (Nat.le_of_ble_eq_true rfl) (Nat.le_of_ble_eq_true rfl) (Nat.le_of_ble_eq_true rfl) BS.nil (Nat.le_refl _)).mono ?_
  rintro e w11a ⟨A11, k11, B11, n11, d11, C11, m11, f11, rfl, tm11, rm11, hb11⟩
  have e11 := Op.do_step (c := Op.kdJ) HS2.out.inv.may (Nat.le_of_ble_eq_true rfl) (Nat.le_of_ble_eq_true rfl) (Nat.ne_of_beq_eq_false rfl)
  have HS11 : Hid (Op.Sound (Op.step (Op.kdT l) Op.kdJ).1) := by show Op.Sound _; rw [show (Op.step (Op.kdT l) Op.kdJ).1 = Op.doT (Op.kdT l) Op.kdJ from e11.1.symm]; exact HS2.out.doT Op.kdJ_wide
  rw [show Op.doT (Op.kdT l) Op.kdJ = (Op.step (Op.kdT l) Op.kdJ).1 from e11.1] at tm11 ⊢
  rw [show Op.doR (Op.kdT l) Op.kdJ = (Op.step (Op.kdT l) Op.kdJ).2 from e11.2] at rm11 ⊢
  have HV11a := Lib.hid (HV10.out.below hb11)
  clear e11 hb11
  go_upto_region 17 with (first
    | (refine wpList_alloc_any rfl 27 rfl _ zero_Th ?_
       intro w11t hbt11 hst11 hwt11)
    | (refine wpList_alloc_any rfl 49 rfl _ zero_Rp ?_
       intro w11r hbr11 hsr11 hwr11
       have hbt211 : Bw w11r w11a.heap.size (tc Op.zeroT (.slice none 0 0)) 27 := Bw.below hbt11 hwr11)
    | (refine wpList_store_part rfl 27 (.tmp 23) (.tmp 124) rfl w11a.heap.size 0 (tc (Op.step (Op.kdT l) Op.kdJ).1 (.slice A11 24 k11)) rfl rfl 27 _ hbt211 size_Th (by simp [tc]) (tc_row _ _ _ _) ?_
       intro w11u hbu11 hsu11 hku11
       have hbr211 : Bw w11u w11t.heap.size (rc Rp.zero (.slice none 0 0) (.slice none 0 0)) 49 := Bw.keep hbr11 hku11 (by omega))
    | (refine wpList_store_part rfl 49 (.tmp 24) (.tmp 125) rfl w11t.heap.size 0 (rc (Op.step (Op.kdT l) Op.kdJ).2 (.slice B11 n11 d11) (.slice C11 m11 f11)) rfl rfl 49 _ hbr211 size_Rp (by simp [rc]) (rc_row _ _ _ _ _ _ _) ?_
       intro w11v hbv11 hsv11 hkv11))
  have hbe11 : Below w11a.heap.size w11a w11v := ((hwt11.trans (hwr11.mono (by omega))).trans (hku11.below2 (fun k hk => by omega))).trans (hkv11.below2 (fun k hk => by omega))
  have HV11 : Hid (VT w w11v [(g1t, .th A2 k2 (Op.kdT l)), (g1r, .rp B1 n1 d1 C1 m1 f1 Op.kdR1), (g2r, .rp B2 n2 d2 C2 m2 f2 (Op.kdR l)), (g3r, .rp B3 n3 d3 C3 m3 f3 (Op.step (Op.kdT l) (Op.kdA l)).2), (g4r, .rp B4 n4 d4 C4 m4 f4 (Op.step (Op.kdT l) Op.kdB).2), (g5r, .rp B5 n5 d5 C5 m5 f5 (Op.step (Op.kdT l) (Op.kdCc l)).2), (g6r, .rp B6 n6 d6 C6 m6 f6 (Op.step (Op.kdT l) Op.kdD).2), (g7r, .rp B7 n7 d7 C7 m7 f7 (Op.step (Op.kdT l) (Op.kdE l)).2), (g8r, .rp B8 n8 d8 C8 m8 f8 (Op.step (Op.kdT l) (Op.kdG l)).2), (g9r, .rp B9 n9 d9 C9 m9 f9 (Op.step (Op.kdT l) Op.kdH).2), (g10r, .rp B10 n10 d10 C10 m10 f10 (Op.step (Op.kdT l) Op.kdI).2), (w11t.heap.size, .rp B11 n11 d11 C11 m11 f11 (Op.step (Op.kdT l) Op.kdJ).2)]) := HV11a.out.push (g := w11t.heap.size) (v := .rp B11 n11 d11 C11 m11 f11 (Op.step (Op.kdT l) Op.kdJ).2) (by omega) hbv11 hbe11 rm11 
  clear HS11 HV11a hbe11 hbt11 hst11 hwt11 hbr11 hsr11 hwr11 hbt211 hbu11 hsu11 hku11 hbr211 hbv11 hsv11 hkv11 tm11 rm11 HV10
  generalize w11t.heap.size = g11r at *
  generalize w11a.heap.size = g11t at *
  have q1223 := HV11.out.cell 2 rfl 3 _ rfl
  have q1224 := HV11.out.cell 2 rfl 4 _ rfl
  go_wp2_with (refine wpList_load_part rfl 27 (.tmp 4) rfl g1t 0 rfl _ Tryz.underlying27 rfl (tc (Op.kdT l) (.slice A2 24 k2)) 27 _ (HV11.out.bw 0 rfl) size_Th (fun j u hu => by rw [Nat.zero_add]; exact hu) ?_)
  refine (HPK.out.run (Op.kdT l) A2 k2 (Op.kdK l) none 0 0 _ (show TM _ A2 k2 (Op.kdT l) from HV11.out.ok 0 rfl) HS2.out (Op.kdK_wide l) (Nat.le_of_ble_eq_true rfl) (Nat.le_of_ble_eq_true rfl) (Nat.le_of_ble_eq_true rfl) BS.nil (Nat.le_refl _)).mono ?_
  rintro e w12a ⟨A12, k12, B12, n12, d12, C12, m12, f12, rfl, tm12, rm12, hb12⟩
  have e12 := Op.do_step (c := (Op.kdK l)) HS2.out.inv.may (Nat.le_of_ble_eq_true rfl) (Nat.le_of_ble_eq_true rfl) (Nat.ne_of_beq_eq_false rfl)
  have HS12 : Hid (Op.Sound (Op.step (Op.kdT l) (Op.kdK l)).1) := by show Op.Sound _; rw [show (Op.step (Op.kdT l) (Op.kdK l)).1 = Op.doT (Op.kdT l) (Op.kdK l) from e12.1.symm]; exact HS2.out.doT (Op.kdK_wide l)
  rw [show Op.doT (Op.kdT l) (Op.kdK l) = (Op.step (Op.kdT l) (Op.kdK l)).1 from e12.1] at tm12 ⊢
  rw [show Op.doR (Op.kdT l) (Op.kdK l) = (Op.step (Op.kdT l) (Op.kdK l)).2 from e12.2] at rm12 ⊢
  have HV12a := Lib.hid (HV11.out.below hb12)
  clear e12 hb12 q1223 q1224
  go_upto_region 18 with (first
    | (refine wpList_alloc_any rfl 27 rfl _ zero_Th ?_
       intro w12t hbt12 hst12 hwt12)
    | (refine wpList_alloc_any rfl 49 rfl _ zero_Rp ?_
       intro w12r hbr12 hsr12 hwr12
       have hbt212 : Bw w12r w12a.heap.size (tc Op.zeroT (.slice none 0 0)) 27 := Bw.below hbt12 hwr12)
    | (refine wpList_store_part rfl 27 (.tmp 25) (.tmp 132) rfl w12a.heap.size 0 (tc (Op.step (Op.kdT l) (Op.kdK l)).1 (.slice A12 24 k12)) rfl rfl 27 _ hbt212 size_Th (by simp [tc]) (tc_row _ _ _ _) ?_
       intro w12u hbu12 hsu12 hku12
       have hbr212 : Bw w12u w12t.heap.size (rc Rp.zero (.slice none 0 0) (.slice none 0 0)) 49 := Bw.keep hbr12 hku12 (by omega))
    | (refine wpList_store_part rfl 49 (.tmp 26) (.tmp 133) rfl w12t.heap.size 0 (rc (Op.step (Op.kdT l) (Op.kdK l)).2 (.slice B12 n12 d12) (.slice C12 m12 f12)) rfl rfl 49 _ hbr212 size_Rp (by simp [rc]) (rc_row _ _ _ _ _ _ _) ?_
       intro w12v hbv12 hsv12 hkv12))
  have hbe12 : Below w12a.heap.size w12a w12v := ((hwt12.trans (hwr12.mono (by omega))).trans (hku12.below2 (fun k hk => by omega))).trans (hkv12.below2 (fun k hk => by omega))
  have HV12 : Hid (VT w w12v [(g1t, .th A2 k2 (Op.kdT l)), (g1r, .rp B1 n1 d1 C1 m1 f1 Op.kdR1), (g2r, .rp B2 n2 d2 C2 m2 f2 (Op.kdR l)), (g3r, .rp B3 n3 d3 C3 m3 f3 (Op.step (Op.kdT l) (Op.kdA l)).2), (g4r, .rp B4 n4 d4 C4 m4 f4 (Op.step (Op.kdT l) Op.kdB).2), (g5r, .rp B5 n5 d5 C5 m5 f5 (Op.step (Op.kdT l) (Op.kdCc l)).2), (g6r, .rp B6 n6 d6 C6 m6 f6 (Op.step (Op.kdT l) Op.kdD).2), (g7r, .rp B7 n7 d7 C7 m7 f7 (Op.step (Op.kdT l) (Op.kdE l)).2), (g8r, .rp B8 n8 d8 C8 m8 f8 (Op.step (Op.kdT l) (Op.kdG l)).2), (g9r, .rp B9 n9 d9 C9 m9 f9 (Op.step (Op.kdT l) Op.kdH).2), (g10r, .rp B10 n10 d10 C10 m10 f10 (Op.step (Op.kdT l) Op.kdI).2), (g11r, .rp B11 n11 d11 C11 m11 f11 (Op.step (Op.kdT l) Op.kdJ).2), (w12t.heap.size, .rp B12 n12 d12 C12 m12 f12 (Op.step (Op.kdT l) (Op.kdK l)).2)]) := HV12a.out.push (g := w12t.heap.size) (v := .rp B12 n12 d12 C12 m12 f12 (Op.step (Op.kdT l) (Op.kdK l)).2) (by omega) hbv12 hbe12 rm12 
  clear HS12 HV12a hbe12 hbt12 hst12 hwt12 hbr12 hsr12 hwr12 hbt212 hbu12 hsu12 hku12 hbr212 hbv12 hsv12 hkv12 tm12 rm12 HV11
  generalize w12t.heap.size = g12r at *
  generalize w12a.heap.size = g12t at *
  go_wp2_with (refine wpList_load_part rfl 27 (.tmp 4) rfl g1t 0 rfl _ Tryz.underlying27 rfl (tc (Op.kdT l) (.slice A2 24 k2)) 27 _ (HV12.out.bw 0 rfl) size_Th (fun j u hu => by rw [Nat.zero_add]; exact hu) ?_)
  refine (HPK.out.run (Op.kdT l) A2 k2 Op.kdL none 0 0 _ (show TM _ A2 k2 (Op.kdT l) from HV12.out.ok 0 rfl) HS2.out Op.kdL_wide (Nat.le_of_ble_eq_true rfl) (Nat.le_of_ble_eq_true rfl) (Nat.le_of_ble_eq_true rfl) BS.nil (Nat.le_refl _)).mono ?_
  rintro e w13a ⟨A13, k13, B13, n13, d13, C13, m13, f13, rfl, tm13, rm13, hb13⟩
  have e13 := Op.do_step (c := Op.kdL) HS2.out.inv.may (Nat.le_of_ble_eq_true rfl) (Nat.le_of_ble_eq_true rfl) (Nat.ne_of_beq_eq_false rfl)
  have HS13 : Hid (Op.Sound (Op.step (Op.kdT l) Op.kdL).1) := by show Op.Sound _; rw [show (Op.step (Op.kdT l) Op.kdL).1 = Op.doT (Op.kdT l) Op.kdL from e13.1.symm]; exact HS2.out.doT Op.kdL_wide
  rw [show Op.doT (Op.kdT l) Op.kdL = (Op.step (Op.kdT l) Op.kdL).1 from e13.1] at tm13 ⊢
  rw [show Op.doR (Op.kdT l) Op.kdL = (Op.step (Op.kdT l) Op.kdL).2 from e13.2] at rm13 ⊢
  have HV13a := Lib.hid (HV12.out.below hb13)
  clear e13 hb13
  go_upto_region 19 with (first
    | (refine wpList_alloc_any rfl 27 rfl _ zero_Th ?_
       intro w13t hbt13 hst13 hwt13)
    | (refine wpList_alloc_any rfl 49 rfl _ zero_Rp ?_
       intro w13r hbr13 hsr13 hwr13
       have hbt213 : Bw w13r w13a.heap.size (tc Op.zeroT (.slice none 0 0)) 27 := Bw.below hbt13 hwr13)
    | (refine wpList_store_part rfl 27 (.tmp 27) (.tmp 139) rfl w13a.heap.size 0 (tc (Op.step (Op.kdT l) Op.kdL).1 (.slice A13 24 k13)) rfl rfl 27 _ hbt213 size_Th (by simp [tc]) (tc_row _ _ _ _) ?_
       intro w13u hbu13 hsu13 hku13
       have hbr213 : Bw w13u w13t.heap.size (rc Rp.zero (.slice none 0 0) (.slice none 0 0)) 49 := Bw.keep hbr13 hku13 (by omega))
    | (refine wpList_store_part rfl 49 (.tmp 28) (.tmp 140) rfl w13t.heap.size 0 (rc (Op.step (Op.kdT l) Op.kdL).2 (.slice B13 n13 d13) (.slice C13 m13 f13)) rfl rfl 49 _ hbr213 size_Rp (by simp [rc]) (rc_row _ _ _ _ _ _ _) ?_
       intro w13v hbv13 hsv13 hkv13))
  have hbe13 : Below w13a.heap.size w13a w13v := ((hwt13.trans (hwr13.mono (by omega))).trans (hku13.below2 (fun k hk => by omega))).trans (hkv13.below2 (fun k hk => by omega))
  have HV13 : Hid (VT w w13v [(g1t, .th A2 k2 (Op.kdT l)), (g1r, .rp B1 n1 d1 C1 m1 f1 Op.kdR1), (g2r, .rp B2 n2 d2 C2 m2 f2 (Op.kdR l)), (g3r, .rp B3 n3 d3 C3 m3 f3 (Op.step (Op.kdT l) (Op.kdA l)).2), (g4r, .rp B4 n4 d4 C4 m4 f4 (Op.step (Op.kdT l) Op.kdB).2), (g5r, .rp B5 n5 d5 C5 m5 f5 (Op.step (Op.kdT l) (Op.kdCc l)).2), (g6r, .rp B6 n6 d6 C6 m6 f6 (Op.step (Op.kdT l) Op.kdD).2), (g7r, .rp B7 n7 d7 C7 m7 f7 (Op.step (Op.kdT l) (Op.kdE l)).2), (g8r, .rp B8 n8 d8 C8 m8 f8 (Op.step (Op.kdT l) (Op.kdG l)).2), (g9r, .rp B9 n9 d9 C9 m9 f9 (Op.step (Op.kdT l) Op.kdH).2), (g10r, .rp B10 n10 d10 C10 m10 f10 (Op.step (Op.kdT l) Op.kdI).2), (g11r, .rp B11 n11 d11 C11 m11 f11 (Op.step (Op.kdT l) Op.kdJ).2), (g12r, .rp B12 n12 d12 C12 m12 f12 (Op.step (Op.kdT l) (Op.kdK l)).2), (w13t.heap.size, .rp B13 n13 d13 C13 m13 f13 (Op.step (Op.kdT l) Op.kdL).2)]) := HV13a.out.push (g := w13t.heap.size) (v := .rp B13 n13 d13 C13 m13 f13 (Op.step (Op.kdT l) Op.kdL).2) (by omega) hbv13 hbe13 rm13 
  clear HS13 HV13a hbe13 hbt13 hst13 hwt13 hbr13 hsr13 hwr13 hbt213 hbu13 hsu13 hku13 hbr213 hbv13 hsv13 hkv13 tm13 rm13 HV12
  generalize w13t.heap.size = g13r at *
  generalize w13a.heap.size = g13t at *
  have hrm := (show RM _ B3 n3 d3 C3 m3 f3 _ from HV13.out.ok 3 rfl).data
  have s2 := HV13.out.cell 2 rfl 2 _ rfl
  have sa := HV13.out.cell 3 rfl 10 _ rfl
  have sb := HV13.out.cell 4 rfl 2 _ rfl
  rw [Op.kd_b] at sb
  have sc := HV13.out.cell 5 rfl 2 _ rfl
  rw [Op.kd_c] at sc
  have sd := HV13.out.cell 6 rfl 2 _ rfl
  rw [Op.kd_d] at sd
  have se := HV13.out.cell 7 rfl 2 _ rfl
  rw [Op.kd_e] at se
  have sg := HV13.out.cell 8 rfl 2 _ rfl
  rw [Op.kd_g] at sg
  have sh := HV13.out.cell 9 rfl 2 _ rfl
  rw [Op.kd_h] at sh
  have si := HV13.out.cell 10 rfl 2 _ rfl
  rw [Op.kd_i] at si
  have sj := HV13.out.cell 11 rfl 2 _ rfl
  rw [Op.kd_j] at sj
  have sk := HV13.out.cell 12 rfl 2 _ rfl
  rw [Op.kd_k] at sk
  have sl := HV13.out.cell 13 rfl 2 _ rfl
  rw [Op.kd_l] at sl
  rw [(Op.kd2 l).1] at s2
  rw [Op.kd_a] at hrm
  have HBF : Hid (Below w.heap.size w w13v) := HV13.out.bel
  have hcv := run_convert_bs w13v B3 n3 d3 _ hrm
  have hcv2 := run_convert_bs w13v A n c _ (HD.out.below HBF.out)
  clear hrm HV13 HPK HT0 HD hl0 hl7 h1100
  go_wp2_with fail
  go_ret
  exact ⟨rfl, HBF.out⟩
end Go.Proofs.YtndnkfnhgakibaaGreat
