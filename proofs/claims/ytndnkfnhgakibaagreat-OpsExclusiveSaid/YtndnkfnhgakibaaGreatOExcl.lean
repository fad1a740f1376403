/-
  The law OpsExclusive (layer 13).
-/
import Derived.Test.YtndnkfnhgakibaaGreatOAwake
import Derived.Test.YtndnkfnhgakibaaGreatOExclM
namespace Go.Proofs.YtndnkfnhgakibaaGreat
open Go.RowKit Go.Shelf
attribute [local go_sem] Oper.semAt_some

theorem Op.xC_wide {v n : Nat} {nm : List UInt8} (h1 : v < 18446744073709551616) (h2 : n < 4294967296) : (Op.xC v n nm).Wide := by
  constructor <;> first | exact h1 | exact h2 | (show (0 : Nat) < _; omega) | (show (1 : Nat) < _; omega) | (show (6 : Nat) < _; omega)
set_option maxRecDepth 100000 in
set_option maxHeartbeats 8000000 in
theorem exclusive_walk (HP : Pk) (v o h : Nat) (w : World) (hv : v < 18446744073709551616) (ho : o < 18446744073709551616) (hh : h < 4294967296) :
    Calls Tryz.prog 10 #[.int .u64 (v : Int), .int .u64 (o : Int), .int .u32 (h : Int)] w fun e w' => e = .returned (.bool true) ∧ Below w.heap.size w w' := by
  have HPK := Lib.hid HP
  clear HP
  go_enter Tryz.func10, Tryz.ntmps10
  go_wp2_with fail
  refine (awakeO_any HPK.out w).mono ?_
  rintro e w0 ⟨rfl, hb0⟩
  have HB0 := Lib.hid hb0
  clear hb0
  go_wp2_with fail
  refine (HPK.out.format 20 w0 (by omega)).mono ?_
  rintro e w1 ⟨A0, k0, rfl, tm0, hb1⟩
  have HT0 := Lib.hid tm0
  have HV0 : Hid (VT w w1 []) := VT.nil (HB0.out.trans (hb1.mono HB0.out.size))
  have HS0 : Hid (Op.Sound (Op.format 20)) := Op.Sound.format
  clear tm0 hb1 HB0
  go_wp2_with fail
  refine (HPK.out.run (Op.format 20) A0 k0 (Op.xC v 1 [102]) none 0 0 _ HT0.out HS0.out (Op.xC_wide hv (by omega)) (Nat.le_of_ble_eq_true rfl) (Nat.le_of_ble_eq_true rfl) (Nat.le_of_ble_eq_true rfl) BS.nil (Nat.le_refl _)).mono ?_
  rintro e w1a ⟨A1, k1, B1, n1, d1, C1, m1, f1, rfl, tm1, rm1, hb1⟩
  have e1 := Op.do_step (c := (Op.xC v 1 [102])) HS0.out.inv.may (Nat.le_of_ble_eq_true rfl) (Nat.le_of_ble_eq_true rfl) (Nat.ne_of_beq_eq_false rfl)
  have HS1 : Hid (Op.Sound (Op.xT1 v)) := by show Op.Sound _; rw [show (Op.xT1 v) = Op.doT (Op.format 20) (Op.xC v 1 [102]) from e1.1.symm]; exact HS0.out.doT (Op.xC_wide hv (by omega))
  rw [show Op.doT (Op.format 20) (Op.xC v 1 [102]) = (Op.xT1 v) from e1.1] at tm1 ⊢
  rw [show Op.doR (Op.format 20) (Op.xC v 1 [102]) = (Op.xR1 v) from e1.2] at rm1 ⊢
  have HV1a := Lib.hid (HV0.out.below hb1)
  clear e1 hb1
  go_upto_region 5 with (first
    | (refine wpList_alloc_any rfl 27 rfl _ zero_Th ?_
       intro w1t hbt1 hst1 hwt1)
    | (refine wpList_alloc_any rfl 49 rfl _ zero_Rp ?_
       intro w1r hbr1 hsr1 hwr1
       have hbt21 : Bw w1r w1a.heap.size (tc Op.zeroT (.slice none 0 0)) 27 := Bw.below hbt1 hwr1)
    | (refine wpList_store_part rfl 27 (.tmp 8) (.tmp 28) rfl w1a.heap.size 0 (tc (Op.xT1 v) (.slice A1 24 k1)) rfl rfl 27 _ hbt21 size_Th (by simp [tc]) (tc_row _ _ _ _) ?_
       intro w1u hbu1 hsu1 hku1
       have hbr21 : Bw w1u w1t.heap.size (rc Rp.zero (.slice none 0 0) (.slice none 0 0)) 49 := Bw.keep hbr1 hku1 (by omega))
    | (refine wpList_store_part rfl 49 (.tmp 9) (.tmp 29) rfl w1t.heap.size 0 (rc (Op.xR1 v) (.slice B1 n1 d1) (.slice C1 m1 f1)) rfl rfl 49 _ hbr21 size_Rp (by simp [rc]) (rc_row _ _ _ _ _ _ _) ?_
       intro w1v hbv1 hsv1 hkv1))
  have hbe1 : Below w1a.heap.size w1a w1v := ((hwt1.trans (hwr1.mono (by omega))).trans (hku1.below2 (fun k hk => by omega))).trans (hkv1.below2 (fun k hk => by omega))
  have HV1 : Hid (VT w w1v [(w1a.heap.size, .th A1 k1 (Op.xT1 v)), (w1t.heap.size, .rp B1 n1 d1 C1 m1 f1 (Op.xR1 v))]) := VT.push2 HV1a.out (g := w1a.heap.size) (g' := w1t.heap.size) (v := .th A1 k1 (Op.xT1 v)) (v' := .rp B1 n1 d1 C1 m1 f1 (Op.xR1 v)) (Nat.le_refl _) (by omega) (by omega) (Bw.keep hbu1 hkv1 (by omega)) hbv1 hbe1 tm1 rm1
  clear HV1a hbe1 hbt1 hst1 hwt1 hbr1 hsr1 hwr1 hbt21 hbu1 hsu1 hku1 hbr21 hbv1 hsv1 hkv1 tm1 rm1 HV0
  generalize w1t.heap.size = g1r at *
  generalize w1a.heap.size = g1t at *
  go_wp2_with (refine wpList_load_part rfl 27 (.tmp 8) rfl g1t 0 rfl _ Tryz.underlying27 rfl (tc (Op.xT1 v) (.slice A1 24 k1)) 27 _ (HV1.out.bw 0 rfl) size_Th (fun j u hu => by rw [Nat.zero_add]; exact hu) ?_)
  refine (HPK.out.run (Op.xT1 v) A1 k1 (Op.xC o 1 [102]) none 0 0 _ (show TM _ A1 k1 (Op.xT1 v) from HV1.out.ok 0 rfl) HS1.out (Op.xC_wide ho (by omega)) (Nat.le_of_ble_eq_true rfl) (Nat.le_of_ble_eq_true rfl) (Nat.le_of_ble_eq_true rfl) BS.nil (Nat.le_refl _)).mono ?_
  rintro e w2a ⟨A2, k2, B2, n2, d2, C2, m2, f2, rfl, tm2, rm2, hb2⟩
  have e2 := Op.do_step (c := (Op.xC o 1 [102])) HS1.out.inv.may (Nat.le_of_ble_eq_true rfl) (Nat.le_of_ble_eq_true rfl) (Nat.ne_of_beq_eq_false rfl)
  have HS2 : Hid (Op.Sound (Op.xT2 v o)) := by show Op.Sound _; rw [show (Op.xT2 v o) = Op.doT (Op.xT1 v) (Op.xC o 1 [102]) from e2.1.symm]; exact HS1.out.doT (Op.xC_wide ho (by omega))
  rw [show Op.doT (Op.xT1 v) (Op.xC o 1 [102]) = (Op.xT2 v o) from e2.1] at tm2 ⊢
  rw [show Op.doR (Op.xT1 v) (Op.xC o 1 [102]) = (Op.xR2 v o) from e2.2] at rm2 ⊢
  have HV2a := Lib.hid (HV1.out.below hb2)
  clear e2 hb2
  go_upto_region 6 with (first
    | (refine wpList_alloc_any rfl 27 rfl _ zero_Th ?_
       intro w2t hbt2 hst2 hwt2)
    | (refine wpList_alloc_any rfl 49 rfl _ zero_Rp ?_
       intro w2r hbr2 hsr2 hwr2
       have hbt22 : Bw w2r w2a.heap.size (tc Op.zeroT (.slice none 0 0)) 27 := Bw.below hbt2 hwr2)
    | (refine wpList_store_part rfl 27 (.tmp 10) (.tmp 36) rfl w2a.heap.size 0 (tc (Op.xT2 v o) (.slice A2 24 k2)) rfl rfl 27 _ hbt22 size_Th (by simp [tc]) (tc_row _ _ _ _) ?_
       intro w2u hbu2 hsu2 hku2
       have hbr22 : Bw w2u w2t.heap.size (rc Rp.zero (.slice none 0 0) (.slice none 0 0)) 49 := Bw.keep hbr2 hku2 (by omega))
    | (refine wpList_store_part rfl 49 (.tmp 11) (.tmp 37) rfl w2t.heap.size 0 (rc (Op.xR2 v o) (.slice B2 n2 d2) (.slice C2 m2 f2)) rfl rfl 49 _ hbr22 size_Rp (by simp [rc]) (rc_row _ _ _ _ _ _ _) ?_
       intro w2v hbv2 hsv2 hkv2))
  have hbe2 : Below w2a.heap.size w2a w2v := ((hwt2.trans (hwr2.mono (by omega))).trans (hku2.below2 (fun k hk => by omega))).trans (hkv2.below2 (fun k hk => by omega))
  have HV2 : Hid (VT w w2v [(g1t, .th A1 k1 (Op.xT1 v)), (g1r, .rp B1 n1 d1 C1 m1 f1 (Op.xR1 v)), (w2a.heap.size, .th A2 k2 (Op.xT2 v o)), (w2t.heap.size, .rp B2 n2 d2 C2 m2 f2 (Op.xR2 v o))]) := VT.push2 HV2a.out (g := w2a.heap.size) (g' := w2t.heap.size) (v := .th A2 k2 (Op.xT2 v o)) (v' := .rp B2 n2 d2 C2 m2 f2 (Op.xR2 v o)) (Nat.le_refl _) (by omega) (by omega) (Bw.keep hbu2 hkv2 (by omega)) hbv2 hbe2 tm2 rm2
  clear HV2a hbe2 hbt2 hst2 hwt2 hbr2 hsr2 hwr2 hbt22 hbu2 hsu2 hku2 hbr22 hbv2 hsv2 hkv2 tm2 rm2 HV1
  generalize w2t.heap.size = g2r at *
  generalize w2a.heap.size = g2t at *
  go_wp2_with (refine wpList_load_part rfl 27 (.tmp 8) rfl g1t 0 rfl _ Tryz.underlying27 rfl (tc (Op.xT1 v) (.slice A1 24 k1)) 27 _ (HV2.out.bw 0 rfl) size_Th (fun j u hu => by rw [Nat.zero_add]; exact hu) ?_)
  refine (HPK.out.run (Op.xT1 v) A1 k1 (Op.xC 0 2 [102]) none 0 0 _ (show TM _ A1 k1 (Op.xT1 v) from HV2.out.ok 0 rfl) HS1.out (Op.xC_wide (by omega) (by omega)) (Nat.le_of_ble_eq_true rfl) (Nat.le_of_ble_eq_true rfl) (Nat.le_of_ble_eq_true rfl) BS.nil (Nat.le_refl _)).mono ?_
  rintro e w3a ⟨A3, k3, B3, n3, d3, C3, m3, f3, rfl, tm3, rm3, hb3⟩
  have e3 := Op.do_step (c := (Op.xC 0 2 [102])) HS1.out.inv.may (Nat.le_of_ble_eq_true rfl) (Nat.le_of_ble_eq_true rfl) (Nat.ne_of_beq_eq_false rfl)
  have HS3 : Hid (Op.Sound (Op.xT3 v)) := by show Op.Sound _; rw [show (Op.xT3 v) = Op.doT (Op.xT1 v) (Op.xC 0 2 [102]) from e3.1.symm]; exact HS1.out.doT (Op.xC_wide (by omega) (by omega))
  rw [show Op.doT (Op.xT1 v) (Op.xC 0 2 [102]) = (Op.xT3 v) from e3.1] at tm3 ⊢
  rw [show Op.doR (Op.xT1 v) (Op.xC 0 2 [102]) = (Op.xR3 v) from e3.2] at rm3 ⊢
  have HV3a := Lib.hid (HV2.out.below hb3)
  clear e3 hb3
  go_upto_region 7 with (first
    | (refine wpList_alloc_any rfl 27 rfl _ zero_Th ?_
       intro w3t hbt3 hst3 hwt3)
    | (refine wpList_alloc_any rfl 49 rfl _ zero_Rp ?_
       intro w3r hbr3 hsr3 hwr3
       have hbt23 : Bw w3r w3a.heap.size (tc Op.zeroT (.slice none 0 0)) 27 := Bw.below hbt3 hwr3)
    | (refine wpList_store_part rfl 27 (.tmp 12) (.tmp 43) rfl w3a.heap.size 0 (tc (Op.xT3 v) (.slice A3 24 k3)) rfl rfl 27 _ hbt23 size_Th (by simp [tc]) (tc_row _ _ _ _) ?_
       intro w3u hbu3 hsu3 hku3
       have hbr23 : Bw w3u w3t.heap.size (rc Rp.zero (.slice none 0 0) (.slice none 0 0)) 49 := Bw.keep hbr3 hku3 (by omega))
    | (refine wpList_store_part rfl 49 (.tmp 13) (.tmp 44) rfl w3t.heap.size 0 (rc (Op.xR3 v) (.slice B3 n3 d3) (.slice C3 m3 f3)) rfl rfl 49 _ hbr23 size_Rp (by simp [rc]) (rc_row _ _ _ _ _ _ _) ?_
       intro w3v hbv3 hsv3 hkv3))
  have hbe3 : Below w3a.heap.size w3a w3v := ((hwt3.trans (hwr3.mono (by omega))).trans (hku3.below2 (fun k hk => by omega))).trans (hkv3.below2 (fun k hk => by omega))
  have HV3 : Hid (VT w w3v [(g1t, .th A1 k1 (Op.xT1 v)), (g1r, .rp B1 n1 d1 C1 m1 f1 (Op.xR1 v)), (g2t, .th A2 k2 (Op.xT2 v o)), (g2r, .rp B2 n2 d2 C2 m2 f2 (Op.xR2 v o)), (w3a.heap.size, .th A3 k3 (Op.xT3 v)), (w3t.heap.size, .rp B3 n3 d3 C3 m3 f3 (Op.xR3 v))]) := VT.push2 HV3a.out (g := w3a.heap.size) (g' := w3t.heap.size) (v := .th A3 k3 (Op.xT3 v)) (v' := .rp B3 n3 d3 C3 m3 f3 (Op.xR3 v)) (Nat.le_refl _) (by omega) (by omega) (Bw.keep hbu3 hkv3 (by omega)) hbv3 hbe3 tm3 rm3
  clear HV3a hbe3 hbt3 hst3 hwt3 hbr3 hsr3 hwr3 hbt23 hbu3 hsu3 hku3 hbr23 hbv3 hsv3 hkv3 tm3 rm3 HV2
  generalize w3t.heap.size = g3r at *
  generalize w3a.heap.size = g3t at *
  go_wp2_with (refine wpList_load_part rfl 27 (.tmp 8) rfl g1t 0 rfl _ Tryz.underlying27 rfl (tc (Op.xT1 v) (.slice A1 24 k1)) 27 _ (HV3.out.bw 0 rfl) size_Th (fun j u hu => by rw [Nat.zero_add]; exact hu) ?_)
  refine (HPK.out.run (Op.xT1 v) A1 k1 (Op.cl 6 0 1 [102]) none 0 0 _ (show TM _ A1 k1 (Op.xT1 v) from HV3.out.ok 0 rfl) HS1.out (Op.cl_wide (by decide) (by decide) (by decide)) (Nat.le_of_ble_eq_true rfl) (Nat.le_of_ble_eq_true rfl) (Nat.le_of_ble_eq_true rfl) BS.nil (Nat.le_refl _)).mono ?_
  rintro e w4a ⟨A4, k4, B4, n4, d4, C4, m4, f4, rfl, tm4, rm4, hb4⟩
  have e4 := Op.do_step (c := (Op.cl 6 0 1 [102])) HS1.out.inv.may (Nat.le_of_ble_eq_true rfl) (Nat.le_of_ble_eq_true rfl) (Nat.ne_of_beq_eq_false rfl)
  have HS4 : Hid (Op.Sound (Op.xT4 v)) := by show Op.Sound _; rw [show (Op.xT4 v) = Op.doT (Op.xT1 v) (Op.cl 6 0 1 [102]) from e4.1.symm]; exact HS1.out.doT (Op.cl_wide (by decide) (by decide) (by decide))
  rw [show Op.doT (Op.xT1 v) (Op.cl 6 0 1 [102]) = (Op.xT4 v) from e4.1] at tm4 ⊢
  rw [show Op.doR (Op.xT1 v) (Op.cl 6 0 1 [102]) = (Op.xR4 v) from e4.2] at rm4 ⊢
  have HV4a := Lib.hid (HV3.out.below hb4)
  clear e4 hb4
  go_upto_region 8 with (first
    | (refine wpList_alloc_any rfl 27 rfl _ zero_Th ?_
       intro w4t hbt4 hst4 hwt4)
    | (refine wpList_alloc_any rfl 49 rfl _ zero_Rp ?_
       intro w4r hbr4 hsr4 hwr4
       have hbt24 : Bw w4r w4a.heap.size (tc Op.zeroT (.slice none 0 0)) 27 := Bw.below hbt4 hwr4)
    | (refine wpList_store_part rfl 27 (.tmp 14) (.tmp 50) rfl w4a.heap.size 0 (tc (Op.xT4 v) (.slice A4 24 k4)) rfl rfl 27 _ hbt24 size_Th (by simp [tc]) (tc_row _ _ _ _) ?_
       intro w4u hbu4 hsu4 hku4
       have hbr24 : Bw w4u w4t.heap.size (rc Rp.zero (.slice none 0 0) (.slice none 0 0)) 49 := Bw.keep hbr4 hku4 (by omega))
    | (refine wpList_store_part rfl 49 (.tmp 15) (.tmp 51) rfl w4t.heap.size 0 (rc (Op.xR4 v) (.slice B4 n4 d4) (.slice C4 m4 f4)) rfl rfl 49 _ hbr24 size_Rp (by simp [rc]) (rc_row _ _ _ _ _ _ _) ?_
       intro w4v hbv4 hsv4 hkv4))
  have hbe4 : Below w4a.heap.size w4a w4v := ((hwt4.trans (hwr4.mono (by omega))).trans (hku4.below2 (fun k hk => by omega))).trans (hkv4.below2 (fun k hk => by omega))
  have HV4 : Hid (VT w w4v [(g1t, .th A1 k1 (Op.xT1 v)), (g1r, .rp B1 n1 d1 C1 m1 f1 (Op.xR1 v)), (g2t, .th A2 k2 (Op.xT2 v o)), (g2r, .rp B2 n2 d2 C2 m2 f2 (Op.xR2 v o)), (g3t, .th A3 k3 (Op.xT3 v)), (g3r, .rp B3 n3 d3 C3 m3 f3 (Op.xR3 v)), (w4a.heap.size, .th A4 k4 (Op.xT4 v)), (w4t.heap.size, .rp B4 n4 d4 C4 m4 f4 (Op.xR4 v))]) := VT.push2 HV4a.out (g := w4a.heap.size) (g' := w4t.heap.size) (v := .th A4 k4 (Op.xT4 v)) (v' := .rp B4 n4 d4 C4 m4 f4 (Op.xR4 v)) (Nat.le_refl _) (by omega) (by omega) (Bw.keep hbu4 hkv4 (by omega)) hbv4 hbe4 tm4 rm4
  clear HV4a hbe4 hbt4 hst4 hwt4 hbr4 hsr4 hwr4 hbt24 hbu4 hsu4 hku4 hbr24 hbv4 hsv4 hkv4 tm4 rm4 HV3
  generalize w4t.heap.size = g4r at *
  generalize w4a.heap.size = g4t at *
  go_wp2_with (refine wpList_load_part rfl 27 (.tmp 8) rfl g1t 0 rfl _ Tryz.underlying27 rfl (tc (Op.xT1 v) (.slice A1 24 k1)) 27 _ (HV4.out.bw 0 rfl) size_Th (fun j u hu => by rw [Nat.zero_add]; exact hu) ?_)
  refine (HPK.out.run (Op.xT1 v) A1 k1 (Op.xC 0 h [104]) none 0 0 _ (show TM _ A1 k1 (Op.xT1 v) from HV4.out.ok 0 rfl) HS1.out (Op.xC_wide (by omega) hh) (Nat.le_of_ble_eq_true rfl) (Nat.le_of_ble_eq_true rfl) (Nat.le_of_ble_eq_true rfl) BS.nil (Nat.le_refl _)).mono ?_
  rintro e w5a ⟨A5, k5, B5, n5, d5, C5, m5, f5, rfl, tm5, rm5, hb5⟩
  have e5 := Op.do_step (c := (Op.xC 0 h [104])) HS1.out.inv.may (Nat.le_of_ble_eq_true rfl) (Nat.le_of_ble_eq_true rfl) (Nat.ne_of_beq_eq_false rfl)
  have HS5 : Hid (Op.Sound (Op.xT5 v h)) := by show Op.Sound _; rw [show (Op.xT5 v h) = Op.doT (Op.xT1 v) (Op.xC 0 h [104]) from e5.1.symm]; exact HS1.out.doT (Op.xC_wide (by omega) hh)
  rw [show Op.doT (Op.xT1 v) (Op.xC 0 h [104]) = (Op.xT5 v h) from e5.1] at tm5 ⊢
  rw [show Op.doR (Op.xT1 v) (Op.xC 0 h [104]) = (Op.xR5 v h) from e5.2] at rm5 ⊢
  have HV5a := Lib.hid (HV4.out.below hb5)
  clear e5 hb5
  go_upto_region 9 with (first
    | (refine wpList_alloc_any rfl 27 rfl _ zero_Th ?_
       intro w5t hbt5 hst5 hwt5)
    | (refine wpList_alloc_any rfl 49 rfl _ zero_Rp ?_
       intro w5r hbr5 hsr5 hwr5
       have hbt25 : Bw w5r w5a.heap.size (tc Op.zeroT (.slice none 0 0)) 27 := Bw.below hbt5 hwr5)
    | (refine wpList_store_part rfl 27 (.tmp 16) (.tmp 58) rfl w5a.heap.size 0 (tc (Op.xT5 v h) (.slice A5 24 k5)) rfl rfl 27 _ hbt25 size_Th (by simp [tc]) (tc_row _ _ _ _) ?_
       intro w5u hbu5 hsu5 hku5
       have hbr25 : Bw w5u w5t.heap.size (rc Rp.zero (.slice none 0 0) (.slice none 0 0)) 49 := Bw.keep hbr5 hku5 (by omega))
    | (refine wpList_store_part rfl 49 (.tmp 17) (.tmp 59) rfl w5t.heap.size 0 (rc (Op.xR5 v h) (.slice B5 n5 d5) (.slice C5 m5 f5)) rfl rfl 49 _ hbr25 size_Rp (by simp [rc]) (rc_row _ _ _ _ _ _ _) ?_
       intro w5v hbv5 hsv5 hkv5))
  have hbe5 : Below w5a.heap.size w5a w5v := ((hwt5.trans (hwr5.mono (by omega))).trans (hku5.below2 (fun k hk => by omega))).trans (hkv5.below2 (fun k hk => by omega))
  have HV5 : Hid (VT w w5v [(g1t, .th A1 k1 (Op.xT1 v)), (g1r, .rp B1 n1 d1 C1 m1 f1 (Op.xR1 v)), (g2t, .th A2 k2 (Op.xT2 v o)), (g2r, .rp B2 n2 d2 C2 m2 f2 (Op.xR2 v o)), (g3t, .th A3 k3 (Op.xT3 v)), (g3r, .rp B3 n3 d3 C3 m3 f3 (Op.xR3 v)), (g4t, .th A4 k4 (Op.xT4 v)), (g4r, .rp B4 n4 d4 C4 m4 f4 (Op.xR4 v)), (w5a.heap.size, .th A5 k5 (Op.xT5 v h)), (w5t.heap.size, .rp B5 n5 d5 C5 m5 f5 (Op.xR5 v h))]) := VT.push2 HV5a.out (g := w5a.heap.size) (g' := w5t.heap.size) (v := .th A5 k5 (Op.xT5 v h)) (v' := .rp B5 n5 d5 C5 m5 f5 (Op.xR5 v h)) (Nat.le_refl _) (by omega) (by omega) (Bw.keep hbu5 hkv5 (by omega)) hbv5 hbe5 tm5 rm5
  clear HV5a hbe5 hbt5 hst5 hwt5 hbr5 hsr5 hwr5 hbt25 hbu5 hsu5 hku5 hbr25 hbv5 hsv5 hkv5 tm5 rm5 HV4
  generalize w5t.heap.size = g5r at *
  generalize w5a.heap.size = g5t at *
  have y1 := Op.x1 v
  have y2 := Op.x2 v o
  have y3 := Op.x3 v
  have y4 := Op.x4 v
  have y5 := Op.x5 v h
  have a1 := HV5.out.cell 1 rfl 2 _ rfl
  have a2 := HV5.out.cell 1 rfl 3 _ rfl
  have a3 := HV5.out.cell 1 rfl 4 _ rfl
  have a4 := HV5.out.cell 0 rfl 1 _ rfl
  have a5 := HV5.out.cell 2 rfl 1 _ rfl
  have b1 := HV5.out.cell 3 rfl 2 _ rfl
  have b2 := HV5.out.cell 3 rfl 3 _ rfl
  have b3 := HV5.out.cell 3 rfl 4 _ rfl
  have c1 := HV5.out.cell 5 rfl 2 _ rfl
  have d1 := HV5.out.cell 7 rfl 2 _ rfl
  have d2 := HV5.out.cell 7 rfl 3 _ rfl
  have d3 := HV5.out.cell 7 rfl 4 _ rfl
  have e1 := HV5.out.cell 9 rfl 2 _ rfl
  have HBF : Hid (Below w.heap.size w w5v) := HV5.out.bel
  rw [y1.1] at a1
  rw [y1.2.1] at a2
  rw [y1.2.2.1] at a3
  rw [y1.2.2.2] at a4
  rw [y2.2] at a5
  have y2a := y2.1
  clear y2
  rw [y3] at c1
  rw [y4.1] at d1
  rw [y4.2.1] at d2
  rw [y4.2.2] at d3
  rw [y5] at e1
  obtain ⟨ze, hze⟩ : ∃ ze : Int, (if h ≤ 2 then (0 : Int) else 64) = ze := ⟨_, rfl⟩
  rw [hze] at e1
  have hz : (h ≤ 2 ∧ ze = 0) ∨ (¬ h ≤ 2 ∧ ze = 64) := by
    by_cases h2 : h ≤ 2
    · rw [if_pos h2] at hze; exact .inl ⟨h2, hze.symm⟩
    · rw [if_neg h2] at hze; exact .inr ⟨h2, hze.symm⟩
  clear y1 y3 y4 y5 hze HPK HV5 HS5 HS1 HS2 HS3 HS4 HT0
  by_cases hc : o ≠ 0 ∧ o = v
  · rw [if_pos hc] at y2a
    rw [y2a.1] at b1
    rw [y2a.2.1] at b2
    rw [y2a.2.2] at b3
    obtain ⟨h0, rfl⟩ := hc
    have hne : ((o : Int) != 0) = true := by simp; omega
    clear y2a h0
    rcases hz with ⟨h2, rfl⟩ | ⟨h2, rfl⟩
    · have k1 : decide ((h : Int) ≤ 2) = true := by simp; omega
      have k2 : decide (h ≤ 2) = true := by simpa using h2
      clear h2
      go_wp2_with fail
      go_ret
      exact ⟨rfl, HBF.out⟩
    · have k1 : decide ((h : Int) ≤ 2) = false := by simp; omega
      have k2 : decide (h ≤ 2) = false := by simpa using h2
      clear h2
      go_wp2_with fail
      go_ret
      exact ⟨rfl, HBF.out⟩
  · rw [if_neg hc] at y2a
    rw [y2a] at b1
    clear y2a
    by_cases hvo : v = o
    · subst hvo
      have h0 : v = 0 := by
        by_cases h0 : v = 0
        · exact h0
        · exact absurd ⟨h0, rfl⟩ hc
      have hne : ((v : Int) != 0) = false := by rw [h0]; rfl
      clear hc h0
      rcases hz with ⟨h2, rfl⟩ | ⟨h2, rfl⟩
      · have k1 : decide ((h : Int) ≤ 2) = true := by simp; omega
        have k2 : decide (h ≤ 2) = true := by simpa using h2
        clear h2
        go_wp2_with fail
        go_ret
        exact ⟨rfl, HBF.out⟩
      · have k1 : decide ((h : Int) ≤ 2) = false := by simp; omega
        have k2 : decide (h ≤ 2) = false := by simpa using h2
        clear h2
        go_wp2_with fail
        go_ret
        exact ⟨rfl, HBF.out⟩
    · have hne : ((v : Int) == (o : Int)) = false := by simp; omega
      clear hc hvo
      rcases hz with ⟨h2, rfl⟩ | ⟨h2, rfl⟩
      · have k1 : decide ((h : Int) ≤ 2) = true := by simp; omega
        have k2 : decide (h ≤ 2) = true := by simpa using h2
        clear h2
        go_wp2_with fail
        go_ret
        exact ⟨rfl, HBF.out⟩
      · have k1 : decide ((h : Int) ≤ 2) = false := by simp; omega
        have k2 : decide (h ≤ 2) = false := by simpa using h2
        clear h2
        go_wp2_with fail
        go_ret
        exact ⟨rfl, HBF.out⟩
end Go.Proofs.YtndnkfnhgakibaaGreat
