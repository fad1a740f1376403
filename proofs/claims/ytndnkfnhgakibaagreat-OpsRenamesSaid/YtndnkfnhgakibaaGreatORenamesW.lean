/-
  The law OpsRenames (layer 13).
-/
import Derived.Test.YtndnkfnhgakibaaGreatOAwake
import Derived.Test.YtndnkfnhgakibaaGreatONamed
import Derived.Test.YtndnkfnhgakibaaGreatOFin2
namespace Go.Proofs.YtndnkfnhgakibaaGreat
open Go.RowKit Go.Shelf
attribute [local go_sem] Oper.semAt_some

theorem Op.nmd_12 {k : Nat} (h : k < 4) : Op.nm12 (k % 12) = Op.nmd k := by
  have : ∀ k, k < 4 → Op.nm12 (k % 12) = Op.nmd k := by decide
  exact this k h
theorem Op.nmd_len {k : Nat} (h : k < 4) : (Op.nmd k).length ≤ 100 := by
  have : ∀ k, k < 4 → (Op.nmd k).length ≤ 100 := by decide
  exact this k h
theorem Op.nmd_inj {a b : Nat} (ha : a < 4) (hb : b < 4) (h : a ≠ b) : ((txt (Op.nmd a)).toList == (txt (Op.nmd b)).toList) = false := by
  have : ∀ a, a < 4 → ∀ b, b < 4 → a ≠ b → Op.nmd a ≠ Op.nmd b := by decide
  have h2 := this a ha b hb h
  rw [txt_toList, txt_toList]
  simpa using h2
theorem txtl_self (l : List UInt8) : ((txt l).toList == (txt l).toList) = true := by simp
theorem Op.rnC_wide (a b : Nat) : (Op.rnC a b).Wide := by constructor <;> (refine of_decide_eq_true ?_; kernel_rfl)
theorem Op.rnW_wide : ({ Op.cl 5 1 1 [] with dt := [111, 110, 101] } : Cl).Wide := by constructor <;> decide
theorem Op.rnD_wide : ({ Op.cl 4 1 1 [] with cnt := 9 } : Cl).Wide := by constructor <;> decide
set_option maxRecDepth 100000 in
set_option maxHeartbeats 16000000 in
theorem renames_walk (HP : Pk) (a b : Nat) (th : Bool) (w : World) (ha : a < 256) (hb : b < 256) :
    Calls Tryz.prog 7 #[.int .u8 (a : Int), .int .u8 (b : Int), .bool th] w fun e w' => e = .returned (.bool true) ∧ Below w.heap.size w w' := by
  have HPK := Lib.hid HP
  clear HP
  obtain ⟨x, hx⟩ : ∃ x, a % 4 = x := ⟨_, rfl⟩
  obtain ⟨y, hy⟩ : ∃ y, b % 4 = y := ⟨_, rfl⟩
  have hxi : (a : Int) % 4 = (x : Int) := by omega
  have hyi : (b : Int) % 4 = (y : Int) := by omega
  have hx4 : x < 4 := by omega
  have hy4 : y < 4 := by omega
  clear hx hy
  go_enter Tryz.func7, Tryz.ntmps7
  go_wp2_with fail
  refine (awakeO_any HPK.out w).mono ?_
  rintro e w0 ⟨rfl, hb0⟩
  have HB0 := Lib.hid hb0
  clear hb0
  go_wp2_with fail
  first | rw [hxi] | skip
  refine (lawnamed_any x w0 (by omega)).mono ?_
  rintro e w01 ⟨rfl, hb01⟩
  rw [Op.nmd_12 hx4]
  have HB01 := Lib.hid (HB0.out.trans (hb01.mono HB0.out.size))
  clear hb01 HB0
  go_wp2_with fail
  first | rw [hyi] | skip
  refine (lawnamed_any y w01 (by omega)).mono ?_
  rintro e w02 ⟨rfl, hb02⟩
  rw [Op.nmd_12 hy4]
  have HB02 := Lib.hid (HB01.out.trans (hb02.mono HB01.out.size))
  clear hb02 HB01
  go_wp2_with fail
  refine (HPK.out.format 20 w02 (by omega)).mono ?_
  rintro e w1 ⟨A0, k0, rfl, tm0, hb1⟩
  have HT0 := Lib.hid tm0
  have HV0 : Hid (VT w w1 []) := VT.nil (HB02.out.trans (hb1.mono HB02.out.size))
  have HS0 : Hid (Op.Sound (Op.format 20)) := Op.Sound.format
  clear tm0 hb1 HB02
  have hlx := Op.nmd_len hx4
  have hly := Op.nmd_len hy4
  go_wp2_with fail
  refine (HPK.out.run (Op.format 20) A0 k0 (Op.cl 6 0 1 (Op.nmd x)) none 0 0 _ HT0.out HS0.out (Op.cl_wide (by decide) (by decide) (by decide)) hlx (Nat.le_of_ble_eq_true rfl) (Nat.le_of_ble_eq_true rfl) BS.nil (Nat.le_refl _)).mono ?_
  rintro e w1a ⟨A1, k1, B1, n1, d1, C1, m1, f1, rfl, tm1, rm1, hb1⟩
  have e1 := Op.do_step (c := (Op.cl 6 0 1 (Op.nmd x))) HS0.out.inv.may (Nat.le_of_ble_eq_true rfl) (Nat.le_of_ble_eq_true rfl) (Nat.ne_of_beq_eq_false rfl)
  have HS1 : Hid (Op.Sound (Op.rnT1 x)) := by show Op.Sound _; rw [show (Op.rnT1 x) = Op.doT (Op.format 20) (Op.cl 6 0 1 (Op.nmd x)) from e1.1.symm]; exact HS0.out.doT (Op.cl_wide (by decide) (by decide) (by decide))
  rw [show Op.doT (Op.format 20) (Op.cl 6 0 1 (Op.nmd x)) = (Op.rnT1 x) from e1.1] at tm1 ⊢
  rw [show Op.doR (Op.format 20) (Op.cl 6 0 1 (Op.nmd x)) = (Op.rnR1 x) from e1.2] at rm1 ⊢
  have HV1a := Lib.hid (HV0.out.below hb1)
  clear e1 hb1
  go_upto_region 7 with (first
    | (refine wpList_alloc_any rfl 27 rfl _ zero_Th ?_
       intro w1t hbt1 hst1 hwt1)
    | (refine wpList_alloc_any rfl 49 rfl _ zero_Rp ?_
       intro w1r hbr1 hsr1 hwr1
       have hbt21 : Bw w1r w1a.heap.size (tc Op.zeroT (.slice none 0 0)) 27 := Bw.below hbt1 hwr1)
    | (refine wpList_store_part rfl 27 (.tmp 10) (.tmp 37) rfl w1a.heap.size 0 (tc (Op.rnT1 x) (.slice A1 24 k1)) rfl rfl 27 _ hbt21 size_Th (by simp [tc]) (tc_row _ _ _ _) ?_
       intro w1u hbu1 hsu1 hku1
       have hbr21 : Bw w1u w1t.heap.size (rc Rp.zero (.slice none 0 0) (.slice none 0 0)) 49 := Bw.keep hbr1 hku1 (by omega))
    | (refine wpList_store_part rfl 49 (.tmp 11) (.tmp 38) rfl w1t.heap.size 0 (rc (Op.rnR1 x) (.slice B1 n1 d1) (.slice C1 m1 f1)) rfl rfl 49 _ hbr21 size_Rp (by simp [rc]) (rc_row _ _ _ _ _ _ _) ?_
       intro w1v hbv1 hsv1 hkv1))
  have hbe1 : Below w1a.heap.size w1a w1v := ((hwt1.trans (hwr1.mono (by omega))).trans (hku1.below2 (fun k hk => by omega))).trans (hkv1.below2 (fun k hk => by omega))
  have HV1 : Hid (VT w w1v [(w1a.heap.size, .th A1 k1 (Op.rnT1 x)), (w1t.heap.size, .rp B1 n1 d1 C1 m1 f1 (Op.rnR1 x))]) := VT.push2 HV1a.out (g := w1a.heap.size) (g' := w1t.heap.size) (v := .th A1 k1 (Op.rnT1 x)) (v' := .rp B1 n1 d1 C1 m1 f1 (Op.rnR1 x)) (Nat.le_refl _) (by omega) (by omega) (Bw.keep hbu1 hkv1 (by omega)) hbv1 hbe1 tm1 rm1
  clear HV1a hbe1 hbt1 hst1 hwt1 hbr1 hsr1 hwr1 hbt21 hbu1 hsu1 hku1 hbr21 hbv1 hsv1 hkv1 tm1 rm1 HV0
  generalize w1t.heap.size = g1r at *
  generalize w1a.heap.size = g1t at *
  clear HT0
  have hr1 := HV1.out.cell 1 rfl 3 _ rfl
  have hr2 := HV1.out.cell 1 rfl 4 _ rfl
  rw [(Op.rn1 x hx4).2.1] at hr1
  rw [(Op.rn1 x hx4).2.2] at hr2
  have e1l : Below w1v.heap.size w1v (w1v.alloc (.cells #[.int .u8 111, .int .u8 110, .int .u8 101] 5 (3, 4))) := (Below.refl _ _).alloc (Nat.le_refl _) _
  have hcr := conv_const w1v #[.int .u8 111, .int .u8 110, .int .u8 101] 3 3 w1v.heap.size rfl
  have HVc2 := Lib.hid (HV1.out.below (e1l))
  go_wp2_with (refine wpList_load_part rfl 27 (.tmp 10) rfl g1t 0 rfl _ Tryz.underlying27 rfl (tc (Op.rnT1 x) (.slice A1 24 k1)) 27 _ (HV1.out.bw 0 rfl) size_Th (fun j u hu => by rw [Nat.zero_add]; exact hu) ?_)
  refine (HPK.out.run (Op.rnT1 x) A1 k1 { Op.cl 5 1 1 [] with dt := [111, 110, 101] } (some ⟨w1v.heap.size, 0, none⟩) 3 3 _ (show TM _ A1 k1 (Op.rnT1 x) from HVc2.out.ok 0 rfl) HS1.out Op.rnW_wide (Nat.le_of_ble_eq_true rfl) (Nat.le_of_ble_eq_true rfl) (Nat.le_of_ble_eq_true rfl) (BS.ofM (l := [111, 110, 101]) (heap_alloc_new w1v _)) (Nat.le_refl _)).mono ?_
  rintro e w2a ⟨A2, k2, B2, n2, d2, C2, m2, f2, rfl, tm2, rm2, hb2⟩
  have e2 := Op.do_step (c := { Op.cl 5 1 1 [] with dt := [111, 110, 101] }) HS1.out.inv.may (Nat.le_of_ble_eq_true rfl) (Nat.le_of_ble_eq_true rfl) (Nat.ne_of_beq_eq_false rfl)
  have HS2 : Hid (Op.Sound (Op.rnT2 x)) := by show Op.Sound _; rw [show (Op.rnT2 x) = Op.doT (Op.rnT1 x) { Op.cl 5 1 1 [] with dt := [111, 110, 101] } from e2.1.symm]; exact HS1.out.doT Op.rnW_wide
  rw [show Op.doT (Op.rnT1 x) { Op.cl 5 1 1 [] with dt := [111, 110, 101] } = (Op.rnT2 x) from e2.1] at tm2 ⊢
  rw [show Op.doR (Op.rnT1 x) { Op.cl 5 1 1 [] with dt := [111, 110, 101] } = (Op.step (Op.rnT1 x) { Op.cl 5 1 1 [] with dt := [111, 110, 101] }).2 from e2.2] at rm2 ⊢
  have HV2a := Lib.hid (HVc2.out.below hb2)
  clear e2 hb2
  go_upto_region 8 with (first
    | (refine wpList_store_part rfl 27 (.tmp 10) (.tmp 47) rfl g1t 0 (tc (Op.rnT2 x) (.slice A2 24 k2)) rfl rfl 27 _ (HV2a.out.bw 0 rfl) size_Th (by simp [tc, Vr.cells]) (tc_row _ _ _ _) ?_
       intro w2v hbu2 hsu2 hku2
       have HV2 : Hid (VT w w2v [(g1t, .th A2 k2 (Op.rnT2 x)), (g1r, .rp B1 n1 d1 C1 m1 f1 (Op.rnR1 x))]) := HV2a.out.put 0 (u := .th A2 k2 (Op.rnT2 x)) rfl hbu2 hku2 tm2
       skip
       clear hbu2 hsu2 hku2))
  clear HV2a tm2 rm2 HV1 HVc2
  go_upto_region 9 with (first
    | (refine wpList_alloc_any rfl 49 rfl _ zero_Rp ?_
       intro w3o hbo hso hwo
       have HVo : Hid (VT w w3o [(g1t, .th A2 k2 (Op.rnT2 x)), (g1r, .rp B1 n1 d1 C1 m1 f1 (Op.rnR1 x)), (w2v.heap.size, .rp none 0 0 none 0 0 Rp.zero)]) := HV2.out.push (g := w2v.heap.size) (v := .rp none 0 0 none 0 0 Rp.zero) (Nat.le_refl _) hbo hwo (RM.zero _)
       clear hbo hso hwo))
  clear HV2
  generalize w2v.heap.size = go at *
  have hway : th = false ∨ th = true ∧ x = y ∨ th = true ∧ x ≠ y := by
    cases th
    · exact .inl rfl
    · by_cases h : x = y
      · exact .inr (.inl ⟨rfl, h⟩)
      · exact .inr (.inr ⟨rfl, h⟩)
  rcases hway with rfl | ⟨rfl, hxy⟩ | ⟨rfl, hxy⟩
  · skip
    have hS : Op.rnT2 x = Op.rnS x y false := rfl
    have HSe := Lib.hid hS
    clear hS
    have HSq := HS2
    have HVq := HVo
    rw [show (Op.rnT2 x) = (Op.rnS x y false) from HSe.out] at HSq HVq
    clear HVo
    go_wp2_with (refine wpList_load_part rfl 27 (.tmp 10) rfl g1t 0 rfl _ Tryz.underlying27 rfl (tc (Op.rnS x y false) (.slice A2 24 k2)) 27 _ (HVq.out.bw 0 rfl) size_Th (fun j u hu => by rw [Nat.zero_add]; exact hu) ?_)
    refine (HPK.out.run (Op.rnS x y false) A2 k2 (Op.rnC x y) none 0 0 _ (show TM _ A2 k2 (Op.rnS x y false) from HVq.out.ok 0 rfl) HSq.out (Op.rnC_wide x y) hlx hly (Nat.le_of_ble_eq_true rfl) BS.nil (Nat.le_refl _)).mono ?_
    rintro e w3a ⟨A3, k3, B3, n3, d3, C3, m3, f3, rfl, tm3, rm3, hb3⟩
    have e3 := Op.do_stepR (c := (Op.rnC x y)) HSq.out.inv.may rfl (Op.rn4 x hx4 y hy4 false).1
    have HS3 : Hid (Op.Sound (Op.rnT4 x y false)) := by show Op.Sound _; rw [show (Op.rnT4 x y false) = Op.doT (Op.rnS x y false) (Op.rnC x y) from e3.1.symm]; exact HSq.out.doT (Op.rnC_wide x y)
    rw [show Op.doT (Op.rnS x y false) (Op.rnC x y) = (Op.rnT4 x y false) from e3.1] at tm3 ⊢
    rw [show Op.doR (Op.rnS x y false) (Op.rnC x y) = (Op.rnR4 x y false) from e3.2] at rm3 ⊢
    have HV3a := Lib.hid (HVq.out.below hb3)
    clear e3 hb3
    go_upto_region 12 with (first
      | (refine wpList_alloc_any rfl 49 rfl _ zero_Rp ?_
         intro w3r hbr3 hsr3 hwr3
         have HV3r : Hid (VT w w3r [(g1t, .th A2 k2 (Op.rnS x y false)), (g1r, .rp B1 n1 d1 C1 m1 f1 (Op.rnR1 x)), (go, .rp none 0 0 none 0 0 Rp.zero), (w3a.heap.size, .rp none 0 0 none 0 0 Rp.zero)]) := HV3a.out.push (g := w3a.heap.size) (v := .rp none 0 0 none 0 0 Rp.zero) (Nat.le_refl _) hbr3 hwr3 (RM.zero _)
         have tmr3 := TM.below tm3 hwr3
         have rmr3 := RM.below rm3 hwr3
         clear hbr3 hsr3)
      | (refine wpList_store_part rfl 27 (.tmp 10) (.tmp 71) rfl g1t 0 (tc (Op.rnT4 x y false) (.slice A3 24 k3)) rfl rfl 27 _ (HV3r.out.bw 0 rfl) size_Th (by simp [tc, Vr.cells]) (tc_row _ _ _ _) ?_
         intro w3u hbu3 hsu3 hku3
         have HV3u : Hid (VT w w3u [(g1t, .th A3 k3 (Op.rnT4 x y false)), (g1r, .rp B1 n1 d1 C1 m1 f1 (Op.rnR1 x)), (go, .rp none 0 0 none 0 0 Rp.zero), (w3a.heap.size, .rp none 0 0 none 0 0 Rp.zero)]) := HV3r.out.put 0 (u := .th A3 k3 (Op.rnT4 x y false)) rfl hbu3 hku3 tmr3
         have rmu3 : RM w3u B3 n3 d3 C3 m3 f3 (Op.rnR4 x y false) := Vr.ok.offV (v := .rp B3 n3 d3 C3 m3 f3 (Op.rnR4 x y false)) (HV3r.out.bw 0 rfl) rmr3 hku3
         clear hbu3 hsu3 hku3 rmr3 tmr3)
      | (refine wpList_store_part rfl 49 (.tmp 13) (.tmp 72) rfl w3a.heap.size 0 (rc (Op.rnR4 x y false) (.slice B3 n3 d3) (.slice C3 m3 f3)) rfl rfl 49 _ (HV3u.out.bw 3 rfl) size_Rp (by simp [rc, Vr.cells]) (rc_row _ _ _ _ _ _ _) ?_
         intro w3v hbv3 hsv3 hkv3
         have HV3 : Hid (VT w w3v [(g1t, .th A3 k3 (Op.rnT4 x y false)), (g1r, .rp B1 n1 d1 C1 m1 f1 (Op.rnR1 x)), (go, .rp none 0 0 none 0 0 Rp.zero), (w3a.heap.size, .rp B3 n3 d3 C3 m3 f3 (Op.rnR4 x y false))]) := HV3u.out.put 3 (u := .rp B3 n3 d3 C3 m3 f3 (Op.rnR4 x y false)) rfl hbv3 hkv3 rmu3
         clear hbv3 hsv3 hkv3 rmu3))
    clear HV3a HV3r HV3u hwr3 tm3 rm3 HVq
    generalize w3a.heap.size = g3r at *
    go_wp2_with (refine wpList_load_part rfl 27 (.tmp 10) rfl g1t 0 rfl _ Tryz.underlying27 rfl (tc (Op.rnT4 x y false) (.slice A3 24 k3)) 27 _ (HV3.out.bw 0 rfl) size_Th (fun j u hu => by rw [Nat.zero_add]; exact hu) ?_)
    refine (HPK.out.run (Op.rnT4 x y false) A3 k3 (Op.cl 1 0 1 (Op.nmd y)) none 0 0 _ (show TM _ A3 k3 (Op.rnT4 x y false) from HV3.out.ok 0 rfl) HS3.out (Op.cl_wide (by decide) (by decide) (by decide)) hly (Nat.le_of_ble_eq_true rfl) (Nat.le_of_ble_eq_true rfl) BS.nil (Nat.le_refl _)).mono ?_
    rintro e w4a ⟨A4, k4, B4, n4, d4, C4, m4, f4, rfl, tm4, rm4, hb4⟩
    have e4 := Op.do_step (c := (Op.cl 1 0 1 (Op.nmd y))) HS3.out.inv.may (Nat.le_of_ble_eq_true rfl) (Nat.le_of_ble_eq_true rfl) (Nat.ne_of_beq_eq_false rfl)
    have HS4 : Hid (Op.Sound (Op.step (Op.rnT4 x y false) (Op.cl 1 0 1 (Op.nmd y))).1) := by show Op.Sound _; rw [show (Op.step (Op.rnT4 x y false) (Op.cl 1 0 1 (Op.nmd y))).1 = Op.doT (Op.rnT4 x y false) (Op.cl 1 0 1 (Op.nmd y)) from e4.1.symm]; exact HS3.out.doT (Op.cl_wide (by decide) (by decide) (by decide))
    rw [show Op.doT (Op.rnT4 x y false) (Op.cl 1 0 1 (Op.nmd y)) = (Op.step (Op.rnT4 x y false) (Op.cl 1 0 1 (Op.nmd y))).1 from e4.1] at tm4 ⊢
    rw [show Op.doR (Op.rnT4 x y false) (Op.cl 1 0 1 (Op.nmd y)) = (Op.step (Op.rnT4 x y false) (Op.cl 1 0 1 (Op.nmd y))).2 from e4.2] at rm4 ⊢
    have HV4a := Lib.hid (HV3.out.below hb4)
    clear e4 hb4
    go_upto_region 13 with (first
      | (refine wpList_alloc_any rfl 27 rfl _ zero_Th ?_
         intro w4t hbt4 hst4 hwt4)
      | (refine wpList_alloc_any rfl 49 rfl _ zero_Rp ?_
         intro w4r hbr4 hsr4 hwr4
         have hbt24 : Bw w4r w4a.heap.size (tc Op.zeroT (.slice none 0 0)) 27 := Bw.below hbt4 hwr4)
      | (refine wpList_store_part rfl 27 (.tmp 14) (.tmp 79) rfl w4a.heap.size 0 (tc (Op.step (Op.rnT4 x y false) (Op.cl 1 0 1 (Op.nmd y))).1 (.slice A4 24 k4)) rfl rfl 27 _ hbt24 size_Th (by simp [tc]) (tc_row _ _ _ _) ?_
         intro w4u hbu4 hsu4 hku4
         have hbr24 : Bw w4u w4t.heap.size (rc Rp.zero (.slice none 0 0) (.slice none 0 0)) 49 := Bw.keep hbr4 hku4 (by omega))
      | (refine wpList_store_part rfl 49 (.tmp 15) (.tmp 80) rfl w4t.heap.size 0 (rc (Op.step (Op.rnT4 x y false) (Op.cl 1 0 1 (Op.nmd y))).2 (.slice B4 n4 d4) (.slice C4 m4 f4)) rfl rfl 49 _ hbr24 size_Rp (by simp [rc]) (rc_row _ _ _ _ _ _ _) ?_
         intro w4v hbv4 hsv4 hkv4))
    have hbe4 : Below w4a.heap.size w4a w4v := ((hwt4.trans (hwr4.mono (by omega))).trans (hku4.below2 (fun k hk => by omega))).trans (hkv4.below2 (fun k hk => by omega))
    have HV4 : Hid (VT w w4v [(g1t, .th A3 k3 (Op.rnT4 x y false)), (g1r, .rp B1 n1 d1 C1 m1 f1 (Op.rnR1 x)), (go, .rp none 0 0 none 0 0 Rp.zero), (g3r, .rp B3 n3 d3 C3 m3 f3 (Op.rnR4 x y false)), (w4t.heap.size, .rp B4 n4 d4 C4 m4 f4 (Op.step (Op.rnT4 x y false) (Op.cl 1 0 1 (Op.nmd y))).2)]) := HV4a.out.push (g := w4t.heap.size) (v := .rp B4 n4 d4 C4 m4 f4 (Op.step (Op.rnT4 x y false) (Op.cl 1 0 1 (Op.nmd y))).2) (by omega) hbv4 hbe4 rm4 
    clear HV4a hbe4 hbt4 hst4 hwt4 hbr4 hsr4 hwr4 hbt24 hbu4 hsu4 hku4 hbr24 hbv4 hsv4 hkv4 tm4 rm4 HV3
    generalize w4t.heap.size = g4r at *
    generalize w4a.heap.size = g4t at *
    go_wp2_with (refine wpList_load_part rfl 27 (.tmp 10) rfl g1t 0 rfl _ Tryz.underlying27 rfl (tc (Op.rnT4 x y false) (.slice A3 24 k3)) 27 _ (HV4.out.bw 0 rfl) size_Th (fun j u hu => by rw [Nat.zero_add]; exact hu) ?_)
    refine (HPK.out.run (Op.rnT4 x y false) A3 k3 (Op.cl 1 0 1 (Op.nmd x)) none 0 0 _ (show TM _ A3 k3 (Op.rnT4 x y false) from HV4.out.ok 0 rfl) HS3.out (Op.cl_wide (by decide) (by decide) (by decide)) hlx (Nat.le_of_ble_eq_true rfl) (Nat.le_of_ble_eq_true rfl) BS.nil (Nat.le_refl _)).mono ?_
    rintro e w5a ⟨A5, k5, B5, n5, d5, C5, m5, f5, rfl, tm5, rm5, hb5⟩
    have e5 := Op.do_step (c := (Op.cl 1 0 1 (Op.nmd x))) HS3.out.inv.may (Nat.le_of_ble_eq_true rfl) (Nat.le_of_ble_eq_true rfl) (Nat.ne_of_beq_eq_false rfl)
    have HS5 : Hid (Op.Sound (Op.step (Op.rnT4 x y false) (Op.cl 1 0 1 (Op.nmd x))).1) := by show Op.Sound _; rw [show (Op.step (Op.rnT4 x y false) (Op.cl 1 0 1 (Op.nmd x))).1 = Op.doT (Op.rnT4 x y false) (Op.cl 1 0 1 (Op.nmd x)) from e5.1.symm]; exact HS3.out.doT (Op.cl_wide (by decide) (by decide) (by decide))
    rw [show Op.doT (Op.rnT4 x y false) (Op.cl 1 0 1 (Op.nmd x)) = (Op.step (Op.rnT4 x y false) (Op.cl 1 0 1 (Op.nmd x))).1 from e5.1] at tm5 ⊢
    rw [show Op.doR (Op.rnT4 x y false) (Op.cl 1 0 1 (Op.nmd x)) = (Op.step (Op.rnT4 x y false) (Op.cl 1 0 1 (Op.nmd x))).2 from e5.2] at rm5 ⊢
    have HV5a := Lib.hid (HV4.out.below hb5)
    clear e5 hb5
    go_upto_region 14 with (first
      | (refine wpList_alloc_any rfl 27 rfl _ zero_Th ?_
         intro w5t hbt5 hst5 hwt5)
      | (refine wpList_alloc_any rfl 49 rfl _ zero_Rp ?_
         intro w5r hbr5 hsr5 hwr5
         have hbt25 : Bw w5r w5a.heap.size (tc Op.zeroT (.slice none 0 0)) 27 := Bw.below hbt5 hwr5)
      | (refine wpList_store_part rfl 27 (.tmp 16) (.tmp 87) rfl w5a.heap.size 0 (tc (Op.step (Op.rnT4 x y false) (Op.cl 1 0 1 (Op.nmd x))).1 (.slice A5 24 k5)) rfl rfl 27 _ hbt25 size_Th (by simp [tc]) (tc_row _ _ _ _) ?_
         intro w5u hbu5 hsu5 hku5
         have hbr25 : Bw w5u w5t.heap.size (rc Rp.zero (.slice none 0 0) (.slice none 0 0)) 49 := Bw.keep hbr5 hku5 (by omega))
      | (refine wpList_store_part rfl 49 (.tmp 17) (.tmp 88) rfl w5t.heap.size 0 (rc (Op.step (Op.rnT4 x y false) (Op.cl 1 0 1 (Op.nmd x))).2 (.slice B5 n5 d5) (.slice C5 m5 f5)) rfl rfl 49 _ hbr25 size_Rp (by simp [rc]) (rc_row _ _ _ _ _ _ _) ?_
         intro w5v hbv5 hsv5 hkv5))
    have hbe5 : Below w5a.heap.size w5a w5v := ((hwt5.trans (hwr5.mono (by omega))).trans (hku5.below2 (fun k hk => by omega))).trans (hkv5.below2 (fun k hk => by omega))
    have HV5 : Hid (VT w w5v [(g1t, .th A3 k3 (Op.rnT4 x y false)), (g1r, .rp B1 n1 d1 C1 m1 f1 (Op.rnR1 x)), (go, .rp none 0 0 none 0 0 Rp.zero), (g3r, .rp B3 n3 d3 C3 m3 f3 (Op.rnR4 x y false)), (g4r, .rp B4 n4 d4 C4 m4 f4 (Op.step (Op.rnT4 x y false) (Op.cl 1 0 1 (Op.nmd y))).2), (w5t.heap.size, .rp B5 n5 d5 C5 m5 f5 (Op.step (Op.rnT4 x y false) (Op.cl 1 0 1 (Op.nmd x))).2)]) := HV5a.out.push (g := w5t.heap.size) (v := .rp B5 n5 d5 C5 m5 f5 (Op.step (Op.rnT4 x y false) (Op.cl 1 0 1 (Op.nmd x))).2) (by omega) hbv5 hbe5 rm5 
    clear HV5a hbe5 hbt5 hst5 hwt5 hbr5 hsr5 hwr5 hbt25 hbu5 hsu5 hku5 hbr25 hbv5 hsv5 hkv5 tm5 rm5 HV4
    generalize w5t.heap.size = g5r at *
    generalize w5a.heap.size = g5t at *
    have hr1 := HV5.out.cell 1 rfl 3 _ rfl
    have hr2 := HV5.out.cell 1 rfl 4 _ rfl
    rw [(Op.rn1 x hx4).2.1] at hr1
    rw [(Op.rn1 x hx4).2.2] at hr2
    go_wp2_with (refine wpList_load_part rfl 27 (.tmp 10) rfl g1t 0 rfl _ Tryz.underlying27 rfl (tc (Op.rnT4 x y false) (.slice A3 24 k3)) 27 _ (HV5.out.bw 0 rfl) size_Th (fun j u hu => by rw [Nat.zero_add]; exact hu) ?_)
    refine (HPK.out.run (Op.rnT4 x y false) A3 k3 { Op.cl 4 1 1 [] with cnt := 9 } none 0 0 _ (show TM _ A3 k3 (Op.rnT4 x y false) from HV5.out.ok 0 rfl) HS3.out Op.rnD_wide (Nat.le_of_ble_eq_true rfl) (Nat.le_of_ble_eq_true rfl) (Nat.le_of_ble_eq_true rfl) BS.nil (Nat.le_refl _)).mono ?_
    rintro e w6a ⟨A6, k6, B6, n6, d6, C6, m6, f6, rfl, tm6, rm6, hb6⟩
    have e6 := Op.do_step (c := { Op.cl 4 1 1 [] with cnt := 9 }) HS3.out.inv.may (Nat.le_of_ble_eq_true rfl) (Nat.le_of_ble_eq_true rfl) (Nat.ne_of_beq_eq_false rfl)
    have HS6 : Hid (Op.Sound (Op.step (Op.rnT4 x y false) { Op.cl 4 1 1 [] with cnt := 9 }).1) := by show Op.Sound _; rw [show (Op.step (Op.rnT4 x y false) { Op.cl 4 1 1 [] with cnt := 9 }).1 = Op.doT (Op.rnT4 x y false) { Op.cl 4 1 1 [] with cnt := 9 } from e6.1.symm]; exact HS3.out.doT Op.rnD_wide
    rw [show Op.doT (Op.rnT4 x y false) { Op.cl 4 1 1 [] with cnt := 9 } = (Op.step (Op.rnT4 x y false) { Op.cl 4 1 1 [] with cnt := 9 }).1 from e6.1] at tm6 ⊢
    rw [show Op.doR (Op.rnT4 x y false) { Op.cl 4 1 1 [] with cnt := 9 } = (Op.step (Op.rnT4 x y false) { Op.cl 4 1 1 [] with cnt := 9 }).2 from e6.2] at rm6 ⊢
    have HV6a := Lib.hid (HV5.out.below hb6)
    clear e6 hb6
    go_upto_region 15 with (first
      | (refine wpList_alloc_any rfl 27 rfl _ zero_Th ?_
         intro w6t hbt6 hst6 hwt6)
      | (refine wpList_alloc_any rfl 49 rfl _ zero_Rp ?_
         intro w6r hbr6 hsr6 hwr6
         have hbt26 : Bw w6r w6a.heap.size (tc Op.zeroT (.slice none 0 0)) 27 := Bw.below hbt6 hwr6)
      | (refine wpList_store_part rfl 27 (.tmp 18) (.tmp 95) rfl w6a.heap.size 0 (tc (Op.step (Op.rnT4 x y false) { Op.cl 4 1 1 [] with cnt := 9 }).1 (.slice A6 24 k6)) rfl rfl 27 _ hbt26 size_Th (by simp [tc]) (tc_row _ _ _ _) ?_
         intro w6u hbu6 hsu6 hku6
         have hbr26 : Bw w6u w6t.heap.size (rc Rp.zero (.slice none 0 0) (.slice none 0 0)) 49 := Bw.keep hbr6 hku6 (by omega))
      | (refine wpList_store_part rfl 49 (.tmp 19) (.tmp 96) rfl w6t.heap.size 0 (rc (Op.step (Op.rnT4 x y false) { Op.cl 4 1 1 [] with cnt := 9 }).2 (.slice B6 n6 d6) (.slice C6 m6 f6)) rfl rfl 49 _ hbr26 size_Rp (by simp [rc]) (rc_row _ _ _ _ _ _ _) ?_
         intro w6v hbv6 hsv6 hkv6))
    have hbe6 : Below w6a.heap.size w6a w6v := ((hwt6.trans (hwr6.mono (by omega))).trans (hku6.below2 (fun k hk => by omega))).trans (hkv6.below2 (fun k hk => by omega))
    have HV6 : Hid (VT w w6v [(g1t, .th A3 k3 (Op.rnT4 x y false)), (g1r, .rp B1 n1 d1 C1 m1 f1 (Op.rnR1 x)), (go, .rp none 0 0 none 0 0 Rp.zero), (g3r, .rp B3 n3 d3 C3 m3 f3 (Op.rnR4 x y false)), (g4r, .rp B4 n4 d4 C4 m4 f4 (Op.step (Op.rnT4 x y false) (Op.cl 1 0 1 (Op.nmd y))).2), (g5r, .rp B5 n5 d5 C5 m5 f5 (Op.step (Op.rnT4 x y false) (Op.cl 1 0 1 (Op.nmd x))).2), (w6t.heap.size, .rp B6 n6 d6 C6 m6 f6 (Op.step (Op.rnT4 x y false) { Op.cl 4 1 1 [] with cnt := 9 }).2)]) := HV6a.out.push (g := w6t.heap.size) (v := .rp B6 n6 d6 C6 m6 f6 (Op.step (Op.rnT4 x y false) { Op.cl 4 1 1 [] with cnt := 9 }).2) (by omega) hbv6 hbe6 rm6 
    clear HV6a hbe6 hbt6 hst6 hwt6 hbr6 hsr6 hwr6 hbt26 hbu6 hsu6 hku6 hbr26 hbv6 hsv6 hkv6 tm6 rm6 HV5
    generalize w6t.heap.size = g6r at *
    generalize w6a.heap.size = g6t at *
    clear hr1 hr2
    have f4 := (Op.rn4 x hx4 y hy4 false).2
    have f5 := Op.rn5 x hx4 y hy4 false
    have r1 := HV6.out.cell 1 rfl 3 _ rfl
    have r2 := HV6.out.cell 1 rfl 4 _ rfl
    rw [(Op.rn1 x hx4).2.1] at r1
    rw [(Op.rn1 x hx4).2.2] at r2
    have q2 := HV6.out.cell 3 rfl 2 _ rfl
    rw [f4] at q2
    have s2 := HV6.out.cell 4 rfl 2 _ rfl
    rw [f5.1] at s2
    have s3 := HV6.out.cell 4 rfl 3 _ rfl
    rw [f5.2.1] at s3
    have s4 := HV6.out.cell 4 rfl 4 _ rfl
    rw [f5.2.2.1] at s4
    have u2 := HV6.out.cell 5 rfl 2 _ rfl
    have v10 := HV6.out.cell 6 rfl 10 _ rfl
    have hrm := (show RM _ B6 n6 d6 C6 m6 f6 _ from HV6.out.ok 6 rfl).data
    rw [f5.2.2.2.2] at hrm
    have hcv : (convert 38 9 (.slice B6 n6 d6)).run Tryz.prog w6v = .ok (.string ⟨#[111, 110, 101]⟩) w6v := run_convert_bs w6v B6 n6 d6 _ hrm
    have HBF : Hid (Below w.heap.size w w6v) := HV6.out.bel
    have fu := f5.2.2.2.1
    clear f4 f5 hrm
    obtain ⟨zu, hzu⟩ : ∃ z, (Op.step (Op.rnT4 x y false) (Op.cl 1 0 1 (Op.nmd x))).2.st = z := ⟨_, rfl⟩
    rw [hzu] at fu
    rw [show ((Op.step (Op.rnT4 x y false) (Op.cl 1 0 1 (Op.nmd x))).2.st : Int) = zu from hzu] at u2
    clear hzu
    clear HPK HS0 HS1 HS2 HSq HS3 HS4 HS5 HS6 HV6
    by_cases hxy : x = y
    · have hxx : ((txt (Op.nmd x)).toList == (txt (Op.nmd y)).toList) = true := by rw [hxy]; exact txtl_self _
      have hz := fu.2 hxy
      rw [hz] at u2
      clear fu hz hxy
      generalize txt (Op.nmd x) = X at *
      generalize txt (Op.nmd y) = Y at *
      go_wp2_with fail
      go_ret
      exact ⟨rfl, HBF.out⟩
    · have hxx := Op.nmd_inj hx4 hy4 hxy
      have hz : ¬ zu = 0 := fun h => hxy (fu.1 h)
      have hzb : (zu == 0) = false := by simpa using hz
      clear fu hxy
      generalize txt (Op.nmd x) = X at *
      generalize txt (Op.nmd y) = Y at *
      go_wp2_with fail
      go_ret
      exact ⟨rfl, HBF.out⟩
  · skip
    subst hxy
    have hS : Op.rnT2 x = Op.rnS x x true := by unfold Op.rnS; simp
    have HSe := Lib.hid hS
    clear hS
    have hxx : ((txt (Op.nmd x)).toList == (txt (Op.nmd x)).toList) = true := txtl_self _
    have HSq := HS2
    have HVq := HVo
    rw [show (Op.rnT2 x) = (Op.rnS x x true) from HSe.out] at HSq HVq
    clear HVo
    go_wp2_with (refine wpList_load_part rfl 27 (.tmp 10) rfl g1t 0 rfl _ Tryz.underlying27 rfl (tc (Op.rnS x x true) (.slice A2 24 k2)) 27 _ (HVq.out.bw 0 rfl) size_Th (fun j u hu => by rw [Nat.zero_add]; exact hu) ?_)
    refine (HPK.out.run (Op.rnS x x true) A2 k2 (Op.rnC x x) none 0 0 _ (show TM _ A2 k2 (Op.rnS x x true) from HVq.out.ok 0 rfl) HSq.out (Op.rnC_wide x x) hlx hly (Nat.le_of_ble_eq_true rfl) BS.nil (Nat.le_refl _)).mono ?_
    rintro e w3a ⟨A3, k3, B3, n3, d3, C3, m3, f3, rfl, tm3, rm3, hb3⟩
    have e3 := Op.do_stepR (c := (Op.rnC x x)) HSq.out.inv.may rfl (Op.rn4 x hx4 x hy4 true).1
    have HS3 : Hid (Op.Sound (Op.rnT4 x x true)) := by show Op.Sound _; rw [show (Op.rnT4 x x true) = Op.doT (Op.rnS x x true) (Op.rnC x x) from e3.1.symm]; exact HSq.out.doT (Op.rnC_wide x x)
    rw [show Op.doT (Op.rnS x x true) (Op.rnC x x) = (Op.rnT4 x x true) from e3.1] at tm3 ⊢
    rw [show Op.doR (Op.rnS x x true) (Op.rnC x x) = (Op.rnR4 x x true) from e3.2] at rm3 ⊢
    have HV3a := Lib.hid (HVq.out.below hb3)
    clear e3 hb3
    go_upto_region 12 with (first
      | (refine wpList_alloc_any rfl 49 rfl _ zero_Rp ?_
         intro w3r hbr3 hsr3 hwr3
         have HV3r : Hid (VT w w3r [(g1t, .th A2 k2 (Op.rnS x x true)), (g1r, .rp B1 n1 d1 C1 m1 f1 (Op.rnR1 x)), (go, .rp none 0 0 none 0 0 Rp.zero), (w3a.heap.size, .rp none 0 0 none 0 0 Rp.zero)]) := HV3a.out.push (g := w3a.heap.size) (v := .rp none 0 0 none 0 0 Rp.zero) (Nat.le_refl _) hbr3 hwr3 (RM.zero _)
         have tmr3 := TM.below tm3 hwr3
         have rmr3 := RM.below rm3 hwr3
         clear hbr3 hsr3)
      | (refine wpList_store_part rfl 27 (.tmp 10) (.tmp 71) rfl g1t 0 (tc (Op.rnT4 x x true) (.slice A3 24 k3)) rfl rfl 27 _ (HV3r.out.bw 0 rfl) size_Th (by simp [tc, Vr.cells]) (tc_row _ _ _ _) ?_
         intro w3u hbu3 hsu3 hku3
         have HV3u : Hid (VT w w3u [(g1t, .th A3 k3 (Op.rnT4 x x true)), (g1r, .rp B1 n1 d1 C1 m1 f1 (Op.rnR1 x)), (go, .rp none 0 0 none 0 0 Rp.zero), (w3a.heap.size, .rp none 0 0 none 0 0 Rp.zero)]) := HV3r.out.put 0 (u := .th A3 k3 (Op.rnT4 x x true)) rfl hbu3 hku3 tmr3
         have rmu3 : RM w3u B3 n3 d3 C3 m3 f3 (Op.rnR4 x x true) := Vr.ok.offV (v := .rp B3 n3 d3 C3 m3 f3 (Op.rnR4 x x true)) (HV3r.out.bw 0 rfl) rmr3 hku3
         clear hbu3 hsu3 hku3 rmr3 tmr3)
      | (refine wpList_store_part rfl 49 (.tmp 13) (.tmp 72) rfl w3a.heap.size 0 (rc (Op.rnR4 x x true) (.slice B3 n3 d3) (.slice C3 m3 f3)) rfl rfl 49 _ (HV3u.out.bw 3 rfl) size_Rp (by simp [rc, Vr.cells]) (rc_row _ _ _ _ _ _ _) ?_
         intro w3v hbv3 hsv3 hkv3
         have HV3 : Hid (VT w w3v [(g1t, .th A3 k3 (Op.rnT4 x x true)), (g1r, .rp B1 n1 d1 C1 m1 f1 (Op.rnR1 x)), (go, .rp none 0 0 none 0 0 Rp.zero), (w3a.heap.size, .rp B3 n3 d3 C3 m3 f3 (Op.rnR4 x x true))]) := HV3u.out.put 3 (u := .rp B3 n3 d3 C3 m3 f3 (Op.rnR4 x x true)) rfl hbv3 hkv3 rmu3
         clear hbv3 hsv3 hkv3 rmu3))
    clear HV3a HV3r HV3u hwr3 tm3 rm3 HVq
    generalize w3a.heap.size = g3r at *
    go_wp2_with (refine wpList_load_part rfl 27 (.tmp 10) rfl g1t 0 rfl _ Tryz.underlying27 rfl (tc (Op.rnT4 x x true) (.slice A3 24 k3)) 27 _ (HV3.out.bw 0 rfl) size_Th (fun j u hu => by rw [Nat.zero_add]; exact hu) ?_)
    refine (HPK.out.run (Op.rnT4 x x true) A3 k3 (Op.cl 1 0 1 (Op.nmd x)) none 0 0 _ (show TM _ A3 k3 (Op.rnT4 x x true) from HV3.out.ok 0 rfl) HS3.out (Op.cl_wide (by decide) (by decide) (by decide)) hly (Nat.le_of_ble_eq_true rfl) (Nat.le_of_ble_eq_true rfl) BS.nil (Nat.le_refl _)).mono ?_
    rintro e w4a ⟨A4, k4, B4, n4, d4, C4, m4, f4, rfl, tm4, rm4, hb4⟩
    have e4 := Op.do_step (c := (Op.cl 1 0 1 (Op.nmd x))) HS3.out.inv.may (Nat.le_of_ble_eq_true rfl) (Nat.le_of_ble_eq_true rfl) (Nat.ne_of_beq_eq_false rfl)
    have HS4 : Hid (Op.Sound (Op.step (Op.rnT4 x x true) (Op.cl 1 0 1 (Op.nmd x))).1) := by show Op.Sound _; rw [show (Op.step (Op.rnT4 x x true) (Op.cl 1 0 1 (Op.nmd x))).1 = Op.doT (Op.rnT4 x x true) (Op.cl 1 0 1 (Op.nmd x)) from e4.1.symm]; exact HS3.out.doT (Op.cl_wide (by decide) (by decide) (by decide))
    rw [show Op.doT (Op.rnT4 x x true) (Op.cl 1 0 1 (Op.nmd x)) = (Op.step (Op.rnT4 x x true) (Op.cl 1 0 1 (Op.nmd x))).1 from e4.1] at tm4 ⊢
    rw [show Op.doR (Op.rnT4 x x true) (Op.cl 1 0 1 (Op.nmd x)) = (Op.step (Op.rnT4 x x true) (Op.cl 1 0 1 (Op.nmd x))).2 from e4.2] at rm4 ⊢
    have HV4a := Lib.hid (HV3.out.below hb4)
    clear e4 hb4
    go_upto_region 13 with (first
      | (refine wpList_alloc_any rfl 27 rfl _ zero_Th ?_
         intro w4t hbt4 hst4 hwt4)
      | (refine wpList_alloc_any rfl 49 rfl _ zero_Rp ?_
         intro w4r hbr4 hsr4 hwr4
         have hbt24 : Bw w4r w4a.heap.size (tc Op.zeroT (.slice none 0 0)) 27 := Bw.below hbt4 hwr4)
      | (refine wpList_store_part rfl 27 (.tmp 14) (.tmp 79) rfl w4a.heap.size 0 (tc (Op.step (Op.rnT4 x x true) (Op.cl 1 0 1 (Op.nmd x))).1 (.slice A4 24 k4)) rfl rfl 27 _ hbt24 size_Th (by simp [tc]) (tc_row _ _ _ _) ?_
         intro w4u hbu4 hsu4 hku4
         have hbr24 : Bw w4u w4t.heap.size (rc Rp.zero (.slice none 0 0) (.slice none 0 0)) 49 := Bw.keep hbr4 hku4 (by omega))
      | (refine wpList_store_part rfl 49 (.tmp 15) (.tmp 80) rfl w4t.heap.size 0 (rc (Op.step (Op.rnT4 x x true) (Op.cl 1 0 1 (Op.nmd x))).2 (.slice B4 n4 d4) (.slice C4 m4 f4)) rfl rfl 49 _ hbr24 size_Rp (by simp [rc]) (rc_row _ _ _ _ _ _ _) ?_
         intro w4v hbv4 hsv4 hkv4))
    have hbe4 : Below w4a.heap.size w4a w4v := ((hwt4.trans (hwr4.mono (by omega))).trans (hku4.below2 (fun k hk => by omega))).trans (hkv4.below2 (fun k hk => by omega))
    have HV4 : Hid (VT w w4v [(g1t, .th A3 k3 (Op.rnT4 x x true)), (g1r, .rp B1 n1 d1 C1 m1 f1 (Op.rnR1 x)), (go, .rp none 0 0 none 0 0 Rp.zero), (g3r, .rp B3 n3 d3 C3 m3 f3 (Op.rnR4 x x true)), (w4t.heap.size, .rp B4 n4 d4 C4 m4 f4 (Op.step (Op.rnT4 x x true) (Op.cl 1 0 1 (Op.nmd x))).2)]) := HV4a.out.push (g := w4t.heap.size) (v := .rp B4 n4 d4 C4 m4 f4 (Op.step (Op.rnT4 x x true) (Op.cl 1 0 1 (Op.nmd x))).2) (by omega) hbv4 hbe4 rm4 
    clear HV4a hbe4 hbt4 hst4 hwt4 hbr4 hsr4 hwr4 hbt24 hbu4 hsu4 hku4 hbr24 hbv4 hsv4 hkv4 tm4 rm4 HV3
    generalize w4t.heap.size = g4r at *
    generalize w4a.heap.size = g4t at *
    go_wp2_with (refine wpList_load_part rfl 27 (.tmp 10) rfl g1t 0 rfl _ Tryz.underlying27 rfl (tc (Op.rnT4 x x true) (.slice A3 24 k3)) 27 _ (HV4.out.bw 0 rfl) size_Th (fun j u hu => by rw [Nat.zero_add]; exact hu) ?_)
    refine (HPK.out.run (Op.rnT4 x x true) A3 k3 (Op.cl 1 0 1 (Op.nmd x)) none 0 0 _ (show TM _ A3 k3 (Op.rnT4 x x true) from HV4.out.ok 0 rfl) HS3.out (Op.cl_wide (by decide) (by decide) (by decide)) hlx (Nat.le_of_ble_eq_true rfl) (Nat.le_of_ble_eq_true rfl) BS.nil (Nat.le_refl _)).mono ?_
    rintro e w5a ⟨A5, k5, B5, n5, d5, C5, m5, f5, rfl, tm5, rm5, hb5⟩
    have e5 := Op.do_step (c := (Op.cl 1 0 1 (Op.nmd x))) HS3.out.inv.may (Nat.le_of_ble_eq_true rfl) (Nat.le_of_ble_eq_true rfl) (Nat.ne_of_beq_eq_false rfl)
    have HS5 : Hid (Op.Sound (Op.step (Op.rnT4 x x true) (Op.cl 1 0 1 (Op.nmd x))).1) := by show Op.Sound _; rw [show (Op.step (Op.rnT4 x x true) (Op.cl 1 0 1 (Op.nmd x))).1 = Op.doT (Op.rnT4 x x true) (Op.cl 1 0 1 (Op.nmd x)) from e5.1.symm]; exact HS3.out.doT (Op.cl_wide (by decide) (by decide) (by decide))
    rw [show Op.doT (Op.rnT4 x x true) (Op.cl 1 0 1 (Op.nmd x)) = (Op.step (Op.rnT4 x x true) (Op.cl 1 0 1 (Op.nmd x))).1 from e5.1] at tm5 ⊢
    rw [show Op.doR (Op.rnT4 x x true) (Op.cl 1 0 1 (Op.nmd x)) = (Op.step (Op.rnT4 x x true) (Op.cl 1 0 1 (Op.nmd x))).2 from e5.2] at rm5 ⊢
    have HV5a := Lib.hid (HV4.out.below hb5)
    clear e5 hb5
    go_upto_region 14 with (first
      | (refine wpList_alloc_any rfl 27 rfl _ zero_Th ?_
         intro w5t hbt5 hst5 hwt5)
      | (refine wpList_alloc_any rfl 49 rfl _ zero_Rp ?_
         intro w5r hbr5 hsr5 hwr5
         have hbt25 : Bw w5r w5a.heap.size (tc Op.zeroT (.slice none 0 0)) 27 := Bw.below hbt5 hwr5)
      | (refine wpList_store_part rfl 27 (.tmp 16) (.tmp 87) rfl w5a.heap.size 0 (tc (Op.step (Op.rnT4 x x true) (Op.cl 1 0 1 (Op.nmd x))).1 (.slice A5 24 k5)) rfl rfl 27 _ hbt25 size_Th (by simp [tc]) (tc_row _ _ _ _) ?_
         intro w5u hbu5 hsu5 hku5
         have hbr25 : Bw w5u w5t.heap.size (rc Rp.zero (.slice none 0 0) (.slice none 0 0)) 49 := Bw.keep hbr5 hku5 (by omega))
      | (refine wpList_store_part rfl 49 (.tmp 17) (.tmp 88) rfl w5t.heap.size 0 (rc (Op.step (Op.rnT4 x x true) (Op.cl 1 0 1 (Op.nmd x))).2 (.slice B5 n5 d5) (.slice C5 m5 f5)) rfl rfl 49 _ hbr25 size_Rp (by simp [rc]) (rc_row _ _ _ _ _ _ _) ?_
         intro w5v hbv5 hsv5 hkv5))
    have hbe5 : Below w5a.heap.size w5a w5v := ((hwt5.trans (hwr5.mono (by omega))).trans (hku5.below2 (fun k hk => by omega))).trans (hkv5.below2 (fun k hk => by omega))
    have HV5 : Hid (VT w w5v [(g1t, .th A3 k3 (Op.rnT4 x x true)), (g1r, .rp B1 n1 d1 C1 m1 f1 (Op.rnR1 x)), (go, .rp none 0 0 none 0 0 Rp.zero), (g3r, .rp B3 n3 d3 C3 m3 f3 (Op.rnR4 x x true)), (g4r, .rp B4 n4 d4 C4 m4 f4 (Op.step (Op.rnT4 x x true) (Op.cl 1 0 1 (Op.nmd x))).2), (w5t.heap.size, .rp B5 n5 d5 C5 m5 f5 (Op.step (Op.rnT4 x x true) (Op.cl 1 0 1 (Op.nmd x))).2)]) := HV5a.out.push (g := w5t.heap.size) (v := .rp B5 n5 d5 C5 m5 f5 (Op.step (Op.rnT4 x x true) (Op.cl 1 0 1 (Op.nmd x))).2) (by omega) hbv5 hbe5 rm5 
    clear HV5a hbe5 hbt5 hst5 hwt5 hbr5 hsr5 hwr5 hbt25 hbu5 hsu5 hku5 hbr25 hbv5 hsv5 hkv5 tm5 rm5 HV4
    generalize w5t.heap.size = g5r at *
    generalize w5a.heap.size = g5t at *
    have hr1 := HV5.out.cell 1 rfl 3 _ rfl
    have hr2 := HV5.out.cell 1 rfl 4 _ rfl
    rw [(Op.rn1 x hx4).2.1] at hr1
    rw [(Op.rn1 x hx4).2.2] at hr2
    go_wp2_with (refine wpList_load_part rfl 27 (.tmp 10) rfl g1t 0 rfl _ Tryz.underlying27 rfl (tc (Op.rnT4 x x true) (.slice A3 24 k3)) 27 _ (HV5.out.bw 0 rfl) size_Th (fun j u hu => by rw [Nat.zero_add]; exact hu) ?_)
    refine (HPK.out.run (Op.rnT4 x x true) A3 k3 { Op.cl 4 1 1 [] with cnt := 9 } none 0 0 _ (show TM _ A3 k3 (Op.rnT4 x x true) from HV5.out.ok 0 rfl) HS3.out Op.rnD_wide (Nat.le_of_ble_eq_true rfl) (Nat.le_of_ble_eq_true rfl) (Nat.le_of_ble_eq_true rfl) BS.nil (Nat.le_refl _)).mono ?_
    rintro e w6a ⟨A6, k6, B6, n6, d6, C6, m6, f6, rfl, tm6, rm6, hb6⟩
    have e6 := Op.do_step (c := { Op.cl 4 1 1 [] with cnt := 9 }) HS3.out.inv.may (Nat.le_of_ble_eq_true rfl) (Nat.le_of_ble_eq_true rfl) (Nat.ne_of_beq_eq_false rfl)
    have HS6 : Hid (Op.Sound (Op.step (Op.rnT4 x x true) { Op.cl 4 1 1 [] with cnt := 9 }).1) := by show Op.Sound _; rw [show (Op.step (Op.rnT4 x x true) { Op.cl 4 1 1 [] with cnt := 9 }).1 = Op.doT (Op.rnT4 x x true) { Op.cl 4 1 1 [] with cnt := 9 } from e6.1.symm]; exact HS3.out.doT Op.rnD_wide
    rw [show Op.doT (Op.rnT4 x x true) { Op.cl 4 1 1 [] with cnt := 9 } = (Op.step (Op.rnT4 x x true) { Op.cl 4 1 1 [] with cnt := 9 }).1 from e6.1] at tm6 ⊢
    rw [show Op.doR (Op.rnT4 x x true) { Op.cl 4 1 1 [] with cnt := 9 } = (Op.step (Op.rnT4 x x true) { Op.cl 4 1 1 [] with cnt := 9 }).2 from e6.2] at rm6 ⊢
    have HV6a := Lib.hid (HV5.out.below hb6)
    clear e6 hb6
    go_upto_region 15 with (first
      | (refine wpList_alloc_any rfl 27 rfl _ zero_Th ?_
         intro w6t hbt6 hst6 hwt6)
      | (refine wpList_alloc_any rfl 49 rfl _ zero_Rp ?_
         intro w6r hbr6 hsr6 hwr6
         have hbt26 : Bw w6r w6a.heap.size (tc Op.zeroT (.slice none 0 0)) 27 := Bw.below hbt6 hwr6)
      | (refine wpList_store_part rfl 27 (.tmp 18) (.tmp 95) rfl w6a.heap.size 0 (tc (Op.step (Op.rnT4 x x true) { Op.cl 4 1 1 [] with cnt := 9 }).1 (.slice A6 24 k6)) rfl rfl 27 _ hbt26 size_Th (by simp [tc]) (tc_row _ _ _ _) ?_
         intro w6u hbu6 hsu6 hku6
         have hbr26 : Bw w6u w6t.heap.size (rc Rp.zero (.slice none 0 0) (.slice none 0 0)) 49 := Bw.keep hbr6 hku6 (by omega))
      | (refine wpList_store_part rfl 49 (.tmp 19) (.tmp 96) rfl w6t.heap.size 0 (rc (Op.step (Op.rnT4 x x true) { Op.cl 4 1 1 [] with cnt := 9 }).2 (.slice B6 n6 d6) (.slice C6 m6 f6)) rfl rfl 49 _ hbr26 size_Rp (by simp [rc]) (rc_row _ _ _ _ _ _ _) ?_
         intro w6v hbv6 hsv6 hkv6))
    have hbe6 : Below w6a.heap.size w6a w6v := ((hwt6.trans (hwr6.mono (by omega))).trans (hku6.below2 (fun k hk => by omega))).trans (hkv6.below2 (fun k hk => by omega))
    have HV6 : Hid (VT w w6v [(g1t, .th A3 k3 (Op.rnT4 x x true)), (g1r, .rp B1 n1 d1 C1 m1 f1 (Op.rnR1 x)), (go, .rp none 0 0 none 0 0 Rp.zero), (g3r, .rp B3 n3 d3 C3 m3 f3 (Op.rnR4 x x true)), (g4r, .rp B4 n4 d4 C4 m4 f4 (Op.step (Op.rnT4 x x true) (Op.cl 1 0 1 (Op.nmd x))).2), (g5r, .rp B5 n5 d5 C5 m5 f5 (Op.step (Op.rnT4 x x true) (Op.cl 1 0 1 (Op.nmd x))).2), (w6t.heap.size, .rp B6 n6 d6 C6 m6 f6 (Op.step (Op.rnT4 x x true) { Op.cl 4 1 1 [] with cnt := 9 }).2)]) := HV6a.out.push (g := w6t.heap.size) (v := .rp B6 n6 d6 C6 m6 f6 (Op.step (Op.rnT4 x x true) { Op.cl 4 1 1 [] with cnt := 9 }).2) (by omega) hbv6 hbe6 rm6 
    clear HV6a hbe6 hbt6 hst6 hwt6 hbr6 hsr6 hwr6 hbt26 hbu6 hsu6 hku6 hbr26 hbv6 hsv6 hkv6 tm6 rm6 HV5
    generalize w6t.heap.size = g6r at *
    generalize w6a.heap.size = g6t at *
    clear hr1 hr2
    have f4 := (Op.rn4 x hx4 x hy4 true).2
    have f5 := Op.rn5 x hx4 x hy4 true
    have r1 := HV6.out.cell 1 rfl 3 _ rfl
    have r2 := HV6.out.cell 1 rfl 4 _ rfl
    rw [(Op.rn1 x hx4).2.1] at r1
    rw [(Op.rn1 x hx4).2.2] at r2
    have q2 := HV6.out.cell 3 rfl 2 _ rfl
    rw [f4] at q2
    have s2 := HV6.out.cell 4 rfl 2 _ rfl
    rw [f5.1] at s2
    have s3 := HV6.out.cell 4 rfl 3 _ rfl
    rw [f5.2.1] at s3
    have s4 := HV6.out.cell 4 rfl 4 _ rfl
    rw [f5.2.2.1] at s4
    have u2 := HV6.out.cell 5 rfl 2 _ rfl
    have v10 := HV6.out.cell 6 rfl 10 _ rfl
    have hrm := (show RM _ B6 n6 d6 C6 m6 f6 _ from HV6.out.ok 6 rfl).data
    rw [f5.2.2.2.2] at hrm
    have hcv : (convert 38 9 (.slice B6 n6 d6)).run Tryz.prog w6v = .ok (.string ⟨#[111, 110, 101]⟩) w6v := run_convert_bs w6v B6 n6 d6 _ hrm
    have HBF : Hid (Below w.heap.size w w6v) := HV6.out.bel
    have fu := f5.2.2.2.1
    clear f4 f5 hrm
    obtain ⟨zu, hzu⟩ : ∃ z, (Op.step (Op.rnT4 x x true) (Op.cl 1 0 1 (Op.nmd x))).2.st = z := ⟨_, rfl⟩
    rw [hzu] at fu
    rw [show ((Op.step (Op.rnT4 x x true) (Op.cl 1 0 1 (Op.nmd x))).2.st : Int) = zu from hzu] at u2
    clear hzu
    clear HPK HS0 HS1 HS2 HSq HS3 HS4 HS5 HS6 HV6
    have hz := fu.2 rfl
    rw [hz] at u2
    clear fu hz
    generalize txt (Op.nmd x) = X at *
    go_wp2_with fail
    go_ret
    exact ⟨rfl, HBF.out⟩
  · skip
    have hS : Op.rnT3 x y = Op.rnS x y true := by unfold Op.rnS; simp [hxy]
    have HSe := Lib.hid hS
    clear hS
    have HXY := Lib.hid hxy
    have hxx := Op.nmd_inj hx4 hy4 hxy
    go_wp2_with (refine wpList_load_part rfl 27 (.tmp 10) rfl g1t 0 rfl _ Tryz.underlying27 rfl (tc (Op.rnT2 x) (.slice A2 24 k2)) 27 _ (HVo.out.bw 0 rfl) size_Th (fun j u hu => by rw [Nat.zero_add]; exact hu) ?_)
    refine (HPK.out.run (Op.rnT2 x) A2 k2 (Op.cl 6 0 1 (Op.nmd y)) none 0 0 _ (show TM _ A2 k2 (Op.rnT2 x) from HVo.out.ok 0 rfl) HS2.out (Op.cl_wide (by decide) (by decide) (by decide)) hly (Nat.le_of_ble_eq_true rfl) (Nat.le_of_ble_eq_true rfl) BS.nil (Nat.le_refl _)).mono ?_
    rintro e w3a ⟨A3, k3, B3, n3, d3, C3, m3, f3, rfl, tm3, rm3, hb3⟩
    have e3 := Op.do_step (c := (Op.cl 6 0 1 (Op.nmd y))) HS2.out.inv.may (Nat.le_of_ble_eq_true rfl) (Nat.le_of_ble_eq_true rfl) (Nat.ne_of_beq_eq_false rfl)
    have HS3 : Hid (Op.Sound (Op.rnT3 x y)) := by show Op.Sound _; rw [show (Op.rnT3 x y) = Op.doT (Op.rnT2 x) (Op.cl 6 0 1 (Op.nmd y)) from e3.1.symm]; exact HS2.out.doT (Op.cl_wide (by decide) (by decide) (by decide))
    rw [show Op.doT (Op.rnT2 x) (Op.cl 6 0 1 (Op.nmd y)) = (Op.rnT3 x y) from e3.1] at tm3 ⊢
    rw [show Op.doR (Op.rnT2 x) (Op.cl 6 0 1 (Op.nmd y)) = (Op.rnR3 x y) from e3.2] at rm3 ⊢
    have HV3a := Lib.hid (HVo.out.below hb3)
    clear e3 hb3
    go_upto_region 11 with (first
      | (refine wpList_store_part rfl 27 (.tmp 10) (.tmp 61) rfl g1t 0 (tc (Op.rnT3 x y) (.slice A3 24 k3)) rfl rfl 27 _ (HV3a.out.bw 0 rfl) size_Th (by simp [tc, Vr.cells]) (tc_row _ _ _ _) ?_
         intro w3u hbu3 hsu3 hku3
         have HV3u : Hid (VT w w3u [(g1t, .th A3 k3 (Op.rnT3 x y)), (g1r, .rp B1 n1 d1 C1 m1 f1 (Op.rnR1 x)), (go, .rp none 0 0 none 0 0 Rp.zero)]) := HV3a.out.put 0 (u := .th A3 k3 (Op.rnT3 x y)) rfl hbu3 hku3 tm3
         have rmu3 : RM w3u B3 n3 d3 C3 m3 f3 (Op.rnR3 x y) := Vr.ok.offV (v := .rp B3 n3 d3 C3 m3 f3 (Op.rnR3 x y)) (HV3a.out.bw 0 rfl) rm3 hku3
         clear hbu3 hsu3 hku3)
      | (refine wpList_store_part rfl 49 (.tmp 12) (.tmp 62) rfl go 0 (rc (Op.rnR3 x y) (.slice B3 n3 d3) (.slice C3 m3 f3)) rfl rfl 49 _ (HV3u.out.bw 2 rfl) size_Rp (by simp [rc, Vr.cells]) (rc_row _ _ _ _ _ _ _) ?_
         intro w3v hbv3 hsv3 hkv3
         have HV3 : Hid (VT w w3v [(g1t, .th A3 k3 (Op.rnT3 x y)), (g1r, .rp B1 n1 d1 C1 m1 f1 (Op.rnR1 x)), (go, .rp B3 n3 d3 C3 m3 f3 (Op.rnR3 x y))]) := HV3u.out.put 2 (u := .rp B3 n3 d3 C3 m3 f3 (Op.rnR3 x y)) rfl hbv3 hkv3 rmu3
         clear hbv3 hsv3 hkv3 rmu3))
    clear HV3a HV3u tm3 rm3 HVo
    have HSq := HS3
    have HVq := HV3
    rw [show (Op.rnT3 x y) = (Op.rnS x y true) from HSe.out] at HSq HVq
    clear HV3
    go_wp2_with (refine wpList_load_part rfl 27 (.tmp 10) rfl g1t 0 rfl _ Tryz.underlying27 rfl (tc (Op.rnS x y true) (.slice A3 24 k3)) 27 _ (HVq.out.bw 0 rfl) size_Th (fun j u hu => by rw [Nat.zero_add]; exact hu) ?_)
    refine (HPK.out.run (Op.rnS x y true) A3 k3 (Op.rnC x y) none 0 0 _ (show TM _ A3 k3 (Op.rnS x y true) from HVq.out.ok 0 rfl) HSq.out (Op.rnC_wide x y) hlx hly (Nat.le_of_ble_eq_true rfl) BS.nil (Nat.le_refl _)).mono ?_
    rintro e w4a ⟨A4, k4, B4, n4, d4, C4, m4, f4, rfl, tm4, rm4, hb4⟩
    have e4 := Op.do_stepR (c := (Op.rnC x y)) HSq.out.inv.may rfl (Op.rn4 x hx4 y hy4 true).1
    have HS4 : Hid (Op.Sound (Op.rnT4 x y true)) := by show Op.Sound _; rw [show (Op.rnT4 x y true) = Op.doT (Op.rnS x y true) (Op.rnC x y) from e4.1.symm]; exact HSq.out.doT (Op.rnC_wide x y)
    rw [show Op.doT (Op.rnS x y true) (Op.rnC x y) = (Op.rnT4 x y true) from e4.1] at tm4 ⊢
    rw [show Op.doR (Op.rnS x y true) (Op.rnC x y) = (Op.rnR4 x y true) from e4.2] at rm4 ⊢
    have HV4a := Lib.hid (HVq.out.below hb4)
    clear e4 hb4
    go_upto_region 12 with (first
      | (refine wpList_alloc_any rfl 49 rfl _ zero_Rp ?_
         intro w4r hbr4 hsr4 hwr4
         have HV4r : Hid (VT w w4r [(g1t, .th A3 k3 (Op.rnS x y true)), (g1r, .rp B1 n1 d1 C1 m1 f1 (Op.rnR1 x)), (go, .rp B3 n3 d3 C3 m3 f3 (Op.rnR3 x y)), (w4a.heap.size, .rp none 0 0 none 0 0 Rp.zero)]) := HV4a.out.push (g := w4a.heap.size) (v := .rp none 0 0 none 0 0 Rp.zero) (Nat.le_refl _) hbr4 hwr4 (RM.zero _)
         have tmr4 := TM.below tm4 hwr4
         have rmr4 := RM.below rm4 hwr4
         clear hbr4 hsr4)
      | (refine wpList_store_part rfl 27 (.tmp 10) (.tmp 71) rfl g1t 0 (tc (Op.rnT4 x y true) (.slice A4 24 k4)) rfl rfl 27 _ (HV4r.out.bw 0 rfl) size_Th (by simp [tc, Vr.cells]) (tc_row _ _ _ _) ?_
         intro w4u hbu4 hsu4 hku4
         have HV4u : Hid (VT w w4u [(g1t, .th A4 k4 (Op.rnT4 x y true)), (g1r, .rp B1 n1 d1 C1 m1 f1 (Op.rnR1 x)), (go, .rp B3 n3 d3 C3 m3 f3 (Op.rnR3 x y)), (w4a.heap.size, .rp none 0 0 none 0 0 Rp.zero)]) := HV4r.out.put 0 (u := .th A4 k4 (Op.rnT4 x y true)) rfl hbu4 hku4 tmr4
         have rmu4 : RM w4u B4 n4 d4 C4 m4 f4 (Op.rnR4 x y true) := Vr.ok.offV (v := .rp B4 n4 d4 C4 m4 f4 (Op.rnR4 x y true)) (HV4r.out.bw 0 rfl) rmr4 hku4
         clear hbu4 hsu4 hku4 rmr4 tmr4)
      | (refine wpList_store_part rfl 49 (.tmp 13) (.tmp 72) rfl w4a.heap.size 0 (rc (Op.rnR4 x y true) (.slice B4 n4 d4) (.slice C4 m4 f4)) rfl rfl 49 _ (HV4u.out.bw 3 rfl) size_Rp (by simp [rc, Vr.cells]) (rc_row _ _ _ _ _ _ _) ?_
         intro w4v hbv4 hsv4 hkv4
         have HV4 : Hid (VT w w4v [(g1t, .th A4 k4 (Op.rnT4 x y true)), (g1r, .rp B1 n1 d1 C1 m1 f1 (Op.rnR1 x)), (go, .rp B3 n3 d3 C3 m3 f3 (Op.rnR3 x y)), (w4a.heap.size, .rp B4 n4 d4 C4 m4 f4 (Op.rnR4 x y true))]) := HV4u.out.put 3 (u := .rp B4 n4 d4 C4 m4 f4 (Op.rnR4 x y true)) rfl hbv4 hkv4 rmu4
         clear hbv4 hsv4 hkv4 rmu4))
    clear HV4a HV4r HV4u hwr4 tm4 rm4 HVq
    generalize w4a.heap.size = g4r at *
    go_wp2_with (refine wpList_load_part rfl 27 (.tmp 10) rfl g1t 0 rfl _ Tryz.underlying27 rfl (tc (Op.rnT4 x y true) (.slice A4 24 k4)) 27 _ (HV4.out.bw 0 rfl) size_Th (fun j u hu => by rw [Nat.zero_add]; exact hu) ?_)
    refine (HPK.out.run (Op.rnT4 x y true) A4 k4 (Op.cl 1 0 1 (Op.nmd y)) none 0 0 _ (show TM _ A4 k4 (Op.rnT4 x y true) from HV4.out.ok 0 rfl) HS4.out (Op.cl_wide (by decide) (by decide) (by decide)) hly (Nat.le_of_ble_eq_true rfl) (Nat.le_of_ble_eq_true rfl) BS.nil (Nat.le_refl _)).mono ?_
    rintro e w5a ⟨A5, k5, B5, n5, d5, C5, m5, f5, rfl, tm5, rm5, hb5⟩
    have e5 := Op.do_step (c := (Op.cl 1 0 1 (Op.nmd y))) HS4.out.inv.may (Nat.le_of_ble_eq_true rfl) (Nat.le_of_ble_eq_true rfl) (Nat.ne_of_beq_eq_false rfl)
    have HS5 : Hid (Op.Sound (Op.step (Op.rnT4 x y true) (Op.cl 1 0 1 (Op.nmd y))).1) := by show Op.Sound _; rw [show (Op.step (Op.rnT4 x y true) (Op.cl 1 0 1 (Op.nmd y))).1 = Op.doT (Op.rnT4 x y true) (Op.cl 1 0 1 (Op.nmd y)) from e5.1.symm]; exact HS4.out.doT (Op.cl_wide (by decide) (by decide) (by decide))
    rw [show Op.doT (Op.rnT4 x y true) (Op.cl 1 0 1 (Op.nmd y)) = (Op.step (Op.rnT4 x y true) (Op.cl 1 0 1 (Op.nmd y))).1 from e5.1] at tm5 ⊢
    rw [show Op.doR (Op.rnT4 x y true) (Op.cl 1 0 1 (Op.nmd y)) = (Op.step (Op.rnT4 x y true) (Op.cl 1 0 1 (Op.nmd y))).2 from e5.2] at rm5 ⊢
    have HV5a := Lib.hid (HV4.out.below hb5)
    clear e5 hb5
    go_upto_region 13 with (first
      | (refine wpList_alloc_any rfl 27 rfl _ zero_Th ?_
         intro w5t hbt5 hst5 hwt5)
      | (refine wpList_alloc_any rfl 49 rfl _ zero_Rp ?_
         intro w5r hbr5 hsr5 hwr5
         have hbt25 : Bw w5r w5a.heap.size (tc Op.zeroT (.slice none 0 0)) 27 := Bw.below hbt5 hwr5)
      | (refine wpList_store_part rfl 27 (.tmp 14) (.tmp 79) rfl w5a.heap.size 0 (tc (Op.step (Op.rnT4 x y true) (Op.cl 1 0 1 (Op.nmd y))).1 (.slice A5 24 k5)) rfl rfl 27 _ hbt25 size_Th (by simp [tc]) (tc_row _ _ _ _) ?_
         intro w5u hbu5 hsu5 hku5
         have hbr25 : Bw w5u w5t.heap.size (rc Rp.zero (.slice none 0 0) (.slice none 0 0)) 49 := Bw.keep hbr5 hku5 (by omega))
      | (refine wpList_store_part rfl 49 (.tmp 15) (.tmp 80) rfl w5t.heap.size 0 (rc (Op.step (Op.rnT4 x y true) (Op.cl 1 0 1 (Op.nmd y))).2 (.slice B5 n5 d5) (.slice C5 m5 f5)) rfl rfl 49 _ hbr25 size_Rp (by simp [rc]) (rc_row _ _ _ _ _ _ _) ?_
         intro w5v hbv5 hsv5 hkv5))
    have hbe5 : Below w5a.heap.size w5a w5v := ((hwt5.trans (hwr5.mono (by omega))).trans (hku5.below2 (fun k hk => by omega))).trans (hkv5.below2 (fun k hk => by omega))
    have HV5 : Hid (VT w w5v [(g1t, .th A4 k4 (Op.rnT4 x y true)), (g1r, .rp B1 n1 d1 C1 m1 f1 (Op.rnR1 x)), (go, .rp B3 n3 d3 C3 m3 f3 (Op.rnR3 x y)), (g4r, .rp B4 n4 d4 C4 m4 f4 (Op.rnR4 x y true)), (w5t.heap.size, .rp B5 n5 d5 C5 m5 f5 (Op.step (Op.rnT4 x y true) (Op.cl 1 0 1 (Op.nmd y))).2)]) := HV5a.out.push (g := w5t.heap.size) (v := .rp B5 n5 d5 C5 m5 f5 (Op.step (Op.rnT4 x y true) (Op.cl 1 0 1 (Op.nmd y))).2) (by omega) hbv5 hbe5 rm5 
    clear HV5a hbe5 hbt5 hst5 hwt5 hbr5 hsr5 hwr5 hbt25 hbu5 hsu5 hku5 hbr25 hbv5 hsv5 hkv5 tm5 rm5 HV4
    generalize w5t.heap.size = g5r at *
    generalize w5a.heap.size = g5t at *
    go_wp2_with (refine wpList_load_part rfl 27 (.tmp 10) rfl g1t 0 rfl _ Tryz.underlying27 rfl (tc (Op.rnT4 x y true) (.slice A4 24 k4)) 27 _ (HV5.out.bw 0 rfl) size_Th (fun j u hu => by rw [Nat.zero_add]; exact hu) ?_)
    refine (HPK.out.run (Op.rnT4 x y true) A4 k4 (Op.cl 1 0 1 (Op.nmd x)) none 0 0 _ (show TM _ A4 k4 (Op.rnT4 x y true) from HV5.out.ok 0 rfl) HS4.out (Op.cl_wide (by decide) (by decide) (by decide)) hlx (Nat.le_of_ble_eq_true rfl) (Nat.le_of_ble_eq_true rfl) BS.nil (Nat.le_refl _)).mono ?_
    rintro e w6a ⟨A6, k6, B6, n6, d6, C6, m6, f6, rfl, tm6, rm6, hb6⟩
    have e6 := Op.do_step (c := (Op.cl 1 0 1 (Op.nmd x))) HS4.out.inv.may (Nat.le_of_ble_eq_true rfl) (Nat.le_of_ble_eq_true rfl) (Nat.ne_of_beq_eq_false rfl)
    have HS6 : Hid (Op.Sound (Op.step (Op.rnT4 x y true) (Op.cl 1 0 1 (Op.nmd x))).1) := by show Op.Sound _; rw [show (Op.step (Op.rnT4 x y true) (Op.cl 1 0 1 (Op.nmd x))).1 = Op.doT (Op.rnT4 x y true) (Op.cl 1 0 1 (Op.nmd x)) from e6.1.symm]; exact HS4.out.doT (Op.cl_wide (by decide) (by decide) (by decide))
    rw [show Op.doT (Op.rnT4 x y true) (Op.cl 1 0 1 (Op.nmd x)) = (Op.step (Op.rnT4 x y true) (Op.cl 1 0 1 (Op.nmd x))).1 from e6.1] at tm6 ⊢
    rw [show Op.doR (Op.rnT4 x y true) (Op.cl 1 0 1 (Op.nmd x)) = (Op.step (Op.rnT4 x y true) (Op.cl 1 0 1 (Op.nmd x))).2 from e6.2] at rm6 ⊢
    have HV6a := Lib.hid (HV5.out.below hb6)
    clear e6 hb6
    go_upto_region 14 with (first
      | (refine wpList_alloc_any rfl 27 rfl _ zero_Th ?_
         intro w6t hbt6 hst6 hwt6)
      | (refine wpList_alloc_any rfl 49 rfl _ zero_Rp ?_
         intro w6r hbr6 hsr6 hwr6
         have hbt26 : Bw w6r w6a.heap.size (tc Op.zeroT (.slice none 0 0)) 27 := Bw.below hbt6 hwr6)
      | (refine wpList_store_part rfl 27 (.tmp 16) (.tmp 87) rfl w6a.heap.size 0 (tc (Op.step (Op.rnT4 x y true) (Op.cl 1 0 1 (Op.nmd x))).1 (.slice A6 24 k6)) rfl rfl 27 _ hbt26 size_Th (by simp [tc]) (tc_row _ _ _ _) ?_
         intro w6u hbu6 hsu6 hku6
         have hbr26 : Bw w6u w6t.heap.size (rc Rp.zero (.slice none 0 0) (.slice none 0 0)) 49 := Bw.keep hbr6 hku6 (by omega))
      | (refine wpList_store_part rfl 49 (.tmp 17) (.tmp 88) rfl w6t.heap.size 0 (rc (Op.step (Op.rnT4 x y true) (Op.cl 1 0 1 (Op.nmd x))).2 (.slice B6 n6 d6) (.slice C6 m6 f6)) rfl rfl 49 _ hbr26 size_Rp (by simp [rc]) (rc_row _ _ _ _ _ _ _) ?_
         intro w6v hbv6 hsv6 hkv6))
    have hbe6 : Below w6a.heap.size w6a w6v := ((hwt6.trans (hwr6.mono (by omega))).trans (hku6.below2 (fun k hk => by omega))).trans (hkv6.below2 (fun k hk => by omega))
    have HV6 : Hid (VT w w6v [(g1t, .th A4 k4 (Op.rnT4 x y true)), (g1r, .rp B1 n1 d1 C1 m1 f1 (Op.rnR1 x)), (go, .rp B3 n3 d3 C3 m3 f3 (Op.rnR3 x y)), (g4r, .rp B4 n4 d4 C4 m4 f4 (Op.rnR4 x y true)), (g5r, .rp B5 n5 d5 C5 m5 f5 (Op.step (Op.rnT4 x y true) (Op.cl 1 0 1 (Op.nmd y))).2), (w6t.heap.size, .rp B6 n6 d6 C6 m6 f6 (Op.step (Op.rnT4 x y true) (Op.cl 1 0 1 (Op.nmd x))).2)]) := HV6a.out.push (g := w6t.heap.size) (v := .rp B6 n6 d6 C6 m6 f6 (Op.step (Op.rnT4 x y true) (Op.cl 1 0 1 (Op.nmd x))).2) (by omega) hbv6 hbe6 rm6 
    clear HV6a hbe6 hbt6 hst6 hwt6 hbr6 hsr6 hwr6 hbt26 hbu6 hsu6 hku6 hbr26 hbv6 hsv6 hkv6 tm6 rm6 HV5
    generalize w6t.heap.size = g6r at *
    generalize w6a.heap.size = g6t at *
    have hr1 := HV6.out.cell 1 rfl 3 _ rfl
    have hr2 := HV6.out.cell 1 rfl 4 _ rfl
    rw [(Op.rn1 x hx4).2.1] at hr1
    rw [(Op.rn1 x hx4).2.2] at hr2
    go_wp2_with (refine wpList_load_part rfl 27 (.tmp 10) rfl g1t 0 rfl _ Tryz.underlying27 rfl (tc (Op.rnT4 x y true) (.slice A4 24 k4)) 27 _ (HV6.out.bw 0 rfl) size_Th (fun j u hu => by rw [Nat.zero_add]; exact hu) ?_)
    refine (HPK.out.run (Op.rnT4 x y true) A4 k4 { Op.cl 4 1 1 [] with cnt := 9 } none 0 0 _ (show TM _ A4 k4 (Op.rnT4 x y true) from HV6.out.ok 0 rfl) HS4.out Op.rnD_wide (Nat.le_of_ble_eq_true rfl) (Nat.le_of_ble_eq_true rfl) (Nat.le_of_ble_eq_true rfl) BS.nil (Nat.le_refl _)).mono ?_
    rintro e w7a ⟨A7, k7, B7, n7, d7, C7, m7, f7, rfl, tm7, rm7, hb7⟩
    have e7 := Op.do_step (c := { Op.cl 4 1 1 [] with cnt := 9 }) HS4.out.inv.may (Nat.le_of_ble_eq_true rfl) (Nat.le_of_ble_eq_true rfl) (Nat.ne_of_beq_eq_false rfl)
    have HS7 : Hid (Op.Sound (Op.step (Op.rnT4 x y true) { Op.cl 4 1 1 [] with cnt := 9 }).1) := by show Op.Sound _; rw [show (Op.step (Op.rnT4 x y true) { Op.cl 4 1 1 [] with cnt := 9 }).1 = Op.doT (Op.rnT4 x y true) { Op.cl 4 1 1 [] with cnt := 9 } from e7.1.symm]; exact HS4.out.doT Op.rnD_wide
    rw [show Op.doT (Op.rnT4 x y true) { Op.cl 4 1 1 [] with cnt := 9 } = (Op.step (Op.rnT4 x y true) { Op.cl 4 1 1 [] with cnt := 9 }).1 from e7.1] at tm7 ⊢
    rw [show Op.doR (Op.rnT4 x y true) { Op.cl 4 1 1 [] with cnt := 9 } = (Op.step (Op.rnT4 x y true) { Op.cl 4 1 1 [] with cnt := 9 }).2 from e7.2] at rm7 ⊢
    have HV7a := Lib.hid (HV6.out.below hb7)
    clear e7 hb7
    go_upto_region 15 with (first
      | (refine wpList_alloc_any rfl 27 rfl _ zero_Th ?_
         intro w7t hbt7 hst7 hwt7)
      | (refine wpList_alloc_any rfl 49 rfl _ zero_Rp ?_
         intro w7r hbr7 hsr7 hwr7
         have hbt27 : Bw w7r w7a.heap.size (tc Op.zeroT (.slice none 0 0)) 27 := Bw.below hbt7 hwr7)
      | (refine wpList_store_part rfl 27 (.tmp 18) (.tmp 95) rfl w7a.heap.size 0 (tc (Op.step (Op.rnT4 x y true) { Op.cl 4 1 1 [] with cnt := 9 }).1 (.slice A7 24 k7)) rfl rfl 27 _ hbt27 size_Th (by simp [tc]) (tc_row _ _ _ _) ?_
         intro w7u hbu7 hsu7 hku7
         have hbr27 : Bw w7u w7t.heap.size (rc Rp.zero (.slice none 0 0) (.slice none 0 0)) 49 := Bw.keep hbr7 hku7 (by omega))
      | (refine wpList_store_part rfl 49 (.tmp 19) (.tmp 96) rfl w7t.heap.size 0 (rc (Op.step (Op.rnT4 x y true) { Op.cl 4 1 1 [] with cnt := 9 }).2 (.slice B7 n7 d7) (.slice C7 m7 f7)) rfl rfl 49 _ hbr27 size_Rp (by simp [rc]) (rc_row _ _ _ _ _ _ _) ?_
         intro w7v hbv7 hsv7 hkv7))
    have hbe7 : Below w7a.heap.size w7a w7v := ((hwt7.trans (hwr7.mono (by omega))).trans (hku7.below2 (fun k hk => by omega))).trans (hkv7.below2 (fun k hk => by omega))
    have HV7 : Hid (VT w w7v [(g1t, .th A4 k4 (Op.rnT4 x y true)), (g1r, .rp B1 n1 d1 C1 m1 f1 (Op.rnR1 x)), (go, .rp B3 n3 d3 C3 m3 f3 (Op.rnR3 x y)), (g4r, .rp B4 n4 d4 C4 m4 f4 (Op.rnR4 x y true)), (g5r, .rp B5 n5 d5 C5 m5 f5 (Op.step (Op.rnT4 x y true) (Op.cl 1 0 1 (Op.nmd y))).2), (g6r, .rp B6 n6 d6 C6 m6 f6 (Op.step (Op.rnT4 x y true) (Op.cl 1 0 1 (Op.nmd x))).2), (w7t.heap.size, .rp B7 n7 d7 C7 m7 f7 (Op.step (Op.rnT4 x y true) { Op.cl 4 1 1 [] with cnt := 9 }).2)]) := HV7a.out.push (g := w7t.heap.size) (v := .rp B7 n7 d7 C7 m7 f7 (Op.step (Op.rnT4 x y true) { Op.cl 4 1 1 [] with cnt := 9 }).2) (by omega) hbv7 hbe7 rm7 
    clear HV7a hbe7 hbt7 hst7 hwt7 hbr7 hsr7 hwr7 hbt27 hbu7 hsu7 hku7 hbr27 hbv7 hsv7 hkv7 tm7 rm7 HV6
    generalize w7t.heap.size = g7r at *
    generalize w7a.heap.size = g7t at *
    clear hr1 hr2
    have f4 := (Op.rn4 x hx4 y hy4 true).2
    have f5 := Op.rn5 x hx4 y hy4 true
    have r1 := HV7.out.cell 1 rfl 3 _ rfl
    have r2 := HV7.out.cell 1 rfl 4 _ rfl
    rw [(Op.rn1 x hx4).2.1] at r1
    rw [(Op.rn1 x hx4).2.2] at r2
    have q2 := HV7.out.cell 3 rfl 2 _ rfl
    rw [f4] at q2
    have s2 := HV7.out.cell 4 rfl 2 _ rfl
    rw [f5.1] at s2
    have s3 := HV7.out.cell 4 rfl 3 _ rfl
    rw [f5.2.1] at s3
    have s4 := HV7.out.cell 4 rfl 4 _ rfl
    rw [f5.2.2.1] at s4
    have u2 := HV7.out.cell 5 rfl 2 _ rfl
    have v10 := HV7.out.cell 6 rfl 10 _ rfl
    have hrm := (show RM _ B7 n7 d7 C7 m7 f7 _ from HV7.out.ok 6 rfl).data
    rw [f5.2.2.2.2] at hrm
    have hcv : (convert 38 9 (.slice B7 n7 d7)).run Tryz.prog w7v = .ok (.string ⟨#[111, 110, 101]⟩) w7v := run_convert_bs w7v B7 n7 d7 _ hrm
    have HBF : Hid (Below w.heap.size w w7v) := HV7.out.bel
    have fu := f5.2.2.2.1
    clear f4 f5 hrm
    obtain ⟨zu, hzu⟩ : ∃ z, (Op.step (Op.rnT4 x y true) (Op.cl 1 0 1 (Op.nmd x))).2.st = z := ⟨_, rfl⟩
    rw [hzu] at fu
    rw [show ((Op.step (Op.rnT4 x y true) (Op.cl 1 0 1 (Op.nmd x))).2.st : Int) = zu from hzu] at u2
    clear hzu
    have hz : ¬ zu = 0 := fun h => hxy (fu.1 h)
    have hzb : (zu == 0) = false := by simpa using hz
    clear fu
    have o3 := HV7.out.cell 2 rfl 3 _ rfl
    rw [(Op.rn3 x hx4 y hy4 hxy).2.1] at o3
    have o4 := HV7.out.cell 2 rfl 4 _ rfl
    rw [(Op.rn3 x hx4 y hy4 hxy).2.2] at o4
    generalize txt (Op.nmd x) = X at *
    generalize txt (Op.nmd y) = Y at *
    go_wp2_with (refine wpList_load_part rfl 27 (.tmp 10) rfl g1t 0 rfl _ Tryz.underlying27 rfl (tc (Op.rnT4 x y true) (.slice A4 24 k4)) 27 _ (HV7.out.bw 0 rfl) size_Th (fun j u hu => by rw [Nat.zero_add]; exact hu) ?_)
    refine (HPK.out.run (Op.rnT4 x y true) A4 k4 (Op.cl 2 2 1 []) none 0 0 _ (show TM _ A4 k4 (Op.rnT4 x y true) from HV7.out.ok 0 rfl) HS4.out (Op.cl_wide (by decide) (by decide) (by decide)) (Nat.le_of_ble_eq_true rfl) (Nat.le_of_ble_eq_true rfl) (Nat.le_of_ble_eq_true rfl) BS.nil (Nat.le_refl _)).mono ?_
    rintro e w8a ⟨A8, k8, B8, n8, d8, C8, m8, f8, rfl, tm8, rm8, hb8⟩
    have e8 := Op.do_step (c := (Op.cl 2 2 1 [])) HS4.out.inv.may (Nat.le_of_ble_eq_true rfl) (Nat.le_of_ble_eq_true rfl) (Nat.ne_of_beq_eq_false rfl)
    have HS8 : Hid (Op.Sound (Op.step (Op.rnT4 x y true) (Op.cl 2 2 1 [])).1) := by show Op.Sound _; rw [show (Op.step (Op.rnT4 x y true) (Op.cl 2 2 1 [])).1 = Op.doT (Op.rnT4 x y true) (Op.cl 2 2 1 []) from e8.1.symm]; exact HS4.out.doT (Op.cl_wide (by decide) (by decide) (by decide))
    rw [show Op.doT (Op.rnT4 x y true) (Op.cl 2 2 1 []) = (Op.step (Op.rnT4 x y true) (Op.cl 2 2 1 [])).1 from e8.1] at tm8 ⊢
    rw [show Op.doR (Op.rnT4 x y true) (Op.cl 2 2 1 []) = (Op.step (Op.rnT4 x y true) (Op.cl 2 2 1 [])).2 from e8.2] at rm8 ⊢
    have HV8a := Lib.hid (HV7.out.below hb8)
    clear e8 hb8
    go_upto_region 20 with (first
      | (refine wpList_alloc_any rfl 27 rfl _ zero_Th ?_
         intro w8t hbt8 hst8 hwt8)
      | (refine wpList_alloc_any rfl 49 rfl _ zero_Rp ?_
         intro w8r hbr8 hsr8 hwr8
         have hbt28 : Bw w8r w8a.heap.size (tc Op.zeroT (.slice none 0 0)) 27 := Bw.below hbt8 hwr8)
      | (refine wpList_store_part rfl 27 (.tmp 20) (.tmp 140) rfl w8a.heap.size 0 (tc (Op.step (Op.rnT4 x y true) (Op.cl 2 2 1 [])).1 (.slice A8 24 k8)) rfl rfl 27 _ hbt28 size_Th (by simp [tc]) (tc_row _ _ _ _) ?_
         intro w8u hbu8 hsu8 hku8
         have hbr28 : Bw w8u w8t.heap.size (rc Rp.zero (.slice none 0 0) (.slice none 0 0)) 49 := Bw.keep hbr8 hku8 (by omega))
      | (refine wpList_store_part rfl 49 (.tmp 21) (.tmp 141) rfl w8t.heap.size 0 (rc (Op.step (Op.rnT4 x y true) (Op.cl 2 2 1 [])).2 (.slice B8 n8 d8) (.slice C8 m8 f8)) rfl rfl 49 _ hbr28 size_Rp (by simp [rc]) (rc_row _ _ _ _ _ _ _) ?_
         intro w8v hbv8 hsv8 hkv8))
    have hbe8 : Below w8a.heap.size w8a w8v := ((hwt8.trans (hwr8.mono (by omega))).trans (hku8.below2 (fun k hk => by omega))).trans (hkv8.below2 (fun k hk => by omega))
    have HV8 : Hid (VT w w8v [(g1t, .th A4 k4 (Op.rnT4 x y true)), (g1r, .rp B1 n1 d1 C1 m1 f1 (Op.rnR1 x)), (go, .rp B3 n3 d3 C3 m3 f3 (Op.rnR3 x y)), (g4r, .rp B4 n4 d4 C4 m4 f4 (Op.rnR4 x y true)), (g5r, .rp B5 n5 d5 C5 m5 f5 (Op.step (Op.rnT4 x y true) (Op.cl 1 0 1 (Op.nmd y))).2), (g6r, .rp B6 n6 d6 C6 m6 f6 (Op.step (Op.rnT4 x y true) (Op.cl 1 0 1 (Op.nmd x))).2), (g7r, .rp B7 n7 d7 C7 m7 f7 (Op.step (Op.rnT4 x y true) { Op.cl 4 1 1 [] with cnt := 9 }).2), (w8t.heap.size, .rp B8 n8 d8 C8 m8 f8 (Op.step (Op.rnT4 x y true) (Op.cl 2 2 1 [])).2)]) := HV8a.out.push (g := w8t.heap.size) (v := .rp B8 n8 d8 C8 m8 f8 (Op.step (Op.rnT4 x y true) (Op.cl 2 2 1 [])).2) (by omega) hbv8 hbe8 rm8 
    clear HV8a hbe8 hbt8 hst8 hwt8 hbr8 hsr8 hwr8 hbt28 hbu8 hsu8 hku8 hbr28 hbv8 hsv8 hkv8 tm8 rm8 HV7
    generalize w8t.heap.size = g8r at *
    generalize w8a.heap.size = g8t at *
    have w2 := HV8.out.cell 7 rfl 2 _ rfl
    rw [Op.rn6 x hx4 y hy4 hxy] at w2
    have HBG : Hid (Below w.heap.size w w8v) := HV8.out.bel
    go_wp2_with fail
    go_ret
    exact ⟨rfl, HBG.out⟩
end Go.Proofs.YtndnkfnhgakibaaGreat
