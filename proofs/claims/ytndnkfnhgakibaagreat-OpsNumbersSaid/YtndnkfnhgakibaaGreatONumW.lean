/-
  The law OpsNumbers (layer 13).
-/
import Derived.Test.YtndnkfnhgakibaaGreatONumM
import Derived.Test.YtndnkfnhgakibaaGreatOSnd
namespace Go.Proofs.YtndnkfnhgakibaaGreat
open Go.RowKit Go.Shelf
attribute [local go_sem] Oper.semAt_some

set_option maxRecDepth 100000 in
set_option maxHeartbeats 8000000 in
theorem numbers_walk (HP : Pk) (a : Nat) (A1 : Option Addr) (len cap : Nat) (l : List UInt8) (w : World) (ha : a < 256) (hl : BS w A1 len l) :
    Calls Tryz.prog 16 #[.int .u8 (a : Int), .slice A1 len cap] w fun e w' => e = .returned (.bool true) ∧ Below w.heap.size w w' := by
  have HPK := Lib.hid HP
  have HL := Lib.hid hl
  clear HP hl
  obtain ⟨n, hn⟩ : ∃ n, a % 30 = n := ⟨_, rfl⟩
  have hni : (a : Int) % 30 = (n : Int) := by omega
  have hn8 : n < 30 := by omega
  clear hn
  go_enter Tryz.func16, Tryz.ntmps16
  go_wp2_with fail
  refine (awakeO_any HPK.out w).mono ?_
  rintro e w0 ⟨rfl, hb0⟩
  have HB0 := Lib.hid hb0
  clear hb0
  by_cases h20 : 20 < len
  · have k2 : decide ((20 : Int) < (len : Int)) = true := by simp; omega
    go_wp2_with fail
    go_ret
    exact ⟨rfl, HB0.out⟩
  have k2 : decide ((20 : Int) < (len : Int)) = false := by simp; omega
  go_upto_region 7 with fail
  first | rw [hni] | skip
  clear k2
  go_wp2_with fail
  refine (HPK.out.format 60 w0 (by omega)).mono ?_
  rintro e w1 ⟨A0, k0, rfl, tm0, hb1⟩
  have HT0 := Lib.hid tm0
  have HV0 : Hid (VT w w1 []) := VT.nil (HB0.out.trans (hb1.mono HB0.out.size))
  clear tm0 hb1 HB0 hni
  go_upto_region 8 with (first
    | (refine wpList_alloc_any rfl 27 rfl _ zero_Th ?_; intro w3 hb2 hs2 hw2)
    | (refine wpList_store_part rfl 27 (.tmp 7) (.tmp 29) rfl _ 0 (tc (Op.format 60) (.slice A0 24 k0)) rfl rfl 27 (tc Op.zeroT (.slice none 0 0)) hb2 size_Th (by simp [tc]) (tc_row _ _ _ _) ?_
       intro w4 hb3 hs3 hk3))
  have HV : Hid (VT w w4 [(w1.heap.size, .th A0 k0 (Op.format 60))]) := HV0.out.push (Nat.le_refl _) hb3 (hw2.trans (hk3.below2 (fun k hk => by omega))) HT0.out
  clear hb2 hs2 hw2 hb3 hs3 hk3 HT0 HV0
  generalize w1.heap.size = g1 at *
  go_wp2_with fail
  go_loopw [8] (fun i wr => ∃ (j : Nat) (t : Op.TT) (A : Option Addr) (k : Nat), j ≤ n ∧ i = .int .i64 j ∧ Hid (Op.Nm t (min j 23) (min j 23)) ∧ Hid (VT w wr [(g1, .th A k t)])) (fun i _ => n - (intOf i).toNat)
  case atStart => exact ⟨0, _, A0, k0, by omega, rfl, Op.nm_zero, HV⟩
  case round =>
    clear HV
    obtain ⟨j, t, A, k, hj, rfl, HNM, HV⟩ := hrel
    obtain ⟨wo, rfl⟩ : ∃ wo, wo = wr := ⟨wr, rfl⟩
    by_cases hlt : j < n
    · have HSj : Hid (Op.Sound t) := HNM.out.fl.snd
      have HNB : Hid (97 + (j : Int) = ((nb j).toNat : Int)) := (nb_int (by omega)).symm
      by_cases h23 : j < 23
      · skip
        have hnm := HNM.out
        rw [show min j 23 = j by omega] at hnm
        obtain ⟨y, hy, hst, hati, hatg, hnm2⟩ := hnm.more h23 (by omega)
        have HY := Lib.hid hy
        have HN2 : Hid (Op.Nm y.1 (min (j + 1) 23) (min (j + 1) 23)) := by rw [show min (j + 1) 23 = j + 1 by omega]; exact hnm2
        have HST := Lib.hid hst
        have HAT := Lib.hid hati
        have HAG := Lib.hid hatg
        have kd : decide ((23 : Int) ≤ (j : Int)) = false := by simp; omega
        clear hnm hy hst hati hatg hnm2 HNM
        go_wp2_with (first
          | (refine wpList_load_part rfl 27 (.tmp 7) rfl g1 0 rfl _ Tryz.underlying27 rfl (tc t (.slice A 24 k)) 27 _ (HV.out.bw 0 rfl) size_Th (fun j u hu => by rw [Nat.zero_add]; exact hu) ?_)
          | (refine wpList_byte2 rfl (.const (.int .u8 102)) (.tmp 40) rfl 102 (nb j) e102 (congrArg (Value.int .u8) HNB.out) ?_; intro w1b hbs1 hbb1)
          | (refine wpList_conv_bs rfl (.tmp 41) rfl _ 2 2 [102, nb j] rfl hbs1 ?_))
        have HVc1 := Lib.hid (HV.out.below (hbb1))
        refine (HPK.out.run t A k (Op.crC (Op.nmF j) 0) none 0 0 _ (show TM _ A k t from HVc1.out.ok 0 rfl) HSj.out (Op.crC_wide (by omega)) (Nat.le_of_ble_eq_true rfl) (Nat.le_of_ble_eq_true rfl) (Nat.le_of_ble_eq_true rfl) BS.nil (Nat.le_refl _)).mono ?_
        rintro e w1a ⟨A1, k1, B1, n1, d1, C1, m1, f1, rfl, tm1, rm1, hb1⟩
        have e1 := Op.do_step (c := (Op.crC (Op.nmF j) 0)) HSj.out.inv.may (Nat.le_of_ble_eq_true rfl) (Nat.le_of_ble_eq_true rfl) (Nat.ne_of_beq_eq_false rfl)
        rw [show Op.step t (Op.crC (Op.nmF j) 0) = (y.1, y.2) from HY.out] at e1
        have HS1 : Hid (Op.Sound y.1) := by show Op.Sound _; rw [show y.1 = Op.doT t (Op.crC (Op.nmF j) 0) from e1.1.symm]; exact HSj.out.doT (Op.crC_wide (by omega))
        rw [show Op.doT t (Op.crC (Op.nmF j) 0) = y.1 from e1.1] at tm1 ⊢
        rw [show Op.doR t (Op.crC (Op.nmF j) 0) = y.2 from e1.2] at rm1 ⊢
        have HV1a := Lib.hid (HVc1.out.below hb1)
        clear e1 hb1
        go_upto_region 12 with (first
          | (refine wpList_alloc_any rfl 27 rfl _ zero_Th ?_
             intro w1t hbt1 hst1 hwt1)
          | (refine wpList_alloc_any rfl 49 rfl _ zero_Rp ?_
             intro w1r hbr1 hsr1 hwr1
             have hbt21 : Bw w1r w1a.heap.size (tc Op.zeroT (.slice none 0 0)) 27 := Bw.below hbt1 hwr1)
          | (refine wpList_store_part rfl 27 (.tmp 9) (.tmp 45) rfl w1a.heap.size 0 (tc y.1 (.slice A1 24 k1)) rfl rfl 27 _ hbt21 size_Th (by simp [tc]) (tc_row _ _ _ _) ?_
             intro w1u hbu1 hsu1 hku1
             have hbr21 : Bw w1u w1t.heap.size (rc Rp.zero (.slice none 0 0) (.slice none 0 0)) 49 := Bw.keep hbr1 hku1 (by omega))
          | (refine wpList_store_part rfl 49 (.tmp 10) (.tmp 46) rfl w1t.heap.size 0 (rc y.2 (.slice B1 n1 d1) (.slice C1 m1 f1)) rfl rfl 49 _ hbr21 size_Rp (by simp [rc]) (rc_row _ _ _ _ _ _ _) ?_
             intro w1v hbv1 hsv1 hkv1))
        have hbe1 : Below w1a.heap.size w1a w1v := ((hwt1.trans (hwr1.mono (by omega))).trans (hku1.below2 (fun k hk => by omega))).trans (hkv1.below2 (fun k hk => by omega))
        have HV1 : Hid (VT w w1v [(g1, .th A k t), (w1a.heap.size, .th A1 k1 y.1), (w1t.heap.size, .rp B1 n1 d1 C1 m1 f1 y.2)]) := VT.push2 HV1a.out (g := w1a.heap.size) (g' := w1t.heap.size) (v := .th A1 k1 y.1) (v' := .rp B1 n1 d1 C1 m1 f1 y.2) (Nat.le_refl _) (by omega) (by omega) (Bw.keep hbu1 hkv1 (by omega)) hbv1 hbe1 tm1 rm1
        clear HV1a hbe1 hbt1 hst1 hwt1 hbr1 hsr1 hwr1 hbt21 hbu1 hsu1 hku1 hbr21 hbv1 hsv1 hkv1 tm1 rm1 HV HVc1
        generalize w1t.heap.size = g1r at *
        generalize w1a.heap.size = g1t at *
        clear hbs1 hbb1 HNB
        have s2 := HV1.out.cell 2 rfl 2 _ rfl
        have s3 := HV1.out.cell 2 rfl 3 _ rfl
        have s4 := HV1.out.cell 2 rfl 4 _ rfl
        rw [HST.out] at s2
        rw [HAT.out] at s3
        rw [HAG.out] at s4
        clear HST HAT HAG HY
        go_wp2_with (first
          | (refine wpList_load_part rfl 27 (.tmp 9) rfl g1t 0 rfl _ Tryz.underlying27 rfl (tc y.1 (.slice A1 24 k1)) 27 _ (HV1.out.bw 1 rfl) size_Th (fun j u hu => by rw [Nat.zero_add]; exact hu) ?_)
          | (refine wpList_store_part rfl 27 (.tmp 7) (.tmp 70) rfl g1 0 (tc y.1 (.slice A1 24 k1)) rfl rfl 27 _ (HV1.out.bw 0 rfl) size_Th (by simp [tc, Vr.cells]) (tc_row _ _ _ _) ?_
             intro w2u hbu2 hsu2 hku2
             have HV2 : Hid (VT w w2u [(g1, .th A1 k1 y.1), (g1t, .th A1 k1 y.1), (g1r, .rp B1 n1 d1 C1 m1 f1 y.2)]) := HV1.out.put 0 (u := .th A1 k1 y.1) rfl hbu2 hku2 (show TM _ _ _ _ from HV1.out.ok 1 rfl)
             clear hbu2 hsu2 hku2))
        clear HV1
        have HV3 : Hid (VT w _ [(g1, .th A1 k1 y.1)]) := VT.left (us := [(g1t, .th A1 k1 y.1), (g1r, .rp B1 n1 d1 C1 m1 f1 y.2)]) HV2.out
        clear HV2
        clear s2 s3 s4 kd h23
        go_wp2_with fail
        go_roundw
        case rel => exact ⟨j + 1, y.1, A1, k1, by omega, by go_num, HN2, HV3⟩
        case measure => simp [intOf]; omega
      · skip
        have hnm := HNM.out
        rw [show min j 23 = 23 by omega] at hnm
        have HST := Lib.hid (hnm.full (show 23 ≤ j by omega) (by omega))
        have HN2 : Hid (Op.Nm t (min (j + 1) 23) (min (j + 1) 23)) := by rw [show min (j + 1) 23 = 23 by omega]; exact hnm
        have kd : decide ((23 : Int) ≤ (j : Int)) = true := by simp; omega
        clear hnm HNM
        go_wp2_with (first
          | (refine wpList_load_part rfl 27 (.tmp 7) rfl g1 0 rfl _ Tryz.underlying27 rfl (tc t (.slice A 24 k)) 27 _ (HV.out.bw 0 rfl) size_Th (fun j u hu => by rw [Nat.zero_add]; exact hu) ?_)
          | (refine wpList_byte2 rfl (.const (.int .u8 102)) (.tmp 40) rfl 102 (nb j) e102 (congrArg (Value.int .u8) HNB.out) ?_; intro w1b hbs1 hbb1)
          | (refine wpList_conv_bs rfl (.tmp 41) rfl _ 2 2 [102, nb j] rfl hbs1 ?_))
        have HVc1 := Lib.hid (HV.out.below (hbb1))
        refine (HPK.out.run t A k (Op.crC (Op.nmF j) 0) none 0 0 _ (show TM _ A k t from HVc1.out.ok 0 rfl) HSj.out (Op.crC_wide (by omega)) (Nat.le_of_ble_eq_true rfl) (Nat.le_of_ble_eq_true rfl) (Nat.le_of_ble_eq_true rfl) BS.nil (Nat.le_refl _)).mono ?_
        rintro e w1a ⟨A1, k1, B1, n1, d1, C1, m1, f1, rfl, tm1, rm1, hb1⟩
        have e1 := Op.do_step (c := (Op.crC (Op.nmF j) 0)) HSj.out.inv.may (Nat.le_of_ble_eq_true rfl) (Nat.le_of_ble_eq_true rfl) (Nat.ne_of_beq_eq_false rfl)
        have HS1 : Hid (Op.Sound (Op.step t (Op.crC (Op.nmF j) 0)).1) := by show Op.Sound _; rw [show (Op.step t (Op.crC (Op.nmF j) 0)).1 = Op.doT t (Op.crC (Op.nmF j) 0) from e1.1.symm]; exact HSj.out.doT (Op.crC_wide (by omega))
        rw [show Op.doT t (Op.crC (Op.nmF j) 0) = (Op.step t (Op.crC (Op.nmF j) 0)).1 from e1.1] at tm1 ⊢
        rw [show Op.doR t (Op.crC (Op.nmF j) 0) = (Op.step t (Op.crC (Op.nmF j) 0)).2 from e1.2] at rm1 ⊢
        have HV1a := Lib.hid (HVc1.out.below hb1)
        clear e1 hb1
        go_upto_region 12 with (first
          | (refine wpList_alloc_any rfl 27 rfl _ zero_Th ?_
             intro w1t hbt1 hst1 hwt1)
          | (refine wpList_alloc_any rfl 49 rfl _ zero_Rp ?_
             intro w1r hbr1 hsr1 hwr1
             have hbt21 : Bw w1r w1a.heap.size (tc Op.zeroT (.slice none 0 0)) 27 := Bw.below hbt1 hwr1)
          | (refine wpList_store_part rfl 27 (.tmp 9) (.tmp 45) rfl w1a.heap.size 0 (tc (Op.step t (Op.crC (Op.nmF j) 0)).1 (.slice A1 24 k1)) rfl rfl 27 _ hbt21 size_Th (by simp [tc]) (tc_row _ _ _ _) ?_
             intro w1u hbu1 hsu1 hku1
             have hbr21 : Bw w1u w1t.heap.size (rc Rp.zero (.slice none 0 0) (.slice none 0 0)) 49 := Bw.keep hbr1 hku1 (by omega))
          | (refine wpList_store_part rfl 49 (.tmp 10) (.tmp 46) rfl w1t.heap.size 0 (rc (Op.step t (Op.crC (Op.nmF j) 0)).2 (.slice B1 n1 d1) (.slice C1 m1 f1)) rfl rfl 49 _ hbr21 size_Rp (by simp [rc]) (rc_row _ _ _ _ _ _ _) ?_
             intro w1v hbv1 hsv1 hkv1))
        have hbe1 : Below w1a.heap.size w1a w1v := ((hwt1.trans (hwr1.mono (by omega))).trans (hku1.below2 (fun k hk => by omega))).trans (hkv1.below2 (fun k hk => by omega))
        have HV1 : Hid (VT w w1v [(g1, .th A k t), (w1a.heap.size, .th A1 k1 (Op.step t (Op.crC (Op.nmF j) 0)).1), (w1t.heap.size, .rp B1 n1 d1 C1 m1 f1 (Op.step t (Op.crC (Op.nmF j) 0)).2)]) := VT.push2 HV1a.out (g := w1a.heap.size) (g' := w1t.heap.size) (v := .th A1 k1 (Op.step t (Op.crC (Op.nmF j) 0)).1) (v' := .rp B1 n1 d1 C1 m1 f1 (Op.step t (Op.crC (Op.nmF j) 0)).2) (Nat.le_refl _) (by omega) (by omega) (Bw.keep hbu1 hkv1 (by omega)) hbv1 hbe1 tm1 rm1
        clear HV1a hbe1 hbt1 hst1 hwt1 hbr1 hsr1 hwr1 hbt21 hbu1 hsu1 hku1 hbr21 hbv1 hsv1 hkv1 tm1 rm1 HV HVc1
        generalize w1t.heap.size = g1r at *
        generalize w1a.heap.size = g1t at *
        clear hbs1 hbb1 HNB
        have s2 := HV1.out.cell 2 rfl 2 _ rfl
        rw [HST.out] at s2
        clear HST
        go_wp2_with fail
        have HV2 : Hid (VT w _ [(g1, .th A k t)]) := VT.left (us := [(g1t, .th A1 k1 (Op.step t (Op.crC (Op.nmF j) 0)).1), (g1r, .rp B1 n1 d1 C1 m1 f1 (Op.step t (Op.crC (Op.nmF j) 0)).2)]) HV1.out
        clear HV1
        clear s2 kd h23
        go_roundw
        case rel => exact ⟨j + 1, t, A, k, by omega, by go_num, HN2, HV2⟩
        case measure => simp [intOf]; omega
    · obtain rfl : n = j := by omega
      obtain ⟨m, hm⟩ : ∃ m, min n 23 = m := ⟨_, rfl⟩
      have HN0 : Hid (Op.Nm t (23 + 0) m) := by
        have h := HNM.out
        rw [hm] at h
        exact h.mono (by omega)
      have HM : Hid (min n 23 = m) := hm
      have hm23 : m ≤ 23 := by omega
      clear HNM hlt hj hm
      go_wp2_with fail
      go_loopw [11] (fun i wr => ∃ (j : Nat) (t : Op.TT) (A : Option Addr) (k : Nat), j ≤ len ∧ i = .int .i64 j ∧ Hid (Op.Nm t (23 + j) m) ∧ Hid (VT w wr [(g1, .th A k t)])) (fun i _ => len - (intOf i).toNat)
      case atStart => exact ⟨0, t, A, k, by omega, rfl, HN0, HV⟩
      case round =>
        clear HV HN0
        obtain ⟨j, t, A, k, hj, rfl, HNM, HV⟩ := hrel
        obtain ⟨wi, rfl⟩ : ∃ wi, wi = wr := ⟨wr, rfl⟩
        have HSj : Hid (Op.Sound t) := HNM.out.fl.snd
        by_cases hjl : j < len
        · by_cases hn0 : 0 < n
          · have hb := HL.out.below HV.out.bel
            obtain ⟨b, o, rfl, hc⟩ := hb.2 (by omega)
            have hll : l.length = len := hb.1
            have cj := hc j (by omega)
            have hx : (l[j]'(by omega)).toNat < 256 := UInt8.toNat_lt _
            generalize (l[j]'(by omega)).toNat = x at *
            have hmp : 0 < m := by have := HM.out; omega
            obtain ⟨q, hq⟩ : ∃ q, x % m = q := ⟨_, rfl⟩
            have hqm : q < m := by rw [← hq]; exact Nat.mod_lt _ hmp
            have HQ : Hid ((x : Int) % min (n : Int) 23 = (q : Int)) := by
              show _ = _
              rw [show min (n : Int) 23 = (m : Int) by have := HM.out; omega, ← hq]
              push_cast
              rfl
            clear hb hc hll hq
            go_upto_region 22 with fail
            rw [HQ.out]
            clear HQ cj hx
            have HNB : Hid (97 + (q : Int) = ((nb q).toNat : Int)) := (nb_int (by omega)).symm
            obtain ⟨hwi, hwg, hg1, y, hy, hyst, hys, z, hz, hzst, hzi, hzg, hnz⟩ := HNM.out.again (by omega) hqm
            have HWI := Lib.hid hwi
            have HWG := Lib.hid hwg
            have HY := Lib.hid hy
            have HYS := Lib.hid hyst
            have HZ := Lib.hid hz
            have HZS := Lib.hid hzst
            have HZI := Lib.hid hzi
            have HZG := Lib.hid hzg
            have HNZ : Hid (Op.Nm z.1 (23 + (j + 1)) m) := hnz.mono (by omega)
            clear hwi hwg hy hyst hys hz hzst hzi hzg hnz
            go_upto_region 23 with (first
              | (refine wpList_byte2 rfl (.const (.int .u8 102)) (.tmp 91) rfl 102 (nb q) e102 (congrArg (Value.int .u8) HNB.out) ?_; intro wb hbs hbb)
              | (refine wpList_conv_bs rfl (.tmp 92) rfl _ 2 2 [102, nb q] rfl hbs ?_))
            have HVb := Lib.hid (HV.out.below hbb)
            clear HV hbs hbb HNB
            go_wp2_with (refine wpList_load_part rfl 27 (.tmp 7) rfl g1 0 rfl _ Tryz.underlying27 rfl (tc t (.slice A 24 k)) 27 _ (HVb.out.bw 0 rfl) size_Th (fun j u hu => by rw [Nat.zero_add]; exact hu) ?_)
            refine (HPK.out.run t A k (Op.cl 1 0 1 (Op.nmF q)) none 0 0 _ (show TM _ A k t from HVb.out.ok 0 rfl) HSj.out (Op.cl_wide (by decide) (by decide) (by decide)) (Nat.le_of_ble_eq_true rfl) (Nat.le_of_ble_eq_true rfl) (Nat.le_of_ble_eq_true rfl) BS.nil (Nat.le_refl _)).mono ?_
            rintro e w4a ⟨A4, k4, B4, n4, d4, C4, m4, f4, rfl, tm4, rm4, hb4⟩
            have e4 := Op.do_step (c := (Op.cl 1 0 1 (Op.nmF q))) HSj.out.inv.may (Nat.le_of_ble_eq_true rfl) (Nat.le_of_ble_eq_true rfl) (Nat.ne_of_beq_eq_false rfl)
            have HS4 : Hid (Op.Sound (Op.step t (Op.cl 1 0 1 (Op.nmF q))).1) := by show Op.Sound _; rw [show (Op.step t (Op.cl 1 0 1 (Op.nmF q))).1 = Op.doT t (Op.cl 1 0 1 (Op.nmF q)) from e4.1.symm]; exact HSj.out.doT (Op.cl_wide (by decide) (by decide) (by decide))
            rw [show Op.doT t (Op.cl 1 0 1 (Op.nmF q)) = (Op.step t (Op.cl 1 0 1 (Op.nmF q))).1 from e4.1] at tm4 ⊢
            rw [show Op.doR t (Op.cl 1 0 1 (Op.nmF q)) = (Op.step t (Op.cl 1 0 1 (Op.nmF q))).2 from e4.2] at rm4 ⊢
            have HV4a := Lib.hid (HVb.out.below hb4)
            clear e4 hb4
            go_upto_region 24 with (first
              | (refine wpList_alloc_any rfl 27 rfl _ zero_Th ?_
                 intro w4t hbt4 hst4 hwt4)
              | (refine wpList_alloc_any rfl 49 rfl _ zero_Rp ?_
                 intro w4r hbr4 hsr4 hwr4
                 have hbt24 : Bw w4r w4a.heap.size (tc Op.zeroT (.slice none 0 0)) 27 := Bw.below hbt4 hwr4)
              | (refine wpList_store_part rfl 27 (.tmp 14) (.tmp 100) rfl w4a.heap.size 0 (tc (Op.step t (Op.cl 1 0 1 (Op.nmF q))).1 (.slice A4 24 k4)) rfl rfl 27 _ hbt24 size_Th (by simp [tc]) (tc_row _ _ _ _) ?_
                 intro w4u hbu4 hsu4 hku4
                 have hbr24 : Bw w4u w4t.heap.size (rc Rp.zero (.slice none 0 0) (.slice none 0 0)) 49 := Bw.keep hbr4 hku4 (by omega))
              | (refine wpList_store_part rfl 49 (.tmp 15) (.tmp 101) rfl w4t.heap.size 0 (rc (Op.step t (Op.cl 1 0 1 (Op.nmF q))).2 (.slice B4 n4 d4) (.slice C4 m4 f4)) rfl rfl 49 _ hbr24 size_Rp (by simp [rc]) (rc_row _ _ _ _ _ _ _) ?_
                 intro w4v hbv4 hsv4 hkv4))
            have hbe4 : Below w4a.heap.size w4a w4v := ((hwt4.trans (hwr4.mono (by omega))).trans (hku4.below2 (fun k hk => by omega))).trans (hkv4.below2 (fun k hk => by omega))
            have HV4 : Hid (VT w w4v [(g1, .th A k t), (w4t.heap.size, .rp B4 n4 d4 C4 m4 f4 (Op.step t (Op.cl 1 0 1 (Op.nmF q))).2)]) := HV4a.out.push (g := w4t.heap.size) (v := .rp B4 n4 d4 C4 m4 f4 (Op.step t (Op.cl 1 0 1 (Op.nmF q))).2) (by omega) hbv4 hbe4 rm4 
            clear HV4a hbe4 hbt4 hst4 hwt4 hbr4 hsr4 hwr4 hbt24 hbu4 hsu4 hku4 hbr24 hbv4 hsv4 hkv4 tm4 rm4 HVb
            generalize w4t.heap.size = g4r at *
            generalize w4a.heap.size = g4t at *
            go_wp2_with (refine wpList_load_part rfl 27 (.tmp 7) rfl g1 0 rfl _ Tryz.underlying27 rfl (tc t (.slice A 24 k)) 27 _ (HV4.out.bw 0 rfl) size_Th (fun j u hu => by rw [Nat.zero_add]; exact hu) ?_)
            refine (HPK.out.run t A k (Op.cl 10 0 1 (Op.nmF q)) none 0 0 _ (show TM _ A k t from HV4.out.ok 0 rfl) HSj.out (Op.cl_wide (by decide) (by decide) (by decide)) (Nat.le_of_ble_eq_true rfl) (Nat.le_of_ble_eq_true rfl) (Nat.le_of_ble_eq_true rfl) BS.nil (Nat.le_refl _)).mono ?_
            rintro e w5a ⟨A5, k5, B5, n5, d5, C5, m5, f5, rfl, tm5, rm5, hb5⟩
            have e5 := Op.do_step (c := (Op.cl 10 0 1 (Op.nmF q))) HSj.out.inv.may (Nat.le_of_ble_eq_true rfl) (Nat.le_of_ble_eq_true rfl) (Nat.ne_of_beq_eq_false rfl)
            rw [show Op.step t (Op.cl 10 0 1 (Op.nmF q)) = (y.1, y.2) from HY.out] at e5
            have HS5 : Hid (Op.Sound y.1) := by show Op.Sound _; rw [show y.1 = Op.doT t (Op.cl 10 0 1 (Op.nmF q)) from e5.1.symm]; exact HSj.out.doT (Op.cl_wide (by decide) (by decide) (by decide))
            rw [show Op.doT t (Op.cl 10 0 1 (Op.nmF q)) = y.1 from e5.1] at tm5 ⊢
            rw [show Op.doR t (Op.cl 10 0 1 (Op.nmF q)) = y.2 from e5.2] at rm5 ⊢
            have HV5a := Lib.hid (HV4.out.below hb5)
            clear e5 hb5
            go_upto_region 25 with (first
              | (refine wpList_alloc_any rfl 27 rfl _ zero_Th ?_
                 intro w5t hbt5 hst5 hwt5)
              | (refine wpList_alloc_any rfl 49 rfl _ zero_Rp ?_
                 intro w5r hbr5 hsr5 hwr5
                 have hbt25 : Bw w5r w5a.heap.size (tc Op.zeroT (.slice none 0 0)) 27 := Bw.below hbt5 hwr5)
              | (refine wpList_store_part rfl 27 (.tmp 16) (.tmp 108) rfl w5a.heap.size 0 (tc y.1 (.slice A5 24 k5)) rfl rfl 27 _ hbt25 size_Th (by simp [tc]) (tc_row _ _ _ _) ?_
                 intro w5u hbu5 hsu5 hku5
                 have hbr25 : Bw w5u w5t.heap.size (rc Rp.zero (.slice none 0 0) (.slice none 0 0)) 49 := Bw.keep hbr5 hku5 (by omega))
              | (refine wpList_store_part rfl 49 (.tmp 17) (.tmp 109) rfl w5t.heap.size 0 (rc y.2 (.slice B5 n5 d5) (.slice C5 m5 f5)) rfl rfl 49 _ hbr25 size_Rp (by simp [rc]) (rc_row _ _ _ _ _ _ _) ?_
                 intro w5v hbv5 hsv5 hkv5))
            have hbe5 : Below w5a.heap.size w5a w5v := ((hwt5.trans (hwr5.mono (by omega))).trans (hku5.below2 (fun k hk => by omega))).trans (hkv5.below2 (fun k hk => by omega))
            have HV5 : Hid (VT w w5v [(g1, .th A k t), (g4r, .rp B4 n4 d4 C4 m4 f4 (Op.step t (Op.cl 1 0 1 (Op.nmF q))).2), (w5a.heap.size, .th A5 k5 y.1), (w5t.heap.size, .rp B5 n5 d5 C5 m5 f5 y.2)]) := VT.push2 HV5a.out (g := w5a.heap.size) (g' := w5t.heap.size) (v := .th A5 k5 y.1) (v' := .rp B5 n5 d5 C5 m5 f5 y.2) (Nat.le_refl _) (by omega) (by omega) (Bw.keep hbu5 hkv5 (by omega)) hbv5 hbe5 tm5 rm5
            clear HV5a hbe5 hbt5 hst5 hwt5 hbr5 hsr5 hwr5 hbt25 hbu5 hsu5 hku5 hbr25 hbv5 hsv5 hkv5 tm5 rm5 HV4
            generalize w5t.heap.size = g5r at *
            generalize w5a.heap.size = g5t at *
            go_wp2_with (refine wpList_load_part rfl 27 (.tmp 16) rfl g5t 0 rfl _ Tryz.underlying27 rfl (tc y.1 (.slice A5 24 k5)) 27 _ (HV5.out.bw 2 rfl) size_Th (fun j u hu => by rw [Nat.zero_add]; exact hu) ?_)
            refine (HPK.out.run y.1 A5 k5 (Op.crC (Op.nmF q) 0) none 0 0 _ (show TM _ A5 k5 y.1 from HV5.out.ok 2 rfl) HS5.out (Op.crC_wide (by omega)) (Nat.le_of_ble_eq_true rfl) (Nat.le_of_ble_eq_true rfl) (Nat.le_of_ble_eq_true rfl) BS.nil (Nat.le_refl _)).mono ?_
            rintro e w6a ⟨A6, k6, B6, n6, d6, C6, m6, f6, rfl, tm6, rm6, hb6⟩
            have e6 := Op.do_step (c := (Op.crC (Op.nmF q) 0)) HS5.out.inv.may (Nat.le_of_ble_eq_true rfl) (Nat.le_of_ble_eq_true rfl) (Nat.ne_of_beq_eq_false rfl)
            rw [show Op.step y.1 (Op.crC (Op.nmF q) 0) = (z.1, z.2) from HZ.out] at e6
            have HS6 : Hid (Op.Sound z.1) := by show Op.Sound _; rw [show z.1 = Op.doT y.1 (Op.crC (Op.nmF q) 0) from e6.1.symm]; exact HS5.out.doT (Op.crC_wide (by omega))
            rw [show Op.doT y.1 (Op.crC (Op.nmF q) 0) = z.1 from e6.1] at tm6 ⊢
            rw [show Op.doR y.1 (Op.crC (Op.nmF q) 0) = z.2 from e6.2] at rm6 ⊢
            have HV6a := Lib.hid (HV5.out.below hb6)
            clear e6 hb6
            go_upto_region 26 with (first
              | (refine wpList_alloc_any rfl 27 rfl _ zero_Th ?_
                 intro w6t hbt6 hst6 hwt6)
              | (refine wpList_alloc_any rfl 49 rfl _ zero_Rp ?_
                 intro w6r hbr6 hsr6 hwr6
                 have hbt26 : Bw w6r w6a.heap.size (tc Op.zeroT (.slice none 0 0)) 27 := Bw.below hbt6 hwr6)
              | (refine wpList_store_part rfl 27 (.tmp 18) (.tmp 116) rfl w6a.heap.size 0 (tc z.1 (.slice A6 24 k6)) rfl rfl 27 _ hbt26 size_Th (by simp [tc]) (tc_row _ _ _ _) ?_
                 intro w6u hbu6 hsu6 hku6
                 have hbr26 : Bw w6u w6t.heap.size (rc Rp.zero (.slice none 0 0) (.slice none 0 0)) 49 := Bw.keep hbr6 hku6 (by omega))
              | (refine wpList_store_part rfl 49 (.tmp 19) (.tmp 117) rfl w6t.heap.size 0 (rc z.2 (.slice B6 n6 d6) (.slice C6 m6 f6)) rfl rfl 49 _ hbr26 size_Rp (by simp [rc]) (rc_row _ _ _ _ _ _ _) ?_
                 intro w6v hbv6 hsv6 hkv6))
            have hbe6 : Below w6a.heap.size w6a w6v := ((hwt6.trans (hwr6.mono (by omega))).trans (hku6.below2 (fun k hk => by omega))).trans (hkv6.below2 (fun k hk => by omega))
            have HV6 : Hid (VT w w6v [(g1, .th A k t), (g4r, .rp B4 n4 d4 C4 m4 f4 (Op.step t (Op.cl 1 0 1 (Op.nmF q))).2), (g5t, .th A5 k5 y.1), (g5r, .rp B5 n5 d5 C5 m5 f5 y.2), (w6a.heap.size, .th A6 k6 z.1), (w6t.heap.size, .rp B6 n6 d6 C6 m6 f6 z.2)]) := VT.push2 HV6a.out (g := w6a.heap.size) (g' := w6t.heap.size) (v := .th A6 k6 z.1) (v' := .rp B6 n6 d6 C6 m6 f6 z.2) (Nat.le_refl _) (by omega) (by omega) (Bw.keep hbu6 hkv6 (by omega)) hbv6 hbe6 tm6 rm6
            clear HV6a hbe6 hbt6 hst6 hwt6 hbr6 hsr6 hwr6 hbt26 hbu6 hsu6 hku6 hbr26 hbv6 hsv6 hkv6 tm6 rm6 HV5
            generalize w6t.heap.size = g6r at *
            generalize w6a.heap.size = g6t at *
            have a3 := HV6.out.cell 1 rfl 3 _ rfl
            have a4 := HV6.out.cell 1 rfl 4 _ rfl
            rw [HWI.out] at a3
            rw [HWG.out] at a4
            have r2 := HV6.out.cell 3 rfl 2 _ rfl
            rw [HYS.out] at r2
            have s2 := HV6.out.cell 5 rfl 2 _ rfl
            have s3 := HV6.out.cell 5 rfl 3 _ rfl
            have s4 := HV6.out.cell 5 rfl 4 _ rfl
            rw [HZS.out] at s2
            rw [HZI.out] at s3
            rw [HZG.out] at s4
            clear HWI HWG HY HYS HZ HZS HZI HZG
            generalize (t.s (q + 1)).gen = G at *
            go_wp2_with (first
              | (refine wpList_load_part rfl 27 (.tmp 18) rfl g6t 0 rfl _ Tryz.underlying27 rfl (tc z.1 (.slice A6 24 k6)) 27 _ (HV6.out.bw 4 rfl) size_Th (fun j u hu => by rw [Nat.zero_add]; exact hu) ?_)
              | (refine wpList_store_part rfl 27 (.tmp 7) (.tmp 145) rfl g1 0 (tc z.1 (.slice A6 24 k6)) rfl rfl 27 _ (HV6.out.bw 0 rfl) size_Th (by simp [tc, Vr.cells]) (tc_row _ _ _ _) ?_
                 intro w7u hbu7 hsu7 hku7
                 have HV7 : Hid (VT w w7u [(g1, .th A6 k6 z.1), (g4r, .rp B4 n4 d4 C4 m4 f4 (Op.step t (Op.cl 1 0 1 (Op.nmF q))).2), (g5t, .th A5 k5 y.1), (g5r, .rp B5 n5 d5 C5 m5 f5 y.2), (g6t, .th A6 k6 z.1), (g6r, .rp B6 n6 d6 C6 m6 f6 z.2)]) := HV6.out.put 0 (u := .th A6 k6 z.1) rfl hbu7 hku7 (show TM _ _ _ _ from HV6.out.ok 4 rfl)
                 clear hbu7 hsu7 hku7))
            clear HV6
            have HV8 : Hid (VT w _ [(g1, .th A6 k6 z.1)]) := VT.left (us := [(g4r, .rp B4 n4 d4 C4 m4 f4 (Op.step t (Op.cl 1 0 1 (Op.nmF q))).2), (g5t, .th A5 k5 y.1), (g5r, .rp B5 n5 d5 C5 m5 f5 y.2), (g6t, .th A6 k6 z.1), (g6r, .rp B6 n6 d6 C6 m6 f6 z.2)]) HV7.out
            clear HV7
            clear a3 a4 r2 s2 s3 s4
            go_wp2_with fail
            go_roundw
            case rel => exact ⟨j + 1, z.1, A6, k6, by omega, by go_num, HNZ, HV8⟩
            case measure => simp [intOf]; omega
          · have kd : decide ((0 : Int) < (n : Int)) = false := by simp; omega
            go_wp2_with (refine wpList_load_part rfl 27 (.tmp 7) rfl g1 0 rfl _ Tryz.underlying27 rfl (tc t (.slice A 24 k)) 27 _ (HV.out.bw 0 rfl) size_Th (fun j u hu => by rw [Nat.zero_add]; exact hu) ?_)
            refine (sound_any (show TM _ A k t from HV.out.ok 0 rfl) HSj.out).mono ?_
            rintro e w9 ⟨rfl, hb9⟩
            have HBF : Hid (Below w.heap.size w w9) := (HV.out.below hb9).bel
            clear hb9
            go_wp2_with fail
            go_ret
            exact ⟨rfl, HBF.out⟩
        · have kd : decide ((j : Int) < (len : Int)) = false := by simp; omega
          go_wp2_with (refine wpList_load_part rfl 27 (.tmp 7) rfl g1 0 rfl _ Tryz.underlying27 rfl (tc t (.slice A 24 k)) 27 _ (HV.out.bw 0 rfl) size_Th (fun j u hu => by rw [Nat.zero_add]; exact hu) ?_)
          refine (sound_any (show TM _ A k t from HV.out.ok 0 rfl) HSj.out).mono ?_
          rintro e w9 ⟨rfl, hb9⟩
          have HBF : Hid (Below w.heap.size w w9) := (HV.out.below hb9).bel
          clear hb9
          go_wp2_with fail
          go_ret
          exact ⟨rfl, HBF.out⟩
end Go.Proofs.YtndnkfnhgakibaaGreat
