/-
  The law's example (layer 13).
-/
import Derived.Test.YtpbpdnjlomhkdaaGreatOPB
import Derived.Test.YtpbpdnjlomhkdaaGreatOPA
namespace Go.Proofs.YtpbpdnjlomhkdaaGreat
open Go.RowKit Go.Shelf
attribute [local go_sem] Oper.semAt_some

theorem tc_row (t : Op.TT) (A : Option Addr) (n c : Nat) : ∀ v ∈ tc t (.slice A n c), v.oneCell' = true := by
  intro v hv
  simp only [tc, List.mem_cons, List.not_mem_nil, or_false] at hv
  rcases hv with rfl | rfl | rfl <;> rfl
theorem rc_row (r : Rp) (A : Option Addr) (n c : Nat) (B : Option Addr) (m d : Nat) : ∀ v ∈ rc r (.slice A n c) (.slice B m d), v.oneCell' = true := by
  intro v hv
  simp only [rc, List.mem_cons, List.not_mem_nil, or_false] at hv
  rcases hv with rfl | rfl | rfl | rfl | rfl | rfl | rfl | rfl | rfl | rfl | rfl | rfl | rfl | rfl | rfl <;> rfl
theorem RM.zero (w : World) : RM w none 0 0 none 0 0 Rp.zero := ⟨BS.nil, ES.nil, by omega⟩
theorem Op.cl_wide {op i g : Nat} {nm : List UInt8} (h1 : op < 4294967296) (h2 : i < 4294967296) (h3 : g < 4294967296) : (Op.cl op i g nm).Wide := by
  constructor <;> first | exact h1 | exact h2 | exact h3 | (show (0 : Nat) < _; omega)
set_option maxRecDepth 100000 in
set_option maxHeartbeats 4000000 in
theorem awakeO_any (HP : Pk) (w : World) : Calls Tryz.prog 17 #[] w fun e w' => e = .returned (.bool true) ∧ Below w.heap.size w w' := by
  have HPK := Lib.hid HP
  clear HP
  go_enter Tryz.func17, Tryz.ntmps17
  go_wp2_with fail
  refine (HPK.out.format 20 w (by omega)).mono ?_
  rintro e w1 ⟨A0, k0, rfl, tm0, hb1⟩
  have HT0 := Lib.hid tm0
  have HB1 := Lib.hid hb1
  clear tm0 hb1
  go_upto_region 2 with (first
    | (refine wpList_alloc_any rfl 27 rfl _ zero_Th ?_; intro w2 hb2 hs2 hw2)
    | (refine wpList_store_part rfl 27 (.tmp 1) (.tmp 9) rfl _ 0 (tc (Op.format 20) (.slice A0 24 k0)) rfl rfl 27 (tc Op.zeroT (.slice none 0 0)) hb2 size_Th (by simp [tc]) (tc_row _ _ _ _) ?_
       intro w3 hb3 hs3 hk3))
  have HV : Hid (VT w w3 [(w1.heap.size, .th A0 k0 (Op.format 20))]) := (VT.nil HB1.out).push (Nat.le_refl _) hb3 (hw2.trans (hk3.below2 (fun k hk => by omega))) HT0.out
  clear hb2 hs2 hw2 hb3 hs3 hk3 HT0 HB1
  generalize w1.heap.size = g1 at *
  have HS0 : Hid (Op.Sound (Op.format 20)) := Op.Sound.format
  go_wp2_with (refine wpList_load_part rfl 27 (.tmp 1) rfl g1 0 rfl _ Tryz.underlying27 rfl (tc (Op.format 20) (.slice A0 24 k0)) 27 _ (HV.out.bw 0 rfl) size_Th (fun j u hu => by rw [Nat.zero_add]; exact hu) ?_)
  refine (HPK.out.run (Op.format 20) A0 k0 (Op.cl 7 0 1 [97]) none 0 0 _ (show TM _ A0 k0 (Op.format 20) from HV.out.ok 0 rfl) HS0.out (Op.cl_wide (by decide) (by decide) (by decide)) (by decide) (by decide) (by decide) BS.nil (Nat.le_refl _)).mono ?_
  rintro e w1a ⟨A1, k1, B1, n1, d1, C1, m1, f1, rfl, tm1, rm1, hb1⟩
  have e1 := Op.do_step (c := (Op.cl 7 0 1 [97])) HS0.out.inv.may (by decide) (by decide) (by decide)
  have HS1 : Hid (Op.Sound Op.exT1) := by show Op.Sound _; rw [show Op.exT1 = Op.doT (Op.format 20) (Op.cl 7 0 1 [97]) from e1.1.symm]; exact HS0.out.doT (Op.cl_wide (by decide) (by decide) (by decide))
  rw [show Op.doT (Op.format 20) (Op.cl 7 0 1 [97]) = Op.exT1 from e1.1] at tm1 ⊢
  rw [show Op.doR (Op.format 20) (Op.cl 7 0 1 [97]) = Op.exR1 from e1.2] at rm1 ⊢
  have HV1a := Lib.hid (HV.out.below hb1)
  clear e1 hb1
  go_upto_region 3 with (first
    | (refine wpList_alloc_any rfl 49 rfl _ zero_Rp ?_
       intro w1r hbr1 hsr1 hwr1
       have HV1r : Hid (VT w w1r [(g1, .th A0 k0 (Op.format 20)), (w1a.heap.size, .rp none 0 0 none 0 0 Rp.zero)]) := HV1a.out.push (g := w1a.heap.size) (v := .rp none 0 0 none 0 0 Rp.zero) (Nat.le_refl _) hbr1 hwr1 (RM.zero _)
       have tmr1 := TM.below tm1 hwr1
       have rmr1 := RM.below rm1 hwr1
       clear hbr1 hsr1)
    | (refine wpList_store_part rfl 27 (.tmp 1) (.tmp 15) rfl g1 0 (tc Op.exT1 (.slice A1 24 k1)) rfl rfl 27 _ (HV1r.out.bw 0 rfl) size_Th (by simp [tc, Vr.cells]) (tc_row _ _ _ _) ?_
       intro w1u hbu1 hsu1 hku1
       have HV1u : Hid (VT w w1u [(g1, .th A1 k1 Op.exT1), (w1a.heap.size, .rp none 0 0 none 0 0 Rp.zero)]) := HV1r.out.put 0 (u := .th A1 k1 Op.exT1) rfl hbu1 hku1 tmr1
       have rmu1 : RM w1u B1 n1 d1 C1 m1 f1 Op.exR1 := Vr.ok.offV (v := .rp B1 n1 d1 C1 m1 f1 Op.exR1) (HV1r.out.bw 0 rfl) rmr1 hku1
       clear hbu1 hsu1 hku1 rmr1 tmr1)
    | (refine wpList_store_part rfl 49 (.tmp 2) (.tmp 16) rfl w1a.heap.size 0 (rc Op.exR1 (.slice B1 n1 d1) (.slice C1 m1 f1)) rfl rfl 49 _ (HV1u.out.bw 1 rfl) size_Rp (by simp [rc, Vr.cells]) (rc_row _ _ _ _ _ _ _) ?_
       intro w1v hbv1 hsv1 hkv1
       have HV1 : Hid (VT w w1v [(g1, .th A1 k1 Op.exT1), (w1a.heap.size, .rp B1 n1 d1 C1 m1 f1 Op.exR1)]) := HV1u.out.put 1 (u := .rp B1 n1 d1 C1 m1 f1 Op.exR1) rfl hbv1 hkv1 rmu1
       clear hbv1 hsv1 hkv1 rmu1))
  clear HV1a HV1r HV1u hwr1 tm1 rm1 HV
  generalize w1a.heap.size = g1r at *
  have q213 := HV1.out.cell 1 rfl 3 _ rfl
  have q214 := HV1.out.cell 1 rfl 4 _ rfl
  go_wp2_with (refine wpList_load_part rfl 27 (.tmp 1) rfl g1 0 rfl _ Tryz.underlying27 rfl (tc Op.exT1 (.slice A1 24 k1)) 27 _ (HV1.out.bw 0 rfl) size_Th (fun j u hu => by rw [Nat.zero_add]; exact hu) ?_)
  refine (HPK.out.run Op.exT1 A1 k1 (Op.cl 6 Op.exR1.ati Op.exR1.atg [102]) none 0 0 _ (show TM _ A1 k1 Op.exT1 from HV1.out.ok 0 rfl) HS1.out (Op.cl_wide (by decide) (by decide +kernel) (by decide +kernel)) (by decide) (by decide) (by decide) BS.nil (Nat.le_refl _)).mono ?_
  rintro e w2a ⟨A2, k2, B2, n2, d2, C2, m2, f2, rfl, tm2, rm2, hb2⟩
  have e2 := Op.do_step (c := (Op.cl 6 Op.exR1.ati Op.exR1.atg [102])) HS1.out.inv.may (by decide) (by decide) (by decide)
  have HS2 : Hid (Op.Sound Op.exT2) := by show Op.Sound _; rw [show Op.exT2 = Op.doT Op.exT1 (Op.cl 6 Op.exR1.ati Op.exR1.atg [102]) from e2.1.symm]; exact HS1.out.doT (Op.cl_wide (by decide) (by decide +kernel) (by decide +kernel))
  rw [show Op.doT Op.exT1 (Op.cl 6 Op.exR1.ati Op.exR1.atg [102]) = Op.exT2 from e2.1] at tm2 ⊢
  rw [show Op.doR Op.exT1 (Op.cl 6 Op.exR1.ati Op.exR1.atg [102]) = Op.exR2 from e2.2] at rm2 ⊢
  have HV2a := Lib.hid (HV1.out.below hb2)
  clear e2 hb2 q213 q214
  go_upto_region 4 with (first
    | (refine wpList_alloc_any rfl 49 rfl _ zero_Rp ?_
       intro w2r hbr2 hsr2 hwr2
       have HV2r : Hid (VT w w2r [(g1, .th A1 k1 Op.exT1), (g1r, .rp B1 n1 d1 C1 m1 f1 Op.exR1), (w2a.heap.size, .rp none 0 0 none 0 0 Rp.zero)]) := HV2a.out.push (g := w2a.heap.size) (v := .rp none 0 0 none 0 0 Rp.zero) (Nat.le_refl _) hbr2 hwr2 (RM.zero _)
       have tmr2 := TM.below tm2 hwr2
       have rmr2 := RM.below rm2 hwr2
       clear hbr2 hsr2)
    | (refine wpList_store_part rfl 27 (.tmp 1) (.tmp 23) rfl g1 0 (tc Op.exT2 (.slice A2 24 k2)) rfl rfl 27 _ (HV2r.out.bw 0 rfl) size_Th (by simp [tc, Vr.cells]) (tc_row _ _ _ _) ?_
       intro w2u hbu2 hsu2 hku2
       have HV2u : Hid (VT w w2u [(g1, .th A2 k2 Op.exT2), (g1r, .rp B1 n1 d1 C1 m1 f1 Op.exR1), (w2a.heap.size, .rp none 0 0 none 0 0 Rp.zero)]) := HV2r.out.put 0 (u := .th A2 k2 Op.exT2) rfl hbu2 hku2 tmr2
       have rmu2 : RM w2u B2 n2 d2 C2 m2 f2 Op.exR2 := Vr.ok.offV (v := .rp B2 n2 d2 C2 m2 f2 Op.exR2) (HV2r.out.bw 0 rfl) rmr2 hku2
       clear hbu2 hsu2 hku2 rmr2 tmr2)
    | (refine wpList_store_part rfl 49 (.tmp 3) (.tmp 24) rfl w2a.heap.size 0 (rc Op.exR2 (.slice B2 n2 d2) (.slice C2 m2 f2)) rfl rfl 49 _ (HV2u.out.bw 2 rfl) size_Rp (by simp [rc, Vr.cells]) (rc_row _ _ _ _ _ _ _) ?_
       intro w2v hbv2 hsv2 hkv2
       have HV2 : Hid (VT w w2v [(g1, .th A2 k2 Op.exT2), (g1r, .rp B1 n1 d1 C1 m1 f1 Op.exR1), (w2a.heap.size, .rp B2 n2 d2 C2 m2 f2 Op.exR2)]) := HV2u.out.put 2 (u := .rp B2 n2 d2 C2 m2 f2 Op.exR2) rfl hbv2 hkv2 rmu2
       clear hbv2 hsv2 hkv2 rmu2))
  clear HV2a HV2r HV2u hwr2 tm2 rm2 HV1
  generalize w2a.heap.size = g2r at *
  have e1l : Below w2v.heap.size w2v (w2v.alloc (.cells #[.int .u8 120] 5 (1, 2))) := (Below.refl _ _).alloc (Nat.le_refl _) _
  have q323 := HV2.out.cell 2 rfl 3 _ rfl
  have q324 := HV2.out.cell 2 rfl 4 _ rfl
  have hcr := conv_const w2v #[.int .u8 120] 1 1 w2v.heap.size rfl
  have HVc3 := Lib.hid (HV2.out.below (e1l))
  go_wp2_with (refine wpList_load_part rfl 27 (.tmp 1) rfl g1 0 rfl _ Tryz.underlying27 rfl (tc Op.exT2 (.slice A2 24 k2)) 27 _ (HV2.out.bw 0 rfl) size_Th (fun j u hu => by rw [Nat.zero_add]; exact hu) ?_)
  refine (HPK.out.run Op.exT2 A2 k2 Op.exC3 (some ⟨w2v.heap.size, 0, none⟩) 1 1 _ (show TM _ A2 k2 Op.exT2 from HVc3.out.ok 0 rfl) HS2.out (show Op.exC3.Wide from by constructor <;> decide +kernel) (by decide) (by decide) (by decide) (BS.ofM (l := [120]) (heap_alloc_new w2v _)) (Nat.le_refl _)).mono ?_
  rintro e w3a ⟨A3, k3, B3, n3, d3, C3, m3, f3, rfl, tm3, rm3, hb3⟩
  have e3 := Op.do_step (c := Op.exC3) HS2.out.inv.may (by decide) (by decide) (by decide)
  have HS3 : Hid (Op.Sound Op.exT3) := by show Op.Sound _; rw [show Op.exT3 = Op.doT Op.exT2 Op.exC3 from e3.1.symm]; exact HS2.out.doT (show Op.exC3.Wide from by constructor <;> decide +kernel)
  rw [show Op.doT Op.exT2 Op.exC3 = Op.exT3 from e3.1] at tm3 ⊢
  rw [show Op.doR Op.exT2 Op.exC3 = Op.exR3 from e3.2] at rm3 ⊢
  have HV3a := Lib.hid (HVc3.out.below hb3)
  clear e3 hb3 q323 q324
  go_upto_region 5 with (first
    | (refine wpList_alloc_any rfl 49 rfl _ zero_Rp ?_
       intro w3r hbr3 hsr3 hwr3
       have HV3r : Hid (VT w w3r [(g1, .th A2 k2 Op.exT2), (g1r, .rp B1 n1 d1 C1 m1 f1 Op.exR1), (g2r, .rp B2 n2 d2 C2 m2 f2 Op.exR2), (w3a.heap.size, .rp none 0 0 none 0 0 Rp.zero)]) := HV3a.out.push (g := w3a.heap.size) (v := .rp none 0 0 none 0 0 Rp.zero) (Nat.le_refl _) hbr3 hwr3 (RM.zero _)
       have tmr3 := TM.below tm3 hwr3
       have rmr3 := RM.below rm3 hwr3
       clear hbr3 hsr3)
    | (refine wpList_store_part rfl 27 (.tmp 1) (.tmp 33) rfl g1 0 (tc Op.exT3 (.slice A3 24 k3)) rfl rfl 27 _ (HV3r.out.bw 0 rfl) size_Th (by simp [tc, Vr.cells]) (tc_row _ _ _ _) ?_
       intro w3u hbu3 hsu3 hku3
       have HV3u : Hid (VT w w3u [(g1, .th A3 k3 Op.exT3), (g1r, .rp B1 n1 d1 C1 m1 f1 Op.exR1), (g2r, .rp B2 n2 d2 C2 m2 f2 Op.exR2), (w3a.heap.size, .rp none 0 0 none 0 0 Rp.zero)]) := HV3r.out.put 0 (u := .th A3 k3 Op.exT3) rfl hbu3 hku3 tmr3
       have rmu3 : RM w3u B3 n3 d3 C3 m3 f3 Op.exR3 := Vr.ok.offV (v := .rp B3 n3 d3 C3 m3 f3 Op.exR3) (HV3r.out.bw 0 rfl) rmr3 hku3
       clear hbu3 hsu3 hku3 rmr3 tmr3)
    | (refine wpList_store_part rfl 49 (.tmp 4) (.tmp 34) rfl w3a.heap.size 0 (rc Op.exR3 (.slice B3 n3 d3) (.slice C3 m3 f3)) rfl rfl 49 _ (HV3u.out.bw 3 rfl) size_Rp (by simp [rc, Vr.cells]) (rc_row _ _ _ _ _ _ _) ?_
       intro w3v hbv3 hsv3 hkv3
       have HV3 : Hid (VT w w3v [(g1, .th A3 k3 Op.exT3), (g1r, .rp B1 n1 d1 C1 m1 f1 Op.exR1), (g2r, .rp B2 n2 d2 C2 m2 f2 Op.exR2), (w3a.heap.size, .rp B3 n3 d3 C3 m3 f3 Op.exR3)]) := HV3u.out.put 3 (u := .rp B3 n3 d3 C3 m3 f3 Op.exR3) rfl hbv3 hkv3 rmu3
       clear hbv3 hsv3 hkv3 rmu3))
  clear HV3a HV3r HV3u hwr3 tm3 rm3 HV2 HVc3
  generalize w3a.heap.size = g3r at *
  have q423 := HV3.out.cell 2 rfl 3 _ rfl
  have q424 := HV3.out.cell 2 rfl 4 _ rfl
  go_wp2_with (refine wpList_load_part rfl 27 (.tmp 1) rfl g1 0 rfl _ Tryz.underlying27 rfl (tc Op.exT3 (.slice A3 24 k3)) 27 _ (HV3.out.bw 0 rfl) size_Th (fun j u hu => by rw [Nat.zero_add]; exact hu) ?_)
  refine (HPK.out.run Op.exT3 A3 k3 Op.exC4 none 0 0 _ (show TM _ A3 k3 Op.exT3 from HV3.out.ok 0 rfl) HS3.out (show Op.exC4.Wide from by constructor <;> decide +kernel) (by decide) (by decide) (by decide) BS.nil (Nat.le_refl _)).mono ?_
  rintro e w4a ⟨A4, k4, B4, n4, d4, C4, m4, f4, rfl, tm4, rm4, hb4⟩
  have e4 := Op.do_step (c := Op.exC4) HS3.out.inv.may (by decide) (by decide) (by decide)
  have HS4 : Hid (Op.Sound Op.exT4) := by show Op.Sound _; rw [show Op.exT4 = Op.doT Op.exT3 Op.exC4 from e4.1.symm]; exact HS3.out.doT (show Op.exC4.Wide from by constructor <;> decide +kernel)
  rw [show Op.doT Op.exT3 Op.exC4 = Op.exT4 from e4.1] at tm4 ⊢
  rw [show Op.doR Op.exT3 Op.exC4 = Op.exR4 from e4.2] at rm4 ⊢
  have HV4a := Lib.hid (HV3.out.below hb4)
  clear e4 hb4 q423 q424
  go_upto_region 6 with (first
    | (refine wpList_alloc_any rfl 27 rfl _ zero_Th ?_
       intro w4t hbt4 hst4 hwt4)
    | (refine wpList_alloc_any rfl 49 rfl _ zero_Rp ?_
       intro w4r hbr4 hsr4 hwr4
       have hbt24 : Bw w4r w4a.heap.size (tc Op.zeroT (.slice none 0 0)) 27 := Bw.below hbt4 hwr4)
    | (refine wpList_store_part rfl 27 (.tmp 5) (.tmp 41) rfl w4a.heap.size 0 (tc Op.exT4 (.slice A4 24 k4)) rfl rfl 27 _ hbt24 size_Th (by simp [tc]) (tc_row _ _ _ _) ?_
       intro w4u hbu4 hsu4 hku4
       have hbr24 : Bw w4u w4t.heap.size (rc Rp.zero (.slice none 0 0) (.slice none 0 0)) 49 := Bw.keep hbr4 hku4 (by omega))
    | (refine wpList_store_part rfl 49 (.tmp 6) (.tmp 42) rfl w4t.heap.size 0 (rc Op.exR4 (.slice B4 n4 d4) (.slice C4 m4 f4)) rfl rfl 49 _ hbr24 size_Rp (by simp [rc]) (rc_row _ _ _ _ _ _ _) ?_
       intro w4v hbv4 hsv4 hkv4))
  have hbe4 : Below w4a.heap.size w4a w4v := ((hwt4.trans (hwr4.mono (by omega))).trans (hku4.below2 (fun k hk => by omega))).trans (hkv4.below2 (fun k hk => by omega))
  have HV4 : Hid (VT w w4v [(g1, .th A3 k3 Op.exT3), (g1r, .rp B1 n1 d1 C1 m1 f1 Op.exR1), (g2r, .rp B2 n2 d2 C2 m2 f2 Op.exR2), (g3r, .rp B3 n3 d3 C3 m3 f3 Op.exR3), (w4a.heap.size, .th A4 k4 Op.exT4), (w4t.heap.size, .rp B4 n4 d4 C4 m4 f4 Op.exR4)]) := VT.push2 HV4a.out (g := w4a.heap.size) (g' := w4t.heap.size) (v := .th A4 k4 Op.exT4) (v' := .rp B4 n4 d4 C4 m4 f4 Op.exR4) (Nat.le_refl _) (by omega) (by omega) (Bw.keep hbu4 hkv4 (by omega)) hbv4 hbe4 tm4 rm4
  clear HV4a hbe4 hbt4 hst4 hwt4 hbr4 hsr4 hwr4 hbt24 hbu4 hsu4 hku4 hbr24 hbv4 hsv4 hkv4 tm4 rm4 HV3
  generalize w4t.heap.size = g4r at *
  generalize w4a.heap.size = g4t at *
  have q513 := HV4.out.cell 1 rfl 3 _ rfl
  have q514 := HV4.out.cell 1 rfl 4 _ rfl
  go_wp2_with (refine wpList_load_part rfl 27 (.tmp 1) rfl g1 0 rfl _ Tryz.underlying27 rfl (tc Op.exT3 (.slice A3 24 k3)) 27 _ (HV4.out.bw 0 rfl) size_Th (fun j u hu => by rw [Nat.zero_add]; exact hu) ?_)
  refine (HPK.out.run Op.exT3 A3 k3 (Op.cl 1 Op.exR1.ati Op.exR1.atg [103]) none 0 0 _ (show TM _ A3 k3 Op.exT3 from HV4.out.ok 0 rfl) HS3.out (Op.cl_wide (by decide) (by decide +kernel) (by decide +kernel)) (by decide) (by decide) (by decide) BS.nil (Nat.le_refl _)).mono ?_
  rintro e w5a ⟨A5, k5, B5, n5, d5, C5, m5, f5, rfl, tm5, rm5, hb5⟩
  have e5 := Op.do_step (c := (Op.cl 1 Op.exR1.ati Op.exR1.atg [103])) HS3.out.inv.may (by decide) (by decide) (by decide)
  have HS5 : Hid (Op.Sound Op.exT5) := by show Op.Sound _; rw [show Op.exT5 = Op.doT Op.exT3 (Op.cl 1 Op.exR1.ati Op.exR1.atg [103]) from e5.1.symm]; exact HS3.out.doT (Op.cl_wide (by decide) (by decide +kernel) (by decide +kernel))
  rw [show Op.doT Op.exT3 (Op.cl 1 Op.exR1.ati Op.exR1.atg [103]) = Op.exT5 from e5.1] at tm5 ⊢
  rw [show Op.doR Op.exT3 (Op.cl 1 Op.exR1.ati Op.exR1.atg [103]) = Op.exR5 from e5.2] at rm5 ⊢
  have HV5a := Lib.hid (HV4.out.below hb5)
  clear e5 hb5 q513 q514
  go_upto_region 7 with (first
    | (refine wpList_alloc_any rfl 27 rfl _ zero_Th ?_
       intro w5t hbt5 hst5 hwt5)
    | (refine wpList_alloc_any rfl 49 rfl _ zero_Rp ?_
       intro w5r hbr5 hsr5 hwr5
       have hbt25 : Bw w5r w5a.heap.size (tc Op.zeroT (.slice none 0 0)) 27 := Bw.below hbt5 hwr5)
    | (refine wpList_store_part rfl 27 (.tmp 7) (.tmp 49) rfl w5a.heap.size 0 (tc Op.exT5 (.slice A5 24 k5)) rfl rfl 27 _ hbt25 size_Th (by simp [tc]) (tc_row _ _ _ _) ?_
       intro w5u hbu5 hsu5 hku5
       have hbr25 : Bw w5u w5t.heap.size (rc Rp.zero (.slice none 0 0) (.slice none 0 0)) 49 := Bw.keep hbr5 hku5 (by omega))
    | (refine wpList_store_part rfl 49 (.tmp 8) (.tmp 50) rfl w5t.heap.size 0 (rc Op.exR5 (.slice B5 n5 d5) (.slice C5 m5 f5)) rfl rfl 49 _ hbr25 size_Rp (by simp [rc]) (rc_row _ _ _ _ _ _ _) ?_
       intro w5v hbv5 hsv5 hkv5))
  have hbe5 : Below w5a.heap.size w5a w5v := ((hwt5.trans (hwr5.mono (by omega))).trans (hku5.below2 (fun k hk => by omega))).trans (hkv5.below2 (fun k hk => by omega))
  have HV5 : Hid (VT w w5v [(g1, .th A3 k3 Op.exT3), (g1r, .rp B1 n1 d1 C1 m1 f1 Op.exR1), (g2r, .rp B2 n2 d2 C2 m2 f2 Op.exR2), (g3r, .rp B3 n3 d3 C3 m3 f3 Op.exR3), (g4t, .th A4 k4 Op.exT4), (g4r, .rp B4 n4 d4 C4 m4 f4 Op.exR4), (w5a.heap.size, .th A5 k5 Op.exT5), (w5t.heap.size, .rp B5 n5 d5 C5 m5 f5 Op.exR5)]) := VT.push2 HV5a.out (g := w5a.heap.size) (g' := w5t.heap.size) (v := .th A5 k5 Op.exT5) (v' := .rp B5 n5 d5 C5 m5 f5 Op.exR5) (Nat.le_refl _) (by omega) (by omega) (Bw.keep hbu5 hkv5 (by omega)) hbv5 hbe5 tm5 rm5
  clear HV5a hbe5 hbt5 hst5 hwt5 hbr5 hsr5 hwr5 hbt25 hbu5 hsu5 hku5 hbr25 hbv5 hsv5 hkv5 tm5 rm5 HV4
  generalize w5t.heap.size = g5r at *
  generalize w5a.heap.size = g5t at *
  obtain ⟨x1, x2, x3, x4, x5, x6, x7, x8, x9, x10⟩ := Op.ex_all
  have c0 := HV5.out.cell 0 rfl 0 _ rfl
  have c0b := HV5.out.cell 0 rfl 1 _ rfl
  have c0c := HV5.out.cell 0 rfl 2 _ rfl
  have c1 := HV5.out.cell 1 rfl 2 _ rfl
  have c2 := HV5.out.cell 1 rfl 3 _ rfl
  have c3 := HV5.out.cell 1 rfl 4 _ rfl
  have c4 := HV5.out.cell 2 rfl 3 _ rfl
  have c5 := HV5.out.cell 3 rfl 2 _ rfl
  have c6 := HV5.out.cell 3 rfl 8 _ rfl
  have c7 := HV5.out.cell 5 rfl 10 _ rfl
  have c8 := HV5.out.cell 5 rfl 12 _ rfl
  have c9 := HV5.out.cell 7 rfl 2 _ rfl
  rw [x1] at c1
  rw [x2] at c2
  rw [x3] at c3
  rw [x4] at c4
  rw [x5] at c5
  rw [x6] at c6
  rw [x8] at c8
  rw [x9] at c9
  have hrm := (show RM _ B4 n4 d4 C4 m4 f4 Op.exR4 from HV5.out.ok 5 rfl).data
  rw [x7] at hrm
  have hcv := run_convert_bs w5v B4 n4 d4 _ hrm
  have hcv2 : (convert 38 9 (.slice B4 n4 d4)).run Tryz.prog w5v = .ok (.string ⟨#[0, 0, 120]⟩) w5v := hcv
  have HU := Lib.hid (HPK.out.used Op.exT3 A3 k3 w5v (show TM _ A3 k3 Op.exT3 from HV5.out.ok 0 rfl) HS3.out)
  rw [x10] at HU
  clear x1 x2 x3 x4 x5 x6 x7 x8 x9 x10 hrm hcv
  go_wp2_with fail
  refine HU.out.mono ?_
  rintro e w6 ⟨rfl, hb6⟩
  have HB6 := Lib.hid (HV5.out.bel.trans (hb6.mono HV5.out.bel.size))
  clear hb6
  go_wp2_with fail
  go_ret
  exact ⟨rfl, HB6.out⟩
end Go.Proofs.YtpbpdnjlomhkdaaGreat
