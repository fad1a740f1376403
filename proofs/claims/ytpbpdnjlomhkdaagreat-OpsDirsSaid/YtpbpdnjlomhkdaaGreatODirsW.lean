/-
  The law OpsDirs (layer 13).
-/
import Derived.Test.YtpbpdnjlomhkdaaGreatODirM
import Derived.Test.YtpbpdnjlomhkdaaGreatONamed
import Derived.Test.YtpbpdnjlomhkdaaGreatOMark
namespace Go.Proofs.YtpbpdnjlomhkdaaGreat
open Go.RowKit Go.Shelf
attribute [local go_sem] Oper.semAt_some

def Op.drR0 : Rp := (Op.step (Op.format 20) (Op.cl 7 0 1 [100])).2
theorem nm12_nmd : ∀ j, j < 4 → Op.nm12 (j % 12) = Op.nmd j := by decide
set_option linter.unusedSimpArgs false in
set_option maxRecDepth 100000 in
set_option maxHeartbeats 8000000 in
theorem dirs_walk (HP : Pk) (x : Nat) (b : Bool) (w : World) (hx : x < 256) :
    Calls Tryz.prog 11 #[.int .u8 (x : Int), .bool b] w fun e w' => e = .returned (.bool true) ∧ Below w.heap.size w w' := by
  have HPK := Lib.hid HP
  clear HP
  obtain ⟨n, hn⟩ : ∃ n, x % 4 = n := ⟨_, rfl⟩
  have HNI : Hid ((x : Int) % 4 = (n : Int)) := by show _ = _; omega
  have hn4 : n < 4 := by omega
  clear hn
  go_enter Tryz.func11, Tryz.ntmps11
  go_wp2_with fail
  refine (awakeO_any HPK.out w).mono ?_
  rintro e w0 ⟨rfl, hb0⟩
  have HB0 := Lib.hid hb0
  clear hb0
  go_wp2_with fail
  first | rw [HNI.out] | skip
  refine (HPK.out.format 20 w0 (by omega)).mono ?_
  rintro e w1 ⟨A0, k0, rfl, tm0, hb1⟩
  have HT0 := Lib.hid tm0
  have HV0 : Hid (VT w w1 []) := VT.nil (HB0.out.trans (hb1.mono HB0.out.size))
  have HS0 : Hid (Op.Sound (Op.format 20)) := Op.Sound.format
  clear tm0 hb1 HB0 HNI
  go_wp2_with fail
  refine (HPK.out.run (Op.format 20) A0 k0 (Op.cl 7 0 1 [100]) none 0 0 _ HT0.out HS0.out (Op.cl_wide (by decide) (by decide) (by decide)) (Nat.le_of_ble_eq_true rfl) (Nat.le_of_ble_eq_true rfl) (Nat.le_of_ble_eq_true rfl) BS.nil (Nat.le_refl _)).mono ?_
  rintro e w1a ⟨A1, k1, B1, n1, d1, C1, m1, f1, rfl, tm1, rm1, hb1⟩
  have e1 := Op.do_step (c := (Op.cl 7 0 1 [100])) HS0.out.inv.may (Nat.le_of_ble_eq_true rfl) (Nat.le_of_ble_eq_true rfl) (Nat.ne_of_beq_eq_false rfl)
  have HS1 : Hid (Op.Sound (Op.drT b 0)) := by show Op.Sound _; rw [show (Op.drT b 0) = Op.doT (Op.format 20) (Op.cl 7 0 1 [100]) from e1.1.symm]; exact HS0.out.doT (Op.cl_wide (by decide) (by decide) (by decide))
  rw [show Op.doT (Op.format 20) (Op.cl 7 0 1 [100]) = (Op.drT b 0) from e1.1] at tm1 ⊢
  rw [show Op.doR (Op.format 20) (Op.cl 7 0 1 [100]) = Op.drR0 from e1.2] at rm1 ⊢
  have HV1a := Lib.hid (HV0.out.below hb1)
  clear e1 hb1
  go_upto_region 6 with (first
    | (refine wpList_alloc_any rfl 27 rfl _ zero_Th ?_
       intro w1t hbt1 hst1 hwt1)
    | (refine wpList_alloc_any rfl 49 rfl _ zero_Rp ?_
       intro w1r hbr1 hsr1 hwr1
       have hbt21 : Bw w1r w1a.heap.size (tc Op.zeroT (.slice none 0 0)) 27 := Bw.below hbt1 hwr1)
    | (refine wpList_store_part rfl 27 (.tmp 7) (.tmp 35) rfl w1a.heap.size 0 (tc (Op.drT b 0) (.slice A1 24 k1)) rfl rfl 27 _ hbt21 size_Th (by simp [tc]) (tc_row _ _ _ _) ?_
       intro w1u hbu1 hsu1 hku1
       have hbr21 : Bw w1u w1t.heap.size (rc Rp.zero (.slice none 0 0) (.slice none 0 0)) 49 := Bw.keep hbr1 hku1 (by omega))
    | (refine wpList_store_part rfl 49 (.tmp 8) (.tmp 36) rfl w1t.heap.size 0 (rc Op.drR0 (.slice B1 n1 d1) (.slice C1 m1 f1)) rfl rfl 49 _ hbr21 size_Rp (by simp [rc]) (rc_row _ _ _ _ _ _ _) ?_
       intro w1v hbv1 hsv1 hkv1))
  have hbe1 : Below w1a.heap.size w1a w1v := ((hwt1.trans (hwr1.mono (by omega))).trans (hku1.below2 (fun k hk => by omega))).trans (hkv1.below2 (fun k hk => by omega))
  have HV1 : Hid (VT w w1v [(w1a.heap.size, .th A1 k1 (Op.drT b 0)), (w1t.heap.size, .rp B1 n1 d1 C1 m1 f1 Op.drR0)]) := VT.push2 HV1a.out (g := w1a.heap.size) (g' := w1t.heap.size) (v := .th A1 k1 (Op.drT b 0)) (v' := .rp B1 n1 d1 C1 m1 f1 Op.drR0) (Nat.le_refl _) (by omega) (by omega) (Bw.keep hbu1 hkv1 (by omega)) hbv1 hbe1 tm1 rm1
  clear HV1a hbe1 hbt1 hst1 hwt1 hbr1 hsr1 hwr1 hbt21 hbu1 hsu1 hku1 hbr21 hbv1 hsv1 hkv1 tm1 rm1 HV0
  generalize w1t.heap.size = g1r at *
  generalize w1a.heap.size = g1t at *
  clear HT0 HS0 HS1
  obtain ⟨wk, rfl⟩ : ∃ wk, wk = w1v := ⟨w1v, rfl⟩
  obtain ⟨kd, hkd⟩ : ∃ kd : Nat, (if b then 8 else 6) = kd := ⟨_, rfl⟩
  have HKD := Lib.hid hkd
  clear hkd
  go_upto_if 37 with fail
  go_cut [9] (fun v W => v = .int .i64 (kd : Int) ∧ W = wk)
  case first =>
    cases b
    · go_wp2_with fail
      go_meet
      case rel => exact ⟨by rw [← HKD.out]; rfl, rfl⟩
    · go_wp2_with fail
      go_meet
      case rel => exact ⟨by rw [← HKD.out]; rfl, rfl⟩
  case rest =>
  obtain ⟨rfl, rfl⟩ := hcut
  go_wp2_with fail
  go_loopw [10] (fun i wr => ∃ (j : Nat) (A : Option Addr) (k : Nat), j ≤ n ∧ i = .int .i64 j ∧ Hid (VT w wr [(g1t, .th A k (Op.drT b j)), (g1r, .rp B1 n1 d1 C1 m1 f1 Op.drR0)])) (fun i _ => n - (intOf i).toNat)
  case atStart => exact ⟨0, A1, k1, by omega, rfl, HV1⟩
  case round =>
    clear HV1
    obtain ⟨j, A, k, hj, rfl, HV⟩ := hrel
    obtain ⟨wo, rfl⟩ : ∃ wo, wo = wr := ⟨wr, rfl⟩
    by_cases hlt : j < n
    · have HSj : Hid (Op.Sound (Op.drT b j)) := Op.dr_sound b j (by omega)
      have HNM : Hid (txt (Op.nm12 (j % 12)) = txt (Op.nmd j)) := congrArg txt (nm12_nmd j (by omega))
      have HKI : Hid (IntKind.u32.wrap (kd : Int) = (((Op.drC b j).op : Nat) : Int)) := by show _ = _; rw [← HKD.out]; cases b <;> rfl
      go_upto_region 12 with fail
      have HSV : Hid (∀ W A k t, VT w W [(g1t, .th A k t), (g1r, .rp B1 n1 d1 C1 m1 f1 Op.drR0)] → (fun W : World => W.cell? ⟨g1r, 3, none⟩ = some (.int .u32 1) ∧ W.cell? ⟨g1r, 4, none⟩ = some (.int .u32 1)) W) := fun W A k t h => ⟨by have h3 := h.cell 1 rfl 3 _ rfl; rw [show Op.drR0.ati = 1 from Op.dr_r.2.1] at h3; exact h3, by have h4 := h.cell 1 rfl 4 _ rfl; rw [show Op.drR0.atg = 1 from Op.dr_r.2.2] at h4; exact h4⟩
      have HVd : Hid (VT w wo.drew [(g1t, .th A k (Op.drT b j)), (g1r, .rp B1 n1 d1 C1 m1 f1 Op.drR0)]) := HV.out.below (Below.refl _ wo).drew
      have HSd : Hid ((fun W : World => W.cell? ⟨g1r, 3, none⟩ = some (.int .u32 1) ∧ W.cell? ⟨g1r, 4, none⟩ = some (.int .u32 1)) wo.drew) := HSV.out _ _ _ _ HVd.out
      refine wp_region_held_drew (S := (fun W : World => W.cell? ⟨g1r, 3, none⟩ = some (.int .u32 1) ∧ W.cell? ⟨g1r, 4, none⟩ = some (.int .u32 1))) (by kernel_rfl) HSd.out (fun _ => ?_)
      change wpAnyH _ _ _ _ _ 16 (Array.replicate 16 false) _ _
      refine takeH (i := 1) 45 (.int .i64 (kd : Int)) rfl rfl (by kernel_rfl) (by kernel_rfl) (by kernel_rfl) (fun _ _ _ h => h) (.inl ⟨by rfl, fun W hW => by go_simp⟩) HSd.out ?_
      simp only [Act.put, List.setIfInBounds_toArray, List.set_cons_zero, List.set_cons_succ]
      refine takeH (i := 2) 46 (.int .u32 ((Op.drC b j).op : Int)) rfl rfl (by kernel_rfl) (by kernel_rfl) (by kernel_rfl) (fun _ _ _ h => h) (.inl ⟨by rfl, fun W hW => by (go_simp; first | done | exact HKI.out | (rw [HKI.out]))⟩) HSd.out ?_
      simp only [Act.put, List.setIfInBounds_toArray, List.set_cons_zero, List.set_cons_succ]
      refine takeH (i := 3) 47 (.pointer (some ⟨g1r, 3, none⟩)) rfl rfl (by kernel_rfl) (by kernel_rfl) (by kernel_rfl) (fun _ _ _ h => h) (.inl ⟨by rfl, fun W hW => by go_simp⟩) HSd.out ?_
      simp only [Act.put, List.setIfInBounds_toArray, List.set_cons_zero, List.set_cons_succ]
      refine takeH (i := 4) 48 (.agg #[.int .u32 1, .int .u32 1]) rfl rfl (by kernel_rfl) (by kernel_rfl) (by kernel_rfl) (fun _ _ _ h => h) (.inl ⟨by rfl, fun W hW => by (have h3 := hW.1; have h4 := hW.2; go_simp)⟩) HSd.out ?_
      simp only [Act.put, List.setIfInBounds_toArray, List.set_cons_zero, List.set_cons_succ]
      refine takeH (i := 5) 49 (.int .i64 (j : Int)) rfl rfl (by kernel_rfl) (by kernel_rfl) (by kernel_rfl) (fun _ _ _ h => h) (.inl ⟨by rfl, fun W hW => by go_simp⟩) HSd.out ?_
      simp only [Act.put, List.setIfInBounds_toArray, List.set_cons_zero, List.set_cons_succ]
      refine takeH (i := 6) 50 (.int .u8 (j : Int)) rfl rfl (by kernel_rfl) (by kernel_rfl) (by kernel_rfl) (fun _ _ _ h => h) (.inl ⟨by rfl, fun W hW => by (go_simp; first | done | (rw [IntKind.wrap_u8]; omega))⟩) HSd.out ?_
      simp only [Act.put, List.setIfInBounds_toArray, List.set_cons_zero, List.set_cons_succ]
      refine wpAnyH_ready (rs := [0, 7, 8]) (by kernel_rfl) (by simp) ?_
      refine AllReadyH.cons rfl (fun K hK => ?_) (AllReadyH.cons rfl (fun K hK => ?_) (AllReadyH.cons rfl (fun K hK => ?_) AllReadyH.nil))
      · skip
        refine Did.wp (v := .agg (tc (Op.drT b j) (.slice A 24 k)).toArray) (w' := wo.drew) (.inl (run_load_part 27 (.tmp 7) rfl g1t 0 rfl _ Tryz.underlying27 rfl (tc (Op.drT b j) (.slice A 24 k)) 27 _ (HVd.out.bw 0 rfl) size_Th (fun j u hu => by rw [Nat.zero_add]; exact hu))) ?_
        refine hK.out _ _ HSd.out fun _ => ?_
        clear hK K
        simp only [List.getElem_toArray, List.getElem_cons_succ, List.getElem_cons_zero, Act.put, List.setIfInBounds_toArray, List.set_cons_zero, List.set_cons_succ]
        refine wpAnyH_ready (rs := [7, 8]) (by kernel_rfl) (by simp) ?_
        refine AllReadyH.cons rfl (fun K hK => ?_) (AllReadyH.cons rfl (fun K hK => ?_) AllReadyH.nil)
        · skip
          go_simp
          refine (lawnamed_any j _ (by omega)).mono ?_
          rintro e wln ⟨rfl, hwln⟩
          have HVln : Hid (VT w wln [(g1t, .th A k (Op.drT b j)), (g1r, .rp B1 n1 d1 C1 m1 f1 Op.drR0)]) := HVd.out.below hwln
          have HSln : Hid ((fun W : World => W.cell? ⟨g1r, 3, none⟩ = some (.int .u32 1) ∧ W.cell? ⟨g1r, 4, none⟩ = some (.int .u32 1)) wln) := HSV.out _ _ _ _ HVln.out
          refine hK.out _ _ HSln.out fun _ => ?_
          clear hK K
          rw [HNM.out]
          refine wpAnyH_ready (rs := [8]) (by kernel_rfl) (by simp) ?_
          refine AllReadyH.cons rfl (fun K hK => ?_) AllReadyH.nil
          · skip
            refine byte1_wp (.const (.int .u8 120)) rfl 120 rfl ?_
            intro wlnb hmlnb hslnb hwlnb
            clear hslnb
            have HVlnb : Hid (VT w wlnb [(g1t, .th A k (Op.drT b j)), (g1r, .rp B1 n1 d1 C1 m1 f1 Op.drR0)]) := HVln.out.below hwlnb
            have HClnb := Lib.hid hwlnb
            have HSlnb : Hid ((fun W : World => W.cell? ⟨g1r, 3, none⟩ = some (.int .u32 1) ∧ W.cell? ⟨g1r, 4, none⟩ = some (.int .u32 1)) wlnb) := HSV.out _ _ _ _ HVlnb.out
            refine hK.out _ _ HSlnb.out fun _ => ?_
            clear hK K
            simp only [List.getElem_toArray, List.getElem_cons_succ, List.getElem_cons_zero, Act.put, List.setIfInBounds_toArray, List.set_cons_zero, List.set_cons_succ]
            refine wpAnyH_ready (rs := [9]) (by kernel_rfl) (by simp) ?_
            refine AllReadyH.cons rfl (fun K hK => ?_) AllReadyH.nil
            · skip
              refine mark_wp (.tmp 52) rfl (wln.heap.size) 1 1 _ rfl hmlnb ?_
              intro wlnbv hmlnbv hklnbv
              have HClnbv := Lib.hid (HClnb.out.trans (hklnbv.below2 (fun q hq => Nat.ne_of_lt hq)))
              have HVlnbv : Hid (VT w wlnbv [(g1t, .th A k (Op.drT b j)), (g1r, .rp B1 n1 d1 C1 m1 f1 Op.drR0)]) := HVln.out.below HClnbv.out
              have HSlnbv : Hid ((fun W : World => W.cell? ⟨g1r, 3, none⟩ = some (.int .u32 1) ∧ W.cell? ⟨g1r, 4, none⟩ = some (.int .u32 1)) wlnbv) := HSV.out _ _ _ _ HVlnbv.out
              refine hK.out _ _ HSlnbv.out fun _ => ?_
              clear hK K
              simp only [List.getElem_toArray, List.getElem_cons_succ, List.getElem_cons_zero, Act.put, List.setIfInBounds_toArray, List.set_cons_zero, List.set_cons_succ]
              refine takeH (i := 10) 54 (.agg (cc (Op.drC b j) (.slice (some ⟨wln.heap.size, 0, none⟩) 1 1)).toArray) rfl rfl (by kernel_rfl) (by kernel_rfl) (by kernel_rfl) (fun _ _ _ h => h) (.inl ⟨by rfl, fun W hW => by (go_simp; rfl)⟩) HSlnbv.out ?_
              simp only [Act.put, List.setIfInBounds_toArray, List.set_cons_zero, List.set_cons_succ]
              refine wpAnyH_ready (rs := [11]) (by kernel_rfl) (by simp) ?_
              refine AllReadyH.cons rfl (fun K hK => ?_) AllReadyH.nil
              go_simp
              refine (HPK.out.run (Op.drT b j) A k (Op.drC b j) (some ⟨wln.heap.size, 0, none⟩) 1 1 _ (show TM _ A k (Op.drT b j) from HVlnbv.out.ok 0 rfl) HSj.out (Op.drC_wide b (by omega)) (Op.nmd_len j (by omega)) (Nat.le_of_ble_eq_true rfl) (Nat.le_of_ble_eq_true rfl) (BS.ofM (l := [120]) hmlnbv) (Nat.le_refl _)).mono ?_
              rintro e w8lnbv ⟨Alnbv, klnbv, Blnbv, nlnbv, dlnbv, Clnbv, mlnbv, flnbv, rfl, tmlnbv, rmlnbv, hblnbv⟩
              have elnbv := Op.do_step (c := (Op.drC b j)) HSj.out.inv.may (by cases b <;> first | (show 1 ≤ 6; omega) | (show 1 ≤ 8; omega)) (by cases b <;> first | (show 6 ≤ 16; omega) | (show 8 ≤ 16; omega)) (by cases b <;> first | (show 6 ≠ 12; omega) | (show 8 ≠ 12; omega))
              rw [show Op.doT (Op.drT b j) (Op.drC b j) = (Op.drT b (j + 1)) from elnbv.1] at tmlnbv ⊢
              rw [show Op.doR (Op.drT b j) (Op.drC b j) = (Op.drR b j) from elnbv.2] at rmlnbv ⊢
              have HValnbv : Hid (VT w w8lnbv [(g1t, .th A k (Op.drT b j)), (g1r, .rp B1 n1 d1 C1 m1 f1 Op.drR0)]) := HVlnbv.out.below hblnbv
              have HTlnbv : Hid ((fun W : World => W.cell? ⟨g1r, 3, none⟩ = some (.int .u32 1) ∧ W.cell? ⟨g1r, 4, none⟩ = some (.int .u32 1)) w8lnbv) := HSV.out _ _ _ _ HValnbv.out
              refine hK.out _ _ HTlnbv.out fun _ => ?_
              clear hK K elnbv hblnbv
              refine takeH (i := 12) 43 (.tuple #[.agg (tc (Op.drT b (j + 1)) (.slice Alnbv 24 klnbv)).toArray, .agg (rc (Op.drR b j) (.slice Blnbv nlnbv dlnbv) (.slice Clnbv mlnbv flnbv)).toArray]) rfl rfl (by kernel_rfl) (by kernel_rfl) (by kernel_rfl) (fun _ _ _ h => h) (.inl ⟨by rfl, fun W hW => by go_simp⟩) HTlnbv.out ?_
              simp only [Act.put, List.setIfInBounds_toArray, List.set_cons_zero, List.set_cons_succ]
              refine takeH (i := 13) 56 (.agg (tc (Op.drT b (j + 1)) (.slice Alnbv 24 klnbv)).toArray) rfl rfl (by kernel_rfl) (by kernel_rfl) (by kernel_rfl) (fun _ _ _ h => h) (.inl ⟨by rfl, fun W hW => by go_simp⟩) HTlnbv.out ?_
              simp only [Act.put, List.setIfInBounds_toArray, List.set_cons_zero, List.set_cons_succ]
              refine takeH (i := 14) 57 (.agg (rc (Op.drR b j) (.slice Blnbv nlnbv dlnbv) (.slice Clnbv mlnbv flnbv)).toArray) rfl rfl (by kernel_rfl) (by kernel_rfl) (by kernel_rfl) (fun _ _ _ h => h) (.inl ⟨by rfl, fun W hW => by go_simp⟩) HTlnbv.out ?_
              simp only [Act.put, List.setIfInBounds_toArray, List.set_cons_zero, List.set_cons_succ]
              refine wpAnyH_ready (rs := [15]) (by kernel_rfl) (by simp) ?_
              refine AllReadyH.cons rfl (fun K hK => ?_) AllReadyH.nil
              refine store_wp (P := Tryz.prog) 27 (.tmp 7) (.tmp 56) rfl g1t (tc (Op.drT b (j + 1)) (.slice Alnbv 24 klnbv)) rfl rfl 27 _ (HValnbv.out.bw 0 rfl) size_Th rfl (tc_row _ _ _ _) ?_
              intro w9lnbv hb9lnbv hs9lnbv hk9lnbv
              have HFlnbv : Hid (VT w w9lnbv [(g1t, .th Alnbv klnbv (Op.drT b (j + 1))), (g1r, .rp B1 n1 d1 C1 m1 f1 Op.drR0)]) := HValnbv.out.put 0 (u := .th Alnbv klnbv (Op.drT b (j + 1))) rfl hb9lnbv hk9lnbv tmlnbv
              have HUlnbv : Hid ((fun W : World => W.cell? ⟨g1r, 3, none⟩ = some (.int .u32 1) ∧ W.cell? ⟨g1r, 4, none⟩ = some (.int .u32 1)) w9lnbv) := HSV.out _ _ _ _ HFlnbv.out
              clear hb9lnbv hs9lnbv hk9lnbv HValnbv
              refine hK.out _ _ HUlnbv.out fun _ => ?_
              clear hK K
              refine wpAnyH_done (by kernel_rfl) ?_ _
              simp only [List.getElem_toArray, List.getElem_cons_succ, List.getElem_cons_zero, Act.put]
              go_wp2_with fail
              go_roundw
              case rel => exact ⟨j + 1, Alnbv, klnbv, by omega, by go_num, HFlnbv⟩
              case measure => simp [intOf]; omega
        · skip
          refine byte1_wp (.const (.int .u8 120)) rfl 120 rfl ?_
          intro wlb hmlb hslb hwlb
          clear hslb
          have HVlb : Hid (VT w wlb [(g1t, .th A k (Op.drT b j)), (g1r, .rp B1 n1 d1 C1 m1 f1 Op.drR0)]) := HVd.out.below hwlb
          have HClb := Lib.hid hwlb
          have HSlb : Hid ((fun W : World => W.cell? ⟨g1r, 3, none⟩ = some (.int .u32 1) ∧ W.cell? ⟨g1r, 4, none⟩ = some (.int .u32 1)) wlb) := HSV.out _ _ _ _ HVlb.out
          refine hK.out _ _ HSlb.out fun _ => ?_
          clear hK K
          simp only [List.getElem_toArray, List.getElem_cons_succ, List.getElem_cons_zero, Act.put, List.setIfInBounds_toArray, List.set_cons_zero, List.set_cons_succ]
          refine wpAnyH_ready (rs := [7, 9]) (by kernel_rfl) (by simp) ?_
          refine AllReadyH.cons rfl (fun K hK => ?_) (AllReadyH.cons rfl (fun K hK => ?_) AllReadyH.nil)
          · skip
            go_simp
            refine (lawnamed_any j _ (by omega)).mono ?_
            rintro e wlbn ⟨rfl, hwlbn⟩
            have HVlbn : Hid (VT w wlbn [(g1t, .th A k (Op.drT b j)), (g1r, .rp B1 n1 d1 C1 m1 f1 Op.drR0)]) := HVlb.out.below hwlbn
            have hmlbn := (hwlbn.block _ (Array.getElem?_eq_some_iff.1 hmlb).1).trans hmlb
            have HClbn := Lib.hid (HClb.out.trans (hwlbn.mono HClb.out.size))
            have HSlbn : Hid ((fun W : World => W.cell? ⟨g1r, 3, none⟩ = some (.int .u32 1) ∧ W.cell? ⟨g1r, 4, none⟩ = some (.int .u32 1)) wlbn) := HSV.out _ _ _ _ HVlbn.out
            refine hK.out _ _ HSlbn.out fun _ => ?_
            clear hK K
            rw [HNM.out]
            refine wpAnyH_ready (rs := [9]) (by kernel_rfl) (by simp) ?_
            refine AllReadyH.cons rfl (fun K hK => ?_) AllReadyH.nil
            · skip
              refine mark_wp (.tmp 52) rfl (wo.drew.heap.size) 1 1 _ rfl hmlbn ?_
              intro wlbnv hmlbnv hklbnv
              have HClbnv := Lib.hid (HClbn.out.trans (hklbnv.below2 (fun q hq => Nat.ne_of_lt hq)))
              have HVlbnv : Hid (VT w wlbnv [(g1t, .th A k (Op.drT b j)), (g1r, .rp B1 n1 d1 C1 m1 f1 Op.drR0)]) := HVd.out.below HClbnv.out
              have HSlbnv : Hid ((fun W : World => W.cell? ⟨g1r, 3, none⟩ = some (.int .u32 1) ∧ W.cell? ⟨g1r, 4, none⟩ = some (.int .u32 1)) wlbnv) := HSV.out _ _ _ _ HVlbnv.out
              refine hK.out _ _ HSlbnv.out fun _ => ?_
              clear hK K
              simp only [List.getElem_toArray, List.getElem_cons_succ, List.getElem_cons_zero, Act.put, List.setIfInBounds_toArray, List.set_cons_zero, List.set_cons_succ]
              refine takeH (i := 10) 54 (.agg (cc (Op.drC b j) (.slice (some ⟨wo.drew.heap.size, 0, none⟩) 1 1)).toArray) rfl rfl (by kernel_rfl) (by kernel_rfl) (by kernel_rfl) (fun _ _ _ h => h) (.inl ⟨by rfl, fun W hW => by (go_simp; rfl)⟩) HSlbnv.out ?_
              simp only [Act.put, List.setIfInBounds_toArray, List.set_cons_zero, List.set_cons_succ]
              refine wpAnyH_ready (rs := [11]) (by kernel_rfl) (by simp) ?_
              refine AllReadyH.cons rfl (fun K hK => ?_) AllReadyH.nil
              go_simp
              refine (HPK.out.run (Op.drT b j) A k (Op.drC b j) (some ⟨wo.drew.heap.size, 0, none⟩) 1 1 _ (show TM _ A k (Op.drT b j) from HVlbnv.out.ok 0 rfl) HSj.out (Op.drC_wide b (by omega)) (Op.nmd_len j (by omega)) (Nat.le_of_ble_eq_true rfl) (Nat.le_of_ble_eq_true rfl) (BS.ofM (l := [120]) hmlbnv) (Nat.le_refl _)).mono ?_
              rintro e w8lbnv ⟨Albnv, klbnv, Blbnv, nlbnv, dlbnv, Clbnv, mlbnv, flbnv, rfl, tmlbnv, rmlbnv, hblbnv⟩
              have elbnv := Op.do_step (c := (Op.drC b j)) HSj.out.inv.may (by cases b <;> first | (show 1 ≤ 6; omega) | (show 1 ≤ 8; omega)) (by cases b <;> first | (show 6 ≤ 16; omega) | (show 8 ≤ 16; omega)) (by cases b <;> first | (show 6 ≠ 12; omega) | (show 8 ≠ 12; omega))
              rw [show Op.doT (Op.drT b j) (Op.drC b j) = (Op.drT b (j + 1)) from elbnv.1] at tmlbnv ⊢
              rw [show Op.doR (Op.drT b j) (Op.drC b j) = (Op.drR b j) from elbnv.2] at rmlbnv ⊢
              have HValbnv : Hid (VT w w8lbnv [(g1t, .th A k (Op.drT b j)), (g1r, .rp B1 n1 d1 C1 m1 f1 Op.drR0)]) := HVlbnv.out.below hblbnv
              have HTlbnv : Hid ((fun W : World => W.cell? ⟨g1r, 3, none⟩ = some (.int .u32 1) ∧ W.cell? ⟨g1r, 4, none⟩ = some (.int .u32 1)) w8lbnv) := HSV.out _ _ _ _ HValbnv.out
              refine hK.out _ _ HTlbnv.out fun _ => ?_
              clear hK K elbnv hblbnv
              refine takeH (i := 12) 43 (.tuple #[.agg (tc (Op.drT b (j + 1)) (.slice Albnv 24 klbnv)).toArray, .agg (rc (Op.drR b j) (.slice Blbnv nlbnv dlbnv) (.slice Clbnv mlbnv flbnv)).toArray]) rfl rfl (by kernel_rfl) (by kernel_rfl) (by kernel_rfl) (fun _ _ _ h => h) (.inl ⟨by rfl, fun W hW => by go_simp⟩) HTlbnv.out ?_
              simp only [Act.put, List.setIfInBounds_toArray, List.set_cons_zero, List.set_cons_succ]
              refine takeH (i := 13) 56 (.agg (tc (Op.drT b (j + 1)) (.slice Albnv 24 klbnv)).toArray) rfl rfl (by kernel_rfl) (by kernel_rfl) (by kernel_rfl) (fun _ _ _ h => h) (.inl ⟨by rfl, fun W hW => by go_simp⟩) HTlbnv.out ?_
              simp only [Act.put, List.setIfInBounds_toArray, List.set_cons_zero, List.set_cons_succ]
              refine takeH (i := 14) 57 (.agg (rc (Op.drR b j) (.slice Blbnv nlbnv dlbnv) (.slice Clbnv mlbnv flbnv)).toArray) rfl rfl (by kernel_rfl) (by kernel_rfl) (by kernel_rfl) (fun _ _ _ h => h) (.inl ⟨by rfl, fun W hW => by go_simp⟩) HTlbnv.out ?_
              simp only [Act.put, List.setIfInBounds_toArray, List.set_cons_zero, List.set_cons_succ]
              refine wpAnyH_ready (rs := [15]) (by kernel_rfl) (by simp) ?_
              refine AllReadyH.cons rfl (fun K hK => ?_) AllReadyH.nil
              refine store_wp (P := Tryz.prog) 27 (.tmp 7) (.tmp 56) rfl g1t (tc (Op.drT b (j + 1)) (.slice Albnv 24 klbnv)) rfl rfl 27 _ (HValbnv.out.bw 0 rfl) size_Th rfl (tc_row _ _ _ _) ?_
              intro w9lbnv hb9lbnv hs9lbnv hk9lbnv
              have HFlbnv : Hid (VT w w9lbnv [(g1t, .th Albnv klbnv (Op.drT b (j + 1))), (g1r, .rp B1 n1 d1 C1 m1 f1 Op.drR0)]) := HValbnv.out.put 0 (u := .th Albnv klbnv (Op.drT b (j + 1))) rfl hb9lbnv hk9lbnv tmlbnv
              have HUlbnv : Hid ((fun W : World => W.cell? ⟨g1r, 3, none⟩ = some (.int .u32 1) ∧ W.cell? ⟨g1r, 4, none⟩ = some (.int .u32 1)) w9lbnv) := HSV.out _ _ _ _ HFlbnv.out
              clear hb9lbnv hs9lbnv hk9lbnv HValbnv
              refine hK.out _ _ HUlbnv.out fun _ => ?_
              clear hK K
              refine wpAnyH_done (by kernel_rfl) ?_ _
              simp only [List.getElem_toArray, List.getElem_cons_succ, List.getElem_cons_zero, Act.put]
              go_wp2_with fail
              go_roundw
              case rel => exact ⟨j + 1, Albnv, klbnv, by omega, by go_num, HFlbnv⟩
              case measure => simp [intOf]; omega
          · skip
            refine mark_wp (.tmp 52) rfl (wo.drew.heap.size) 1 1 _ rfl hmlb ?_
            intro wlbv hmlbv hklbv
            have HClbv := Lib.hid (HClb.out.trans (hklbv.below2 (fun q hq => Nat.ne_of_lt hq)))
            have HVlbv : Hid (VT w wlbv [(g1t, .th A k (Op.drT b j)), (g1r, .rp B1 n1 d1 C1 m1 f1 Op.drR0)]) := HVd.out.below HClbv.out
            have HSlbv : Hid ((fun W : World => W.cell? ⟨g1r, 3, none⟩ = some (.int .u32 1) ∧ W.cell? ⟨g1r, 4, none⟩ = some (.int .u32 1)) wlbv) := HSV.out _ _ _ _ HVlbv.out
            refine hK.out _ _ HSlbv.out fun _ => ?_
            clear hK K
            simp only [List.getElem_toArray, List.getElem_cons_succ, List.getElem_cons_zero, Act.put, List.setIfInBounds_toArray, List.set_cons_zero, List.set_cons_succ]
            refine wpAnyH_ready (rs := [7]) (by kernel_rfl) (by simp) ?_
            refine AllReadyH.cons rfl (fun K hK => ?_) AllReadyH.nil
            · skip
              go_simp
              refine (lawnamed_any j _ (by omega)).mono ?_
              rintro e wlbvn ⟨rfl, hwlbvn⟩
              have HVlbvn : Hid (VT w wlbvn [(g1t, .th A k (Op.drT b j)), (g1r, .rp B1 n1 d1 C1 m1 f1 Op.drR0)]) := HVlbv.out.below hwlbvn
              have hmlbvn := (hwlbvn.block _ (Array.getElem?_eq_some_iff.1 hmlbv).1).trans hmlbv
              have HClbvn := Lib.hid (HClbv.out.trans (hwlbvn.mono HClbv.out.size))
              have HSlbvn : Hid ((fun W : World => W.cell? ⟨g1r, 3, none⟩ = some (.int .u32 1) ∧ W.cell? ⟨g1r, 4, none⟩ = some (.int .u32 1)) wlbvn) := HSV.out _ _ _ _ HVlbvn.out
              refine hK.out _ _ HSlbvn.out fun _ => ?_
              clear hK K
              rw [HNM.out]
              refine takeH (i := 10) 54 (.agg (cc (Op.drC b j) (.slice (some ⟨wo.drew.heap.size, 0, none⟩) 1 1)).toArray) rfl rfl (by kernel_rfl) (by kernel_rfl) (by kernel_rfl) (fun _ _ _ h => h) (.inl ⟨by rfl, fun W hW => by (go_simp; rfl)⟩) HSlbvn.out ?_
              simp only [Act.put, List.setIfInBounds_toArray, List.set_cons_zero, List.set_cons_succ]
              refine wpAnyH_ready (rs := [11]) (by kernel_rfl) (by simp) ?_
              refine AllReadyH.cons rfl (fun K hK => ?_) AllReadyH.nil
              go_simp
              refine (HPK.out.run (Op.drT b j) A k (Op.drC b j) (some ⟨wo.drew.heap.size, 0, none⟩) 1 1 _ (show TM _ A k (Op.drT b j) from HVlbvn.out.ok 0 rfl) HSj.out (Op.drC_wide b (by omega)) (Op.nmd_len j (by omega)) (Nat.le_of_ble_eq_true rfl) (Nat.le_of_ble_eq_true rfl) (BS.ofM (l := [120]) hmlbvn) (Nat.le_refl _)).mono ?_
              rintro e w8lbvn ⟨Albvn, klbvn, Blbvn, nlbvn, dlbvn, Clbvn, mlbvn, flbvn, rfl, tmlbvn, rmlbvn, hblbvn⟩
              have elbvn := Op.do_step (c := (Op.drC b j)) HSj.out.inv.may (by cases b <;> first | (show 1 ≤ 6; omega) | (show 1 ≤ 8; omega)) (by cases b <;> first | (show 6 ≤ 16; omega) | (show 8 ≤ 16; omega)) (by cases b <;> first | (show 6 ≠ 12; omega) | (show 8 ≠ 12; omega))
              rw [show Op.doT (Op.drT b j) (Op.drC b j) = (Op.drT b (j + 1)) from elbvn.1] at tmlbvn ⊢
              rw [show Op.doR (Op.drT b j) (Op.drC b j) = (Op.drR b j) from elbvn.2] at rmlbvn ⊢
              have HValbvn : Hid (VT w w8lbvn [(g1t, .th A k (Op.drT b j)), (g1r, .rp B1 n1 d1 C1 m1 f1 Op.drR0)]) := HVlbvn.out.below hblbvn
              have HTlbvn : Hid ((fun W : World => W.cell? ⟨g1r, 3, none⟩ = some (.int .u32 1) ∧ W.cell? ⟨g1r, 4, none⟩ = some (.int .u32 1)) w8lbvn) := HSV.out _ _ _ _ HValbvn.out
              refine hK.out _ _ HTlbvn.out fun _ => ?_
              clear hK K elbvn hblbvn
              refine takeH (i := 12) 43 (.tuple #[.agg (tc (Op.drT b (j + 1)) (.slice Albvn 24 klbvn)).toArray, .agg (rc (Op.drR b j) (.slice Blbvn nlbvn dlbvn) (.slice Clbvn mlbvn flbvn)).toArray]) rfl rfl (by kernel_rfl) (by kernel_rfl) (by kernel_rfl) (fun _ _ _ h => h) (.inl ⟨by rfl, fun W hW => by go_simp⟩) HTlbvn.out ?_
              simp only [Act.put, List.setIfInBounds_toArray, List.set_cons_zero, List.set_cons_succ]
              refine takeH (i := 13) 56 (.agg (tc (Op.drT b (j + 1)) (.slice Albvn 24 klbvn)).toArray) rfl rfl (by kernel_rfl) (by kernel_rfl) (by kernel_rfl) (fun _ _ _ h => h) (.inl ⟨by rfl, fun W hW => by go_simp⟩) HTlbvn.out ?_
              simp only [Act.put, List.setIfInBounds_toArray, List.set_cons_zero, List.set_cons_succ]
              refine takeH (i := 14) 57 (.agg (rc (Op.drR b j) (.slice Blbvn nlbvn dlbvn) (.slice Clbvn mlbvn flbvn)).toArray) rfl rfl (by kernel_rfl) (by kernel_rfl) (by kernel_rfl) (fun _ _ _ h => h) (.inl ⟨by rfl, fun W hW => by go_simp⟩) HTlbvn.out ?_
              simp only [Act.put, List.setIfInBounds_toArray, List.set_cons_zero, List.set_cons_succ]
              refine wpAnyH_ready (rs := [15]) (by kernel_rfl) (by simp) ?_
              refine AllReadyH.cons rfl (fun K hK => ?_) AllReadyH.nil
              refine store_wp (P := Tryz.prog) 27 (.tmp 7) (.tmp 56) rfl g1t (tc (Op.drT b (j + 1)) (.slice Albvn 24 klbvn)) rfl rfl 27 _ (HValbvn.out.bw 0 rfl) size_Th rfl (tc_row _ _ _ _) ?_
              intro w9lbvn hb9lbvn hs9lbvn hk9lbvn
              have HFlbvn : Hid (VT w w9lbvn [(g1t, .th Albvn klbvn (Op.drT b (j + 1))), (g1r, .rp B1 n1 d1 C1 m1 f1 Op.drR0)]) := HValbvn.out.put 0 (u := .th Albvn klbvn (Op.drT b (j + 1))) rfl hb9lbvn hk9lbvn tmlbvn
              have HUlbvn : Hid ((fun W : World => W.cell? ⟨g1r, 3, none⟩ = some (.int .u32 1) ∧ W.cell? ⟨g1r, 4, none⟩ = some (.int .u32 1)) w9lbvn) := HSV.out _ _ _ _ HFlbvn.out
              clear hb9lbvn hs9lbvn hk9lbvn HValbvn
              refine hK.out _ _ HUlbvn.out fun _ => ?_
              clear hK K
              refine wpAnyH_done (by kernel_rfl) ?_ _
              simp only [List.getElem_toArray, List.getElem_cons_succ, List.getElem_cons_zero, Act.put]
              go_wp2_with fail
              go_roundw
              case rel => exact ⟨j + 1, Albvn, klbvn, by omega, by go_num, HFlbvn⟩
              case measure => simp [intOf]; omega
      · skip
        go_simp
        refine (lawnamed_any j _ (by omega)).mono ?_
        rintro e wn ⟨rfl, hwn⟩
        have HVn : Hid (VT w wn [(g1t, .th A k (Op.drT b j)), (g1r, .rp B1 n1 d1 C1 m1 f1 Op.drR0)]) := HVd.out.below hwn
        have HSn : Hid ((fun W : World => W.cell? ⟨g1r, 3, none⟩ = some (.int .u32 1) ∧ W.cell? ⟨g1r, 4, none⟩ = some (.int .u32 1)) wn) := HSV.out _ _ _ _ HVn.out
        refine hK.out _ _ HSn.out fun _ => ?_
        clear hK K
        rw [HNM.out]
        refine wpAnyH_ready (rs := [0, 8]) (by kernel_rfl) (by simp) ?_
        refine AllReadyH.cons rfl (fun K hK => ?_) (AllReadyH.cons rfl (fun K hK => ?_) AllReadyH.nil)
        · skip
          refine Did.wp (v := .agg (tc (Op.drT b j) (.slice A 24 k)).toArray) (w' := wn) (.inl (run_load_part 27 (.tmp 7) rfl g1t 0 rfl _ Tryz.underlying27 rfl (tc (Op.drT b j) (.slice A 24 k)) 27 _ (HVn.out.bw 0 rfl) size_Th (fun j u hu => by rw [Nat.zero_add]; exact hu))) ?_
          refine hK.out _ _ HSn.out fun _ => ?_
          clear hK K
          simp only [List.getElem_toArray, List.getElem_cons_succ, List.getElem_cons_zero, Act.put, List.setIfInBounds_toArray, List.set_cons_zero, List.set_cons_succ]
          refine wpAnyH_ready (rs := [8]) (by kernel_rfl) (by simp) ?_
          refine AllReadyH.cons rfl (fun K hK => ?_) AllReadyH.nil
          · skip
            refine byte1_wp (.const (.int .u8 120)) rfl 120 rfl ?_
            intro wnlb hmnlb hsnlb hwnlb
            clear hsnlb
            have HVnlb : Hid (VT w wnlb [(g1t, .th A k (Op.drT b j)), (g1r, .rp B1 n1 d1 C1 m1 f1 Op.drR0)]) := HVn.out.below hwnlb
            have HCnlb := Lib.hid hwnlb
            have HSnlb : Hid ((fun W : World => W.cell? ⟨g1r, 3, none⟩ = some (.int .u32 1) ∧ W.cell? ⟨g1r, 4, none⟩ = some (.int .u32 1)) wnlb) := HSV.out _ _ _ _ HVnlb.out
            refine hK.out _ _ HSnlb.out fun _ => ?_
            clear hK K
            simp only [List.getElem_toArray, List.getElem_cons_succ, List.getElem_cons_zero, Act.put, List.setIfInBounds_toArray, List.set_cons_zero, List.set_cons_succ]
            refine wpAnyH_ready (rs := [9]) (by kernel_rfl) (by simp) ?_
            refine AllReadyH.cons rfl (fun K hK => ?_) AllReadyH.nil
            · skip
              refine mark_wp (.tmp 52) rfl (wn.heap.size) 1 1 _ rfl hmnlb ?_
              intro wnlbv hmnlbv hknlbv
              have HCnlbv := Lib.hid (HCnlb.out.trans (hknlbv.below2 (fun q hq => Nat.ne_of_lt hq)))
              have HVnlbv : Hid (VT w wnlbv [(g1t, .th A k (Op.drT b j)), (g1r, .rp B1 n1 d1 C1 m1 f1 Op.drR0)]) := HVn.out.below HCnlbv.out
              have HSnlbv : Hid ((fun W : World => W.cell? ⟨g1r, 3, none⟩ = some (.int .u32 1) ∧ W.cell? ⟨g1r, 4, none⟩ = some (.int .u32 1)) wnlbv) := HSV.out _ _ _ _ HVnlbv.out
              refine hK.out _ _ HSnlbv.out fun _ => ?_
              clear hK K
              simp only [List.getElem_toArray, List.getElem_cons_succ, List.getElem_cons_zero, Act.put, List.setIfInBounds_toArray, List.set_cons_zero, List.set_cons_succ]
              refine takeH (i := 10) 54 (.agg (cc (Op.drC b j) (.slice (some ⟨wn.heap.size, 0, none⟩) 1 1)).toArray) rfl rfl (by kernel_rfl) (by kernel_rfl) (by kernel_rfl) (fun _ _ _ h => h) (.inl ⟨by rfl, fun W hW => by (go_simp; rfl)⟩) HSnlbv.out ?_
              simp only [Act.put, List.setIfInBounds_toArray, List.set_cons_zero, List.set_cons_succ]
              refine wpAnyH_ready (rs := [11]) (by kernel_rfl) (by simp) ?_
              refine AllReadyH.cons rfl (fun K hK => ?_) AllReadyH.nil
              go_simp
              refine (HPK.out.run (Op.drT b j) A k (Op.drC b j) (some ⟨wn.heap.size, 0, none⟩) 1 1 _ (show TM _ A k (Op.drT b j) from HVnlbv.out.ok 0 rfl) HSj.out (Op.drC_wide b (by omega)) (Op.nmd_len j (by omega)) (Nat.le_of_ble_eq_true rfl) (Nat.le_of_ble_eq_true rfl) (BS.ofM (l := [120]) hmnlbv) (Nat.le_refl _)).mono ?_
              rintro e w8nlbv ⟨Anlbv, knlbv, Bnlbv, nnlbv, dnlbv, Cnlbv, mnlbv, fnlbv, rfl, tmnlbv, rmnlbv, hbnlbv⟩
              have enlbv := Op.do_step (c := (Op.drC b j)) HSj.out.inv.may (by cases b <;> first | (show 1 ≤ 6; omega) | (show 1 ≤ 8; omega)) (by cases b <;> first | (show 6 ≤ 16; omega) | (show 8 ≤ 16; omega)) (by cases b <;> first | (show 6 ≠ 12; omega) | (show 8 ≠ 12; omega))
              rw [show Op.doT (Op.drT b j) (Op.drC b j) = (Op.drT b (j + 1)) from enlbv.1] at tmnlbv ⊢
              rw [show Op.doR (Op.drT b j) (Op.drC b j) = (Op.drR b j) from enlbv.2] at rmnlbv ⊢
              have HVanlbv : Hid (VT w w8nlbv [(g1t, .th A k (Op.drT b j)), (g1r, .rp B1 n1 d1 C1 m1 f1 Op.drR0)]) := HVnlbv.out.below hbnlbv
              have HTnlbv : Hid ((fun W : World => W.cell? ⟨g1r, 3, none⟩ = some (.int .u32 1) ∧ W.cell? ⟨g1r, 4, none⟩ = some (.int .u32 1)) w8nlbv) := HSV.out _ _ _ _ HVanlbv.out
              refine hK.out _ _ HTnlbv.out fun _ => ?_
              clear hK K enlbv hbnlbv
              refine takeH (i := 12) 43 (.tuple #[.agg (tc (Op.drT b (j + 1)) (.slice Anlbv 24 knlbv)).toArray, .agg (rc (Op.drR b j) (.slice Bnlbv nnlbv dnlbv) (.slice Cnlbv mnlbv fnlbv)).toArray]) rfl rfl (by kernel_rfl) (by kernel_rfl) (by kernel_rfl) (fun _ _ _ h => h) (.inl ⟨by rfl, fun W hW => by go_simp⟩) HTnlbv.out ?_
              simp only [Act.put, List.setIfInBounds_toArray, List.set_cons_zero, List.set_cons_succ]
              refine takeH (i := 13) 56 (.agg (tc (Op.drT b (j + 1)) (.slice Anlbv 24 knlbv)).toArray) rfl rfl (by kernel_rfl) (by kernel_rfl) (by kernel_rfl) (fun _ _ _ h => h) (.inl ⟨by rfl, fun W hW => by go_simp⟩) HTnlbv.out ?_
              simp only [Act.put, List.setIfInBounds_toArray, List.set_cons_zero, List.set_cons_succ]
              refine takeH (i := 14) 57 (.agg (rc (Op.drR b j) (.slice Bnlbv nnlbv dnlbv) (.slice Cnlbv mnlbv fnlbv)).toArray) rfl rfl (by kernel_rfl) (by kernel_rfl) (by kernel_rfl) (fun _ _ _ h => h) (.inl ⟨by rfl, fun W hW => by go_simp⟩) HTnlbv.out ?_
              simp only [Act.put, List.setIfInBounds_toArray, List.set_cons_zero, List.set_cons_succ]
              refine wpAnyH_ready (rs := [15]) (by kernel_rfl) (by simp) ?_
              refine AllReadyH.cons rfl (fun K hK => ?_) AllReadyH.nil
              refine store_wp (P := Tryz.prog) 27 (.tmp 7) (.tmp 56) rfl g1t (tc (Op.drT b (j + 1)) (.slice Anlbv 24 knlbv)) rfl rfl 27 _ (HVanlbv.out.bw 0 rfl) size_Th rfl (tc_row _ _ _ _) ?_
              intro w9nlbv hb9nlbv hs9nlbv hk9nlbv
              have HFnlbv : Hid (VT w w9nlbv [(g1t, .th Anlbv knlbv (Op.drT b (j + 1))), (g1r, .rp B1 n1 d1 C1 m1 f1 Op.drR0)]) := HVanlbv.out.put 0 (u := .th Anlbv knlbv (Op.drT b (j + 1))) rfl hb9nlbv hk9nlbv tmnlbv
              have HUnlbv : Hid ((fun W : World => W.cell? ⟨g1r, 3, none⟩ = some (.int .u32 1) ∧ W.cell? ⟨g1r, 4, none⟩ = some (.int .u32 1)) w9nlbv) := HSV.out _ _ _ _ HFnlbv.out
              clear hb9nlbv hs9nlbv hk9nlbv HVanlbv
              refine hK.out _ _ HUnlbv.out fun _ => ?_
              clear hK K
              refine wpAnyH_done (by kernel_rfl) ?_ _
              simp only [List.getElem_toArray, List.getElem_cons_succ, List.getElem_cons_zero, Act.put]
              go_wp2_with fail
              go_roundw
              case rel => exact ⟨j + 1, Anlbv, knlbv, by omega, by go_num, HFnlbv⟩
              case measure => simp [intOf]; omega
        · skip
          refine byte1_wp (.const (.int .u8 120)) rfl 120 rfl ?_
          intro wnb hmnb hsnb hwnb
          clear hsnb
          have HVnb : Hid (VT w wnb [(g1t, .th A k (Op.drT b j)), (g1r, .rp B1 n1 d1 C1 m1 f1 Op.drR0)]) := HVn.out.below hwnb
          have HCnb := Lib.hid hwnb
          have HSnb : Hid ((fun W : World => W.cell? ⟨g1r, 3, none⟩ = some (.int .u32 1) ∧ W.cell? ⟨g1r, 4, none⟩ = some (.int .u32 1)) wnb) := HSV.out _ _ _ _ HVnb.out
          refine hK.out _ _ HSnb.out fun _ => ?_
          clear hK K
          simp only [List.getElem_toArray, List.getElem_cons_succ, List.getElem_cons_zero, Act.put, List.setIfInBounds_toArray, List.set_cons_zero, List.set_cons_succ]
          refine wpAnyH_ready (rs := [0, 9]) (by kernel_rfl) (by simp) ?_
          refine AllReadyH.cons rfl (fun K hK => ?_) (AllReadyH.cons rfl (fun K hK => ?_) AllReadyH.nil)
          · skip
            refine Did.wp (v := .agg (tc (Op.drT b j) (.slice A 24 k)).toArray) (w' := wnb) (.inl (run_load_part 27 (.tmp 7) rfl g1t 0 rfl _ Tryz.underlying27 rfl (tc (Op.drT b j) (.slice A 24 k)) 27 _ (HVnb.out.bw 0 rfl) size_Th (fun j u hu => by rw [Nat.zero_add]; exact hu))) ?_
            refine hK.out _ _ HSnb.out fun _ => ?_
            clear hK K
            simp only [List.getElem_toArray, List.getElem_cons_succ, List.getElem_cons_zero, Act.put, List.setIfInBounds_toArray, List.set_cons_zero, List.set_cons_succ]
            refine wpAnyH_ready (rs := [9]) (by kernel_rfl) (by simp) ?_
            refine AllReadyH.cons rfl (fun K hK => ?_) AllReadyH.nil
            · skip
              refine mark_wp (.tmp 52) rfl (wn.heap.size) 1 1 _ rfl hmnb ?_
              intro wnblv hmnblv hknblv
              have HCnblv := Lib.hid (HCnb.out.trans (hknblv.below2 (fun q hq => Nat.ne_of_lt hq)))
              have HVnblv : Hid (VT w wnblv [(g1t, .th A k (Op.drT b j)), (g1r, .rp B1 n1 d1 C1 m1 f1 Op.drR0)]) := HVn.out.below HCnblv.out
              have HSnblv : Hid ((fun W : World => W.cell? ⟨g1r, 3, none⟩ = some (.int .u32 1) ∧ W.cell? ⟨g1r, 4, none⟩ = some (.int .u32 1)) wnblv) := HSV.out _ _ _ _ HVnblv.out
              refine hK.out _ _ HSnblv.out fun _ => ?_
              clear hK K
              simp only [List.getElem_toArray, List.getElem_cons_succ, List.getElem_cons_zero, Act.put, List.setIfInBounds_toArray, List.set_cons_zero, List.set_cons_succ]
              refine takeH (i := 10) 54 (.agg (cc (Op.drC b j) (.slice (some ⟨wn.heap.size, 0, none⟩) 1 1)).toArray) rfl rfl (by kernel_rfl) (by kernel_rfl) (by kernel_rfl) (fun _ _ _ h => h) (.inl ⟨by rfl, fun W hW => by (go_simp; rfl)⟩) HSnblv.out ?_
              simp only [Act.put, List.setIfInBounds_toArray, List.set_cons_zero, List.set_cons_succ]
              refine wpAnyH_ready (rs := [11]) (by kernel_rfl) (by simp) ?_
              refine AllReadyH.cons rfl (fun K hK => ?_) AllReadyH.nil
              go_simp
              refine (HPK.out.run (Op.drT b j) A k (Op.drC b j) (some ⟨wn.heap.size, 0, none⟩) 1 1 _ (show TM _ A k (Op.drT b j) from HVnblv.out.ok 0 rfl) HSj.out (Op.drC_wide b (by omega)) (Op.nmd_len j (by omega)) (Nat.le_of_ble_eq_true rfl) (Nat.le_of_ble_eq_true rfl) (BS.ofM (l := [120]) hmnblv) (Nat.le_refl _)).mono ?_
              rintro e w8nblv ⟨Anblv, knblv, Bnblv, nnblv, dnblv, Cnblv, mnblv, fnblv, rfl, tmnblv, rmnblv, hbnblv⟩
              have enblv := Op.do_step (c := (Op.drC b j)) HSj.out.inv.may (by cases b <;> first | (show 1 ≤ 6; omega) | (show 1 ≤ 8; omega)) (by cases b <;> first | (show 6 ≤ 16; omega) | (show 8 ≤ 16; omega)) (by cases b <;> first | (show 6 ≠ 12; omega) | (show 8 ≠ 12; omega))
              rw [show Op.doT (Op.drT b j) (Op.drC b j) = (Op.drT b (j + 1)) from enblv.1] at tmnblv ⊢
              rw [show Op.doR (Op.drT b j) (Op.drC b j) = (Op.drR b j) from enblv.2] at rmnblv ⊢
              have HVanblv : Hid (VT w w8nblv [(g1t, .th A k (Op.drT b j)), (g1r, .rp B1 n1 d1 C1 m1 f1 Op.drR0)]) := HVnblv.out.below hbnblv
              have HTnblv : Hid ((fun W : World => W.cell? ⟨g1r, 3, none⟩ = some (.int .u32 1) ∧ W.cell? ⟨g1r, 4, none⟩ = some (.int .u32 1)) w8nblv) := HSV.out _ _ _ _ HVanblv.out
              refine hK.out _ _ HTnblv.out fun _ => ?_
              clear hK K enblv hbnblv
              refine takeH (i := 12) 43 (.tuple #[.agg (tc (Op.drT b (j + 1)) (.slice Anblv 24 knblv)).toArray, .agg (rc (Op.drR b j) (.slice Bnblv nnblv dnblv) (.slice Cnblv mnblv fnblv)).toArray]) rfl rfl (by kernel_rfl) (by kernel_rfl) (by kernel_rfl) (fun _ _ _ h => h) (.inl ⟨by rfl, fun W hW => by go_simp⟩) HTnblv.out ?_
              simp only [Act.put, List.setIfInBounds_toArray, List.set_cons_zero, List.set_cons_succ]
              refine takeH (i := 13) 56 (.agg (tc (Op.drT b (j + 1)) (.slice Anblv 24 knblv)).toArray) rfl rfl (by kernel_rfl) (by kernel_rfl) (by kernel_rfl) (fun _ _ _ h => h) (.inl ⟨by rfl, fun W hW => by go_simp⟩) HTnblv.out ?_
              simp only [Act.put, List.setIfInBounds_toArray, List.set_cons_zero, List.set_cons_succ]
              refine takeH (i := 14) 57 (.agg (rc (Op.drR b j) (.slice Bnblv nnblv dnblv) (.slice Cnblv mnblv fnblv)).toArray) rfl rfl (by kernel_rfl) (by kernel_rfl) (by kernel_rfl) (fun _ _ _ h => h) (.inl ⟨by rfl, fun W hW => by go_simp⟩) HTnblv.out ?_
              simp only [Act.put, List.setIfInBounds_toArray, List.set_cons_zero, List.set_cons_succ]
              refine wpAnyH_ready (rs := [15]) (by kernel_rfl) (by simp) ?_
              refine AllReadyH.cons rfl (fun K hK => ?_) AllReadyH.nil
              refine store_wp (P := Tryz.prog) 27 (.tmp 7) (.tmp 56) rfl g1t (tc (Op.drT b (j + 1)) (.slice Anblv 24 knblv)) rfl rfl 27 _ (HVanblv.out.bw 0 rfl) size_Th rfl (tc_row _ _ _ _) ?_
              intro w9nblv hb9nblv hs9nblv hk9nblv
              have HFnblv : Hid (VT w w9nblv [(g1t, .th Anblv knblv (Op.drT b (j + 1))), (g1r, .rp B1 n1 d1 C1 m1 f1 Op.drR0)]) := HVanblv.out.put 0 (u := .th Anblv knblv (Op.drT b (j + 1))) rfl hb9nblv hk9nblv tmnblv
              have HUnblv : Hid ((fun W : World => W.cell? ⟨g1r, 3, none⟩ = some (.int .u32 1) ∧ W.cell? ⟨g1r, 4, none⟩ = some (.int .u32 1)) w9nblv) := HSV.out _ _ _ _ HFnblv.out
              clear hb9nblv hs9nblv hk9nblv HVanblv
              refine hK.out _ _ HUnblv.out fun _ => ?_
              clear hK K
              refine wpAnyH_done (by kernel_rfl) ?_ _
              simp only [List.getElem_toArray, List.getElem_cons_succ, List.getElem_cons_zero, Act.put]
              go_wp2_with fail
              go_roundw
              case rel => exact ⟨j + 1, Anblv, knblv, by omega, by go_num, HFnblv⟩
              case measure => simp [intOf]; omega
          · skip
            refine mark_wp (.tmp 52) rfl (wn.heap.size) 1 1 _ rfl hmnb ?_
            intro wnbv hmnbv hknbv
            have HCnbv := Lib.hid (HCnb.out.trans (hknbv.below2 (fun q hq => Nat.ne_of_lt hq)))
            have HVnbv : Hid (VT w wnbv [(g1t, .th A k (Op.drT b j)), (g1r, .rp B1 n1 d1 C1 m1 f1 Op.drR0)]) := HVn.out.below HCnbv.out
            have HSnbv : Hid ((fun W : World => W.cell? ⟨g1r, 3, none⟩ = some (.int .u32 1) ∧ W.cell? ⟨g1r, 4, none⟩ = some (.int .u32 1)) wnbv) := HSV.out _ _ _ _ HVnbv.out
            refine hK.out _ _ HSnbv.out fun _ => ?_
            clear hK K
            simp only [List.getElem_toArray, List.getElem_cons_succ, List.getElem_cons_zero, Act.put, List.setIfInBounds_toArray, List.set_cons_zero, List.set_cons_succ]
            refine takeH (i := 10) 54 (.agg (cc (Op.drC b j) (.slice (some ⟨wn.heap.size, 0, none⟩) 1 1)).toArray) rfl rfl (by kernel_rfl) (by kernel_rfl) (by kernel_rfl) (fun _ _ _ h => h) (.inl ⟨by rfl, fun W hW => by (go_simp; rfl)⟩) HSnbv.out ?_
            simp only [Act.put, List.setIfInBounds_toArray, List.set_cons_zero, List.set_cons_succ]
            refine wpAnyH_ready (rs := [0]) (by kernel_rfl) (by simp) ?_
            refine AllReadyH.cons rfl (fun K hK => ?_) AllReadyH.nil
            · skip
              refine Did.wp (v := .agg (tc (Op.drT b j) (.slice A 24 k)).toArray) (w' := wnbv) (.inl (run_load_part 27 (.tmp 7) rfl g1t 0 rfl _ Tryz.underlying27 rfl (tc (Op.drT b j) (.slice A 24 k)) 27 _ (HVnbv.out.bw 0 rfl) size_Th (fun j u hu => by rw [Nat.zero_add]; exact hu))) ?_
              refine hK.out _ _ HSnbv.out fun _ => ?_
              clear hK K
              simp only [List.getElem_toArray, List.getElem_cons_succ, List.getElem_cons_zero, Act.put, List.setIfInBounds_toArray, List.set_cons_zero, List.set_cons_succ]
              refine wpAnyH_ready (rs := [11]) (by kernel_rfl) (by simp) ?_
              refine AllReadyH.cons rfl (fun K hK => ?_) AllReadyH.nil
              go_simp
              refine (HPK.out.run (Op.drT b j) A k (Op.drC b j) (some ⟨wn.heap.size, 0, none⟩) 1 1 _ (show TM _ A k (Op.drT b j) from HVnbv.out.ok 0 rfl) HSj.out (Op.drC_wide b (by omega)) (Op.nmd_len j (by omega)) (Nat.le_of_ble_eq_true rfl) (Nat.le_of_ble_eq_true rfl) (BS.ofM (l := [120]) hmnbv) (Nat.le_refl _)).mono ?_
              rintro e w8nbvl ⟨Anbvl, knbvl, Bnbvl, nnbvl, dnbvl, Cnbvl, mnbvl, fnbvl, rfl, tmnbvl, rmnbvl, hbnbvl⟩
              have enbvl := Op.do_step (c := (Op.drC b j)) HSj.out.inv.may (by cases b <;> first | (show 1 ≤ 6; omega) | (show 1 ≤ 8; omega)) (by cases b <;> first | (show 6 ≤ 16; omega) | (show 8 ≤ 16; omega)) (by cases b <;> first | (show 6 ≠ 12; omega) | (show 8 ≠ 12; omega))
              rw [show Op.doT (Op.drT b j) (Op.drC b j) = (Op.drT b (j + 1)) from enbvl.1] at tmnbvl ⊢
              rw [show Op.doR (Op.drT b j) (Op.drC b j) = (Op.drR b j) from enbvl.2] at rmnbvl ⊢
              have HVanbvl : Hid (VT w w8nbvl [(g1t, .th A k (Op.drT b j)), (g1r, .rp B1 n1 d1 C1 m1 f1 Op.drR0)]) := HVnbv.out.below hbnbvl
              have HTnbvl : Hid ((fun W : World => W.cell? ⟨g1r, 3, none⟩ = some (.int .u32 1) ∧ W.cell? ⟨g1r, 4, none⟩ = some (.int .u32 1)) w8nbvl) := HSV.out _ _ _ _ HVanbvl.out
              refine hK.out _ _ HTnbvl.out fun _ => ?_
              clear hK K enbvl hbnbvl
              refine takeH (i := 12) 43 (.tuple #[.agg (tc (Op.drT b (j + 1)) (.slice Anbvl 24 knbvl)).toArray, .agg (rc (Op.drR b j) (.slice Bnbvl nnbvl dnbvl) (.slice Cnbvl mnbvl fnbvl)).toArray]) rfl rfl (by kernel_rfl) (by kernel_rfl) (by kernel_rfl) (fun _ _ _ h => h) (.inl ⟨by rfl, fun W hW => by go_simp⟩) HTnbvl.out ?_
              simp only [Act.put, List.setIfInBounds_toArray, List.set_cons_zero, List.set_cons_succ]
              refine takeH (i := 13) 56 (.agg (tc (Op.drT b (j + 1)) (.slice Anbvl 24 knbvl)).toArray) rfl rfl (by kernel_rfl) (by kernel_rfl) (by kernel_rfl) (fun _ _ _ h => h) (.inl ⟨by rfl, fun W hW => by go_simp⟩) HTnbvl.out ?_
              simp only [Act.put, List.setIfInBounds_toArray, List.set_cons_zero, List.set_cons_succ]
              refine takeH (i := 14) 57 (.agg (rc (Op.drR b j) (.slice Bnbvl nnbvl dnbvl) (.slice Cnbvl mnbvl fnbvl)).toArray) rfl rfl (by kernel_rfl) (by kernel_rfl) (by kernel_rfl) (fun _ _ _ h => h) (.inl ⟨by rfl, fun W hW => by go_simp⟩) HTnbvl.out ?_
              simp only [Act.put, List.setIfInBounds_toArray, List.set_cons_zero, List.set_cons_succ]
              refine wpAnyH_ready (rs := [15]) (by kernel_rfl) (by simp) ?_
              refine AllReadyH.cons rfl (fun K hK => ?_) AllReadyH.nil
              refine store_wp (P := Tryz.prog) 27 (.tmp 7) (.tmp 56) rfl g1t (tc (Op.drT b (j + 1)) (.slice Anbvl 24 knbvl)) rfl rfl 27 _ (HVanbvl.out.bw 0 rfl) size_Th rfl (tc_row _ _ _ _) ?_
              intro w9nbvl hb9nbvl hs9nbvl hk9nbvl
              have HFnbvl : Hid (VT w w9nbvl [(g1t, .th Anbvl knbvl (Op.drT b (j + 1))), (g1r, .rp B1 n1 d1 C1 m1 f1 Op.drR0)]) := HVanbvl.out.put 0 (u := .th Anbvl knbvl (Op.drT b (j + 1))) rfl hb9nbvl hk9nbvl tmnbvl
              have HUnbvl : Hid ((fun W : World => W.cell? ⟨g1r, 3, none⟩ = some (.int .u32 1) ∧ W.cell? ⟨g1r, 4, none⟩ = some (.int .u32 1)) w9nbvl) := HSV.out _ _ _ _ HFnbvl.out
              clear hb9nbvl hs9nbvl hk9nbvl HVanbvl
              refine hK.out _ _ HUnbvl.out fun _ => ?_
              clear hK K
              refine wpAnyH_done (by kernel_rfl) ?_ _
              simp only [List.getElem_toArray, List.getElem_cons_succ, List.getElem_cons_zero, Act.put]
              go_wp2_with fail
              go_roundw
              case rel => exact ⟨j + 1, Anbvl, knbvl, by omega, by go_num, HFnbvl⟩
              case measure => simp [intOf]; omega
      · skip
        refine byte1_wp (.const (.int .u8 120)) rfl 120 rfl ?_
        intro wb hmb hsb hwb
        clear hsb
        have HVb : Hid (VT w wb [(g1t, .th A k (Op.drT b j)), (g1r, .rp B1 n1 d1 C1 m1 f1 Op.drR0)]) := HVd.out.below hwb
        have HCb := Lib.hid hwb
        have HSb : Hid ((fun W : World => W.cell? ⟨g1r, 3, none⟩ = some (.int .u32 1) ∧ W.cell? ⟨g1r, 4, none⟩ = some (.int .u32 1)) wb) := HSV.out _ _ _ _ HVb.out
        refine hK.out _ _ HSb.out fun _ => ?_
        clear hK K
        simp only [List.getElem_toArray, List.getElem_cons_succ, List.getElem_cons_zero, Act.put, List.setIfInBounds_toArray, List.set_cons_zero, List.set_cons_succ]
        refine wpAnyH_ready (rs := [0, 7, 9]) (by kernel_rfl) (by simp) ?_
        refine AllReadyH.cons rfl (fun K hK => ?_) (AllReadyH.cons rfl (fun K hK => ?_) (AllReadyH.cons rfl (fun K hK => ?_) AllReadyH.nil))
        · skip
          refine Did.wp (v := .agg (tc (Op.drT b j) (.slice A 24 k)).toArray) (w' := wb) (.inl (run_load_part 27 (.tmp 7) rfl g1t 0 rfl _ Tryz.underlying27 rfl (tc (Op.drT b j) (.slice A 24 k)) 27 _ (HVb.out.bw 0 rfl) size_Th (fun j u hu => by rw [Nat.zero_add]; exact hu))) ?_
          refine hK.out _ _ HSb.out fun _ => ?_
          clear hK K
          simp only [List.getElem_toArray, List.getElem_cons_succ, List.getElem_cons_zero, Act.put, List.setIfInBounds_toArray, List.set_cons_zero, List.set_cons_succ]
          refine wpAnyH_ready (rs := [7, 9]) (by kernel_rfl) (by simp) ?_
          refine AllReadyH.cons rfl (fun K hK => ?_) (AllReadyH.cons rfl (fun K hK => ?_) AllReadyH.nil)
          · skip
            go_simp
            refine (lawnamed_any j _ (by omega)).mono ?_
            rintro e wbln ⟨rfl, hwbln⟩
            have HVbln : Hid (VT w wbln [(g1t, .th A k (Op.drT b j)), (g1r, .rp B1 n1 d1 C1 m1 f1 Op.drR0)]) := HVb.out.below hwbln
            have hmbln := (hwbln.block _ (Array.getElem?_eq_some_iff.1 hmb).1).trans hmb
            have HCbln := Lib.hid (HCb.out.trans (hwbln.mono HCb.out.size))
            have HSbln : Hid ((fun W : World => W.cell? ⟨g1r, 3, none⟩ = some (.int .u32 1) ∧ W.cell? ⟨g1r, 4, none⟩ = some (.int .u32 1)) wbln) := HSV.out _ _ _ _ HVbln.out
            refine hK.out _ _ HSbln.out fun _ => ?_
            clear hK K
            rw [HNM.out]
            refine wpAnyH_ready (rs := [9]) (by kernel_rfl) (by simp) ?_
            refine AllReadyH.cons rfl (fun K hK => ?_) AllReadyH.nil
            · skip
              refine mark_wp (.tmp 52) rfl (wo.drew.heap.size) 1 1 _ rfl hmbln ?_
              intro wblnv hmblnv hkblnv
              have HCblnv := Lib.hid (HCbln.out.trans (hkblnv.below2 (fun q hq => Nat.ne_of_lt hq)))
              have HVblnv : Hid (VT w wblnv [(g1t, .th A k (Op.drT b j)), (g1r, .rp B1 n1 d1 C1 m1 f1 Op.drR0)]) := HVd.out.below HCblnv.out
              have HSblnv : Hid ((fun W : World => W.cell? ⟨g1r, 3, none⟩ = some (.int .u32 1) ∧ W.cell? ⟨g1r, 4, none⟩ = some (.int .u32 1)) wblnv) := HSV.out _ _ _ _ HVblnv.out
              refine hK.out _ _ HSblnv.out fun _ => ?_
              clear hK K
              simp only [List.getElem_toArray, List.getElem_cons_succ, List.getElem_cons_zero, Act.put, List.setIfInBounds_toArray, List.set_cons_zero, List.set_cons_succ]
              refine takeH (i := 10) 54 (.agg (cc (Op.drC b j) (.slice (some ⟨wo.drew.heap.size, 0, none⟩) 1 1)).toArray) rfl rfl (by kernel_rfl) (by kernel_rfl) (by kernel_rfl) (fun _ _ _ h => h) (.inl ⟨by rfl, fun W hW => by (go_simp; rfl)⟩) HSblnv.out ?_
              simp only [Act.put, List.setIfInBounds_toArray, List.set_cons_zero, List.set_cons_succ]
              refine wpAnyH_ready (rs := [11]) (by kernel_rfl) (by simp) ?_
              refine AllReadyH.cons rfl (fun K hK => ?_) AllReadyH.nil
              go_simp
              refine (HPK.out.run (Op.drT b j) A k (Op.drC b j) (some ⟨wo.drew.heap.size, 0, none⟩) 1 1 _ (show TM _ A k (Op.drT b j) from HVblnv.out.ok 0 rfl) HSj.out (Op.drC_wide b (by omega)) (Op.nmd_len j (by omega)) (Nat.le_of_ble_eq_true rfl) (Nat.le_of_ble_eq_true rfl) (BS.ofM (l := [120]) hmblnv) (Nat.le_refl _)).mono ?_
              rintro e w8blnv ⟨Ablnv, kblnv, Bblnv, nblnv, dblnv, Cblnv, mblnv, fblnv, rfl, tmblnv, rmblnv, hbblnv⟩
              have eblnv := Op.do_step (c := (Op.drC b j)) HSj.out.inv.may (by cases b <;> first | (show 1 ≤ 6; omega) | (show 1 ≤ 8; omega)) (by cases b <;> first | (show 6 ≤ 16; omega) | (show 8 ≤ 16; omega)) (by cases b <;> first | (show 6 ≠ 12; omega) | (show 8 ≠ 12; omega))
              rw [show Op.doT (Op.drT b j) (Op.drC b j) = (Op.drT b (j + 1)) from eblnv.1] at tmblnv ⊢
              rw [show Op.doR (Op.drT b j) (Op.drC b j) = (Op.drR b j) from eblnv.2] at rmblnv ⊢
              have HVablnv : Hid (VT w w8blnv [(g1t, .th A k (Op.drT b j)), (g1r, .rp B1 n1 d1 C1 m1 f1 Op.drR0)]) := HVblnv.out.below hbblnv
              have HTblnv : Hid ((fun W : World => W.cell? ⟨g1r, 3, none⟩ = some (.int .u32 1) ∧ W.cell? ⟨g1r, 4, none⟩ = some (.int .u32 1)) w8blnv) := HSV.out _ _ _ _ HVablnv.out
              refine hK.out _ _ HTblnv.out fun _ => ?_
              clear hK K eblnv hbblnv
              refine takeH (i := 12) 43 (.tuple #[.agg (tc (Op.drT b (j + 1)) (.slice Ablnv 24 kblnv)).toArray, .agg (rc (Op.drR b j) (.slice Bblnv nblnv dblnv) (.slice Cblnv mblnv fblnv)).toArray]) rfl rfl (by kernel_rfl) (by kernel_rfl) (by kernel_rfl) (fun _ _ _ h => h) (.inl ⟨by rfl, fun W hW => by go_simp⟩) HTblnv.out ?_
              simp only [Act.put, List.setIfInBounds_toArray, List.set_cons_zero, List.set_cons_succ]
              refine takeH (i := 13) 56 (.agg (tc (Op.drT b (j + 1)) (.slice Ablnv 24 kblnv)).toArray) rfl rfl (by kernel_rfl) (by kernel_rfl) (by kernel_rfl) (fun _ _ _ h => h) (.inl ⟨by rfl, fun W hW => by go_simp⟩) HTblnv.out ?_
              simp only [Act.put, List.setIfInBounds_toArray, List.set_cons_zero, List.set_cons_succ]
              refine takeH (i := 14) 57 (.agg (rc (Op.drR b j) (.slice Bblnv nblnv dblnv) (.slice Cblnv mblnv fblnv)).toArray) rfl rfl (by kernel_rfl) (by kernel_rfl) (by kernel_rfl) (fun _ _ _ h => h) (.inl ⟨by rfl, fun W hW => by go_simp⟩) HTblnv.out ?_
              simp only [Act.put, List.setIfInBounds_toArray, List.set_cons_zero, List.set_cons_succ]
              refine wpAnyH_ready (rs := [15]) (by kernel_rfl) (by simp) ?_
              refine AllReadyH.cons rfl (fun K hK => ?_) AllReadyH.nil
              refine store_wp (P := Tryz.prog) 27 (.tmp 7) (.tmp 56) rfl g1t (tc (Op.drT b (j + 1)) (.slice Ablnv 24 kblnv)) rfl rfl 27 _ (HVablnv.out.bw 0 rfl) size_Th rfl (tc_row _ _ _ _) ?_
              intro w9blnv hb9blnv hs9blnv hk9blnv
              have HFblnv : Hid (VT w w9blnv [(g1t, .th Ablnv kblnv (Op.drT b (j + 1))), (g1r, .rp B1 n1 d1 C1 m1 f1 Op.drR0)]) := HVablnv.out.put 0 (u := .th Ablnv kblnv (Op.drT b (j + 1))) rfl hb9blnv hk9blnv tmblnv
              have HUblnv : Hid ((fun W : World => W.cell? ⟨g1r, 3, none⟩ = some (.int .u32 1) ∧ W.cell? ⟨g1r, 4, none⟩ = some (.int .u32 1)) w9blnv) := HSV.out _ _ _ _ HFblnv.out
              clear hb9blnv hs9blnv hk9blnv HVablnv
              refine hK.out _ _ HUblnv.out fun _ => ?_
              clear hK K
              refine wpAnyH_done (by kernel_rfl) ?_ _
              simp only [List.getElem_toArray, List.getElem_cons_succ, List.getElem_cons_zero, Act.put]
              go_wp2_with fail
              go_roundw
              case rel => exact ⟨j + 1, Ablnv, kblnv, by omega, by go_num, HFblnv⟩
              case measure => simp [intOf]; omega
          · skip
            refine mark_wp (.tmp 52) rfl (wo.drew.heap.size) 1 1 _ rfl hmb ?_
            intro wblv hmblv hkblv
            have HCblv := Lib.hid (HCb.out.trans (hkblv.below2 (fun q hq => Nat.ne_of_lt hq)))
            have HVblv : Hid (VT w wblv [(g1t, .th A k (Op.drT b j)), (g1r, .rp B1 n1 d1 C1 m1 f1 Op.drR0)]) := HVd.out.below HCblv.out
            have HSblv : Hid ((fun W : World => W.cell? ⟨g1r, 3, none⟩ = some (.int .u32 1) ∧ W.cell? ⟨g1r, 4, none⟩ = some (.int .u32 1)) wblv) := HSV.out _ _ _ _ HVblv.out
            refine hK.out _ _ HSblv.out fun _ => ?_
            clear hK K
            simp only [List.getElem_toArray, List.getElem_cons_succ, List.getElem_cons_zero, Act.put, List.setIfInBounds_toArray, List.set_cons_zero, List.set_cons_succ]
            refine wpAnyH_ready (rs := [7]) (by kernel_rfl) (by simp) ?_
            refine AllReadyH.cons rfl (fun K hK => ?_) AllReadyH.nil
            · skip
              go_simp
              refine (lawnamed_any j _ (by omega)).mono ?_
              rintro e wblvn ⟨rfl, hwblvn⟩
              have HVblvn : Hid (VT w wblvn [(g1t, .th A k (Op.drT b j)), (g1r, .rp B1 n1 d1 C1 m1 f1 Op.drR0)]) := HVblv.out.below hwblvn
              have hmblvn := (hwblvn.block _ (Array.getElem?_eq_some_iff.1 hmblv).1).trans hmblv
              have HCblvn := Lib.hid (HCblv.out.trans (hwblvn.mono HCblv.out.size))
              have HSblvn : Hid ((fun W : World => W.cell? ⟨g1r, 3, none⟩ = some (.int .u32 1) ∧ W.cell? ⟨g1r, 4, none⟩ = some (.int .u32 1)) wblvn) := HSV.out _ _ _ _ HVblvn.out
              refine hK.out _ _ HSblvn.out fun _ => ?_
              clear hK K
              rw [HNM.out]
              refine takeH (i := 10) 54 (.agg (cc (Op.drC b j) (.slice (some ⟨wo.drew.heap.size, 0, none⟩) 1 1)).toArray) rfl rfl (by kernel_rfl) (by kernel_rfl) (by kernel_rfl) (fun _ _ _ h => h) (.inl ⟨by rfl, fun W hW => by (go_simp; rfl)⟩) HSblvn.out ?_
              simp only [Act.put, List.setIfInBounds_toArray, List.set_cons_zero, List.set_cons_succ]
              refine wpAnyH_ready (rs := [11]) (by kernel_rfl) (by simp) ?_
              refine AllReadyH.cons rfl (fun K hK => ?_) AllReadyH.nil
              go_simp
              refine (HPK.out.run (Op.drT b j) A k (Op.drC b j) (some ⟨wo.drew.heap.size, 0, none⟩) 1 1 _ (show TM _ A k (Op.drT b j) from HVblvn.out.ok 0 rfl) HSj.out (Op.drC_wide b (by omega)) (Op.nmd_len j (by omega)) (Nat.le_of_ble_eq_true rfl) (Nat.le_of_ble_eq_true rfl) (BS.ofM (l := [120]) hmblvn) (Nat.le_refl _)).mono ?_
              rintro e w8blvn ⟨Ablvn, kblvn, Bblvn, nblvn, dblvn, Cblvn, mblvn, fblvn, rfl, tmblvn, rmblvn, hbblvn⟩
              have eblvn := Op.do_step (c := (Op.drC b j)) HSj.out.inv.may (by cases b <;> first | (show 1 ≤ 6; omega) | (show 1 ≤ 8; omega)) (by cases b <;> first | (show 6 ≤ 16; omega) | (show 8 ≤ 16; omega)) (by cases b <;> first | (show 6 ≠ 12; omega) | (show 8 ≠ 12; omega))
              rw [show Op.doT (Op.drT b j) (Op.drC b j) = (Op.drT b (j + 1)) from eblvn.1] at tmblvn ⊢
              rw [show Op.doR (Op.drT b j) (Op.drC b j) = (Op.drR b j) from eblvn.2] at rmblvn ⊢
              have HVablvn : Hid (VT w w8blvn [(g1t, .th A k (Op.drT b j)), (g1r, .rp B1 n1 d1 C1 m1 f1 Op.drR0)]) := HVblvn.out.below hbblvn
              have HTblvn : Hid ((fun W : World => W.cell? ⟨g1r, 3, none⟩ = some (.int .u32 1) ∧ W.cell? ⟨g1r, 4, none⟩ = some (.int .u32 1)) w8blvn) := HSV.out _ _ _ _ HVablvn.out
              refine hK.out _ _ HTblvn.out fun _ => ?_
              clear hK K eblvn hbblvn
              refine takeH (i := 12) 43 (.tuple #[.agg (tc (Op.drT b (j + 1)) (.slice Ablvn 24 kblvn)).toArray, .agg (rc (Op.drR b j) (.slice Bblvn nblvn dblvn) (.slice Cblvn mblvn fblvn)).toArray]) rfl rfl (by kernel_rfl) (by kernel_rfl) (by kernel_rfl) (fun _ _ _ h => h) (.inl ⟨by rfl, fun W hW => by go_simp⟩) HTblvn.out ?_
              simp only [Act.put, List.setIfInBounds_toArray, List.set_cons_zero, List.set_cons_succ]
              refine takeH (i := 13) 56 (.agg (tc (Op.drT b (j + 1)) (.slice Ablvn 24 kblvn)).toArray) rfl rfl (by kernel_rfl) (by kernel_rfl) (by kernel_rfl) (fun _ _ _ h => h) (.inl ⟨by rfl, fun W hW => by go_simp⟩) HTblvn.out ?_
              simp only [Act.put, List.setIfInBounds_toArray, List.set_cons_zero, List.set_cons_succ]
              refine takeH (i := 14) 57 (.agg (rc (Op.drR b j) (.slice Bblvn nblvn dblvn) (.slice Cblvn mblvn fblvn)).toArray) rfl rfl (by kernel_rfl) (by kernel_rfl) (by kernel_rfl) (fun _ _ _ h => h) (.inl ⟨by rfl, fun W hW => by go_simp⟩) HTblvn.out ?_
              simp only [Act.put, List.setIfInBounds_toArray, List.set_cons_zero, List.set_cons_succ]
              refine wpAnyH_ready (rs := [15]) (by kernel_rfl) (by simp) ?_
              refine AllReadyH.cons rfl (fun K hK => ?_) AllReadyH.nil
              refine store_wp (P := Tryz.prog) 27 (.tmp 7) (.tmp 56) rfl g1t (tc (Op.drT b (j + 1)) (.slice Ablvn 24 kblvn)) rfl rfl 27 _ (HVablvn.out.bw 0 rfl) size_Th rfl (tc_row _ _ _ _) ?_
              intro w9blvn hb9blvn hs9blvn hk9blvn
              have HFblvn : Hid (VT w w9blvn [(g1t, .th Ablvn kblvn (Op.drT b (j + 1))), (g1r, .rp B1 n1 d1 C1 m1 f1 Op.drR0)]) := HVablvn.out.put 0 (u := .th Ablvn kblvn (Op.drT b (j + 1))) rfl hb9blvn hk9blvn tmblvn
              have HUblvn : Hid ((fun W : World => W.cell? ⟨g1r, 3, none⟩ = some (.int .u32 1) ∧ W.cell? ⟨g1r, 4, none⟩ = some (.int .u32 1)) w9blvn) := HSV.out _ _ _ _ HFblvn.out
              clear hb9blvn hs9blvn hk9blvn HVablvn
              refine hK.out _ _ HUblvn.out fun _ => ?_
              clear hK K
              refine wpAnyH_done (by kernel_rfl) ?_ _
              simp only [List.getElem_toArray, List.getElem_cons_succ, List.getElem_cons_zero, Act.put]
              go_wp2_with fail
              go_roundw
              case rel => exact ⟨j + 1, Ablvn, kblvn, by omega, by go_num, HFblvn⟩
              case measure => simp [intOf]; omega
        · skip
          go_simp
          refine (lawnamed_any j _ (by omega)).mono ?_
          rintro e wbn ⟨rfl, hwbn⟩
          have HVbn : Hid (VT w wbn [(g1t, .th A k (Op.drT b j)), (g1r, .rp B1 n1 d1 C1 m1 f1 Op.drR0)]) := HVb.out.below hwbn
          have hmbn := (hwbn.block _ (Array.getElem?_eq_some_iff.1 hmb).1).trans hmb
          have HCbn := Lib.hid (HCb.out.trans (hwbn.mono HCb.out.size))
          have HSbn : Hid ((fun W : World => W.cell? ⟨g1r, 3, none⟩ = some (.int .u32 1) ∧ W.cell? ⟨g1r, 4, none⟩ = some (.int .u32 1)) wbn) := HSV.out _ _ _ _ HVbn.out
          refine hK.out _ _ HSbn.out fun _ => ?_
          clear hK K
          rw [HNM.out]
          refine wpAnyH_ready (rs := [0, 9]) (by kernel_rfl) (by simp) ?_
          refine AllReadyH.cons rfl (fun K hK => ?_) (AllReadyH.cons rfl (fun K hK => ?_) AllReadyH.nil)
          · skip
            refine Did.wp (v := .agg (tc (Op.drT b j) (.slice A 24 k)).toArray) (w' := wbn) (.inl (run_load_part 27 (.tmp 7) rfl g1t 0 rfl _ Tryz.underlying27 rfl (tc (Op.drT b j) (.slice A 24 k)) 27 _ (HVbn.out.bw 0 rfl) size_Th (fun j u hu => by rw [Nat.zero_add]; exact hu))) ?_
            refine hK.out _ _ HSbn.out fun _ => ?_
            clear hK K
            simp only [List.getElem_toArray, List.getElem_cons_succ, List.getElem_cons_zero, Act.put, List.setIfInBounds_toArray, List.set_cons_zero, List.set_cons_succ]
            refine wpAnyH_ready (rs := [9]) (by kernel_rfl) (by simp) ?_
            refine AllReadyH.cons rfl (fun K hK => ?_) AllReadyH.nil
            · skip
              refine mark_wp (.tmp 52) rfl (wo.drew.heap.size) 1 1 _ rfl hmbn ?_
              intro wbnlv hmbnlv hkbnlv
              have HCbnlv := Lib.hid (HCbn.out.trans (hkbnlv.below2 (fun q hq => Nat.ne_of_lt hq)))
              have HVbnlv : Hid (VT w wbnlv [(g1t, .th A k (Op.drT b j)), (g1r, .rp B1 n1 d1 C1 m1 f1 Op.drR0)]) := HVd.out.below HCbnlv.out
              have HSbnlv : Hid ((fun W : World => W.cell? ⟨g1r, 3, none⟩ = some (.int .u32 1) ∧ W.cell? ⟨g1r, 4, none⟩ = some (.int .u32 1)) wbnlv) := HSV.out _ _ _ _ HVbnlv.out
              refine hK.out _ _ HSbnlv.out fun _ => ?_
              clear hK K
              simp only [List.getElem_toArray, List.getElem_cons_succ, List.getElem_cons_zero, Act.put, List.setIfInBounds_toArray, List.set_cons_zero, List.set_cons_succ]
              refine takeH (i := 10) 54 (.agg (cc (Op.drC b j) (.slice (some ⟨wo.drew.heap.size, 0, none⟩) 1 1)).toArray) rfl rfl (by kernel_rfl) (by kernel_rfl) (by kernel_rfl) (fun _ _ _ h => h) (.inl ⟨by rfl, fun W hW => by (go_simp; rfl)⟩) HSbnlv.out ?_
              simp only [Act.put, List.setIfInBounds_toArray, List.set_cons_zero, List.set_cons_succ]
              refine wpAnyH_ready (rs := [11]) (by kernel_rfl) (by simp) ?_
              refine AllReadyH.cons rfl (fun K hK => ?_) AllReadyH.nil
              go_simp
              refine (HPK.out.run (Op.drT b j) A k (Op.drC b j) (some ⟨wo.drew.heap.size, 0, none⟩) 1 1 _ (show TM _ A k (Op.drT b j) from HVbnlv.out.ok 0 rfl) HSj.out (Op.drC_wide b (by omega)) (Op.nmd_len j (by omega)) (Nat.le_of_ble_eq_true rfl) (Nat.le_of_ble_eq_true rfl) (BS.ofM (l := [120]) hmbnlv) (Nat.le_refl _)).mono ?_
              rintro e w8bnlv ⟨Abnlv, kbnlv, Bbnlv, nbnlv, dbnlv, Cbnlv, mbnlv, fbnlv, rfl, tmbnlv, rmbnlv, hbbnlv⟩
              have ebnlv := Op.do_step (c := (Op.drC b j)) HSj.out.inv.may (by cases b <;> first | (show 1 ≤ 6; omega) | (show 1 ≤ 8; omega)) (by cases b <;> first | (show 6 ≤ 16; omega) | (show 8 ≤ 16; omega)) (by cases b <;> first | (show 6 ≠ 12; omega) | (show 8 ≠ 12; omega))
              rw [show Op.doT (Op.drT b j) (Op.drC b j) = (Op.drT b (j + 1)) from ebnlv.1] at tmbnlv ⊢
              rw [show Op.doR (Op.drT b j) (Op.drC b j) = (Op.drR b j) from ebnlv.2] at rmbnlv ⊢
              have HVabnlv : Hid (VT w w8bnlv [(g1t, .th A k (Op.drT b j)), (g1r, .rp B1 n1 d1 C1 m1 f1 Op.drR0)]) := HVbnlv.out.below hbbnlv
              have HTbnlv : Hid ((fun W : World => W.cell? ⟨g1r, 3, none⟩ = some (.int .u32 1) ∧ W.cell? ⟨g1r, 4, none⟩ = some (.int .u32 1)) w8bnlv) := HSV.out _ _ _ _ HVabnlv.out
              refine hK.out _ _ HTbnlv.out fun _ => ?_
              clear hK K ebnlv hbbnlv
              refine takeH (i := 12) 43 (.tuple #[.agg (tc (Op.drT b (j + 1)) (.slice Abnlv 24 kbnlv)).toArray, .agg (rc (Op.drR b j) (.slice Bbnlv nbnlv dbnlv) (.slice Cbnlv mbnlv fbnlv)).toArray]) rfl rfl (by kernel_rfl) (by kernel_rfl) (by kernel_rfl) (fun _ _ _ h => h) (.inl ⟨by rfl, fun W hW => by go_simp⟩) HTbnlv.out ?_
              simp only [Act.put, List.setIfInBounds_toArray, List.set_cons_zero, List.set_cons_succ]
              refine takeH (i := 13) 56 (.agg (tc (Op.drT b (j + 1)) (.slice Abnlv 24 kbnlv)).toArray) rfl rfl (by kernel_rfl) (by kernel_rfl) (by kernel_rfl) (fun _ _ _ h => h) (.inl ⟨by rfl, fun W hW => by go_simp⟩) HTbnlv.out ?_
              simp only [Act.put, List.setIfInBounds_toArray, List.set_cons_zero, List.set_cons_succ]
              refine takeH (i := 14) 57 (.agg (rc (Op.drR b j) (.slice Bbnlv nbnlv dbnlv) (.slice Cbnlv mbnlv fbnlv)).toArray) rfl rfl (by kernel_rfl) (by kernel_rfl) (by kernel_rfl) (fun _ _ _ h => h) (.inl ⟨by rfl, fun W hW => by go_simp⟩) HTbnlv.out ?_
              simp only [Act.put, List.setIfInBounds_toArray, List.set_cons_zero, List.set_cons_succ]
              refine wpAnyH_ready (rs := [15]) (by kernel_rfl) (by simp) ?_
              refine AllReadyH.cons rfl (fun K hK => ?_) AllReadyH.nil
              refine store_wp (P := Tryz.prog) 27 (.tmp 7) (.tmp 56) rfl g1t (tc (Op.drT b (j + 1)) (.slice Abnlv 24 kbnlv)) rfl rfl 27 _ (HVabnlv.out.bw 0 rfl) size_Th rfl (tc_row _ _ _ _) ?_
              intro w9bnlv hb9bnlv hs9bnlv hk9bnlv
              have HFbnlv : Hid (VT w w9bnlv [(g1t, .th Abnlv kbnlv (Op.drT b (j + 1))), (g1r, .rp B1 n1 d1 C1 m1 f1 Op.drR0)]) := HVabnlv.out.put 0 (u := .th Abnlv kbnlv (Op.drT b (j + 1))) rfl hb9bnlv hk9bnlv tmbnlv
              have HUbnlv : Hid ((fun W : World => W.cell? ⟨g1r, 3, none⟩ = some (.int .u32 1) ∧ W.cell? ⟨g1r, 4, none⟩ = some (.int .u32 1)) w9bnlv) := HSV.out _ _ _ _ HFbnlv.out
              clear hb9bnlv hs9bnlv hk9bnlv HVabnlv
              refine hK.out _ _ HUbnlv.out fun _ => ?_
              clear hK K
              refine wpAnyH_done (by kernel_rfl) ?_ _
              simp only [List.getElem_toArray, List.getElem_cons_succ, List.getElem_cons_zero, Act.put]
              go_wp2_with fail
              go_roundw
              case rel => exact ⟨j + 1, Abnlv, kbnlv, by omega, by go_num, HFbnlv⟩
              case measure => simp [intOf]; omega
          · skip
            refine mark_wp (.tmp 52) rfl (wo.drew.heap.size) 1 1 _ rfl hmbn ?_
            intro wbnv hmbnv hkbnv
            have HCbnv := Lib.hid (HCbn.out.trans (hkbnv.below2 (fun q hq => Nat.ne_of_lt hq)))
            have HVbnv : Hid (VT w wbnv [(g1t, .th A k (Op.drT b j)), (g1r, .rp B1 n1 d1 C1 m1 f1 Op.drR0)]) := HVd.out.below HCbnv.out
            have HSbnv : Hid ((fun W : World => W.cell? ⟨g1r, 3, none⟩ = some (.int .u32 1) ∧ W.cell? ⟨g1r, 4, none⟩ = some (.int .u32 1)) wbnv) := HSV.out _ _ _ _ HVbnv.out
            refine hK.out _ _ HSbnv.out fun _ => ?_
            clear hK K
            simp only [List.getElem_toArray, List.getElem_cons_succ, List.getElem_cons_zero, Act.put, List.setIfInBounds_toArray, List.set_cons_zero, List.set_cons_succ]
            refine takeH (i := 10) 54 (.agg (cc (Op.drC b j) (.slice (some ⟨wo.drew.heap.size, 0, none⟩) 1 1)).toArray) rfl rfl (by kernel_rfl) (by kernel_rfl) (by kernel_rfl) (fun _ _ _ h => h) (.inl ⟨by rfl, fun W hW => by (go_simp; rfl)⟩) HSbnv.out ?_
            simp only [Act.put, List.setIfInBounds_toArray, List.set_cons_zero, List.set_cons_succ]
            refine wpAnyH_ready (rs := [0]) (by kernel_rfl) (by simp) ?_
            refine AllReadyH.cons rfl (fun K hK => ?_) AllReadyH.nil
            · skip
              refine Did.wp (v := .agg (tc (Op.drT b j) (.slice A 24 k)).toArray) (w' := wbnv) (.inl (run_load_part 27 (.tmp 7) rfl g1t 0 rfl _ Tryz.underlying27 rfl (tc (Op.drT b j) (.slice A 24 k)) 27 _ (HVbnv.out.bw 0 rfl) size_Th (fun j u hu => by rw [Nat.zero_add]; exact hu))) ?_
              refine hK.out _ _ HSbnv.out fun _ => ?_
              clear hK K
              simp only [List.getElem_toArray, List.getElem_cons_succ, List.getElem_cons_zero, Act.put, List.setIfInBounds_toArray, List.set_cons_zero, List.set_cons_succ]
              refine wpAnyH_ready (rs := [11]) (by kernel_rfl) (by simp) ?_
              refine AllReadyH.cons rfl (fun K hK => ?_) AllReadyH.nil
              go_simp
              refine (HPK.out.run (Op.drT b j) A k (Op.drC b j) (some ⟨wo.drew.heap.size, 0, none⟩) 1 1 _ (show TM _ A k (Op.drT b j) from HVbnv.out.ok 0 rfl) HSj.out (Op.drC_wide b (by omega)) (Op.nmd_len j (by omega)) (Nat.le_of_ble_eq_true rfl) (Nat.le_of_ble_eq_true rfl) (BS.ofM (l := [120]) hmbnv) (Nat.le_refl _)).mono ?_
              rintro e w8bnvl ⟨Abnvl, kbnvl, Bbnvl, nbnvl, dbnvl, Cbnvl, mbnvl, fbnvl, rfl, tmbnvl, rmbnvl, hbbnvl⟩
              have ebnvl := Op.do_step (c := (Op.drC b j)) HSj.out.inv.may (by cases b <;> first | (show 1 ≤ 6; omega) | (show 1 ≤ 8; omega)) (by cases b <;> first | (show 6 ≤ 16; omega) | (show 8 ≤ 16; omega)) (by cases b <;> first | (show 6 ≠ 12; omega) | (show 8 ≠ 12; omega))
              rw [show Op.doT (Op.drT b j) (Op.drC b j) = (Op.drT b (j + 1)) from ebnvl.1] at tmbnvl ⊢
              rw [show Op.doR (Op.drT b j) (Op.drC b j) = (Op.drR b j) from ebnvl.2] at rmbnvl ⊢
              have HVabnvl : Hid (VT w w8bnvl [(g1t, .th A k (Op.drT b j)), (g1r, .rp B1 n1 d1 C1 m1 f1 Op.drR0)]) := HVbnv.out.below hbbnvl
              have HTbnvl : Hid ((fun W : World => W.cell? ⟨g1r, 3, none⟩ = some (.int .u32 1) ∧ W.cell? ⟨g1r, 4, none⟩ = some (.int .u32 1)) w8bnvl) := HSV.out _ _ _ _ HVabnvl.out
              refine hK.out _ _ HTbnvl.out fun _ => ?_
              clear hK K ebnvl hbbnvl
              refine takeH (i := 12) 43 (.tuple #[.agg (tc (Op.drT b (j + 1)) (.slice Abnvl 24 kbnvl)).toArray, .agg (rc (Op.drR b j) (.slice Bbnvl nbnvl dbnvl) (.slice Cbnvl mbnvl fbnvl)).toArray]) rfl rfl (by kernel_rfl) (by kernel_rfl) (by kernel_rfl) (fun _ _ _ h => h) (.inl ⟨by rfl, fun W hW => by go_simp⟩) HTbnvl.out ?_
              simp only [Act.put, List.setIfInBounds_toArray, List.set_cons_zero, List.set_cons_succ]
              refine takeH (i := 13) 56 (.agg (tc (Op.drT b (j + 1)) (.slice Abnvl 24 kbnvl)).toArray) rfl rfl (by kernel_rfl) (by kernel_rfl) (by kernel_rfl) (fun _ _ _ h => h) (.inl ⟨by rfl, fun W hW => by go_simp⟩) HTbnvl.out ?_
              simp only [Act.put, List.setIfInBounds_toArray, List.set_cons_zero, List.set_cons_succ]
              refine takeH (i := 14) 57 (.agg (rc (Op.drR b j) (.slice Bbnvl nbnvl dbnvl) (.slice Cbnvl mbnvl fbnvl)).toArray) rfl rfl (by kernel_rfl) (by kernel_rfl) (by kernel_rfl) (fun _ _ _ h => h) (.inl ⟨by rfl, fun W hW => by go_simp⟩) HTbnvl.out ?_
              simp only [Act.put, List.setIfInBounds_toArray, List.set_cons_zero, List.set_cons_succ]
              refine wpAnyH_ready (rs := [15]) (by kernel_rfl) (by simp) ?_
              refine AllReadyH.cons rfl (fun K hK => ?_) AllReadyH.nil
              refine store_wp (P := Tryz.prog) 27 (.tmp 7) (.tmp 56) rfl g1t (tc (Op.drT b (j + 1)) (.slice Abnvl 24 kbnvl)) rfl rfl 27 _ (HVabnvl.out.bw 0 rfl) size_Th rfl (tc_row _ _ _ _) ?_
              intro w9bnvl hb9bnvl hs9bnvl hk9bnvl
              have HFbnvl : Hid (VT w w9bnvl [(g1t, .th Abnvl kbnvl (Op.drT b (j + 1))), (g1r, .rp B1 n1 d1 C1 m1 f1 Op.drR0)]) := HVabnvl.out.put 0 (u := .th Abnvl kbnvl (Op.drT b (j + 1))) rfl hb9bnvl hk9bnvl tmbnvl
              have HUbnvl : Hid ((fun W : World => W.cell? ⟨g1r, 3, none⟩ = some (.int .u32 1) ∧ W.cell? ⟨g1r, 4, none⟩ = some (.int .u32 1)) w9bnvl) := HSV.out _ _ _ _ HFbnvl.out
              clear hb9bnvl hs9bnvl hk9bnvl HVabnvl
              refine hK.out _ _ HUbnvl.out fun _ => ?_
              clear hK K
              refine wpAnyH_done (by kernel_rfl) ?_ _
              simp only [List.getElem_toArray, List.getElem_cons_succ, List.getElem_cons_zero, Act.put]
              go_wp2_with fail
              go_roundw
              case rel => exact ⟨j + 1, Abnvl, kbnvl, by omega, by go_num, HFbnvl⟩
              case measure => simp [intOf]; omega
        · skip
          refine mark_wp (.tmp 52) rfl (wo.drew.heap.size) 1 1 _ rfl hmb ?_
          intro wbv hmbv hkbv
          have HCbv := Lib.hid (HCb.out.trans (hkbv.below2 (fun q hq => Nat.ne_of_lt hq)))
          have HVbv : Hid (VT w wbv [(g1t, .th A k (Op.drT b j)), (g1r, .rp B1 n1 d1 C1 m1 f1 Op.drR0)]) := HVd.out.below HCbv.out
          have HSbv : Hid ((fun W : World => W.cell? ⟨g1r, 3, none⟩ = some (.int .u32 1) ∧ W.cell? ⟨g1r, 4, none⟩ = some (.int .u32 1)) wbv) := HSV.out _ _ _ _ HVbv.out
          refine hK.out _ _ HSbv.out fun _ => ?_
          clear hK K
          simp only [List.getElem_toArray, List.getElem_cons_succ, List.getElem_cons_zero, Act.put, List.setIfInBounds_toArray, List.set_cons_zero, List.set_cons_succ]
          refine wpAnyH_ready (rs := [0, 7]) (by kernel_rfl) (by simp) ?_
          refine AllReadyH.cons rfl (fun K hK => ?_) (AllReadyH.cons rfl (fun K hK => ?_) AllReadyH.nil)
          · skip
            refine Did.wp (v := .agg (tc (Op.drT b j) (.slice A 24 k)).toArray) (w' := wbv) (.inl (run_load_part 27 (.tmp 7) rfl g1t 0 rfl _ Tryz.underlying27 rfl (tc (Op.drT b j) (.slice A 24 k)) 27 _ (HVbv.out.bw 0 rfl) size_Th (fun j u hu => by rw [Nat.zero_add]; exact hu))) ?_
            refine hK.out _ _ HSbv.out fun _ => ?_
            clear hK K
            simp only [List.getElem_toArray, List.getElem_cons_succ, List.getElem_cons_zero, Act.put, List.setIfInBounds_toArray, List.set_cons_zero, List.set_cons_succ]
            refine wpAnyH_ready (rs := [7]) (by kernel_rfl) (by simp) ?_
            refine AllReadyH.cons rfl (fun K hK => ?_) AllReadyH.nil
            · skip
              go_simp
              refine (lawnamed_any j _ (by omega)).mono ?_
              rintro e wbvln ⟨rfl, hwbvln⟩
              have HVbvln : Hid (VT w wbvln [(g1t, .th A k (Op.drT b j)), (g1r, .rp B1 n1 d1 C1 m1 f1 Op.drR0)]) := HVbv.out.below hwbvln
              have hmbvln := (hwbvln.block _ (Array.getElem?_eq_some_iff.1 hmbv).1).trans hmbv
              have HCbvln := Lib.hid (HCbv.out.trans (hwbvln.mono HCbv.out.size))
              have HSbvln : Hid ((fun W : World => W.cell? ⟨g1r, 3, none⟩ = some (.int .u32 1) ∧ W.cell? ⟨g1r, 4, none⟩ = some (.int .u32 1)) wbvln) := HSV.out _ _ _ _ HVbvln.out
              refine hK.out _ _ HSbvln.out fun _ => ?_
              clear hK K
              rw [HNM.out]
              refine takeH (i := 10) 54 (.agg (cc (Op.drC b j) (.slice (some ⟨wo.drew.heap.size, 0, none⟩) 1 1)).toArray) rfl rfl (by kernel_rfl) (by kernel_rfl) (by kernel_rfl) (fun _ _ _ h => h) (.inl ⟨by rfl, fun W hW => by (go_simp; rfl)⟩) HSbvln.out ?_
              simp only [Act.put, List.setIfInBounds_toArray, List.set_cons_zero, List.set_cons_succ]
              refine wpAnyH_ready (rs := [11]) (by kernel_rfl) (by simp) ?_
              refine AllReadyH.cons rfl (fun K hK => ?_) AllReadyH.nil
              go_simp
              refine (HPK.out.run (Op.drT b j) A k (Op.drC b j) (some ⟨wo.drew.heap.size, 0, none⟩) 1 1 _ (show TM _ A k (Op.drT b j) from HVbvln.out.ok 0 rfl) HSj.out (Op.drC_wide b (by omega)) (Op.nmd_len j (by omega)) (Nat.le_of_ble_eq_true rfl) (Nat.le_of_ble_eq_true rfl) (BS.ofM (l := [120]) hmbvln) (Nat.le_refl _)).mono ?_
              rintro e w8bvln ⟨Abvln, kbvln, Bbvln, nbvln, dbvln, Cbvln, mbvln, fbvln, rfl, tmbvln, rmbvln, hbbvln⟩
              have ebvln := Op.do_step (c := (Op.drC b j)) HSj.out.inv.may (by cases b <;> first | (show 1 ≤ 6; omega) | (show 1 ≤ 8; omega)) (by cases b <;> first | (show 6 ≤ 16; omega) | (show 8 ≤ 16; omega)) (by cases b <;> first | (show 6 ≠ 12; omega) | (show 8 ≠ 12; omega))
              rw [show Op.doT (Op.drT b j) (Op.drC b j) = (Op.drT b (j + 1)) from ebvln.1] at tmbvln ⊢
              rw [show Op.doR (Op.drT b j) (Op.drC b j) = (Op.drR b j) from ebvln.2] at rmbvln ⊢
              have HVabvln : Hid (VT w w8bvln [(g1t, .th A k (Op.drT b j)), (g1r, .rp B1 n1 d1 C1 m1 f1 Op.drR0)]) := HVbvln.out.below hbbvln
              have HTbvln : Hid ((fun W : World => W.cell? ⟨g1r, 3, none⟩ = some (.int .u32 1) ∧ W.cell? ⟨g1r, 4, none⟩ = some (.int .u32 1)) w8bvln) := HSV.out _ _ _ _ HVabvln.out
              refine hK.out _ _ HTbvln.out fun _ => ?_
              clear hK K ebvln hbbvln
              refine takeH (i := 12) 43 (.tuple #[.agg (tc (Op.drT b (j + 1)) (.slice Abvln 24 kbvln)).toArray, .agg (rc (Op.drR b j) (.slice Bbvln nbvln dbvln) (.slice Cbvln mbvln fbvln)).toArray]) rfl rfl (by kernel_rfl) (by kernel_rfl) (by kernel_rfl) (fun _ _ _ h => h) (.inl ⟨by rfl, fun W hW => by go_simp⟩) HTbvln.out ?_
              simp only [Act.put, List.setIfInBounds_toArray, List.set_cons_zero, List.set_cons_succ]
              refine takeH (i := 13) 56 (.agg (tc (Op.drT b (j + 1)) (.slice Abvln 24 kbvln)).toArray) rfl rfl (by kernel_rfl) (by kernel_rfl) (by kernel_rfl) (fun _ _ _ h => h) (.inl ⟨by rfl, fun W hW => by go_simp⟩) HTbvln.out ?_
              simp only [Act.put, List.setIfInBounds_toArray, List.set_cons_zero, List.set_cons_succ]
              refine takeH (i := 14) 57 (.agg (rc (Op.drR b j) (.slice Bbvln nbvln dbvln) (.slice Cbvln mbvln fbvln)).toArray) rfl rfl (by kernel_rfl) (by kernel_rfl) (by kernel_rfl) (fun _ _ _ h => h) (.inl ⟨by rfl, fun W hW => by go_simp⟩) HTbvln.out ?_
              simp only [Act.put, List.setIfInBounds_toArray, List.set_cons_zero, List.set_cons_succ]
              refine wpAnyH_ready (rs := [15]) (by kernel_rfl) (by simp) ?_
              refine AllReadyH.cons rfl (fun K hK => ?_) AllReadyH.nil
              refine store_wp (P := Tryz.prog) 27 (.tmp 7) (.tmp 56) rfl g1t (tc (Op.drT b (j + 1)) (.slice Abvln 24 kbvln)) rfl rfl 27 _ (HVabvln.out.bw 0 rfl) size_Th rfl (tc_row _ _ _ _) ?_
              intro w9bvln hb9bvln hs9bvln hk9bvln
              have HFbvln : Hid (VT w w9bvln [(g1t, .th Abvln kbvln (Op.drT b (j + 1))), (g1r, .rp B1 n1 d1 C1 m1 f1 Op.drR0)]) := HVabvln.out.put 0 (u := .th Abvln kbvln (Op.drT b (j + 1))) rfl hb9bvln hk9bvln tmbvln
              have HUbvln : Hid ((fun W : World => W.cell? ⟨g1r, 3, none⟩ = some (.int .u32 1) ∧ W.cell? ⟨g1r, 4, none⟩ = some (.int .u32 1)) w9bvln) := HSV.out _ _ _ _ HFbvln.out
              clear hb9bvln hs9bvln hk9bvln HVabvln
              refine hK.out _ _ HUbvln.out fun _ => ?_
              clear hK K
              refine wpAnyH_done (by kernel_rfl) ?_ _
              simp only [List.getElem_toArray, List.getElem_cons_succ, List.getElem_cons_zero, Act.put]
              go_wp2_with fail
              go_roundw
              case rel => exact ⟨j + 1, Abvln, kbvln, by omega, by go_num, HFbvln⟩
              case measure => simp [intOf]; omega
          · skip
            go_simp
            refine (lawnamed_any j _ (by omega)).mono ?_
            rintro e wbvn ⟨rfl, hwbvn⟩
            have HVbvn : Hid (VT w wbvn [(g1t, .th A k (Op.drT b j)), (g1r, .rp B1 n1 d1 C1 m1 f1 Op.drR0)]) := HVbv.out.below hwbvn
            have hmbvn := (hwbvn.block _ (Array.getElem?_eq_some_iff.1 hmbv).1).trans hmbv
            have HCbvn := Lib.hid (HCbv.out.trans (hwbvn.mono HCbv.out.size))
            have HSbvn : Hid ((fun W : World => W.cell? ⟨g1r, 3, none⟩ = some (.int .u32 1) ∧ W.cell? ⟨g1r, 4, none⟩ = some (.int .u32 1)) wbvn) := HSV.out _ _ _ _ HVbvn.out
            refine hK.out _ _ HSbvn.out fun _ => ?_
            clear hK K
            rw [HNM.out]
            refine takeH (i := 10) 54 (.agg (cc (Op.drC b j) (.slice (some ⟨wo.drew.heap.size, 0, none⟩) 1 1)).toArray) rfl rfl (by kernel_rfl) (by kernel_rfl) (by kernel_rfl) (fun _ _ _ h => h) (.inl ⟨by rfl, fun W hW => by (go_simp; rfl)⟩) HSbvn.out ?_
            simp only [Act.put, List.setIfInBounds_toArray, List.set_cons_zero, List.set_cons_succ]
            refine wpAnyH_ready (rs := [0]) (by kernel_rfl) (by simp) ?_
            refine AllReadyH.cons rfl (fun K hK => ?_) AllReadyH.nil
            · skip
              refine Did.wp (v := .agg (tc (Op.drT b j) (.slice A 24 k)).toArray) (w' := wbvn) (.inl (run_load_part 27 (.tmp 7) rfl g1t 0 rfl _ Tryz.underlying27 rfl (tc (Op.drT b j) (.slice A 24 k)) 27 _ (HVbvn.out.bw 0 rfl) size_Th (fun j u hu => by rw [Nat.zero_add]; exact hu))) ?_
              refine hK.out _ _ HSbvn.out fun _ => ?_
              clear hK K
              simp only [List.getElem_toArray, List.getElem_cons_succ, List.getElem_cons_zero, Act.put, List.setIfInBounds_toArray, List.set_cons_zero, List.set_cons_succ]
              refine wpAnyH_ready (rs := [11]) (by kernel_rfl) (by simp) ?_
              refine AllReadyH.cons rfl (fun K hK => ?_) AllReadyH.nil
              go_simp
              refine (HPK.out.run (Op.drT b j) A k (Op.drC b j) (some ⟨wo.drew.heap.size, 0, none⟩) 1 1 _ (show TM _ A k (Op.drT b j) from HVbvn.out.ok 0 rfl) HSj.out (Op.drC_wide b (by omega)) (Op.nmd_len j (by omega)) (Nat.le_of_ble_eq_true rfl) (Nat.le_of_ble_eq_true rfl) (BS.ofM (l := [120]) hmbvn) (Nat.le_refl _)).mono ?_
              rintro e w8bvnl ⟨Abvnl, kbvnl, Bbvnl, nbvnl, dbvnl, Cbvnl, mbvnl, fbvnl, rfl, tmbvnl, rmbvnl, hbbvnl⟩
              have ebvnl := Op.do_step (c := (Op.drC b j)) HSj.out.inv.may (by cases b <;> first | (show 1 ≤ 6; omega) | (show 1 ≤ 8; omega)) (by cases b <;> first | (show 6 ≤ 16; omega) | (show 8 ≤ 16; omega)) (by cases b <;> first | (show 6 ≠ 12; omega) | (show 8 ≠ 12; omega))
              rw [show Op.doT (Op.drT b j) (Op.drC b j) = (Op.drT b (j + 1)) from ebvnl.1] at tmbvnl ⊢
              rw [show Op.doR (Op.drT b j) (Op.drC b j) = (Op.drR b j) from ebvnl.2] at rmbvnl ⊢
              have HVabvnl : Hid (VT w w8bvnl [(g1t, .th A k (Op.drT b j)), (g1r, .rp B1 n1 d1 C1 m1 f1 Op.drR0)]) := HVbvn.out.below hbbvnl
              have HTbvnl : Hid ((fun W : World => W.cell? ⟨g1r, 3, none⟩ = some (.int .u32 1) ∧ W.cell? ⟨g1r, 4, none⟩ = some (.int .u32 1)) w8bvnl) := HSV.out _ _ _ _ HVabvnl.out
              refine hK.out _ _ HTbvnl.out fun _ => ?_
              clear hK K ebvnl hbbvnl
              refine takeH (i := 12) 43 (.tuple #[.agg (tc (Op.drT b (j + 1)) (.slice Abvnl 24 kbvnl)).toArray, .agg (rc (Op.drR b j) (.slice Bbvnl nbvnl dbvnl) (.slice Cbvnl mbvnl fbvnl)).toArray]) rfl rfl (by kernel_rfl) (by kernel_rfl) (by kernel_rfl) (fun _ _ _ h => h) (.inl ⟨by rfl, fun W hW => by go_simp⟩) HTbvnl.out ?_
              simp only [Act.put, List.setIfInBounds_toArray, List.set_cons_zero, List.set_cons_succ]
              refine takeH (i := 13) 56 (.agg (tc (Op.drT b (j + 1)) (.slice Abvnl 24 kbvnl)).toArray) rfl rfl (by kernel_rfl) (by kernel_rfl) (by kernel_rfl) (fun _ _ _ h => h) (.inl ⟨by rfl, fun W hW => by go_simp⟩) HTbvnl.out ?_
              simp only [Act.put, List.setIfInBounds_toArray, List.set_cons_zero, List.set_cons_succ]
              refine takeH (i := 14) 57 (.agg (rc (Op.drR b j) (.slice Bbvnl nbvnl dbvnl) (.slice Cbvnl mbvnl fbvnl)).toArray) rfl rfl (by kernel_rfl) (by kernel_rfl) (by kernel_rfl) (fun _ _ _ h => h) (.inl ⟨by rfl, fun W hW => by go_simp⟩) HTbvnl.out ?_
              simp only [Act.put, List.setIfInBounds_toArray, List.set_cons_zero, List.set_cons_succ]
              refine wpAnyH_ready (rs := [15]) (by kernel_rfl) (by simp) ?_
              refine AllReadyH.cons rfl (fun K hK => ?_) AllReadyH.nil
              refine store_wp (P := Tryz.prog) 27 (.tmp 7) (.tmp 56) rfl g1t (tc (Op.drT b (j + 1)) (.slice Abvnl 24 kbvnl)) rfl rfl 27 _ (HVabvnl.out.bw 0 rfl) size_Th rfl (tc_row _ _ _ _) ?_
              intro w9bvnl hb9bvnl hs9bvnl hk9bvnl
              have HFbvnl : Hid (VT w w9bvnl [(g1t, .th Abvnl kbvnl (Op.drT b (j + 1))), (g1r, .rp B1 n1 d1 C1 m1 f1 Op.drR0)]) := HVabvnl.out.put 0 (u := .th Abvnl kbvnl (Op.drT b (j + 1))) rfl hb9bvnl hk9bvnl tmbvnl
              have HUbvnl : Hid ((fun W : World => W.cell? ⟨g1r, 3, none⟩ = some (.int .u32 1) ∧ W.cell? ⟨g1r, 4, none⟩ = some (.int .u32 1)) w9bvnl) := HSV.out _ _ _ _ HFbvnl.out
              clear hb9bvnl hs9bvnl hk9bvnl HVabvnl
              refine hK.out _ _ HUbvnl.out fun _ => ?_
              clear hK K
              refine wpAnyH_done (by kernel_rfl) ?_ _
              simp only [List.getElem_toArray, List.getElem_cons_succ, List.getElem_cons_zero, Act.put]
              go_wp2_with fail
              go_roundw
              case rel => exact ⟨j + 1, Abvnl, kbvnl, by omega, by go_num, HFbvnl⟩
              case measure => simp [intOf]; omega
    · obtain rfl : n = j := by omega
      clear hlt hj
      have HSj : Hid (Op.Sound (Op.drT b n)) := Op.dr_sound b n (by omega)
      go_upto_region 13 with fail
      go_wp2_with (refine wpList_load_part rfl 27 (.tmp 7) rfl g1t 0 rfl _ Tryz.underlying27 rfl (tc (Op.drT b n) (.slice A 24 k)) 27 _ (HV.out.bw 0 rfl) size_Th (fun j u hu => by rw [Nat.zero_add]; exact hu) ?_)
      refine (HPK.out.run (Op.drT b n) A k (Op.cl 10 0 1 [100]) none 0 0 _ (show TM _ A k (Op.drT b n) from HV.out.ok 0 rfl) HSj.out (Op.cl_wide (by decide) (by decide) (by decide)) (Nat.le_of_ble_eq_true rfl) (Nat.le_of_ble_eq_true rfl) (Nat.le_of_ble_eq_true rfl) BS.nil (Nat.le_refl _)).mono ?_
      rintro e w2a ⟨A2, k2, B2, n2, d2, C2, m2, f2, rfl, tm2, rm2, hb2⟩
      have e2 := Op.do_step (c := (Op.cl 10 0 1 [100])) HSj.out.inv.may (Nat.le_of_ble_eq_true rfl) (Nat.le_of_ble_eq_true rfl) (Nat.ne_of_beq_eq_false rfl)
      have HS2 : Hid (Op.Sound (Op.step (Op.drT b n) (Op.cl 10 0 1 [100])).1) := by show Op.Sound _; rw [show (Op.step (Op.drT b n) (Op.cl 10 0 1 [100])).1 = Op.doT (Op.drT b n) (Op.cl 10 0 1 [100]) from e2.1.symm]; exact HSj.out.doT (Op.cl_wide (by decide) (by decide) (by decide))
      rw [show Op.doT (Op.drT b n) (Op.cl 10 0 1 [100]) = (Op.step (Op.drT b n) (Op.cl 10 0 1 [100])).1 from e2.1] at tm2 ⊢
      rw [show Op.doR (Op.drT b n) (Op.cl 10 0 1 [100]) = (Op.step (Op.drT b n) (Op.cl 10 0 1 [100])).2 from e2.2] at rm2 ⊢
      have HV2a := Lib.hid (HV.out.below hb2)
      clear e2 hb2
      go_upto_region 14 with (first
        | (refine wpList_alloc_any rfl 27 rfl _ zero_Th ?_
           intro w2t hbt2 hst2 hwt2)
        | (refine wpList_alloc_any rfl 49 rfl _ zero_Rp ?_
           intro w2r hbr2 hsr2 hwr2
           have hbt22 : Bw w2r w2a.heap.size (tc Op.zeroT (.slice none 0 0)) 27 := Bw.below hbt2 hwr2)
        | (refine wpList_store_part rfl 27 (.tmp 11) (.tmp 63) rfl w2a.heap.size 0 (tc (Op.step (Op.drT b n) (Op.cl 10 0 1 [100])).1 (.slice A2 24 k2)) rfl rfl 27 _ hbt22 size_Th (by simp [tc]) (tc_row _ _ _ _) ?_
           intro w2u hbu2 hsu2 hku2
           have hbr22 : Bw w2u w2t.heap.size (rc Rp.zero (.slice none 0 0) (.slice none 0 0)) 49 := Bw.keep hbr2 hku2 (by omega))
        | (refine wpList_store_part rfl 49 (.tmp 12) (.tmp 64) rfl w2t.heap.size 0 (rc (Op.step (Op.drT b n) (Op.cl 10 0 1 [100])).2 (.slice B2 n2 d2) (.slice C2 m2 f2)) rfl rfl 49 _ hbr22 size_Rp (by simp [rc]) (rc_row _ _ _ _ _ _ _) ?_
           intro w2v hbv2 hsv2 hkv2))
      have hbe2 : Below w2a.heap.size w2a w2v := ((hwt2.trans (hwr2.mono (by omega))).trans (hku2.below2 (fun k hk => by omega))).trans (hkv2.below2 (fun k hk => by omega))
      have HV2 : Hid (VT w w2v [(g1t, .th A k (Op.drT b n)), (g1r, .rp B1 n1 d1 C1 m1 f1 Op.drR0), (w2t.heap.size, .rp B2 n2 d2 C2 m2 f2 (Op.step (Op.drT b n) (Op.cl 10 0 1 [100])).2)]) := HV2a.out.push (g := w2t.heap.size) (v := .rp B2 n2 d2 C2 m2 f2 (Op.step (Op.drT b n) (Op.cl 10 0 1 [100])).2) (by omega) hbv2 hbe2 rm2 
      clear HV2a hbe2 hbt2 hst2 hwt2 hbr2 hsr2 hwr2 hbt22 hbu2 hsu2 hku2 hbr22 hbv2 hsv2 hkv2 tm2 rm2 HV
      generalize w2t.heap.size = g2r at *
      generalize w2a.heap.size = g2t at *
      go_wp2_with (refine wpList_load_part rfl 27 (.tmp 7) rfl g1t 0 rfl _ Tryz.underlying27 rfl (tc (Op.drT b n) (.slice A 24 k)) 27 _ (HV2.out.bw 0 rfl) size_Th (fun j u hu => by rw [Nat.zero_add]; exact hu) ?_)
      refine (HPK.out.run (Op.drT b n) A k (Op.cl 11 0 1 [100]) none 0 0 _ (show TM _ A k (Op.drT b n) from HV2.out.ok 0 rfl) HSj.out (Op.cl_wide (by decide) (by decide) (by decide)) (Nat.le_of_ble_eq_true rfl) (Nat.le_of_ble_eq_true rfl) (Nat.le_of_ble_eq_true rfl) BS.nil (Nat.le_refl _)).mono ?_
      rintro e w3a ⟨A3, k3, B3, n3, d3, C3, m3, f3, rfl, tm3, rm3, hb3⟩
      have e3 := Op.do_step (c := (Op.cl 11 0 1 [100])) HSj.out.inv.may (Nat.le_of_ble_eq_true rfl) (Nat.le_of_ble_eq_true rfl) (Nat.ne_of_beq_eq_false rfl)
      have HS3 : Hid (Op.Sound (Op.step (Op.drT b n) (Op.cl 11 0 1 [100])).1) := by show Op.Sound _; rw [show (Op.step (Op.drT b n) (Op.cl 11 0 1 [100])).1 = Op.doT (Op.drT b n) (Op.cl 11 0 1 [100]) from e3.1.symm]; exact HSj.out.doT (Op.cl_wide (by decide) (by decide) (by decide))
      rw [show Op.doT (Op.drT b n) (Op.cl 11 0 1 [100]) = (Op.step (Op.drT b n) (Op.cl 11 0 1 [100])).1 from e3.1] at tm3 ⊢
      rw [show Op.doR (Op.drT b n) (Op.cl 11 0 1 [100]) = (Op.step (Op.drT b n) (Op.cl 11 0 1 [100])).2 from e3.2] at rm3 ⊢
      have HV3a := Lib.hid (HV2.out.below hb3)
      clear e3 hb3
      go_upto_region 15 with (first
        | (refine wpList_alloc_any rfl 27 rfl _ zero_Th ?_
           intro w3t hbt3 hst3 hwt3)
        | (refine wpList_alloc_any rfl 49 rfl _ zero_Rp ?_
           intro w3r hbr3 hsr3 hwr3
           have hbt23 : Bw w3r w3a.heap.size (tc Op.zeroT (.slice none 0 0)) 27 := Bw.below hbt3 hwr3)
        | (refine wpList_store_part rfl 27 (.tmp 13) (.tmp 70) rfl w3a.heap.size 0 (tc (Op.step (Op.drT b n) (Op.cl 11 0 1 [100])).1 (.slice A3 24 k3)) rfl rfl 27 _ hbt23 size_Th (by simp [tc]) (tc_row _ _ _ _) ?_
           intro w3u hbu3 hsu3 hku3
           have hbr23 : Bw w3u w3t.heap.size (rc Rp.zero (.slice none 0 0) (.slice none 0 0)) 49 := Bw.keep hbr3 hku3 (by omega))
        | (refine wpList_store_part rfl 49 (.tmp 14) (.tmp 71) rfl w3t.heap.size 0 (rc (Op.step (Op.drT b n) (Op.cl 11 0 1 [100])).2 (.slice B3 n3 d3) (.slice C3 m3 f3)) rfl rfl 49 _ hbr23 size_Rp (by simp [rc]) (rc_row _ _ _ _ _ _ _) ?_
           intro w3v hbv3 hsv3 hkv3))
      have hbe3 : Below w3a.heap.size w3a w3v := ((hwt3.trans (hwr3.mono (by omega))).trans (hku3.below2 (fun k hk => by omega))).trans (hkv3.below2 (fun k hk => by omega))
      have HV3 : Hid (VT w w3v [(g1t, .th A k (Op.drT b n)), (g1r, .rp B1 n1 d1 C1 m1 f1 Op.drR0), (g2r, .rp B2 n2 d2 C2 m2 f2 (Op.step (Op.drT b n) (Op.cl 10 0 1 [100])).2), (w3t.heap.size, .rp B3 n3 d3 C3 m3 f3 (Op.step (Op.drT b n) (Op.cl 11 0 1 [100])).2)]) := HV3a.out.push (g := w3t.heap.size) (v := .rp B3 n3 d3 C3 m3 f3 (Op.step (Op.drT b n) (Op.cl 11 0 1 [100])).2) (by omega) hbv3 hbe3 rm3 
      clear HV3a hbe3 hbt3 hst3 hwt3 hbr3 hsr3 hwr3 hbt23 hbu3 hsu3 hku3 hbr23 hbv3 hsv3 hkv3 tm3 rm3 HV2
      generalize w3t.heap.size = g3r at *
      generalize w3a.heap.size = g3t at *
      have HDR := Lib.hid (Op.dr_ok b n hn4)
      have s2 := HV3.out.cell 2 rfl 2 _ rfl
      have s3 := HV3.out.cell 3 rfl 2 _ rfl
      rw [HDR.out.1] at s2
      obtain ⟨wk, rfl⟩ : ∃ wk, wk = w3v := ⟨w3v, rfl⟩
      go_upto_region 15 with fail
      go_frame
      go_cut [91] (fun v W => v = .bool false ∧ W = wk)
      case first =>
        by_cases h0 : n = 0
        · have h2 := HDR.out.2
          rw [if_pos h0] at h2
          rw [h2] at s3
          subst h0
          clear h2 HDR
          go_wp2_with fail
          go_meet
          case rel => exact ⟨rfl, rfl⟩
        · have h2 := HDR.out.2
          rw [if_neg h0] at h2
          rw [h2] at s3
          have hd : ((n : Int) == 0) = false := by simp; omega
          have hd2 : decide ((0 : Int) < (n : Int)) = true := by simp; omega
          have hd3 : decide (0 < n) = true := by simp; omega
          have hd4 : (n == 0) = false := by simp; omega
          clear h2 HDR
          go_wp2_with fail
          go_meet
          case rel => exact ⟨rfl, rfl⟩
      case rest =>
      obtain ⟨rfl, rfl⟩ := hcut
      have HV4 : Hid (VT w wc [(g1t, .th A k (Op.drT b n)), (g1r, .rp B1 n1 d1 C1 m1 f1 Op.drR0)]) := VT.left (us := [(g2r, .rp B2 n2 d2 C2 m2 f2 _), (g3r, .rp B3 n3 d3 C3 m3 f3 _)]) HV3.out
      clear HV3 s2 s3 HDR HS2 HS3
      go_wp2_with fail
      go_loopw [15] (fun i wr => ∃ (j : Nat) (A : Option Addr) (k : Nat), j ≤ n ∧ i = .int .i64 j ∧ Hid (VT w wr [(g1t, .th A k (Op.rdT b n j)), (g1r, .rp B1 n1 d1 C1 m1 f1 Op.drR0)])) (fun i _ => n - (intOf i).toNat)
      case atStart => exact ⟨0, A, k, by omega, rfl, HV4⟩
      case round =>
        clear HV4 HSj
        obtain ⟨j, A, k, hj, rfl, HV⟩ := hrel
        obtain ⟨wi, rfl⟩ : ∃ wi, wi = wr := ⟨wr, rfl⟩
        by_cases hlt : j < n
        · have HSj : Hid (Op.Sound (Op.rdT b n j)) := Op.rd_sound b n (by omega) j (by omega)
          have HNM : Hid (txt (Op.nm12 (j % 12)) = txt (Op.nmd j)) := congrArg txt (nm12_nmd j (by omega))
          go_upto_region 20 with fail
          go_cut [16, 17] from 92 to 127 (fun tv rv W => ∃ (gtq grq : Nat) (Aq : Option Addr) (kq : Nat) (Bq : Option Addr) (nq dq : Nat) (Cq : Option Addr) (mq fq : Nat), tv = .pointer (some ⟨gtq, 0, none⟩) ∧ rv = .pointer (some ⟨grq, 0, none⟩) ∧ Hid (VT w W [(g1t, .th A k (Op.rdT b n j)), (g1r, .rp B1 n1 d1 C1 m1 f1 Op.drR0), (gtq, .th Aq kq (Op.step (Op.rdT b n j) (Op.drX j)).1), (grq, .rp Bq nq dq Cq mq fq (Op.step (Op.rdT b n j) (Op.drX j)).2)]) ∧ Hid (Below wi.heap.size wi W))
          case first =>
            have HSd : Hid ((fun W : World => Below wi.heap.size wi W) wi.drew) := (Below.refl _ wi).drew
            refine wp_region_held_drew (S := (fun W : World => Below wi.heap.size wi W)) (by kernel_rfl) HSd.out (fun _ => ?_)
            change wpAnyH _ _ _ _ _ 15 (Array.replicate 15 false) _ _
            refine takeH (i := 0) 98 (.agg (tc (Op.rdT b n j) (.slice A 24 k)).toArray) rfl rfl (by kernel_rfl) (by kernel_rfl) (by kernel_rfl) (fun _ _ _ h => h) (.inl ⟨by rfl, fun W hW => by exact run_load_part 27 (.tmp 7) rfl g1t 0 rfl _ Tryz.underlying27 rfl (tc (Op.rdT b n j) (.slice A 24 k)) 27 _ ((VT.below HV.out hW).bw 0 rfl) size_Th (fun j u hu => by rw [Nat.zero_add]; exact hu)⟩) HSd.out ?_
            simp only [Act.put, List.setIfInBounds_toArray, List.set_cons_zero, List.set_cons_succ]
            refine takeH (i := 1) 99 (.pointer (some ⟨g1r, 3, none⟩)) rfl rfl (by kernel_rfl) (by kernel_rfl) (by kernel_rfl) (fun _ _ _ h => h) (.inl ⟨by rfl, fun W hW => by go_simp⟩) HSd.out ?_
            simp only [Act.put, List.setIfInBounds_toArray, List.set_cons_zero, List.set_cons_succ]
            refine takeH (i := 2) 100 (.agg #[.int .u32 1, .int .u32 1]) rfl rfl (by kernel_rfl) (by kernel_rfl) (by kernel_rfl) (fun _ _ _ h => h) (.inl ⟨by rfl, fun W hW => by (have h3 := (VT.below HV.out hW).cell 1 rfl 3 _ rfl; have h4 := (VT.below HV.out hW).cell 1 rfl 4 _ rfl; rw [show Op.drR0.ati = 1 from Op.dr_r.2.1] at h3; rw [show Op.drR0.atg = 1 from Op.dr_r.2.2] at h4; go_simp)⟩) HSd.out ?_
            simp only [Act.put, List.setIfInBounds_toArray, List.set_cons_zero, List.set_cons_succ]
            refine takeH (i := 3) 101 (.int .i64 (j : Int)) rfl rfl (by kernel_rfl) (by kernel_rfl) (by kernel_rfl) (fun _ _ _ h => h) (.inl ⟨by rfl, fun W hW => by go_simp⟩) HSd.out ?_
            simp only [Act.put, List.setIfInBounds_toArray, List.set_cons_zero, List.set_cons_succ]
            refine takeH (i := 4) 102 (.int .u8 (j : Int)) rfl rfl (by kernel_rfl) (by kernel_rfl) (by kernel_rfl) (fun _ _ _ h => h) (.inl ⟨by rfl, fun W hW => by (go_simp; first | done | (rw [IntKind.wrap_u8]; omega))⟩) HSd.out ?_
            simp only [Act.put, List.setIfInBounds_toArray, List.set_cons_zero, List.set_cons_succ]
            refine wpAnyH_ready (rs := [5, 11, 12]) (by kernel_rfl) (by simp) ?_
            refine AllReadyH.cons rfl (fun K hK => ?_) (AllReadyH.cons rfl (fun K hK => ?_) (AllReadyH.cons rfl (fun K hK => ?_) AllReadyH.nil))
            · skip
              go_simp
              refine (lawnamed_any j _ (by omega)).mono ?_
              rintro e wxn ⟨rfl, hbn⟩
              have hzn := hbn.size
              have HSn : Hid ((fun W : World => Below wi.heap.size wi W) wxn) := HSd.out.trans (hbn.mono HSd.out.size)
              have HZn := Lib.hid hzn
              refine hK.out _ _ HSn.out fun _ => ?_
              clear hK K hzn hbn
              rw [HNM.out]
              refine takeH (i := 6) 104 (.agg #[.int .u32 0, .int .u32 0, .int .u32 11, .int .u32 1, .int .u32 1, .string (txt (Op.nmd j)), .int .u32 0, .int .u32 0, .string ⟨#[]⟩, .int .u64 0, .int .u64 0, .int .u32 0, .int .u32 0, .slice none 0 0]) rfl rfl (by kernel_rfl) (by kernel_rfl) (by kernel_rfl) (fun _ _ _ h => h) (.inl ⟨by rfl, fun W hW => by go_simp⟩) HSn.out ?_
              simp only [Act.put, List.setIfInBounds_toArray, List.set_cons_zero, List.set_cons_succ]
              refine wpAnyH_ready (rs := [7, 11, 12]) (by kernel_rfl) (by simp) ?_
              refine AllReadyH.cons rfl (fun K hK => ?_) (AllReadyH.cons rfl (fun K hK => ?_) (AllReadyH.cons rfl (fun K hK => ?_) AllReadyH.nil))
              · skip
                go_simp
                refine (HPK.out.run (Op.rdT b n j) A k (Op.drX j) none 0 0 _ (show TM _ A k (Op.rdT b n j) from (VT.below HV.out HSn.out).ok 0 rfl) HSj.out (Op.drX_wide (by omega)) (Op.nmd_len j (by omega)) (Nat.le_of_ble_eq_true rfl) (Nat.le_of_ble_eq_true rfl) BS.nil (Nat.le_refl _)).mono ?_
                rintro e wxnc ⟨Anc, knc, Bnc, nnc, dnc, Cnc, mnc, fnc, rfl, tmnc, rmnc, hbnc⟩
                have enc := Op.do_step (c := (Op.drX j)) HSj.out.inv.may (Nat.le_of_ble_eq_true rfl) (Nat.le_of_ble_eq_true rfl) (Nat.ne_of_beq_eq_false rfl)
                rw [show Op.doT (Op.rdT b n j) (Op.drX j) = (Op.step (Op.rdT b n j) (Op.drX j)).1 from enc.1] at tmnc ⊢
                rw [show Op.doR (Op.rdT b n j) (Op.drX j) = (Op.step (Op.rdT b n j) (Op.drX j)).2 from enc.2] at rmnc ⊢
                have hznc := hbnc.size
                have HSnc : Hid ((fun W : World => Below wi.heap.size wi W) wxnc) := HSn.out.trans (hbnc.mono HSn.out.size)
                refine hK.out _ _ HSnc.out fun _ => ?_
                clear hK K enc
                refine takeH (i := 8) 97 (.tuple #[.agg (tc (Op.step (Op.rdT b n j) (Op.drX j)).1 (.slice Anc 24 knc)).toArray, .agg (rc (Op.step (Op.rdT b n j) (Op.drX j)).2 (.slice Bnc nnc dnc) (.slice Cnc mnc fnc)).toArray]) rfl rfl (by kernel_rfl) (by kernel_rfl) (by kernel_rfl) (fun _ _ _ h => h) (.inl ⟨by rfl, fun W hW => by go_simp⟩) HSnc.out ?_
                simp only [Act.put, List.setIfInBounds_toArray, List.set_cons_zero, List.set_cons_succ]
                refine takeH (i := 9) 106 (.agg (tc (Op.step (Op.rdT b n j) (Op.drX j)).1 (.slice Anc 24 knc)).toArray) rfl rfl (by kernel_rfl) (by kernel_rfl) (by kernel_rfl) (fun _ _ _ h => h) (.inl ⟨by rfl, fun W hW => by go_simp⟩) HSnc.out ?_
                simp only [Act.put, List.setIfInBounds_toArray, List.set_cons_zero, List.set_cons_succ]
                refine takeH (i := 10) 107 (.agg (rc (Op.step (Op.rdT b n j) (Op.drX j)).2 (.slice Bnc nnc dnc) (.slice Cnc mnc fnc)).toArray) rfl rfl (by kernel_rfl) (by kernel_rfl) (by kernel_rfl) (fun _ _ _ h => h) (.inl ⟨by rfl, fun W hW => by go_simp⟩) HSnc.out ?_
                simp only [Act.put, List.setIfInBounds_toArray, List.set_cons_zero, List.set_cons_succ]
                refine wpAnyH_ready (rs := [11, 12]) (by kernel_rfl) (by simp) ?_
                refine AllReadyH.cons rfl (fun K hK => ?_) (AllReadyH.cons rfl (fun K hK => ?_) AllReadyH.nil)
                · skip
                  refine alloc_wp 27 rfl _ zero_Th ?_
                  intro wxnct hbtnct hsnct hwnct
                  have HSZnct := Lib.hid hsnct
                  clear hsnct
                  have HSnct : Hid ((fun W : World => Below wi.heap.size wi W) wxnct) := HSnc.out.trans (hwnct.mono HSnc.out.size)
                  have hgxnct := HSnc.out.size
                  refine hK.out _ _ HSnct.out fun _ => ?_
                  clear hK K
                  simp only [List.getElem_toArray, List.getElem_cons_succ, List.getElem_cons_zero, Act.put, List.setIfInBounds_toArray, List.set_cons_zero, List.set_cons_succ]
                  have tmnct := TM.below tmnc hwnct
                  have rmnct := RM.below rmnc hwnct
                  refine wpAnyH_ready (rs := [12]) (by kernel_rfl) (by simp) ?_
                  refine AllReadyH.cons rfl (fun K hK => ?_) AllReadyH.nil
                  · skip
                    refine alloc_wp 49 rfl _ zero_Rp ?_
                    intro wxnctr hbrnctr hsnctr hwnctr
                    have HSZnctr := Lib.hid hsnctr
                    clear hsnctr
                    have HSnctr : Hid ((fun W : World => Below wi.heap.size wi W) wxnctr) := HSnct.out.trans (hwnctr.mono HSnct.out.size)
                    have hgxnctr := HSnct.out.size
                    refine hK.out _ _ HSnctr.out fun _ => ?_
                    clear hK K
                    simp only [List.getElem_toArray, List.getElem_cons_succ, List.getElem_cons_zero, Act.put, List.setIfInBounds_toArray, List.set_cons_zero, List.set_cons_succ]
                    have hbtnctr := Bw.below hbtnct hwnctr
                    have tmnctr := TM.below tmnct hwnctr
                    have rmnctr := RM.below rmnct hwnctr
                    refine wpAnyH_ready (rs := [13]) (by kernel_rfl) (by simp) ?_
                    refine AllReadyH.cons rfl (fun K hK => ?_) AllReadyH.nil
                    refine store_wp (P := Tryz.prog) 27 (.tmp 16) (.tmp 106) rfl (wxnc.heap.size) (tc (Op.step (Op.rdT b n j) (Op.drX j)).1 (.slice Anc 24 knc)) rfl rfl 27 _ hbtnctr size_Th rfl (tc_row _ _ _ _) ?_
                    intro w8nctr hb8nctr hs8nctr hk8nctr
                    have HTnctr : Hid ((fun W : World => Below wi.heap.size wi W) w8nctr) := HSnctr.out.trans (hk8nctr.below2 (fun q hq => by have := HZn.out; have := HSZnct.out; have := HSZnctr.out; omega))
                    refine hK.out _ _ HTnctr.out fun _ => ?_
                    clear hK K
                    refine wpAnyH_ready (rs := [14]) (by kernel_rfl) (by simp) ?_
                    refine AllReadyH.cons rfl (fun K hK => ?_) AllReadyH.nil
                    refine store_wp (P := Tryz.prog) 49 (.tmp 17) (.tmp 107) rfl (wxnct.heap.size) (rc (Op.step (Op.rdT b n j) (Op.drX j)).2 (.slice Bnc nnc dnc) (.slice Cnc mnc fnc)) rfl rfl 49 _ (Bw.keep hbrnctr hk8nctr (by have := HZn.out; have := HSZnct.out; have := HSZnctr.out; omega)) size_Rp rfl (rc_row _ _ _ _ _ _ _) ?_
                    intro w9nctr hb9nctr hs9nctr hk9nctr
                    have HUnctr : Hid ((fun W : World => Below wi.heap.size wi W) w9nctr) := HTnctr.out.trans (hk9nctr.below2 (fun q hq => by have := HZn.out; have := HSZnct.out; have := HSZnctr.out; omega))
                    refine hK.out _ _ HUnctr.out fun _ => ?_
                    clear hK K
                    refine wpAnyH_done (by kernel_rfl) ?_ _
                    have HFnctr := Lib.hid (VT.two (gt := wxnc.heap.size) (gr := wxnct.heap.size) HV.out HSnctr.out (by have := HZn.out; have := HSZnct.out; have := HSZnctr.out; omega) (by have := HZn.out; have := HSZnct.out; have := HSZnctr.out; omega) (by have := HZn.out; have := HSZnct.out; have := HSZnctr.out; omega) hbtnctr hbrnctr tmnctr rmnctr hb8nctr hk8nctr hb9nctr hk9nctr)
                    simp only [List.getElem_toArray, List.getElem_cons_succ, List.getElem_cons_zero, Act.put]
                    go_step
                    go_step
                    go_meet
                    case rel => exact ⟨_, _, Anc, knc, Bnc, nnc, dnc, Cnc, mnc, fnc, rfl, rfl, HFnctr.out.1, HFnctr.out.2⟩
                · skip
                  refine alloc_wp 49 rfl _ zero_Rp ?_
                  intro wxncr hbrncr hsncr hwncr
                  have HSZncr := Lib.hid hsncr
                  clear hsncr
                  have HSncr : Hid ((fun W : World => Below wi.heap.size wi W) wxncr) := HSnc.out.trans (hwncr.mono HSnc.out.size)
                  have hgxncr := HSnc.out.size
                  refine hK.out _ _ HSncr.out fun _ => ?_
                  clear hK K
                  simp only [List.getElem_toArray, List.getElem_cons_succ, List.getElem_cons_zero, Act.put, List.setIfInBounds_toArray, List.set_cons_zero, List.set_cons_succ]
                  have tmncr := TM.below tmnc hwncr
                  have rmncr := RM.below rmnc hwncr
                  refine wpAnyH_ready (rs := [11]) (by kernel_rfl) (by simp) ?_
                  refine AllReadyH.cons rfl (fun K hK => ?_) AllReadyH.nil
                  · skip
                    refine alloc_wp 27 rfl _ zero_Th ?_
                    intro wxncrt hbtncrt hsncrt hwncrt
                    have HSZncrt := Lib.hid hsncrt
                    clear hsncrt
                    have HSncrt : Hid ((fun W : World => Below wi.heap.size wi W) wxncrt) := HSncr.out.trans (hwncrt.mono HSncr.out.size)
                    have hgxncrt := HSncr.out.size
                    refine hK.out _ _ HSncrt.out fun _ => ?_
                    clear hK K
                    simp only [List.getElem_toArray, List.getElem_cons_succ, List.getElem_cons_zero, Act.put, List.setIfInBounds_toArray, List.set_cons_zero, List.set_cons_succ]
                    have hbrncrt := Bw.below hbrncr hwncrt
                    have tmncrt := TM.below tmncr hwncrt
                    have rmncrt := RM.below rmncr hwncrt
                    refine wpAnyH_ready (rs := [13]) (by kernel_rfl) (by simp) ?_
                    refine AllReadyH.cons rfl (fun K hK => ?_) AllReadyH.nil
                    refine store_wp (P := Tryz.prog) 27 (.tmp 16) (.tmp 106) rfl (wxncr.heap.size) (tc (Op.step (Op.rdT b n j) (Op.drX j)).1 (.slice Anc 24 knc)) rfl rfl 27 _ hbtncrt size_Th rfl (tc_row _ _ _ _) ?_
                    intro w8ncrt hb8ncrt hs8ncrt hk8ncrt
                    have HTncrt : Hid ((fun W : World => Below wi.heap.size wi W) w8ncrt) := HSncrt.out.trans (hk8ncrt.below2 (fun q hq => by have := HZn.out; have := HSZncr.out; have := HSZncrt.out; omega))
                    refine hK.out _ _ HTncrt.out fun _ => ?_
                    clear hK K
                    refine wpAnyH_ready (rs := [14]) (by kernel_rfl) (by simp) ?_
                    refine AllReadyH.cons rfl (fun K hK => ?_) AllReadyH.nil
                    refine store_wp (P := Tryz.prog) 49 (.tmp 17) (.tmp 107) rfl (wxnc.heap.size) (rc (Op.step (Op.rdT b n j) (Op.drX j)).2 (.slice Bnc nnc dnc) (.slice Cnc mnc fnc)) rfl rfl 49 _ (Bw.keep hbrncrt hk8ncrt (by have := HZn.out; have := HSZncr.out; have := HSZncrt.out; omega)) size_Rp rfl (rc_row _ _ _ _ _ _ _) ?_
                    intro w9ncrt hb9ncrt hs9ncrt hk9ncrt
                    have HUncrt : Hid ((fun W : World => Below wi.heap.size wi W) w9ncrt) := HTncrt.out.trans (hk9ncrt.below2 (fun q hq => by have := HZn.out; have := HSZncr.out; have := HSZncrt.out; omega))
                    refine hK.out _ _ HUncrt.out fun _ => ?_
                    clear hK K
                    refine wpAnyH_done (by kernel_rfl) ?_ _
                    have HFncrt := Lib.hid (VT.two (gt := wxncr.heap.size) (gr := wxnc.heap.size) HV.out HSncrt.out (by have := HZn.out; have := HSZncr.out; have := HSZncrt.out; omega) (by have := HZn.out; have := HSZncr.out; have := HSZncrt.out; omega) (by have := HZn.out; have := HSZncr.out; have := HSZncrt.out; omega) hbtncrt hbrncrt tmncrt rmncrt hb8ncrt hk8ncrt hb9ncrt hk9ncrt)
                    simp only [List.getElem_toArray, List.getElem_cons_succ, List.getElem_cons_zero, Act.put]
                    go_step
                    go_step
                    go_meet
                    case rel => exact ⟨_, _, Anc, knc, Bnc, nnc, dnc, Cnc, mnc, fnc, rfl, rfl, HFncrt.out.1, HFncrt.out.2⟩
              · skip
                refine alloc_wp 27 rfl _ zero_Th ?_
                intro wxnt hbtnt hsnt hwnt
                have HSZnt := Lib.hid hsnt
                clear hsnt
                have HSnt : Hid ((fun W : World => Below wi.heap.size wi W) wxnt) := HSn.out.trans (hwnt.mono HSn.out.size)
                have hgxnt := HSn.out.size
                refine hK.out _ _ HSnt.out fun _ => ?_
                clear hK K
                simp only [List.getElem_toArray, List.getElem_cons_succ, List.getElem_cons_zero, Act.put, List.setIfInBounds_toArray, List.set_cons_zero, List.set_cons_succ]
                refine wpAnyH_ready (rs := [7, 12]) (by kernel_rfl) (by simp) ?_
                refine AllReadyH.cons rfl (fun K hK => ?_) (AllReadyH.cons rfl (fun K hK => ?_) AllReadyH.nil)
                · skip
                  go_simp
                  refine (HPK.out.run (Op.rdT b n j) A k (Op.drX j) none 0 0 _ (show TM _ A k (Op.rdT b n j) from (VT.below HV.out HSnt.out).ok 0 rfl) HSj.out (Op.drX_wide (by omega)) (Op.nmd_len j (by omega)) (Nat.le_of_ble_eq_true rfl) (Nat.le_of_ble_eq_true rfl) BS.nil (Nat.le_refl _)).mono ?_
                  rintro e wxntc ⟨Antc, kntc, Bntc, nntc, dntc, Cntc, mntc, fntc, rfl, tmntc, rmntc, hbntc⟩
                  have entc := Op.do_step (c := (Op.drX j)) HSj.out.inv.may (Nat.le_of_ble_eq_true rfl) (Nat.le_of_ble_eq_true rfl) (Nat.ne_of_beq_eq_false rfl)
                  rw [show Op.doT (Op.rdT b n j) (Op.drX j) = (Op.step (Op.rdT b n j) (Op.drX j)).1 from entc.1] at tmntc ⊢
                  rw [show Op.doR (Op.rdT b n j) (Op.drX j) = (Op.step (Op.rdT b n j) (Op.drX j)).2 from entc.2] at rmntc ⊢
                  have hzntc := hbntc.size
                  have HSntc : Hid ((fun W : World => Below wi.heap.size wi W) wxntc) := HSnt.out.trans (hbntc.mono HSnt.out.size)
                  have hbtntc := Bw.below hbtnt hbntc
                  refine hK.out _ _ HSntc.out fun _ => ?_
                  clear hK K entc
                  refine takeH (i := 8) 97 (.tuple #[.agg (tc (Op.step (Op.rdT b n j) (Op.drX j)).1 (.slice Antc 24 kntc)).toArray, .agg (rc (Op.step (Op.rdT b n j) (Op.drX j)).2 (.slice Bntc nntc dntc) (.slice Cntc mntc fntc)).toArray]) rfl rfl (by kernel_rfl) (by kernel_rfl) (by kernel_rfl) (fun _ _ _ h => h) (.inl ⟨by rfl, fun W hW => by go_simp⟩) HSntc.out ?_
                  simp only [Act.put, List.setIfInBounds_toArray, List.set_cons_zero, List.set_cons_succ]
                  refine takeH (i := 9) 106 (.agg (tc (Op.step (Op.rdT b n j) (Op.drX j)).1 (.slice Antc 24 kntc)).toArray) rfl rfl (by kernel_rfl) (by kernel_rfl) (by kernel_rfl) (fun _ _ _ h => h) (.inl ⟨by rfl, fun W hW => by go_simp⟩) HSntc.out ?_
                  simp only [Act.put, List.setIfInBounds_toArray, List.set_cons_zero, List.set_cons_succ]
                  refine takeH (i := 10) 107 (.agg (rc (Op.step (Op.rdT b n j) (Op.drX j)).2 (.slice Bntc nntc dntc) (.slice Cntc mntc fntc)).toArray) rfl rfl (by kernel_rfl) (by kernel_rfl) (by kernel_rfl) (fun _ _ _ h => h) (.inl ⟨by rfl, fun W hW => by go_simp⟩) HSntc.out ?_
                  simp only [Act.put, List.setIfInBounds_toArray, List.set_cons_zero, List.set_cons_succ]
                  refine wpAnyH_ready (rs := [12]) (by kernel_rfl) (by simp) ?_
                  refine AllReadyH.cons rfl (fun K hK => ?_) AllReadyH.nil
                  · skip
                    refine alloc_wp 49 rfl _ zero_Rp ?_
                    intro wxntcr hbrntcr hsntcr hwntcr
                    have HSZntcr := Lib.hid hsntcr
                    clear hsntcr
                    have HSntcr : Hid ((fun W : World => Below wi.heap.size wi W) wxntcr) := HSntc.out.trans (hwntcr.mono HSntc.out.size)
                    have hgxntcr := HSntc.out.size
                    refine hK.out _ _ HSntcr.out fun _ => ?_
                    clear hK K
                    simp only [List.getElem_toArray, List.getElem_cons_succ, List.getElem_cons_zero, Act.put, List.setIfInBounds_toArray, List.set_cons_zero, List.set_cons_succ]
                    have hbtntcr := Bw.below hbtntc hwntcr
                    have tmntcr := TM.below tmntc hwntcr
                    have rmntcr := RM.below rmntc hwntcr
                    refine wpAnyH_ready (rs := [13]) (by kernel_rfl) (by simp) ?_
                    refine AllReadyH.cons rfl (fun K hK => ?_) AllReadyH.nil
                    refine store_wp (P := Tryz.prog) 27 (.tmp 16) (.tmp 106) rfl (wxn.heap.size) (tc (Op.step (Op.rdT b n j) (Op.drX j)).1 (.slice Antc 24 kntc)) rfl rfl 27 _ hbtntcr size_Th rfl (tc_row _ _ _ _) ?_
                    intro w8ntcr hb8ntcr hs8ntcr hk8ntcr
                    have HTntcr : Hid ((fun W : World => Below wi.heap.size wi W) w8ntcr) := HSntcr.out.trans (hk8ntcr.below2 (fun q hq => by have := HZn.out; have := HSZnt.out; have := HSZntcr.out; omega))
                    refine hK.out _ _ HTntcr.out fun _ => ?_
                    clear hK K
                    refine wpAnyH_ready (rs := [14]) (by kernel_rfl) (by simp) ?_
                    refine AllReadyH.cons rfl (fun K hK => ?_) AllReadyH.nil
                    refine store_wp (P := Tryz.prog) 49 (.tmp 17) (.tmp 107) rfl (wxntc.heap.size) (rc (Op.step (Op.rdT b n j) (Op.drX j)).2 (.slice Bntc nntc dntc) (.slice Cntc mntc fntc)) rfl rfl 49 _ (Bw.keep hbrntcr hk8ntcr (by have := HZn.out; have := HSZnt.out; have := HSZntcr.out; omega)) size_Rp rfl (rc_row _ _ _ _ _ _ _) ?_
                    intro w9ntcr hb9ntcr hs9ntcr hk9ntcr
                    have HUntcr : Hid ((fun W : World => Below wi.heap.size wi W) w9ntcr) := HTntcr.out.trans (hk9ntcr.below2 (fun q hq => by have := HZn.out; have := HSZnt.out; have := HSZntcr.out; omega))
                    refine hK.out _ _ HUntcr.out fun _ => ?_
                    clear hK K
                    refine wpAnyH_done (by kernel_rfl) ?_ _
                    have HFntcr := Lib.hid (VT.two (gt := wxn.heap.size) (gr := wxntc.heap.size) HV.out HSntcr.out (by have := HZn.out; have := HSZnt.out; have := HSZntcr.out; omega) (by have := HZn.out; have := HSZnt.out; have := HSZntcr.out; omega) (by have := HZn.out; have := HSZnt.out; have := HSZntcr.out; omega) hbtntcr hbrntcr tmntcr rmntcr hb8ntcr hk8ntcr hb9ntcr hk9ntcr)
                    simp only [List.getElem_toArray, List.getElem_cons_succ, List.getElem_cons_zero, Act.put]
                    go_step
                    go_step
                    go_meet
                    case rel => exact ⟨_, _, Antc, kntc, Bntc, nntc, dntc, Cntc, mntc, fntc, rfl, rfl, HFntcr.out.1, HFntcr.out.2⟩
                · skip
                  refine alloc_wp 49 rfl _ zero_Rp ?_
                  intro wxntr hbrntr hsntr hwntr
                  have HSZntr := Lib.hid hsntr
                  clear hsntr
                  have HSntr : Hid ((fun W : World => Below wi.heap.size wi W) wxntr) := HSnt.out.trans (hwntr.mono HSnt.out.size)
                  have hgxntr := HSnt.out.size
                  refine hK.out _ _ HSntr.out fun _ => ?_
                  clear hK K
                  simp only [List.getElem_toArray, List.getElem_cons_succ, List.getElem_cons_zero, Act.put, List.setIfInBounds_toArray, List.set_cons_zero, List.set_cons_succ]
                  have hbtntr := Bw.below hbtnt hwntr
                  refine wpAnyH_ready (rs := [7]) (by kernel_rfl) (by simp) ?_
                  refine AllReadyH.cons rfl (fun K hK => ?_) AllReadyH.nil
                  · skip
                    go_simp
                    refine (HPK.out.run (Op.rdT b n j) A k (Op.drX j) none 0 0 _ (show TM _ A k (Op.rdT b n j) from (VT.below HV.out HSntr.out).ok 0 rfl) HSj.out (Op.drX_wide (by omega)) (Op.nmd_len j (by omega)) (Nat.le_of_ble_eq_true rfl) (Nat.le_of_ble_eq_true rfl) BS.nil (Nat.le_refl _)).mono ?_
                    rintro e wxntrc ⟨Antrc, kntrc, Bntrc, nntrc, dntrc, Cntrc, mntrc, fntrc, rfl, tmntrc, rmntrc, hbntrc⟩
                    have entrc := Op.do_step (c := (Op.drX j)) HSj.out.inv.may (Nat.le_of_ble_eq_true rfl) (Nat.le_of_ble_eq_true rfl) (Nat.ne_of_beq_eq_false rfl)
                    rw [show Op.doT (Op.rdT b n j) (Op.drX j) = (Op.step (Op.rdT b n j) (Op.drX j)).1 from entrc.1] at tmntrc ⊢
                    rw [show Op.doR (Op.rdT b n j) (Op.drX j) = (Op.step (Op.rdT b n j) (Op.drX j)).2 from entrc.2] at rmntrc ⊢
                    have hzntrc := hbntrc.size
                    have HSntrc : Hid ((fun W : World => Below wi.heap.size wi W) wxntrc) := HSntr.out.trans (hbntrc.mono HSntr.out.size)
                    have hbtntrc := Bw.below hbtntr hbntrc
                    have hbrntrc := Bw.below hbrntr hbntrc
                    refine hK.out _ _ HSntrc.out fun _ => ?_
                    clear hK K entrc
                    refine takeH (i := 8) 97 (.tuple #[.agg (tc (Op.step (Op.rdT b n j) (Op.drX j)).1 (.slice Antrc 24 kntrc)).toArray, .agg (rc (Op.step (Op.rdT b n j) (Op.drX j)).2 (.slice Bntrc nntrc dntrc) (.slice Cntrc mntrc fntrc)).toArray]) rfl rfl (by kernel_rfl) (by kernel_rfl) (by kernel_rfl) (fun _ _ _ h => h) (.inl ⟨by rfl, fun W hW => by go_simp⟩) HSntrc.out ?_
                    simp only [Act.put, List.setIfInBounds_toArray, List.set_cons_zero, List.set_cons_succ]
                    refine takeH (i := 9) 106 (.agg (tc (Op.step (Op.rdT b n j) (Op.drX j)).1 (.slice Antrc 24 kntrc)).toArray) rfl rfl (by kernel_rfl) (by kernel_rfl) (by kernel_rfl) (fun _ _ _ h => h) (.inl ⟨by rfl, fun W hW => by go_simp⟩) HSntrc.out ?_
                    simp only [Act.put, List.setIfInBounds_toArray, List.set_cons_zero, List.set_cons_succ]
                    refine takeH (i := 10) 107 (.agg (rc (Op.step (Op.rdT b n j) (Op.drX j)).2 (.slice Bntrc nntrc dntrc) (.slice Cntrc mntrc fntrc)).toArray) rfl rfl (by kernel_rfl) (by kernel_rfl) (by kernel_rfl) (fun _ _ _ h => h) (.inl ⟨by rfl, fun W hW => by go_simp⟩) HSntrc.out ?_
                    simp only [Act.put, List.setIfInBounds_toArray, List.set_cons_zero, List.set_cons_succ]
                    refine wpAnyH_ready (rs := [13]) (by kernel_rfl) (by simp) ?_
                    refine AllReadyH.cons rfl (fun K hK => ?_) AllReadyH.nil
                    refine store_wp (P := Tryz.prog) 27 (.tmp 16) (.tmp 106) rfl (wxn.heap.size) (tc (Op.step (Op.rdT b n j) (Op.drX j)).1 (.slice Antrc 24 kntrc)) rfl rfl 27 _ hbtntrc size_Th rfl (tc_row _ _ _ _) ?_
                    intro w8ntrc hb8ntrc hs8ntrc hk8ntrc
                    have HTntrc : Hid ((fun W : World => Below wi.heap.size wi W) w8ntrc) := HSntrc.out.trans (hk8ntrc.below2 (fun q hq => by have := HZn.out; have := HSZnt.out; have := HSZntr.out; omega))
                    refine hK.out _ _ HTntrc.out fun _ => ?_
                    clear hK K
                    refine wpAnyH_ready (rs := [14]) (by kernel_rfl) (by simp) ?_
                    refine AllReadyH.cons rfl (fun K hK => ?_) AllReadyH.nil
                    refine store_wp (P := Tryz.prog) 49 (.tmp 17) (.tmp 107) rfl (wxnt.heap.size) (rc (Op.step (Op.rdT b n j) (Op.drX j)).2 (.slice Bntrc nntrc dntrc) (.slice Cntrc mntrc fntrc)) rfl rfl 49 _ (Bw.keep hbrntrc hk8ntrc (by have := HZn.out; have := HSZnt.out; have := HSZntr.out; omega)) size_Rp rfl (rc_row _ _ _ _ _ _ _) ?_
                    intro w9ntrc hb9ntrc hs9ntrc hk9ntrc
                    have HUntrc : Hid ((fun W : World => Below wi.heap.size wi W) w9ntrc) := HTntrc.out.trans (hk9ntrc.below2 (fun q hq => by have := HZn.out; have := HSZnt.out; have := HSZntr.out; omega))
                    refine hK.out _ _ HUntrc.out fun _ => ?_
                    clear hK K
                    refine wpAnyH_done (by kernel_rfl) ?_ _
                    have HFntrc := Lib.hid (VT.two (gt := wxn.heap.size) (gr := wxnt.heap.size) HV.out HSntrc.out (by have := HZn.out; have := HSZnt.out; have := HSZntr.out; omega) (by have := HZn.out; have := HSZnt.out; have := HSZntr.out; omega) (by have := HZn.out; have := HSZnt.out; have := HSZntr.out; omega) hbtntrc hbrntrc tmntrc rmntrc hb8ntrc hk8ntrc hb9ntrc hk9ntrc)
                    simp only [List.getElem_toArray, List.getElem_cons_succ, List.getElem_cons_zero, Act.put]
                    go_step
                    go_step
                    go_meet
                    case rel => exact ⟨_, _, Antrc, kntrc, Bntrc, nntrc, dntrc, Cntrc, mntrc, fntrc, rfl, rfl, HFntrc.out.1, HFntrc.out.2⟩
              · skip
                refine alloc_wp 49 rfl _ zero_Rp ?_
                intro wxnr hbrnr hsnr hwnr
                have HSZnr := Lib.hid hsnr
                clear hsnr
                have HSnr : Hid ((fun W : World => Below wi.heap.size wi W) wxnr) := HSn.out.trans (hwnr.mono HSn.out.size)
                have hgxnr := HSn.out.size
                refine hK.out _ _ HSnr.out fun _ => ?_
                clear hK K
                simp only [List.getElem_toArray, List.getElem_cons_succ, List.getElem_cons_zero, Act.put, List.setIfInBounds_toArray, List.set_cons_zero, List.set_cons_succ]
                refine wpAnyH_ready (rs := [7, 11]) (by kernel_rfl) (by simp) ?_
                refine AllReadyH.cons rfl (fun K hK => ?_) (AllReadyH.cons rfl (fun K hK => ?_) AllReadyH.nil)
                · skip
                  go_simp
                  refine (HPK.out.run (Op.rdT b n j) A k (Op.drX j) none 0 0 _ (show TM _ A k (Op.rdT b n j) from (VT.below HV.out HSnr.out).ok 0 rfl) HSj.out (Op.drX_wide (by omega)) (Op.nmd_len j (by omega)) (Nat.le_of_ble_eq_true rfl) (Nat.le_of_ble_eq_true rfl) BS.nil (Nat.le_refl _)).mono ?_
                  rintro e wxnrc ⟨Anrc, knrc, Bnrc, nnrc, dnrc, Cnrc, mnrc, fnrc, rfl, tmnrc, rmnrc, hbnrc⟩
                  have enrc := Op.do_step (c := (Op.drX j)) HSj.out.inv.may (Nat.le_of_ble_eq_true rfl) (Nat.le_of_ble_eq_true rfl) (Nat.ne_of_beq_eq_false rfl)
                  rw [show Op.doT (Op.rdT b n j) (Op.drX j) = (Op.step (Op.rdT b n j) (Op.drX j)).1 from enrc.1] at tmnrc ⊢
                  rw [show Op.doR (Op.rdT b n j) (Op.drX j) = (Op.step (Op.rdT b n j) (Op.drX j)).2 from enrc.2] at rmnrc ⊢
                  have hznrc := hbnrc.size
                  have HSnrc : Hid ((fun W : World => Below wi.heap.size wi W) wxnrc) := HSnr.out.trans (hbnrc.mono HSnr.out.size)
                  have hbrnrc := Bw.below hbrnr hbnrc
                  refine hK.out _ _ HSnrc.out fun _ => ?_
                  clear hK K enrc
                  refine takeH (i := 8) 97 (.tuple #[.agg (tc (Op.step (Op.rdT b n j) (Op.drX j)).1 (.slice Anrc 24 knrc)).toArray, .agg (rc (Op.step (Op.rdT b n j) (Op.drX j)).2 (.slice Bnrc nnrc dnrc) (.slice Cnrc mnrc fnrc)).toArray]) rfl rfl (by kernel_rfl) (by kernel_rfl) (by kernel_rfl) (fun _ _ _ h => h) (.inl ⟨by rfl, fun W hW => by go_simp⟩) HSnrc.out ?_
                  simp only [Act.put, List.setIfInBounds_toArray, List.set_cons_zero, List.set_cons_succ]
                  refine takeH (i := 9) 106 (.agg (tc (Op.step (Op.rdT b n j) (Op.drX j)).1 (.slice Anrc 24 knrc)).toArray) rfl rfl (by kernel_rfl) (by kernel_rfl) (by kernel_rfl) (fun _ _ _ h => h) (.inl ⟨by rfl, fun W hW => by go_simp⟩) HSnrc.out ?_
                  simp only [Act.put, List.setIfInBounds_toArray, List.set_cons_zero, List.set_cons_succ]
                  refine takeH (i := 10) 107 (.agg (rc (Op.step (Op.rdT b n j) (Op.drX j)).2 (.slice Bnrc nnrc dnrc) (.slice Cnrc mnrc fnrc)).toArray) rfl rfl (by kernel_rfl) (by kernel_rfl) (by kernel_rfl) (fun _ _ _ h => h) (.inl ⟨by rfl, fun W hW => by go_simp⟩) HSnrc.out ?_
                  simp only [Act.put, List.setIfInBounds_toArray, List.set_cons_zero, List.set_cons_succ]
                  refine wpAnyH_ready (rs := [11]) (by kernel_rfl) (by simp) ?_
                  refine AllReadyH.cons rfl (fun K hK => ?_) AllReadyH.nil
                  · skip
                    refine alloc_wp 27 rfl _ zero_Th ?_
                    intro wxnrct hbtnrct hsnrct hwnrct
                    have HSZnrct := Lib.hid hsnrct
                    clear hsnrct
                    have HSnrct : Hid ((fun W : World => Below wi.heap.size wi W) wxnrct) := HSnrc.out.trans (hwnrct.mono HSnrc.out.size)
                    have hgxnrct := HSnrc.out.size
                    refine hK.out _ _ HSnrct.out fun _ => ?_
                    clear hK K
                    simp only [List.getElem_toArray, List.getElem_cons_succ, List.getElem_cons_zero, Act.put, List.setIfInBounds_toArray, List.set_cons_zero, List.set_cons_succ]
                    have hbrnrct := Bw.below hbrnrc hwnrct
                    have tmnrct := TM.below tmnrc hwnrct
                    have rmnrct := RM.below rmnrc hwnrct
                    refine wpAnyH_ready (rs := [13]) (by kernel_rfl) (by simp) ?_
                    refine AllReadyH.cons rfl (fun K hK => ?_) AllReadyH.nil
                    refine store_wp (P := Tryz.prog) 27 (.tmp 16) (.tmp 106) rfl (wxnrc.heap.size) (tc (Op.step (Op.rdT b n j) (Op.drX j)).1 (.slice Anrc 24 knrc)) rfl rfl 27 _ hbtnrct size_Th rfl (tc_row _ _ _ _) ?_
                    intro w8nrct hb8nrct hs8nrct hk8nrct
                    have HTnrct : Hid ((fun W : World => Below wi.heap.size wi W) w8nrct) := HSnrct.out.trans (hk8nrct.below2 (fun q hq => by have := HZn.out; have := HSZnr.out; have := HSZnrct.out; omega))
                    refine hK.out _ _ HTnrct.out fun _ => ?_
                    clear hK K
                    refine wpAnyH_ready (rs := [14]) (by kernel_rfl) (by simp) ?_
                    refine AllReadyH.cons rfl (fun K hK => ?_) AllReadyH.nil
                    refine store_wp (P := Tryz.prog) 49 (.tmp 17) (.tmp 107) rfl (wxn.heap.size) (rc (Op.step (Op.rdT b n j) (Op.drX j)).2 (.slice Bnrc nnrc dnrc) (.slice Cnrc mnrc fnrc)) rfl rfl 49 _ (Bw.keep hbrnrct hk8nrct (by have := HZn.out; have := HSZnr.out; have := HSZnrct.out; omega)) size_Rp rfl (rc_row _ _ _ _ _ _ _) ?_
                    intro w9nrct hb9nrct hs9nrct hk9nrct
                    have HUnrct : Hid ((fun W : World => Below wi.heap.size wi W) w9nrct) := HTnrct.out.trans (hk9nrct.below2 (fun q hq => by have := HZn.out; have := HSZnr.out; have := HSZnrct.out; omega))
                    refine hK.out _ _ HUnrct.out fun _ => ?_
                    clear hK K
                    refine wpAnyH_done (by kernel_rfl) ?_ _
                    have HFnrct := Lib.hid (VT.two (gt := wxnrc.heap.size) (gr := wxn.heap.size) HV.out HSnrct.out (by have := HZn.out; have := HSZnr.out; have := HSZnrct.out; omega) (by have := HZn.out; have := HSZnr.out; have := HSZnrct.out; omega) (by have := HZn.out; have := HSZnr.out; have := HSZnrct.out; omega) hbtnrct hbrnrct tmnrct rmnrct hb8nrct hk8nrct hb9nrct hk9nrct)
                    simp only [List.getElem_toArray, List.getElem_cons_succ, List.getElem_cons_zero, Act.put]
                    go_step
                    go_step
                    go_meet
                    case rel => exact ⟨_, _, Anrc, knrc, Bnrc, nnrc, dnrc, Cnrc, mnrc, fnrc, rfl, rfl, HFnrct.out.1, HFnrct.out.2⟩
                · skip
                  refine alloc_wp 27 rfl _ zero_Th ?_
                  intro wxnrt hbtnrt hsnrt hwnrt
                  have HSZnrt := Lib.hid hsnrt
                  clear hsnrt
                  have HSnrt : Hid ((fun W : World => Below wi.heap.size wi W) wxnrt) := HSnr.out.trans (hwnrt.mono HSnr.out.size)
                  have hgxnrt := HSnr.out.size
                  refine hK.out _ _ HSnrt.out fun _ => ?_
                  clear hK K
                  simp only [List.getElem_toArray, List.getElem_cons_succ, List.getElem_cons_zero, Act.put, List.setIfInBounds_toArray, List.set_cons_zero, List.set_cons_succ]
                  have hbrnrt := Bw.below hbrnr hwnrt
                  refine wpAnyH_ready (rs := [7]) (by kernel_rfl) (by simp) ?_
                  refine AllReadyH.cons rfl (fun K hK => ?_) AllReadyH.nil
                  · skip
                    go_simp
                    refine (HPK.out.run (Op.rdT b n j) A k (Op.drX j) none 0 0 _ (show TM _ A k (Op.rdT b n j) from (VT.below HV.out HSnrt.out).ok 0 rfl) HSj.out (Op.drX_wide (by omega)) (Op.nmd_len j (by omega)) (Nat.le_of_ble_eq_true rfl) (Nat.le_of_ble_eq_true rfl) BS.nil (Nat.le_refl _)).mono ?_
                    rintro e wxnrtc ⟨Anrtc, knrtc, Bnrtc, nnrtc, dnrtc, Cnrtc, mnrtc, fnrtc, rfl, tmnrtc, rmnrtc, hbnrtc⟩
                    have enrtc := Op.do_step (c := (Op.drX j)) HSj.out.inv.may (Nat.le_of_ble_eq_true rfl) (Nat.le_of_ble_eq_true rfl) (Nat.ne_of_beq_eq_false rfl)
                    rw [show Op.doT (Op.rdT b n j) (Op.drX j) = (Op.step (Op.rdT b n j) (Op.drX j)).1 from enrtc.1] at tmnrtc ⊢
                    rw [show Op.doR (Op.rdT b n j) (Op.drX j) = (Op.step (Op.rdT b n j) (Op.drX j)).2 from enrtc.2] at rmnrtc ⊢
                    have hznrtc := hbnrtc.size
                    have HSnrtc : Hid ((fun W : World => Below wi.heap.size wi W) wxnrtc) := HSnrt.out.trans (hbnrtc.mono HSnrt.out.size)
                    have hbtnrtc := Bw.below hbtnrt hbnrtc
                    have hbrnrtc := Bw.below hbrnrt hbnrtc
                    refine hK.out _ _ HSnrtc.out fun _ => ?_
                    clear hK K enrtc
                    refine takeH (i := 8) 97 (.tuple #[.agg (tc (Op.step (Op.rdT b n j) (Op.drX j)).1 (.slice Anrtc 24 knrtc)).toArray, .agg (rc (Op.step (Op.rdT b n j) (Op.drX j)).2 (.slice Bnrtc nnrtc dnrtc) (.slice Cnrtc mnrtc fnrtc)).toArray]) rfl rfl (by kernel_rfl) (by kernel_rfl) (by kernel_rfl) (fun _ _ _ h => h) (.inl ⟨by rfl, fun W hW => by go_simp⟩) HSnrtc.out ?_
                    simp only [Act.put, List.setIfInBounds_toArray, List.set_cons_zero, List.set_cons_succ]
                    refine takeH (i := 9) 106 (.agg (tc (Op.step (Op.rdT b n j) (Op.drX j)).1 (.slice Anrtc 24 knrtc)).toArray) rfl rfl (by kernel_rfl) (by kernel_rfl) (by kernel_rfl) (fun _ _ _ h => h) (.inl ⟨by rfl, fun W hW => by go_simp⟩) HSnrtc.out ?_
                    simp only [Act.put, List.setIfInBounds_toArray, List.set_cons_zero, List.set_cons_succ]
                    refine takeH (i := 10) 107 (.agg (rc (Op.step (Op.rdT b n j) (Op.drX j)).2 (.slice Bnrtc nnrtc dnrtc) (.slice Cnrtc mnrtc fnrtc)).toArray) rfl rfl (by kernel_rfl) (by kernel_rfl) (by kernel_rfl) (fun _ _ _ h => h) (.inl ⟨by rfl, fun W hW => by go_simp⟩) HSnrtc.out ?_
                    simp only [Act.put, List.setIfInBounds_toArray, List.set_cons_zero, List.set_cons_succ]
                    refine wpAnyH_ready (rs := [13]) (by kernel_rfl) (by simp) ?_
                    refine AllReadyH.cons rfl (fun K hK => ?_) AllReadyH.nil
                    refine store_wp (P := Tryz.prog) 27 (.tmp 16) (.tmp 106) rfl (wxnr.heap.size) (tc (Op.step (Op.rdT b n j) (Op.drX j)).1 (.slice Anrtc 24 knrtc)) rfl rfl 27 _ hbtnrtc size_Th rfl (tc_row _ _ _ _) ?_
                    intro w8nrtc hb8nrtc hs8nrtc hk8nrtc
                    have HTnrtc : Hid ((fun W : World => Below wi.heap.size wi W) w8nrtc) := HSnrtc.out.trans (hk8nrtc.below2 (fun q hq => by have := HZn.out; have := HSZnr.out; have := HSZnrt.out; omega))
                    refine hK.out _ _ HTnrtc.out fun _ => ?_
                    clear hK K
                    refine wpAnyH_ready (rs := [14]) (by kernel_rfl) (by simp) ?_
                    refine AllReadyH.cons rfl (fun K hK => ?_) AllReadyH.nil
                    refine store_wp (P := Tryz.prog) 49 (.tmp 17) (.tmp 107) rfl (wxn.heap.size) (rc (Op.step (Op.rdT b n j) (Op.drX j)).2 (.slice Bnrtc nnrtc dnrtc) (.slice Cnrtc mnrtc fnrtc)) rfl rfl 49 _ (Bw.keep hbrnrtc hk8nrtc (by have := HZn.out; have := HSZnr.out; have := HSZnrt.out; omega)) size_Rp rfl (rc_row _ _ _ _ _ _ _) ?_
                    intro w9nrtc hb9nrtc hs9nrtc hk9nrtc
                    have HUnrtc : Hid ((fun W : World => Below wi.heap.size wi W) w9nrtc) := HTnrtc.out.trans (hk9nrtc.below2 (fun q hq => by have := HZn.out; have := HSZnr.out; have := HSZnrt.out; omega))
                    refine hK.out _ _ HUnrtc.out fun _ => ?_
                    clear hK K
                    refine wpAnyH_done (by kernel_rfl) ?_ _
                    have HFnrtc := Lib.hid (VT.two (gt := wxnr.heap.size) (gr := wxn.heap.size) HV.out HSnrtc.out (by have := HZn.out; have := HSZnr.out; have := HSZnrt.out; omega) (by have := HZn.out; have := HSZnr.out; have := HSZnrt.out; omega) (by have := HZn.out; have := HSZnr.out; have := HSZnrt.out; omega) hbtnrtc hbrnrtc tmnrtc rmnrtc hb8nrtc hk8nrtc hb9nrtc hk9nrtc)
                    simp only [List.getElem_toArray, List.getElem_cons_succ, List.getElem_cons_zero, Act.put]
                    go_step
                    go_step
                    go_meet
                    case rel => exact ⟨_, _, Anrtc, knrtc, Bnrtc, nnrtc, dnrtc, Cnrtc, mnrtc, fnrtc, rfl, rfl, HFnrtc.out.1, HFnrtc.out.2⟩
            · skip
              refine alloc_wp 27 rfl _ zero_Th ?_
              intro wxt hbtt hst hwt
              have HSZt := Lib.hid hst
              clear hst
              have HSt : Hid ((fun W : World => Below wi.heap.size wi W) wxt) := HSd.out.trans (hwt.mono HSd.out.size)
              have hgxt := HSd.out.size
              refine hK.out _ _ HSt.out fun _ => ?_
              clear hK K
              simp only [List.getElem_toArray, List.getElem_cons_succ, List.getElem_cons_zero, Act.put, List.setIfInBounds_toArray, List.set_cons_zero, List.set_cons_succ]
              refine wpAnyH_ready (rs := [5, 12]) (by kernel_rfl) (by simp) ?_
              refine AllReadyH.cons rfl (fun K hK => ?_) (AllReadyH.cons rfl (fun K hK => ?_) AllReadyH.nil)
              · skip
                go_simp
                refine (lawnamed_any j _ (by omega)).mono ?_
                rintro e wxtn ⟨rfl, hbtn⟩
                have hztn := hbtn.size
                have HStn : Hid ((fun W : World => Below wi.heap.size wi W) wxtn) := HSt.out.trans (hbtn.mono HSt.out.size)
                have hbttn := Bw.below hbtt hbtn
                have HZtn := Lib.hid hztn
                refine hK.out _ _ HStn.out fun _ => ?_
                clear hK K hztn hbtn
                rw [HNM.out]
                refine takeH (i := 6) 104 (.agg #[.int .u32 0, .int .u32 0, .int .u32 11, .int .u32 1, .int .u32 1, .string (txt (Op.nmd j)), .int .u32 0, .int .u32 0, .string ⟨#[]⟩, .int .u64 0, .int .u64 0, .int .u32 0, .int .u32 0, .slice none 0 0]) rfl rfl (by kernel_rfl) (by kernel_rfl) (by kernel_rfl) (fun _ _ _ h => h) (.inl ⟨by rfl, fun W hW => by go_simp⟩) HStn.out ?_
                simp only [Act.put, List.setIfInBounds_toArray, List.set_cons_zero, List.set_cons_succ]
                refine wpAnyH_ready (rs := [7, 12]) (by kernel_rfl) (by simp) ?_
                refine AllReadyH.cons rfl (fun K hK => ?_) (AllReadyH.cons rfl (fun K hK => ?_) AllReadyH.nil)
                · skip
                  go_simp
                  refine (HPK.out.run (Op.rdT b n j) A k (Op.drX j) none 0 0 _ (show TM _ A k (Op.rdT b n j) from (VT.below HV.out HStn.out).ok 0 rfl) HSj.out (Op.drX_wide (by omega)) (Op.nmd_len j (by omega)) (Nat.le_of_ble_eq_true rfl) (Nat.le_of_ble_eq_true rfl) BS.nil (Nat.le_refl _)).mono ?_
                  rintro e wxtnc ⟨Atnc, ktnc, Btnc, ntnc, dtnc, Ctnc, mtnc, ftnc, rfl, tmtnc, rmtnc, hbtnc⟩
                  have etnc := Op.do_step (c := (Op.drX j)) HSj.out.inv.may (Nat.le_of_ble_eq_true rfl) (Nat.le_of_ble_eq_true rfl) (Nat.ne_of_beq_eq_false rfl)
                  rw [show Op.doT (Op.rdT b n j) (Op.drX j) = (Op.step (Op.rdT b n j) (Op.drX j)).1 from etnc.1] at tmtnc ⊢
                  rw [show Op.doR (Op.rdT b n j) (Op.drX j) = (Op.step (Op.rdT b n j) (Op.drX j)).2 from etnc.2] at rmtnc ⊢
                  have hztnc := hbtnc.size
                  have HStnc : Hid ((fun W : World => Below wi.heap.size wi W) wxtnc) := HStn.out.trans (hbtnc.mono HStn.out.size)
                  have hbttnc := Bw.below hbttn hbtnc
                  refine hK.out _ _ HStnc.out fun _ => ?_
                  clear hK K etnc
                  refine takeH (i := 8) 97 (.tuple #[.agg (tc (Op.step (Op.rdT b n j) (Op.drX j)).1 (.slice Atnc 24 ktnc)).toArray, .agg (rc (Op.step (Op.rdT b n j) (Op.drX j)).2 (.slice Btnc ntnc dtnc) (.slice Ctnc mtnc ftnc)).toArray]) rfl rfl (by kernel_rfl) (by kernel_rfl) (by kernel_rfl) (fun _ _ _ h => h) (.inl ⟨by rfl, fun W hW => by go_simp⟩) HStnc.out ?_
                  simp only [Act.put, List.setIfInBounds_toArray, List.set_cons_zero, List.set_cons_succ]
                  refine takeH (i := 9) 106 (.agg (tc (Op.step (Op.rdT b n j) (Op.drX j)).1 (.slice Atnc 24 ktnc)).toArray) rfl rfl (by kernel_rfl) (by kernel_rfl) (by kernel_rfl) (fun _ _ _ h => h) (.inl ⟨by rfl, fun W hW => by go_simp⟩) HStnc.out ?_
                  simp only [Act.put, List.setIfInBounds_toArray, List.set_cons_zero, List.set_cons_succ]
                  refine takeH (i := 10) 107 (.agg (rc (Op.step (Op.rdT b n j) (Op.drX j)).2 (.slice Btnc ntnc dtnc) (.slice Ctnc mtnc ftnc)).toArray) rfl rfl (by kernel_rfl) (by kernel_rfl) (by kernel_rfl) (fun _ _ _ h => h) (.inl ⟨by rfl, fun W hW => by go_simp⟩) HStnc.out ?_
                  simp only [Act.put, List.setIfInBounds_toArray, List.set_cons_zero, List.set_cons_succ]
                  refine wpAnyH_ready (rs := [12]) (by kernel_rfl) (by simp) ?_
                  refine AllReadyH.cons rfl (fun K hK => ?_) AllReadyH.nil
                  · skip
                    refine alloc_wp 49 rfl _ zero_Rp ?_
                    intro wxtncr hbrtncr hstncr hwtncr
                    have HSZtncr := Lib.hid hstncr
                    clear hstncr
                    have HStncr : Hid ((fun W : World => Below wi.heap.size wi W) wxtncr) := HStnc.out.trans (hwtncr.mono HStnc.out.size)
                    have hgxtncr := HStnc.out.size
                    refine hK.out _ _ HStncr.out fun _ => ?_
                    clear hK K
                    simp only [List.getElem_toArray, List.getElem_cons_succ, List.getElem_cons_zero, Act.put, List.setIfInBounds_toArray, List.set_cons_zero, List.set_cons_succ]
                    have hbttncr := Bw.below hbttnc hwtncr
                    have tmtncr := TM.below tmtnc hwtncr
                    have rmtncr := RM.below rmtnc hwtncr
                    refine wpAnyH_ready (rs := [13]) (by kernel_rfl) (by simp) ?_
                    refine AllReadyH.cons rfl (fun K hK => ?_) AllReadyH.nil
                    refine store_wp (P := Tryz.prog) 27 (.tmp 16) (.tmp 106) rfl (wi.drew.heap.size) (tc (Op.step (Op.rdT b n j) (Op.drX j)).1 (.slice Atnc 24 ktnc)) rfl rfl 27 _ hbttncr size_Th rfl (tc_row _ _ _ _) ?_
                    intro w8tncr hb8tncr hs8tncr hk8tncr
                    have HTtncr : Hid ((fun W : World => Below wi.heap.size wi W) w8tncr) := HStncr.out.trans (hk8tncr.below2 (fun q hq => by have := HSZt.out; have := HZtn.out; have := HSZtncr.out; omega))
                    refine hK.out _ _ HTtncr.out fun _ => ?_
                    clear hK K
                    refine wpAnyH_ready (rs := [14]) (by kernel_rfl) (by simp) ?_
                    refine AllReadyH.cons rfl (fun K hK => ?_) AllReadyH.nil
                    refine store_wp (P := Tryz.prog) 49 (.tmp 17) (.tmp 107) rfl (wxtnc.heap.size) (rc (Op.step (Op.rdT b n j) (Op.drX j)).2 (.slice Btnc ntnc dtnc) (.slice Ctnc mtnc ftnc)) rfl rfl 49 _ (Bw.keep hbrtncr hk8tncr (by have := HSZt.out; have := HZtn.out; have := HSZtncr.out; omega)) size_Rp rfl (rc_row _ _ _ _ _ _ _) ?_
                    intro w9tncr hb9tncr hs9tncr hk9tncr
                    have HUtncr : Hid ((fun W : World => Below wi.heap.size wi W) w9tncr) := HTtncr.out.trans (hk9tncr.below2 (fun q hq => by have := HSZt.out; have := HZtn.out; have := HSZtncr.out; omega))
                    refine hK.out _ _ HUtncr.out fun _ => ?_
                    clear hK K
                    refine wpAnyH_done (by kernel_rfl) ?_ _
                    have HFtncr := Lib.hid (VT.two (gt := wi.drew.heap.size) (gr := wxtnc.heap.size) HV.out HStncr.out (by have := HSZt.out; have := HZtn.out; have := HSZtncr.out; omega) (by have := HSZt.out; have := HZtn.out; have := HSZtncr.out; omega) (by have := HSZt.out; have := HZtn.out; have := HSZtncr.out; omega) hbttncr hbrtncr tmtncr rmtncr hb8tncr hk8tncr hb9tncr hk9tncr)
                    simp only [List.getElem_toArray, List.getElem_cons_succ, List.getElem_cons_zero, Act.put]
                    go_step
                    go_step
                    go_meet
                    case rel => exact ⟨_, _, Atnc, ktnc, Btnc, ntnc, dtnc, Ctnc, mtnc, ftnc, rfl, rfl, HFtncr.out.1, HFtncr.out.2⟩
                · skip
                  refine alloc_wp 49 rfl _ zero_Rp ?_
                  intro wxtnr hbrtnr hstnr hwtnr
                  have HSZtnr := Lib.hid hstnr
                  clear hstnr
                  have HStnr : Hid ((fun W : World => Below wi.heap.size wi W) wxtnr) := HStn.out.trans (hwtnr.mono HStn.out.size)
                  have hgxtnr := HStn.out.size
                  refine hK.out _ _ HStnr.out fun _ => ?_
                  clear hK K
                  simp only [List.getElem_toArray, List.getElem_cons_succ, List.getElem_cons_zero, Act.put, List.setIfInBounds_toArray, List.set_cons_zero, List.set_cons_succ]
                  have hbttnr := Bw.below hbttn hwtnr
                  refine wpAnyH_ready (rs := [7]) (by kernel_rfl) (by simp) ?_
                  refine AllReadyH.cons rfl (fun K hK => ?_) AllReadyH.nil
                  · skip
                    go_simp
                    refine (HPK.out.run (Op.rdT b n j) A k (Op.drX j) none 0 0 _ (show TM _ A k (Op.rdT b n j) from (VT.below HV.out HStnr.out).ok 0 rfl) HSj.out (Op.drX_wide (by omega)) (Op.nmd_len j (by omega)) (Nat.le_of_ble_eq_true rfl) (Nat.le_of_ble_eq_true rfl) BS.nil (Nat.le_refl _)).mono ?_
                    rintro e wxtnrc ⟨Atnrc, ktnrc, Btnrc, ntnrc, dtnrc, Ctnrc, mtnrc, ftnrc, rfl, tmtnrc, rmtnrc, hbtnrc⟩
                    have etnrc := Op.do_step (c := (Op.drX j)) HSj.out.inv.may (Nat.le_of_ble_eq_true rfl) (Nat.le_of_ble_eq_true rfl) (Nat.ne_of_beq_eq_false rfl)
                    rw [show Op.doT (Op.rdT b n j) (Op.drX j) = (Op.step (Op.rdT b n j) (Op.drX j)).1 from etnrc.1] at tmtnrc ⊢
                    rw [show Op.doR (Op.rdT b n j) (Op.drX j) = (Op.step (Op.rdT b n j) (Op.drX j)).2 from etnrc.2] at rmtnrc ⊢
                    have hztnrc := hbtnrc.size
                    have HStnrc : Hid ((fun W : World => Below wi.heap.size wi W) wxtnrc) := HStnr.out.trans (hbtnrc.mono HStnr.out.size)
                    have hbttnrc := Bw.below hbttnr hbtnrc
                    have hbrtnrc := Bw.below hbrtnr hbtnrc
                    refine hK.out _ _ HStnrc.out fun _ => ?_
                    clear hK K etnrc
                    refine takeH (i := 8) 97 (.tuple #[.agg (tc (Op.step (Op.rdT b n j) (Op.drX j)).1 (.slice Atnrc 24 ktnrc)).toArray, .agg (rc (Op.step (Op.rdT b n j) (Op.drX j)).2 (.slice Btnrc ntnrc dtnrc) (.slice Ctnrc mtnrc ftnrc)).toArray]) rfl rfl (by kernel_rfl) (by kernel_rfl) (by kernel_rfl) (fun _ _ _ h => h) (.inl ⟨by rfl, fun W hW => by go_simp⟩) HStnrc.out ?_
                    simp only [Act.put, List.setIfInBounds_toArray, List.set_cons_zero, List.set_cons_succ]
                    refine takeH (i := 9) 106 (.agg (tc (Op.step (Op.rdT b n j) (Op.drX j)).1 (.slice Atnrc 24 ktnrc)).toArray) rfl rfl (by kernel_rfl) (by kernel_rfl) (by kernel_rfl) (fun _ _ _ h => h) (.inl ⟨by rfl, fun W hW => by go_simp⟩) HStnrc.out ?_
                    simp only [Act.put, List.setIfInBounds_toArray, List.set_cons_zero, List.set_cons_succ]
                    refine takeH (i := 10) 107 (.agg (rc (Op.step (Op.rdT b n j) (Op.drX j)).2 (.slice Btnrc ntnrc dtnrc) (.slice Ctnrc mtnrc ftnrc)).toArray) rfl rfl (by kernel_rfl) (by kernel_rfl) (by kernel_rfl) (fun _ _ _ h => h) (.inl ⟨by rfl, fun W hW => by go_simp⟩) HStnrc.out ?_
                    simp only [Act.put, List.setIfInBounds_toArray, List.set_cons_zero, List.set_cons_succ]
                    refine wpAnyH_ready (rs := [13]) (by kernel_rfl) (by simp) ?_
                    refine AllReadyH.cons rfl (fun K hK => ?_) AllReadyH.nil
                    refine store_wp (P := Tryz.prog) 27 (.tmp 16) (.tmp 106) rfl (wi.drew.heap.size) (tc (Op.step (Op.rdT b n j) (Op.drX j)).1 (.slice Atnrc 24 ktnrc)) rfl rfl 27 _ hbttnrc size_Th rfl (tc_row _ _ _ _) ?_
                    intro w8tnrc hb8tnrc hs8tnrc hk8tnrc
                    have HTtnrc : Hid ((fun W : World => Below wi.heap.size wi W) w8tnrc) := HStnrc.out.trans (hk8tnrc.below2 (fun q hq => by have := HSZt.out; have := HZtn.out; have := HSZtnr.out; omega))
                    refine hK.out _ _ HTtnrc.out fun _ => ?_
                    clear hK K
                    refine wpAnyH_ready (rs := [14]) (by kernel_rfl) (by simp) ?_
                    refine AllReadyH.cons rfl (fun K hK => ?_) AllReadyH.nil
                    refine store_wp (P := Tryz.prog) 49 (.tmp 17) (.tmp 107) rfl (wxtn.heap.size) (rc (Op.step (Op.rdT b n j) (Op.drX j)).2 (.slice Btnrc ntnrc dtnrc) (.slice Ctnrc mtnrc ftnrc)) rfl rfl 49 _ (Bw.keep hbrtnrc hk8tnrc (by have := HSZt.out; have := HZtn.out; have := HSZtnr.out; omega)) size_Rp rfl (rc_row _ _ _ _ _ _ _) ?_
                    intro w9tnrc hb9tnrc hs9tnrc hk9tnrc
                    have HUtnrc : Hid ((fun W : World => Below wi.heap.size wi W) w9tnrc) := HTtnrc.out.trans (hk9tnrc.below2 (fun q hq => by have := HSZt.out; have := HZtn.out; have := HSZtnr.out; omega))
                    refine hK.out _ _ HUtnrc.out fun _ => ?_
                    clear hK K
                    refine wpAnyH_done (by kernel_rfl) ?_ _
                    have HFtnrc := Lib.hid (VT.two (gt := wi.drew.heap.size) (gr := wxtn.heap.size) HV.out HStnrc.out (by have := HSZt.out; have := HZtn.out; have := HSZtnr.out; omega) (by have := HSZt.out; have := HZtn.out; have := HSZtnr.out; omega) (by have := HSZt.out; have := HZtn.out; have := HSZtnr.out; omega) hbttnrc hbrtnrc tmtnrc rmtnrc hb8tnrc hk8tnrc hb9tnrc hk9tnrc)
                    simp only [List.getElem_toArray, List.getElem_cons_succ, List.getElem_cons_zero, Act.put]
                    go_step
                    go_step
                    go_meet
                    case rel => exact ⟨_, _, Atnrc, ktnrc, Btnrc, ntnrc, dtnrc, Ctnrc, mtnrc, ftnrc, rfl, rfl, HFtnrc.out.1, HFtnrc.out.2⟩
              · skip
                refine alloc_wp 49 rfl _ zero_Rp ?_
                intro wxtr hbrtr hstr hwtr
                have HSZtr := Lib.hid hstr
                clear hstr
                have HStr : Hid ((fun W : World => Below wi.heap.size wi W) wxtr) := HSt.out.trans (hwtr.mono HSt.out.size)
                have hgxtr := HSt.out.size
                refine hK.out _ _ HStr.out fun _ => ?_
                clear hK K
                simp only [List.getElem_toArray, List.getElem_cons_succ, List.getElem_cons_zero, Act.put, List.setIfInBounds_toArray, List.set_cons_zero, List.set_cons_succ]
                have hbttr := Bw.below hbtt hwtr
                refine wpAnyH_ready (rs := [5]) (by kernel_rfl) (by simp) ?_
                refine AllReadyH.cons rfl (fun K hK => ?_) AllReadyH.nil
                · skip
                  go_simp
                  refine (lawnamed_any j _ (by omega)).mono ?_
                  rintro e wxtrn ⟨rfl, hbtrn⟩
                  have hztrn := hbtrn.size
                  have HStrn : Hid ((fun W : World => Below wi.heap.size wi W) wxtrn) := HStr.out.trans (hbtrn.mono HStr.out.size)
                  have hbttrn := Bw.below hbttr hbtrn
                  have hbrtrn := Bw.below hbrtr hbtrn
                  have HZtrn := Lib.hid hztrn
                  refine hK.out _ _ HStrn.out fun _ => ?_
                  clear hK K hztrn hbtrn
                  rw [HNM.out]
                  refine takeH (i := 6) 104 (.agg #[.int .u32 0, .int .u32 0, .int .u32 11, .int .u32 1, .int .u32 1, .string (txt (Op.nmd j)), .int .u32 0, .int .u32 0, .string ⟨#[]⟩, .int .u64 0, .int .u64 0, .int .u32 0, .int .u32 0, .slice none 0 0]) rfl rfl (by kernel_rfl) (by kernel_rfl) (by kernel_rfl) (fun _ _ _ h => h) (.inl ⟨by rfl, fun W hW => by go_simp⟩) HStrn.out ?_
                  simp only [Act.put, List.setIfInBounds_toArray, List.set_cons_zero, List.set_cons_succ]
                  refine wpAnyH_ready (rs := [7]) (by kernel_rfl) (by simp) ?_
                  refine AllReadyH.cons rfl (fun K hK => ?_) AllReadyH.nil
                  · skip
                    go_simp
                    refine (HPK.out.run (Op.rdT b n j) A k (Op.drX j) none 0 0 _ (show TM _ A k (Op.rdT b n j) from (VT.below HV.out HStrn.out).ok 0 rfl) HSj.out (Op.drX_wide (by omega)) (Op.nmd_len j (by omega)) (Nat.le_of_ble_eq_true rfl) (Nat.le_of_ble_eq_true rfl) BS.nil (Nat.le_refl _)).mono ?_
                    rintro e wxtrnc ⟨Atrnc, ktrnc, Btrnc, ntrnc, dtrnc, Ctrnc, mtrnc, ftrnc, rfl, tmtrnc, rmtrnc, hbtrnc⟩
                    have etrnc := Op.do_step (c := (Op.drX j)) HSj.out.inv.may (Nat.le_of_ble_eq_true rfl) (Nat.le_of_ble_eq_true rfl) (Nat.ne_of_beq_eq_false rfl)
                    rw [show Op.doT (Op.rdT b n j) (Op.drX j) = (Op.step (Op.rdT b n j) (Op.drX j)).1 from etrnc.1] at tmtrnc ⊢
                    rw [show Op.doR (Op.rdT b n j) (Op.drX j) = (Op.step (Op.rdT b n j) (Op.drX j)).2 from etrnc.2] at rmtrnc ⊢
                    have hztrnc := hbtrnc.size
                    have HStrnc : Hid ((fun W : World => Below wi.heap.size wi W) wxtrnc) := HStrn.out.trans (hbtrnc.mono HStrn.out.size)
                    have hbttrnc := Bw.below hbttrn hbtrnc
                    have hbrtrnc := Bw.below hbrtrn hbtrnc
                    refine hK.out _ _ HStrnc.out fun _ => ?_
                    clear hK K etrnc
                    refine takeH (i := 8) 97 (.tuple #[.agg (tc (Op.step (Op.rdT b n j) (Op.drX j)).1 (.slice Atrnc 24 ktrnc)).toArray, .agg (rc (Op.step (Op.rdT b n j) (Op.drX j)).2 (.slice Btrnc ntrnc dtrnc) (.slice Ctrnc mtrnc ftrnc)).toArray]) rfl rfl (by kernel_rfl) (by kernel_rfl) (by kernel_rfl) (fun _ _ _ h => h) (.inl ⟨by rfl, fun W hW => by go_simp⟩) HStrnc.out ?_
                    simp only [Act.put, List.setIfInBounds_toArray, List.set_cons_zero, List.set_cons_succ]
                    refine takeH (i := 9) 106 (.agg (tc (Op.step (Op.rdT b n j) (Op.drX j)).1 (.slice Atrnc 24 ktrnc)).toArray) rfl rfl (by kernel_rfl) (by kernel_rfl) (by kernel_rfl) (fun _ _ _ h => h) (.inl ⟨by rfl, fun W hW => by go_simp⟩) HStrnc.out ?_
                    simp only [Act.put, List.setIfInBounds_toArray, List.set_cons_zero, List.set_cons_succ]
                    refine takeH (i := 10) 107 (.agg (rc (Op.step (Op.rdT b n j) (Op.drX j)).2 (.slice Btrnc ntrnc dtrnc) (.slice Ctrnc mtrnc ftrnc)).toArray) rfl rfl (by kernel_rfl) (by kernel_rfl) (by kernel_rfl) (fun _ _ _ h => h) (.inl ⟨by rfl, fun W hW => by go_simp⟩) HStrnc.out ?_
                    simp only [Act.put, List.setIfInBounds_toArray, List.set_cons_zero, List.set_cons_succ]
                    refine wpAnyH_ready (rs := [13]) (by kernel_rfl) (by simp) ?_
                    refine AllReadyH.cons rfl (fun K hK => ?_) AllReadyH.nil
                    refine store_wp (P := Tryz.prog) 27 (.tmp 16) (.tmp 106) rfl (wi.drew.heap.size) (tc (Op.step (Op.rdT b n j) (Op.drX j)).1 (.slice Atrnc 24 ktrnc)) rfl rfl 27 _ hbttrnc size_Th rfl (tc_row _ _ _ _) ?_
                    intro w8trnc hb8trnc hs8trnc hk8trnc
                    have HTtrnc : Hid ((fun W : World => Below wi.heap.size wi W) w8trnc) := HStrnc.out.trans (hk8trnc.below2 (fun q hq => by have := HSZt.out; have := HSZtr.out; have := HZtrn.out; omega))
                    refine hK.out _ _ HTtrnc.out fun _ => ?_
                    clear hK K
                    refine wpAnyH_ready (rs := [14]) (by kernel_rfl) (by simp) ?_
                    refine AllReadyH.cons rfl (fun K hK => ?_) AllReadyH.nil
                    refine store_wp (P := Tryz.prog) 49 (.tmp 17) (.tmp 107) rfl (wxt.heap.size) (rc (Op.step (Op.rdT b n j) (Op.drX j)).2 (.slice Btrnc ntrnc dtrnc) (.slice Ctrnc mtrnc ftrnc)) rfl rfl 49 _ (Bw.keep hbrtrnc hk8trnc (by have := HSZt.out; have := HSZtr.out; have := HZtrn.out; omega)) size_Rp rfl (rc_row _ _ _ _ _ _ _) ?_
                    intro w9trnc hb9trnc hs9trnc hk9trnc
                    have HUtrnc : Hid ((fun W : World => Below wi.heap.size wi W) w9trnc) := HTtrnc.out.trans (hk9trnc.below2 (fun q hq => by have := HSZt.out; have := HSZtr.out; have := HZtrn.out; omega))
                    refine hK.out _ _ HUtrnc.out fun _ => ?_
                    clear hK K
                    refine wpAnyH_done (by kernel_rfl) ?_ _
                    have HFtrnc := Lib.hid (VT.two (gt := wi.drew.heap.size) (gr := wxt.heap.size) HV.out HStrnc.out (by have := HSZt.out; have := HSZtr.out; have := HZtrn.out; omega) (by have := HSZt.out; have := HSZtr.out; have := HZtrn.out; omega) (by have := HSZt.out; have := HSZtr.out; have := HZtrn.out; omega) hbttrnc hbrtrnc tmtrnc rmtrnc hb8trnc hk8trnc hb9trnc hk9trnc)
                    simp only [List.getElem_toArray, List.getElem_cons_succ, List.getElem_cons_zero, Act.put]
                    go_step
                    go_step
                    go_meet
                    case rel => exact ⟨_, _, Atrnc, ktrnc, Btrnc, ntrnc, dtrnc, Ctrnc, mtrnc, ftrnc, rfl, rfl, HFtrnc.out.1, HFtrnc.out.2⟩
            · skip
              refine alloc_wp 49 rfl _ zero_Rp ?_
              intro wxr hbrr hsr hwr
              have HSZr := Lib.hid hsr
              clear hsr
              have HSr : Hid ((fun W : World => Below wi.heap.size wi W) wxr) := HSd.out.trans (hwr.mono HSd.out.size)
              have hgxr := HSd.out.size
              refine hK.out _ _ HSr.out fun _ => ?_
              clear hK K
              simp only [List.getElem_toArray, List.getElem_cons_succ, List.getElem_cons_zero, Act.put, List.setIfInBounds_toArray, List.set_cons_zero, List.set_cons_succ]
              refine wpAnyH_ready (rs := [5, 11]) (by kernel_rfl) (by simp) ?_
              refine AllReadyH.cons rfl (fun K hK => ?_) (AllReadyH.cons rfl (fun K hK => ?_) AllReadyH.nil)
              · skip
                go_simp
                refine (lawnamed_any j _ (by omega)).mono ?_
                rintro e wxrn ⟨rfl, hbrn⟩
                have hzrn := hbrn.size
                have HSrn : Hid ((fun W : World => Below wi.heap.size wi W) wxrn) := HSr.out.trans (hbrn.mono HSr.out.size)
                have hbrrn := Bw.below hbrr hbrn
                have HZrn := Lib.hid hzrn
                refine hK.out _ _ HSrn.out fun _ => ?_
                clear hK K hzrn hbrn
                rw [HNM.out]
                refine takeH (i := 6) 104 (.agg #[.int .u32 0, .int .u32 0, .int .u32 11, .int .u32 1, .int .u32 1, .string (txt (Op.nmd j)), .int .u32 0, .int .u32 0, .string ⟨#[]⟩, .int .u64 0, .int .u64 0, .int .u32 0, .int .u32 0, .slice none 0 0]) rfl rfl (by kernel_rfl) (by kernel_rfl) (by kernel_rfl) (fun _ _ _ h => h) (.inl ⟨by rfl, fun W hW => by go_simp⟩) HSrn.out ?_
                simp only [Act.put, List.setIfInBounds_toArray, List.set_cons_zero, List.set_cons_succ]
                refine wpAnyH_ready (rs := [7, 11]) (by kernel_rfl) (by simp) ?_
                refine AllReadyH.cons rfl (fun K hK => ?_) (AllReadyH.cons rfl (fun K hK => ?_) AllReadyH.nil)
                · skip
                  go_simp
                  refine (HPK.out.run (Op.rdT b n j) A k (Op.drX j) none 0 0 _ (show TM _ A k (Op.rdT b n j) from (VT.below HV.out HSrn.out).ok 0 rfl) HSj.out (Op.drX_wide (by omega)) (Op.nmd_len j (by omega)) (Nat.le_of_ble_eq_true rfl) (Nat.le_of_ble_eq_true rfl) BS.nil (Nat.le_refl _)).mono ?_
                  rintro e wxrnc ⟨Arnc, krnc, Brnc, nrnc, drnc, Crnc, mrnc, frnc, rfl, tmrnc, rmrnc, hbrnc⟩
                  have ernc := Op.do_step (c := (Op.drX j)) HSj.out.inv.may (Nat.le_of_ble_eq_true rfl) (Nat.le_of_ble_eq_true rfl) (Nat.ne_of_beq_eq_false rfl)
                  rw [show Op.doT (Op.rdT b n j) (Op.drX j) = (Op.step (Op.rdT b n j) (Op.drX j)).1 from ernc.1] at tmrnc ⊢
                  rw [show Op.doR (Op.rdT b n j) (Op.drX j) = (Op.step (Op.rdT b n j) (Op.drX j)).2 from ernc.2] at rmrnc ⊢
                  have hzrnc := hbrnc.size
                  have HSrnc : Hid ((fun W : World => Below wi.heap.size wi W) wxrnc) := HSrn.out.trans (hbrnc.mono HSrn.out.size)
                  have hbrrnc := Bw.below hbrrn hbrnc
                  refine hK.out _ _ HSrnc.out fun _ => ?_
                  clear hK K ernc
                  refine takeH (i := 8) 97 (.tuple #[.agg (tc (Op.step (Op.rdT b n j) (Op.drX j)).1 (.slice Arnc 24 krnc)).toArray, .agg (rc (Op.step (Op.rdT b n j) (Op.drX j)).2 (.slice Brnc nrnc drnc) (.slice Crnc mrnc frnc)).toArray]) rfl rfl (by kernel_rfl) (by kernel_rfl) (by kernel_rfl) (fun _ _ _ h => h) (.inl ⟨by rfl, fun W hW => by go_simp⟩) HSrnc.out ?_
                  simp only [Act.put, List.setIfInBounds_toArray, List.set_cons_zero, List.set_cons_succ]
                  refine takeH (i := 9) 106 (.agg (tc (Op.step (Op.rdT b n j) (Op.drX j)).1 (.slice Arnc 24 krnc)).toArray) rfl rfl (by kernel_rfl) (by kernel_rfl) (by kernel_rfl) (fun _ _ _ h => h) (.inl ⟨by rfl, fun W hW => by go_simp⟩) HSrnc.out ?_
                  simp only [Act.put, List.setIfInBounds_toArray, List.set_cons_zero, List.set_cons_succ]
                  refine takeH (i := 10) 107 (.agg (rc (Op.step (Op.rdT b n j) (Op.drX j)).2 (.slice Brnc nrnc drnc) (.slice Crnc mrnc frnc)).toArray) rfl rfl (by kernel_rfl) (by kernel_rfl) (by kernel_rfl) (fun _ _ _ h => h) (.inl ⟨by rfl, fun W hW => by go_simp⟩) HSrnc.out ?_
                  simp only [Act.put, List.setIfInBounds_toArray, List.set_cons_zero, List.set_cons_succ]
                  refine wpAnyH_ready (rs := [11]) (by kernel_rfl) (by simp) ?_
                  refine AllReadyH.cons rfl (fun K hK => ?_) AllReadyH.nil
                  · skip
                    refine alloc_wp 27 rfl _ zero_Th ?_
                    intro wxrnct hbtrnct hsrnct hwrnct
                    have HSZrnct := Lib.hid hsrnct
                    clear hsrnct
                    have HSrnct : Hid ((fun W : World => Below wi.heap.size wi W) wxrnct) := HSrnc.out.trans (hwrnct.mono HSrnc.out.size)
                    have hgxrnct := HSrnc.out.size
                    refine hK.out _ _ HSrnct.out fun _ => ?_
                    clear hK K
                    simp only [List.getElem_toArray, List.getElem_cons_succ, List.getElem_cons_zero, Act.put, List.setIfInBounds_toArray, List.set_cons_zero, List.set_cons_succ]
                    have hbrrnct := Bw.below hbrrnc hwrnct
                    have tmrnct := TM.below tmrnc hwrnct
                    have rmrnct := RM.below rmrnc hwrnct
                    refine wpAnyH_ready (rs := [13]) (by kernel_rfl) (by simp) ?_
                    refine AllReadyH.cons rfl (fun K hK => ?_) AllReadyH.nil
                    refine store_wp (P := Tryz.prog) 27 (.tmp 16) (.tmp 106) rfl (wxrnc.heap.size) (tc (Op.step (Op.rdT b n j) (Op.drX j)).1 (.slice Arnc 24 krnc)) rfl rfl 27 _ hbtrnct size_Th rfl (tc_row _ _ _ _) ?_
                    intro w8rnct hb8rnct hs8rnct hk8rnct
                    have HTrnct : Hid ((fun W : World => Below wi.heap.size wi W) w8rnct) := HSrnct.out.trans (hk8rnct.below2 (fun q hq => by have := HSZr.out; have := HZrn.out; have := HSZrnct.out; omega))
                    refine hK.out _ _ HTrnct.out fun _ => ?_
                    clear hK K
                    refine wpAnyH_ready (rs := [14]) (by kernel_rfl) (by simp) ?_
                    refine AllReadyH.cons rfl (fun K hK => ?_) AllReadyH.nil
                    refine store_wp (P := Tryz.prog) 49 (.tmp 17) (.tmp 107) rfl (wi.drew.heap.size) (rc (Op.step (Op.rdT b n j) (Op.drX j)).2 (.slice Brnc nrnc drnc) (.slice Crnc mrnc frnc)) rfl rfl 49 _ (Bw.keep hbrrnct hk8rnct (by have := HSZr.out; have := HZrn.out; have := HSZrnct.out; omega)) size_Rp rfl (rc_row _ _ _ _ _ _ _) ?_
                    intro w9rnct hb9rnct hs9rnct hk9rnct
                    have HUrnct : Hid ((fun W : World => Below wi.heap.size wi W) w9rnct) := HTrnct.out.trans (hk9rnct.below2 (fun q hq => by have := HSZr.out; have := HZrn.out; have := HSZrnct.out; omega))
                    refine hK.out _ _ HUrnct.out fun _ => ?_
                    clear hK K
                    refine wpAnyH_done (by kernel_rfl) ?_ _
                    have HFrnct := Lib.hid (VT.two (gt := wxrnc.heap.size) (gr := wi.drew.heap.size) HV.out HSrnct.out (by have := HSZr.out; have := HZrn.out; have := HSZrnct.out; omega) (by have := HSZr.out; have := HZrn.out; have := HSZrnct.out; omega) (by have := HSZr.out; have := HZrn.out; have := HSZrnct.out; omega) hbtrnct hbrrnct tmrnct rmrnct hb8rnct hk8rnct hb9rnct hk9rnct)
                    simp only [List.getElem_toArray, List.getElem_cons_succ, List.getElem_cons_zero, Act.put]
                    go_step
                    go_step
                    go_meet
                    case rel => exact ⟨_, _, Arnc, krnc, Brnc, nrnc, drnc, Crnc, mrnc, frnc, rfl, rfl, HFrnct.out.1, HFrnct.out.2⟩
                · skip
                  refine alloc_wp 27 rfl _ zero_Th ?_
                  intro wxrnt hbtrnt hsrnt hwrnt
                  have HSZrnt := Lib.hid hsrnt
                  clear hsrnt
                  have HSrnt : Hid ((fun W : World => Below wi.heap.size wi W) wxrnt) := HSrn.out.trans (hwrnt.mono HSrn.out.size)
                  have hgxrnt := HSrn.out.size
                  refine hK.out _ _ HSrnt.out fun _ => ?_
                  clear hK K
                  simp only [List.getElem_toArray, List.getElem_cons_succ, List.getElem_cons_zero, Act.put, List.setIfInBounds_toArray, List.set_cons_zero, List.set_cons_succ]
                  have hbrrnt := Bw.below hbrrn hwrnt
                  refine wpAnyH_ready (rs := [7]) (by kernel_rfl) (by simp) ?_
                  refine AllReadyH.cons rfl (fun K hK => ?_) AllReadyH.nil
                  · skip
                    go_simp
                    refine (HPK.out.run (Op.rdT b n j) A k (Op.drX j) none 0 0 _ (show TM _ A k (Op.rdT b n j) from (VT.below HV.out HSrnt.out).ok 0 rfl) HSj.out (Op.drX_wide (by omega)) (Op.nmd_len j (by omega)) (Nat.le_of_ble_eq_true rfl) (Nat.le_of_ble_eq_true rfl) BS.nil (Nat.le_refl _)).mono ?_
                    rintro e wxrntc ⟨Arntc, krntc, Brntc, nrntc, drntc, Crntc, mrntc, frntc, rfl, tmrntc, rmrntc, hbrntc⟩
                    have erntc := Op.do_step (c := (Op.drX j)) HSj.out.inv.may (Nat.le_of_ble_eq_true rfl) (Nat.le_of_ble_eq_true rfl) (Nat.ne_of_beq_eq_false rfl)
                    rw [show Op.doT (Op.rdT b n j) (Op.drX j) = (Op.step (Op.rdT b n j) (Op.drX j)).1 from erntc.1] at tmrntc ⊢
                    rw [show Op.doR (Op.rdT b n j) (Op.drX j) = (Op.step (Op.rdT b n j) (Op.drX j)).2 from erntc.2] at rmrntc ⊢
                    have hzrntc := hbrntc.size
                    have HSrntc : Hid ((fun W : World => Below wi.heap.size wi W) wxrntc) := HSrnt.out.trans (hbrntc.mono HSrnt.out.size)
                    have hbtrntc := Bw.below hbtrnt hbrntc
                    have hbrrntc := Bw.below hbrrnt hbrntc
                    refine hK.out _ _ HSrntc.out fun _ => ?_
                    clear hK K erntc
                    refine takeH (i := 8) 97 (.tuple #[.agg (tc (Op.step (Op.rdT b n j) (Op.drX j)).1 (.slice Arntc 24 krntc)).toArray, .agg (rc (Op.step (Op.rdT b n j) (Op.drX j)).2 (.slice Brntc nrntc drntc) (.slice Crntc mrntc frntc)).toArray]) rfl rfl (by kernel_rfl) (by kernel_rfl) (by kernel_rfl) (fun _ _ _ h => h) (.inl ⟨by rfl, fun W hW => by go_simp⟩) HSrntc.out ?_
                    simp only [Act.put, List.setIfInBounds_toArray, List.set_cons_zero, List.set_cons_succ]
                    refine takeH (i := 9) 106 (.agg (tc (Op.step (Op.rdT b n j) (Op.drX j)).1 (.slice Arntc 24 krntc)).toArray) rfl rfl (by kernel_rfl) (by kernel_rfl) (by kernel_rfl) (fun _ _ _ h => h) (.inl ⟨by rfl, fun W hW => by go_simp⟩) HSrntc.out ?_
                    simp only [Act.put, List.setIfInBounds_toArray, List.set_cons_zero, List.set_cons_succ]
                    refine takeH (i := 10) 107 (.agg (rc (Op.step (Op.rdT b n j) (Op.drX j)).2 (.slice Brntc nrntc drntc) (.slice Crntc mrntc frntc)).toArray) rfl rfl (by kernel_rfl) (by kernel_rfl) (by kernel_rfl) (fun _ _ _ h => h) (.inl ⟨by rfl, fun W hW => by go_simp⟩) HSrntc.out ?_
                    simp only [Act.put, List.setIfInBounds_toArray, List.set_cons_zero, List.set_cons_succ]
                    refine wpAnyH_ready (rs := [13]) (by kernel_rfl) (by simp) ?_
                    refine AllReadyH.cons rfl (fun K hK => ?_) AllReadyH.nil
                    refine store_wp (P := Tryz.prog) 27 (.tmp 16) (.tmp 106) rfl (wxrn.heap.size) (tc (Op.step (Op.rdT b n j) (Op.drX j)).1 (.slice Arntc 24 krntc)) rfl rfl 27 _ hbtrntc size_Th rfl (tc_row _ _ _ _) ?_
                    intro w8rntc hb8rntc hs8rntc hk8rntc
                    have HTrntc : Hid ((fun W : World => Below wi.heap.size wi W) w8rntc) := HSrntc.out.trans (hk8rntc.below2 (fun q hq => by have := HSZr.out; have := HZrn.out; have := HSZrnt.out; omega))
                    refine hK.out _ _ HTrntc.out fun _ => ?_
                    clear hK K
                    refine wpAnyH_ready (rs := [14]) (by kernel_rfl) (by simp) ?_
                    refine AllReadyH.cons rfl (fun K hK => ?_) AllReadyH.nil
                    refine store_wp (P := Tryz.prog) 49 (.tmp 17) (.tmp 107) rfl (wi.drew.heap.size) (rc (Op.step (Op.rdT b n j) (Op.drX j)).2 (.slice Brntc nrntc drntc) (.slice Crntc mrntc frntc)) rfl rfl 49 _ (Bw.keep hbrrntc hk8rntc (by have := HSZr.out; have := HZrn.out; have := HSZrnt.out; omega)) size_Rp rfl (rc_row _ _ _ _ _ _ _) ?_
                    intro w9rntc hb9rntc hs9rntc hk9rntc
                    have HUrntc : Hid ((fun W : World => Below wi.heap.size wi W) w9rntc) := HTrntc.out.trans (hk9rntc.below2 (fun q hq => by have := HSZr.out; have := HZrn.out; have := HSZrnt.out; omega))
                    refine hK.out _ _ HUrntc.out fun _ => ?_
                    clear hK K
                    refine wpAnyH_done (by kernel_rfl) ?_ _
                    have HFrntc := Lib.hid (VT.two (gt := wxrn.heap.size) (gr := wi.drew.heap.size) HV.out HSrntc.out (by have := HSZr.out; have := HZrn.out; have := HSZrnt.out; omega) (by have := HSZr.out; have := HZrn.out; have := HSZrnt.out; omega) (by have := HSZr.out; have := HZrn.out; have := HSZrnt.out; omega) hbtrntc hbrrntc tmrntc rmrntc hb8rntc hk8rntc hb9rntc hk9rntc)
                    simp only [List.getElem_toArray, List.getElem_cons_succ, List.getElem_cons_zero, Act.put]
                    go_step
                    go_step
                    go_meet
                    case rel => exact ⟨_, _, Arntc, krntc, Brntc, nrntc, drntc, Crntc, mrntc, frntc, rfl, rfl, HFrntc.out.1, HFrntc.out.2⟩
              · skip
                refine alloc_wp 27 rfl _ zero_Th ?_
                intro wxrt hbtrt hsrt hwrt
                have HSZrt := Lib.hid hsrt
                clear hsrt
                have HSrt : Hid ((fun W : World => Below wi.heap.size wi W) wxrt) := HSr.out.trans (hwrt.mono HSr.out.size)
                have hgxrt := HSr.out.size
                refine hK.out _ _ HSrt.out fun _ => ?_
                clear hK K
                simp only [List.getElem_toArray, List.getElem_cons_succ, List.getElem_cons_zero, Act.put, List.setIfInBounds_toArray, List.set_cons_zero, List.set_cons_succ]
                have hbrrt := Bw.below hbrr hwrt
                refine wpAnyH_ready (rs := [5]) (by kernel_rfl) (by simp) ?_
                refine AllReadyH.cons rfl (fun K hK => ?_) AllReadyH.nil
                · skip
                  go_simp
                  refine (lawnamed_any j _ (by omega)).mono ?_
                  rintro e wxrtn ⟨rfl, hbrtn⟩
                  have hzrtn := hbrtn.size
                  have HSrtn : Hid ((fun W : World => Below wi.heap.size wi W) wxrtn) := HSrt.out.trans (hbrtn.mono HSrt.out.size)
                  have hbtrtn := Bw.below hbtrt hbrtn
                  have hbrrtn := Bw.below hbrrt hbrtn
                  have HZrtn := Lib.hid hzrtn
                  refine hK.out _ _ HSrtn.out fun _ => ?_
                  clear hK K hzrtn hbrtn
                  rw [HNM.out]
                  refine takeH (i := 6) 104 (.agg #[.int .u32 0, .int .u32 0, .int .u32 11, .int .u32 1, .int .u32 1, .string (txt (Op.nmd j)), .int .u32 0, .int .u32 0, .string ⟨#[]⟩, .int .u64 0, .int .u64 0, .int .u32 0, .int .u32 0, .slice none 0 0]) rfl rfl (by kernel_rfl) (by kernel_rfl) (by kernel_rfl) (fun _ _ _ h => h) (.inl ⟨by rfl, fun W hW => by go_simp⟩) HSrtn.out ?_
                  simp only [Act.put, List.setIfInBounds_toArray, List.set_cons_zero, List.set_cons_succ]
                  refine wpAnyH_ready (rs := [7]) (by kernel_rfl) (by simp) ?_
                  refine AllReadyH.cons rfl (fun K hK => ?_) AllReadyH.nil
                  · skip
                    go_simp
                    refine (HPK.out.run (Op.rdT b n j) A k (Op.drX j) none 0 0 _ (show TM _ A k (Op.rdT b n j) from (VT.below HV.out HSrtn.out).ok 0 rfl) HSj.out (Op.drX_wide (by omega)) (Op.nmd_len j (by omega)) (Nat.le_of_ble_eq_true rfl) (Nat.le_of_ble_eq_true rfl) BS.nil (Nat.le_refl _)).mono ?_
                    rintro e wxrtnc ⟨Artnc, krtnc, Brtnc, nrtnc, drtnc, Crtnc, mrtnc, frtnc, rfl, tmrtnc, rmrtnc, hbrtnc⟩
                    have ertnc := Op.do_step (c := (Op.drX j)) HSj.out.inv.may (Nat.le_of_ble_eq_true rfl) (Nat.le_of_ble_eq_true rfl) (Nat.ne_of_beq_eq_false rfl)
                    rw [show Op.doT (Op.rdT b n j) (Op.drX j) = (Op.step (Op.rdT b n j) (Op.drX j)).1 from ertnc.1] at tmrtnc ⊢
                    rw [show Op.doR (Op.rdT b n j) (Op.drX j) = (Op.step (Op.rdT b n j) (Op.drX j)).2 from ertnc.2] at rmrtnc ⊢
                    have hzrtnc := hbrtnc.size
                    have HSrtnc : Hid ((fun W : World => Below wi.heap.size wi W) wxrtnc) := HSrtn.out.trans (hbrtnc.mono HSrtn.out.size)
                    have hbtrtnc := Bw.below hbtrtn hbrtnc
                    have hbrrtnc := Bw.below hbrrtn hbrtnc
                    refine hK.out _ _ HSrtnc.out fun _ => ?_
                    clear hK K ertnc
                    refine takeH (i := 8) 97 (.tuple #[.agg (tc (Op.step (Op.rdT b n j) (Op.drX j)).1 (.slice Artnc 24 krtnc)).toArray, .agg (rc (Op.step (Op.rdT b n j) (Op.drX j)).2 (.slice Brtnc nrtnc drtnc) (.slice Crtnc mrtnc frtnc)).toArray]) rfl rfl (by kernel_rfl) (by kernel_rfl) (by kernel_rfl) (fun _ _ _ h => h) (.inl ⟨by rfl, fun W hW => by go_simp⟩) HSrtnc.out ?_
                    simp only [Act.put, List.setIfInBounds_toArray, List.set_cons_zero, List.set_cons_succ]
                    refine takeH (i := 9) 106 (.agg (tc (Op.step (Op.rdT b n j) (Op.drX j)).1 (.slice Artnc 24 krtnc)).toArray) rfl rfl (by kernel_rfl) (by kernel_rfl) (by kernel_rfl) (fun _ _ _ h => h) (.inl ⟨by rfl, fun W hW => by go_simp⟩) HSrtnc.out ?_
                    simp only [Act.put, List.setIfInBounds_toArray, List.set_cons_zero, List.set_cons_succ]
                    refine takeH (i := 10) 107 (.agg (rc (Op.step (Op.rdT b n j) (Op.drX j)).2 (.slice Brtnc nrtnc drtnc) (.slice Crtnc mrtnc frtnc)).toArray) rfl rfl (by kernel_rfl) (by kernel_rfl) (by kernel_rfl) (fun _ _ _ h => h) (.inl ⟨by rfl, fun W hW => by go_simp⟩) HSrtnc.out ?_
                    simp only [Act.put, List.setIfInBounds_toArray, List.set_cons_zero, List.set_cons_succ]
                    refine wpAnyH_ready (rs := [13]) (by kernel_rfl) (by simp) ?_
                    refine AllReadyH.cons rfl (fun K hK => ?_) AllReadyH.nil
                    refine store_wp (P := Tryz.prog) 27 (.tmp 16) (.tmp 106) rfl (wxr.heap.size) (tc (Op.step (Op.rdT b n j) (Op.drX j)).1 (.slice Artnc 24 krtnc)) rfl rfl 27 _ hbtrtnc size_Th rfl (tc_row _ _ _ _) ?_
                    intro w8rtnc hb8rtnc hs8rtnc hk8rtnc
                    have HTrtnc : Hid ((fun W : World => Below wi.heap.size wi W) w8rtnc) := HSrtnc.out.trans (hk8rtnc.below2 (fun q hq => by have := HSZr.out; have := HSZrt.out; have := HZrtn.out; omega))
                    refine hK.out _ _ HTrtnc.out fun _ => ?_
                    clear hK K
                    refine wpAnyH_ready (rs := [14]) (by kernel_rfl) (by simp) ?_
                    refine AllReadyH.cons rfl (fun K hK => ?_) AllReadyH.nil
                    refine store_wp (P := Tryz.prog) 49 (.tmp 17) (.tmp 107) rfl (wi.drew.heap.size) (rc (Op.step (Op.rdT b n j) (Op.drX j)).2 (.slice Brtnc nrtnc drtnc) (.slice Crtnc mrtnc frtnc)) rfl rfl 49 _ (Bw.keep hbrrtnc hk8rtnc (by have := HSZr.out; have := HSZrt.out; have := HZrtn.out; omega)) size_Rp rfl (rc_row _ _ _ _ _ _ _) ?_
                    intro w9rtnc hb9rtnc hs9rtnc hk9rtnc
                    have HUrtnc : Hid ((fun W : World => Below wi.heap.size wi W) w9rtnc) := HTrtnc.out.trans (hk9rtnc.below2 (fun q hq => by have := HSZr.out; have := HSZrt.out; have := HZrtn.out; omega))
                    refine hK.out _ _ HUrtnc.out fun _ => ?_
                    clear hK K
                    refine wpAnyH_done (by kernel_rfl) ?_ _
                    have HFrtnc := Lib.hid (VT.two (gt := wxr.heap.size) (gr := wi.drew.heap.size) HV.out HSrtnc.out (by have := HSZr.out; have := HSZrt.out; have := HZrtn.out; omega) (by have := HSZr.out; have := HSZrt.out; have := HZrtn.out; omega) (by have := HSZr.out; have := HSZrt.out; have := HZrtn.out; omega) hbtrtnc hbrrtnc tmrtnc rmrtnc hb8rtnc hk8rtnc hb9rtnc hk9rtnc)
                    simp only [List.getElem_toArray, List.getElem_cons_succ, List.getElem_cons_zero, Act.put]
                    go_step
                    go_step
                    go_meet
                    case rel => exact ⟨_, _, Artnc, krtnc, Brtnc, nrtnc, drtnc, Crtnc, mrtnc, frtnc, rfl, rfl, HFrtnc.out.1, HFrtnc.out.2⟩
          case rest =>
          obtain ⟨gxt, gxr, Ax, kx, Bx, nx, dx, Cx, mx, fx, rfl, rfl, HVx, HBEx⟩ := hcut
          have ex := Op.do_step (c := (Op.drX j)) HSj.out.inv.may (Nat.le_of_ble_eq_true rfl) (Nat.le_of_ble_eq_true rfl) (Nat.ne_of_beq_eq_false rfl)
          have HSx : Hid (Op.Sound (Op.step (Op.rdT b n j) (Op.drX j)).1) := by show Op.Sound _; rw [show (Op.step (Op.rdT b n j) (Op.drX j)).1 = Op.doT (Op.rdT b n j) (Op.drX j) from ex.1.symm]; exact HSj.out.doT (Op.drX_wide (by omega))
          clear ex HV
          clear HSx
          go_upto_region 21 with fail
          obtain ⟨wj, rfl⟩ : ∃ wj, wj = wc := ⟨wc, rfl⟩
          go_cut [18, 19] from 92 to 127 (fun tv rv W => ∃ (gtq grq : Nat) (Aq : Option Addr) (kq : Nat) (Bq : Option Addr) (nq dq : Nat) (Cq : Option Addr) (mq fq : Nat), tv = .pointer (some ⟨gtq, 0, none⟩) ∧ rv = .pointer (some ⟨grq, 0, none⟩) ∧ Hid (VT w W [(g1t, .th A k (Op.rdT b n j)), (g1r, .rp B1 n1 d1 C1 m1 f1 Op.drR0), (gxt, .th Ax kx (Op.step (Op.rdT b n j) (Op.drX j)).1), (gxr, .rp Bx nx dx Cx mx fx (Op.step (Op.rdT b n j) (Op.drX j)).2), (gtq, .th Aq kq (Op.rdT b n (j + 1))), (grq, .rp Bq nq dq Cq mq fq (Op.step (Op.rdT b n j) (Op.drY j)).2)]) ∧ Hid (Below wj.heap.size wj W))
          case first =>
            have HSd : Hid ((fun W : World => Below wj.heap.size wj W) wj.drew) := (Below.refl _ wj).drew
            refine wp_region_held_drew (S := (fun W : World => Below wj.heap.size wj W)) (by kernel_rfl) HSd.out (fun _ => ?_)
            change wpAnyH _ _ _ _ _ 15 (Array.replicate 15 false) _ _
            refine takeH (i := 0) 109 (.agg (tc (Op.rdT b n j) (.slice A 24 k)).toArray) rfl rfl (by kernel_rfl) (by kernel_rfl) (by kernel_rfl) (fun _ _ _ h => h) (.inl ⟨by rfl, fun W hW => by exact run_load_part 27 (.tmp 7) rfl g1t 0 rfl _ Tryz.underlying27 rfl (tc (Op.rdT b n j) (.slice A 24 k)) 27 _ ((VT.below HVx.out hW).bw 0 rfl) size_Th (fun j u hu => by rw [Nat.zero_add]; exact hu)⟩) HSd.out ?_
            simp only [Act.put, List.setIfInBounds_toArray, List.set_cons_zero, List.set_cons_succ]
            refine takeH (i := 1) 110 (.pointer (some ⟨g1r, 3, none⟩)) rfl rfl (by kernel_rfl) (by kernel_rfl) (by kernel_rfl) (fun _ _ _ h => h) (.inl ⟨by rfl, fun W hW => by go_simp⟩) HSd.out ?_
            simp only [Act.put, List.setIfInBounds_toArray, List.set_cons_zero, List.set_cons_succ]
            refine takeH (i := 2) 111 (.agg #[.int .u32 1, .int .u32 1]) rfl rfl (by kernel_rfl) (by kernel_rfl) (by kernel_rfl) (fun _ _ _ h => h) (.inl ⟨by rfl, fun W hW => by (have h3 := (VT.below HVx.out hW).cell 1 rfl 3 _ rfl; have h4 := (VT.below HVx.out hW).cell 1 rfl 4 _ rfl; rw [show Op.drR0.ati = 1 from Op.dr_r.2.1] at h3; rw [show Op.drR0.atg = 1 from Op.dr_r.2.2] at h4; go_simp)⟩) HSd.out ?_
            simp only [Act.put, List.setIfInBounds_toArray, List.set_cons_zero, List.set_cons_succ]
            refine takeH (i := 3) 112 (.int .i64 (j : Int)) rfl rfl (by kernel_rfl) (by kernel_rfl) (by kernel_rfl) (fun _ _ _ h => h) (.inl ⟨by rfl, fun W hW => by go_simp⟩) HSd.out ?_
            simp only [Act.put, List.setIfInBounds_toArray, List.set_cons_zero, List.set_cons_succ]
            refine takeH (i := 4) 113 (.int .u8 (j : Int)) rfl rfl (by kernel_rfl) (by kernel_rfl) (by kernel_rfl) (fun _ _ _ h => h) (.inl ⟨by rfl, fun W hW => by (go_simp; first | done | (rw [IntKind.wrap_u8]; omega))⟩) HSd.out ?_
            simp only [Act.put, List.setIfInBounds_toArray, List.set_cons_zero, List.set_cons_succ]
            refine wpAnyH_ready (rs := [5, 11, 12]) (by kernel_rfl) (by simp) ?_
            refine AllReadyH.cons rfl (fun K hK => ?_) (AllReadyH.cons rfl (fun K hK => ?_) (AllReadyH.cons rfl (fun K hK => ?_) AllReadyH.nil))
            · skip
              go_simp
              refine (lawnamed_any j _ (by omega)).mono ?_
              rintro e wyn ⟨rfl, hbn⟩
              have hzn := hbn.size
              have HSn : Hid ((fun W : World => Below wj.heap.size wj W) wyn) := HSd.out.trans (hbn.mono HSd.out.size)
              have HZn := Lib.hid hzn
              refine hK.out _ _ HSn.out fun _ => ?_
              clear hK K hzn hbn
              rw [HNM.out]
              refine takeH (i := 6) 115 (.agg #[.int .u32 0, .int .u32 0, .int .u32 10, .int .u32 1, .int .u32 1, .string (txt (Op.nmd j)), .int .u32 0, .int .u32 0, .string ⟨#[]⟩, .int .u64 0, .int .u64 0, .int .u32 0, .int .u32 0, .slice none 0 0]) rfl rfl (by kernel_rfl) (by kernel_rfl) (by kernel_rfl) (fun _ _ _ h => h) (.inl ⟨by rfl, fun W hW => by go_simp⟩) HSn.out ?_
              simp only [Act.put, List.setIfInBounds_toArray, List.set_cons_zero, List.set_cons_succ]
              refine wpAnyH_ready (rs := [7, 11, 12]) (by kernel_rfl) (by simp) ?_
              refine AllReadyH.cons rfl (fun K hK => ?_) (AllReadyH.cons rfl (fun K hK => ?_) (AllReadyH.cons rfl (fun K hK => ?_) AllReadyH.nil))
              · skip
                go_simp
                refine (HPK.out.run (Op.rdT b n j) A k (Op.drY j) none 0 0 _ (show TM _ A k (Op.rdT b n j) from (VT.below HVx.out HSn.out).ok 0 rfl) HSj.out (Op.drY_wide (by omega)) (Op.nmd_len j (by omega)) (Nat.le_of_ble_eq_true rfl) (Nat.le_of_ble_eq_true rfl) BS.nil (Nat.le_refl _)).mono ?_
                rintro e wync ⟨Anc, knc, Bnc, nnc, dnc, Cnc, mnc, fnc, rfl, tmnc, rmnc, hbnc⟩
                have enc := Op.do_step (c := (Op.drY j)) HSj.out.inv.may (Nat.le_of_ble_eq_true rfl) (Nat.le_of_ble_eq_true rfl) (Nat.ne_of_beq_eq_false rfl)
                rw [show Op.doT (Op.rdT b n j) (Op.drY j) = (Op.rdT b n (j + 1)) from enc.1] at tmnc ⊢
                rw [show Op.doR (Op.rdT b n j) (Op.drY j) = (Op.step (Op.rdT b n j) (Op.drY j)).2 from enc.2] at rmnc ⊢
                have hznc := hbnc.size
                have HSnc : Hid ((fun W : World => Below wj.heap.size wj W) wync) := HSn.out.trans (hbnc.mono HSn.out.size)
                refine hK.out _ _ HSnc.out fun _ => ?_
                clear hK K enc
                refine takeH (i := 8) 108 (.tuple #[.agg (tc (Op.rdT b n (j + 1)) (.slice Anc 24 knc)).toArray, .agg (rc (Op.step (Op.rdT b n j) (Op.drY j)).2 (.slice Bnc nnc dnc) (.slice Cnc mnc fnc)).toArray]) rfl rfl (by kernel_rfl) (by kernel_rfl) (by kernel_rfl) (fun _ _ _ h => h) (.inl ⟨by rfl, fun W hW => by go_simp⟩) HSnc.out ?_
                simp only [Act.put, List.setIfInBounds_toArray, List.set_cons_zero, List.set_cons_succ]
                refine takeH (i := 9) 117 (.agg (tc (Op.rdT b n (j + 1)) (.slice Anc 24 knc)).toArray) rfl rfl (by kernel_rfl) (by kernel_rfl) (by kernel_rfl) (fun _ _ _ h => h) (.inl ⟨by rfl, fun W hW => by go_simp⟩) HSnc.out ?_
                simp only [Act.put, List.setIfInBounds_toArray, List.set_cons_zero, List.set_cons_succ]
                refine takeH (i := 10) 118 (.agg (rc (Op.step (Op.rdT b n j) (Op.drY j)).2 (.slice Bnc nnc dnc) (.slice Cnc mnc fnc)).toArray) rfl rfl (by kernel_rfl) (by kernel_rfl) (by kernel_rfl) (fun _ _ _ h => h) (.inl ⟨by rfl, fun W hW => by go_simp⟩) HSnc.out ?_
                simp only [Act.put, List.setIfInBounds_toArray, List.set_cons_zero, List.set_cons_succ]
                refine wpAnyH_ready (rs := [11, 12]) (by kernel_rfl) (by simp) ?_
                refine AllReadyH.cons rfl (fun K hK => ?_) (AllReadyH.cons rfl (fun K hK => ?_) AllReadyH.nil)
                · skip
                  refine alloc_wp 27 rfl _ zero_Th ?_
                  intro wynct hbtnct hsnct hwnct
                  have HSZnct := Lib.hid hsnct
                  clear hsnct
                  have HSnct : Hid ((fun W : World => Below wj.heap.size wj W) wynct) := HSnc.out.trans (hwnct.mono HSnc.out.size)
                  have hgxnct := HSnc.out.size
                  refine hK.out _ _ HSnct.out fun _ => ?_
                  clear hK K
                  simp only [List.getElem_toArray, List.getElem_cons_succ, List.getElem_cons_zero, Act.put, List.setIfInBounds_toArray, List.set_cons_zero, List.set_cons_succ]
                  have tmnct := TM.below tmnc hwnct
                  have rmnct := RM.below rmnc hwnct
                  refine wpAnyH_ready (rs := [12]) (by kernel_rfl) (by simp) ?_
                  refine AllReadyH.cons rfl (fun K hK => ?_) AllReadyH.nil
                  · skip
                    refine alloc_wp 49 rfl _ zero_Rp ?_
                    intro wynctr hbrnctr hsnctr hwnctr
                    have HSZnctr := Lib.hid hsnctr
                    clear hsnctr
                    have HSnctr : Hid ((fun W : World => Below wj.heap.size wj W) wynctr) := HSnct.out.trans (hwnctr.mono HSnct.out.size)
                    have hgxnctr := HSnct.out.size
                    refine hK.out _ _ HSnctr.out fun _ => ?_
                    clear hK K
                    simp only [List.getElem_toArray, List.getElem_cons_succ, List.getElem_cons_zero, Act.put, List.setIfInBounds_toArray, List.set_cons_zero, List.set_cons_succ]
                    have hbtnctr := Bw.below hbtnct hwnctr
                    have tmnctr := TM.below tmnct hwnctr
                    have rmnctr := RM.below rmnct hwnctr
                    refine wpAnyH_ready (rs := [13]) (by kernel_rfl) (by simp) ?_
                    refine AllReadyH.cons rfl (fun K hK => ?_) AllReadyH.nil
                    refine store_wp (P := Tryz.prog) 27 (.tmp 18) (.tmp 117) rfl (wync.heap.size) (tc (Op.rdT b n (j + 1)) (.slice Anc 24 knc)) rfl rfl 27 _ hbtnctr size_Th rfl (tc_row _ _ _ _) ?_
                    intro w8nctr hb8nctr hs8nctr hk8nctr
                    have HTnctr : Hid ((fun W : World => Below wj.heap.size wj W) w8nctr) := HSnctr.out.trans (hk8nctr.below2 (fun q hq => by have := HZn.out; have := HSZnct.out; have := HSZnctr.out; omega))
                    refine hK.out _ _ HTnctr.out fun _ => ?_
                    clear hK K
                    refine wpAnyH_ready (rs := [14]) (by kernel_rfl) (by simp) ?_
                    refine AllReadyH.cons rfl (fun K hK => ?_) AllReadyH.nil
                    refine store_wp (P := Tryz.prog) 49 (.tmp 19) (.tmp 118) rfl (wynct.heap.size) (rc (Op.step (Op.rdT b n j) (Op.drY j)).2 (.slice Bnc nnc dnc) (.slice Cnc mnc fnc)) rfl rfl 49 _ (Bw.keep hbrnctr hk8nctr (by have := HZn.out; have := HSZnct.out; have := HSZnctr.out; omega)) size_Rp rfl (rc_row _ _ _ _ _ _ _) ?_
                    intro w9nctr hb9nctr hs9nctr hk9nctr
                    have HUnctr : Hid ((fun W : World => Below wj.heap.size wj W) w9nctr) := HTnctr.out.trans (hk9nctr.below2 (fun q hq => by have := HZn.out; have := HSZnct.out; have := HSZnctr.out; omega))
                    refine hK.out _ _ HUnctr.out fun _ => ?_
                    clear hK K
                    refine wpAnyH_done (by kernel_rfl) ?_ _
                    have HFnctr := Lib.hid (VT.two (gt := wync.heap.size) (gr := wynct.heap.size) HVx.out HSnctr.out (by have := HZn.out; have := HSZnct.out; have := HSZnctr.out; omega) (by have := HZn.out; have := HSZnct.out; have := HSZnctr.out; omega) (by have := HZn.out; have := HSZnct.out; have := HSZnctr.out; omega) hbtnctr hbrnctr tmnctr rmnctr hb8nctr hk8nctr hb9nctr hk9nctr)
                    simp only [List.getElem_toArray, List.getElem_cons_succ, List.getElem_cons_zero, Act.put]
                    go_step
                    go_step
                    go_meet
                    case rel => exact ⟨_, _, Anc, knc, Bnc, nnc, dnc, Cnc, mnc, fnc, rfl, rfl, HFnctr.out.1, HFnctr.out.2⟩
                · skip
                  refine alloc_wp 49 rfl _ zero_Rp ?_
                  intro wyncr hbrncr hsncr hwncr
                  have HSZncr := Lib.hid hsncr
                  clear hsncr
                  have HSncr : Hid ((fun W : World => Below wj.heap.size wj W) wyncr) := HSnc.out.trans (hwncr.mono HSnc.out.size)
                  have hgxncr := HSnc.out.size
                  refine hK.out _ _ HSncr.out fun _ => ?_
                  clear hK K
                  simp only [List.getElem_toArray, List.getElem_cons_succ, List.getElem_cons_zero, Act.put, List.setIfInBounds_toArray, List.set_cons_zero, List.set_cons_succ]
                  have tmncr := TM.below tmnc hwncr
                  have rmncr := RM.below rmnc hwncr
                  refine wpAnyH_ready (rs := [11]) (by kernel_rfl) (by simp) ?_
                  refine AllReadyH.cons rfl (fun K hK => ?_) AllReadyH.nil
                  · skip
                    refine alloc_wp 27 rfl _ zero_Th ?_
                    intro wyncrt hbtncrt hsncrt hwncrt
                    have HSZncrt := Lib.hid hsncrt
                    clear hsncrt
                    have HSncrt : Hid ((fun W : World => Below wj.heap.size wj W) wyncrt) := HSncr.out.trans (hwncrt.mono HSncr.out.size)
                    have hgxncrt := HSncr.out.size
                    refine hK.out _ _ HSncrt.out fun _ => ?_
                    clear hK K
                    simp only [List.getElem_toArray, List.getElem_cons_succ, List.getElem_cons_zero, Act.put, List.setIfInBounds_toArray, List.set_cons_zero, List.set_cons_succ]
                    have hbrncrt := Bw.below hbrncr hwncrt
                    have tmncrt := TM.below tmncr hwncrt
                    have rmncrt := RM.below rmncr hwncrt
                    refine wpAnyH_ready (rs := [13]) (by kernel_rfl) (by simp) ?_
                    refine AllReadyH.cons rfl (fun K hK => ?_) AllReadyH.nil
                    refine store_wp (P := Tryz.prog) 27 (.tmp 18) (.tmp 117) rfl (wyncr.heap.size) (tc (Op.rdT b n (j + 1)) (.slice Anc 24 knc)) rfl rfl 27 _ hbtncrt size_Th rfl (tc_row _ _ _ _) ?_
                    intro w8ncrt hb8ncrt hs8ncrt hk8ncrt
                    have HTncrt : Hid ((fun W : World => Below wj.heap.size wj W) w8ncrt) := HSncrt.out.trans (hk8ncrt.below2 (fun q hq => by have := HZn.out; have := HSZncr.out; have := HSZncrt.out; omega))
                    refine hK.out _ _ HTncrt.out fun _ => ?_
                    clear hK K
                    refine wpAnyH_ready (rs := [14]) (by kernel_rfl) (by simp) ?_
                    refine AllReadyH.cons rfl (fun K hK => ?_) AllReadyH.nil
                    refine store_wp (P := Tryz.prog) 49 (.tmp 19) (.tmp 118) rfl (wync.heap.size) (rc (Op.step (Op.rdT b n j) (Op.drY j)).2 (.slice Bnc nnc dnc) (.slice Cnc mnc fnc)) rfl rfl 49 _ (Bw.keep hbrncrt hk8ncrt (by have := HZn.out; have := HSZncr.out; have := HSZncrt.out; omega)) size_Rp rfl (rc_row _ _ _ _ _ _ _) ?_
                    intro w9ncrt hb9ncrt hs9ncrt hk9ncrt
                    have HUncrt : Hid ((fun W : World => Below wj.heap.size wj W) w9ncrt) := HTncrt.out.trans (hk9ncrt.below2 (fun q hq => by have := HZn.out; have := HSZncr.out; have := HSZncrt.out; omega))
                    refine hK.out _ _ HUncrt.out fun _ => ?_
                    clear hK K
                    refine wpAnyH_done (by kernel_rfl) ?_ _
                    have HFncrt := Lib.hid (VT.two (gt := wyncr.heap.size) (gr := wync.heap.size) HVx.out HSncrt.out (by have := HZn.out; have := HSZncr.out; have := HSZncrt.out; omega) (by have := HZn.out; have := HSZncr.out; have := HSZncrt.out; omega) (by have := HZn.out; have := HSZncr.out; have := HSZncrt.out; omega) hbtncrt hbrncrt tmncrt rmncrt hb8ncrt hk8ncrt hb9ncrt hk9ncrt)
                    simp only [List.getElem_toArray, List.getElem_cons_succ, List.getElem_cons_zero, Act.put]
                    go_step
                    go_step
                    go_meet
                    case rel => exact ⟨_, _, Anc, knc, Bnc, nnc, dnc, Cnc, mnc, fnc, rfl, rfl, HFncrt.out.1, HFncrt.out.2⟩
              · skip
                refine alloc_wp 27 rfl _ zero_Th ?_
                intro wynt hbtnt hsnt hwnt
                have HSZnt := Lib.hid hsnt
                clear hsnt
                have HSnt : Hid ((fun W : World => Below wj.heap.size wj W) wynt) := HSn.out.trans (hwnt.mono HSn.out.size)
                have hgxnt := HSn.out.size
                refine hK.out _ _ HSnt.out fun _ => ?_
                clear hK K
                simp only [List.getElem_toArray, List.getElem_cons_succ, List.getElem_cons_zero, Act.put, List.setIfInBounds_toArray, List.set_cons_zero, List.set_cons_succ]
                refine wpAnyH_ready (rs := [7, 12]) (by kernel_rfl) (by simp) ?_
                refine AllReadyH.cons rfl (fun K hK => ?_) (AllReadyH.cons rfl (fun K hK => ?_) AllReadyH.nil)
                · skip
                  go_simp
                  refine (HPK.out.run (Op.rdT b n j) A k (Op.drY j) none 0 0 _ (show TM _ A k (Op.rdT b n j) from (VT.below HVx.out HSnt.out).ok 0 rfl) HSj.out (Op.drY_wide (by omega)) (Op.nmd_len j (by omega)) (Nat.le_of_ble_eq_true rfl) (Nat.le_of_ble_eq_true rfl) BS.nil (Nat.le_refl _)).mono ?_
                  rintro e wyntc ⟨Antc, kntc, Bntc, nntc, dntc, Cntc, mntc, fntc, rfl, tmntc, rmntc, hbntc⟩
                  have entc := Op.do_step (c := (Op.drY j)) HSj.out.inv.may (Nat.le_of_ble_eq_true rfl) (Nat.le_of_ble_eq_true rfl) (Nat.ne_of_beq_eq_false rfl)
                  rw [show Op.doT (Op.rdT b n j) (Op.drY j) = (Op.rdT b n (j + 1)) from entc.1] at tmntc ⊢
                  rw [show Op.doR (Op.rdT b n j) (Op.drY j) = (Op.step (Op.rdT b n j) (Op.drY j)).2 from entc.2] at rmntc ⊢
                  have hzntc := hbntc.size
                  have HSntc : Hid ((fun W : World => Below wj.heap.size wj W) wyntc) := HSnt.out.trans (hbntc.mono HSnt.out.size)
                  have hbtntc := Bw.below hbtnt hbntc
                  refine hK.out _ _ HSntc.out fun _ => ?_
                  clear hK K entc
                  refine takeH (i := 8) 108 (.tuple #[.agg (tc (Op.rdT b n (j + 1)) (.slice Antc 24 kntc)).toArray, .agg (rc (Op.step (Op.rdT b n j) (Op.drY j)).2 (.slice Bntc nntc dntc) (.slice Cntc mntc fntc)).toArray]) rfl rfl (by kernel_rfl) (by kernel_rfl) (by kernel_rfl) (fun _ _ _ h => h) (.inl ⟨by rfl, fun W hW => by go_simp⟩) HSntc.out ?_
                  simp only [Act.put, List.setIfInBounds_toArray, List.set_cons_zero, List.set_cons_succ]
                  refine takeH (i := 9) 117 (.agg (tc (Op.rdT b n (j + 1)) (.slice Antc 24 kntc)).toArray) rfl rfl (by kernel_rfl) (by kernel_rfl) (by kernel_rfl) (fun _ _ _ h => h) (.inl ⟨by rfl, fun W hW => by go_simp⟩) HSntc.out ?_
                  simp only [Act.put, List.setIfInBounds_toArray, List.set_cons_zero, List.set_cons_succ]
                  refine takeH (i := 10) 118 (.agg (rc (Op.step (Op.rdT b n j) (Op.drY j)).2 (.slice Bntc nntc dntc) (.slice Cntc mntc fntc)).toArray) rfl rfl (by kernel_rfl) (by kernel_rfl) (by kernel_rfl) (fun _ _ _ h => h) (.inl ⟨by rfl, fun W hW => by go_simp⟩) HSntc.out ?_
                  simp only [Act.put, List.setIfInBounds_toArray, List.set_cons_zero, List.set_cons_succ]
                  refine wpAnyH_ready (rs := [12]) (by kernel_rfl) (by simp) ?_
                  refine AllReadyH.cons rfl (fun K hK => ?_) AllReadyH.nil
                  · skip
                    refine alloc_wp 49 rfl _ zero_Rp ?_
                    intro wyntcr hbrntcr hsntcr hwntcr
                    have HSZntcr := Lib.hid hsntcr
                    clear hsntcr
                    have HSntcr : Hid ((fun W : World => Below wj.heap.size wj W) wyntcr) := HSntc.out.trans (hwntcr.mono HSntc.out.size)
                    have hgxntcr := HSntc.out.size
                    refine hK.out _ _ HSntcr.out fun _ => ?_
                    clear hK K
                    simp only [List.getElem_toArray, List.getElem_cons_succ, List.getElem_cons_zero, Act.put, List.setIfInBounds_toArray, List.set_cons_zero, List.set_cons_succ]
                    have hbtntcr := Bw.below hbtntc hwntcr
                    have tmntcr := TM.below tmntc hwntcr
                    have rmntcr := RM.below rmntc hwntcr
                    refine wpAnyH_ready (rs := [13]) (by kernel_rfl) (by simp) ?_
                    refine AllReadyH.cons rfl (fun K hK => ?_) AllReadyH.nil
                    refine store_wp (P := Tryz.prog) 27 (.tmp 18) (.tmp 117) rfl (wyn.heap.size) (tc (Op.rdT b n (j + 1)) (.slice Antc 24 kntc)) rfl rfl 27 _ hbtntcr size_Th rfl (tc_row _ _ _ _) ?_
                    intro w8ntcr hb8ntcr hs8ntcr hk8ntcr
                    have HTntcr : Hid ((fun W : World => Below wj.heap.size wj W) w8ntcr) := HSntcr.out.trans (hk8ntcr.below2 (fun q hq => by have := HZn.out; have := HSZnt.out; have := HSZntcr.out; omega))
                    refine hK.out _ _ HTntcr.out fun _ => ?_
                    clear hK K
                    refine wpAnyH_ready (rs := [14]) (by kernel_rfl) (by simp) ?_
                    refine AllReadyH.cons rfl (fun K hK => ?_) AllReadyH.nil
                    refine store_wp (P := Tryz.prog) 49 (.tmp 19) (.tmp 118) rfl (wyntc.heap.size) (rc (Op.step (Op.rdT b n j) (Op.drY j)).2 (.slice Bntc nntc dntc) (.slice Cntc mntc fntc)) rfl rfl 49 _ (Bw.keep hbrntcr hk8ntcr (by have := HZn.out; have := HSZnt.out; have := HSZntcr.out; omega)) size_Rp rfl (rc_row _ _ _ _ _ _ _) ?_
                    intro w9ntcr hb9ntcr hs9ntcr hk9ntcr
                    have HUntcr : Hid ((fun W : World => Below wj.heap.size wj W) w9ntcr) := HTntcr.out.trans (hk9ntcr.below2 (fun q hq => by have := HZn.out; have := HSZnt.out; have := HSZntcr.out; omega))
                    refine hK.out _ _ HUntcr.out fun _ => ?_
                    clear hK K
                    refine wpAnyH_done (by kernel_rfl) ?_ _
                    have HFntcr := Lib.hid (VT.two (gt := wyn.heap.size) (gr := wyntc.heap.size) HVx.out HSntcr.out (by have := HZn.out; have := HSZnt.out; have := HSZntcr.out; omega) (by have := HZn.out; have := HSZnt.out; have := HSZntcr.out; omega) (by have := HZn.out; have := HSZnt.out; have := HSZntcr.out; omega) hbtntcr hbrntcr tmntcr rmntcr hb8ntcr hk8ntcr hb9ntcr hk9ntcr)
                    simp only [List.getElem_toArray, List.getElem_cons_succ, List.getElem_cons_zero, Act.put]
                    go_step
                    go_step
                    go_meet
                    case rel => exact ⟨_, _, Antc, kntc, Bntc, nntc, dntc, Cntc, mntc, fntc, rfl, rfl, HFntcr.out.1, HFntcr.out.2⟩
                · skip
                  refine alloc_wp 49 rfl _ zero_Rp ?_
                  intro wyntr hbrntr hsntr hwntr
                  have HSZntr := Lib.hid hsntr
                  clear hsntr
                  have HSntr : Hid ((fun W : World => Below wj.heap.size wj W) wyntr) := HSnt.out.trans (hwntr.mono HSnt.out.size)
                  have hgxntr := HSnt.out.size
                  refine hK.out _ _ HSntr.out fun _ => ?_
                  clear hK K
                  simp only [List.getElem_toArray, List.getElem_cons_succ, List.getElem_cons_zero, Act.put, List.setIfInBounds_toArray, List.set_cons_zero, List.set_cons_succ]
                  have hbtntr := Bw.below hbtnt hwntr
                  refine wpAnyH_ready (rs := [7]) (by kernel_rfl) (by simp) ?_
                  refine AllReadyH.cons rfl (fun K hK => ?_) AllReadyH.nil
                  · skip
                    go_simp
                    refine (HPK.out.run (Op.rdT b n j) A k (Op.drY j) none 0 0 _ (show TM _ A k (Op.rdT b n j) from (VT.below HVx.out HSntr.out).ok 0 rfl) HSj.out (Op.drY_wide (by omega)) (Op.nmd_len j (by omega)) (Nat.le_of_ble_eq_true rfl) (Nat.le_of_ble_eq_true rfl) BS.nil (Nat.le_refl _)).mono ?_
                    rintro e wyntrc ⟨Antrc, kntrc, Bntrc, nntrc, dntrc, Cntrc, mntrc, fntrc, rfl, tmntrc, rmntrc, hbntrc⟩
                    have entrc := Op.do_step (c := (Op.drY j)) HSj.out.inv.may (Nat.le_of_ble_eq_true rfl) (Nat.le_of_ble_eq_true rfl) (Nat.ne_of_beq_eq_false rfl)
                    rw [show Op.doT (Op.rdT b n j) (Op.drY j) = (Op.rdT b n (j + 1)) from entrc.1] at tmntrc ⊢
                    rw [show Op.doR (Op.rdT b n j) (Op.drY j) = (Op.step (Op.rdT b n j) (Op.drY j)).2 from entrc.2] at rmntrc ⊢
                    have hzntrc := hbntrc.size
                    have HSntrc : Hid ((fun W : World => Below wj.heap.size wj W) wyntrc) := HSntr.out.trans (hbntrc.mono HSntr.out.size)
                    have hbtntrc := Bw.below hbtntr hbntrc
                    have hbrntrc := Bw.below hbrntr hbntrc
                    refine hK.out _ _ HSntrc.out fun _ => ?_
                    clear hK K entrc
                    refine takeH (i := 8) 108 (.tuple #[.agg (tc (Op.rdT b n (j + 1)) (.slice Antrc 24 kntrc)).toArray, .agg (rc (Op.step (Op.rdT b n j) (Op.drY j)).2 (.slice Bntrc nntrc dntrc) (.slice Cntrc mntrc fntrc)).toArray]) rfl rfl (by kernel_rfl) (by kernel_rfl) (by kernel_rfl) (fun _ _ _ h => h) (.inl ⟨by rfl, fun W hW => by go_simp⟩) HSntrc.out ?_
                    simp only [Act.put, List.setIfInBounds_toArray, List.set_cons_zero, List.set_cons_succ]
                    refine takeH (i := 9) 117 (.agg (tc (Op.rdT b n (j + 1)) (.slice Antrc 24 kntrc)).toArray) rfl rfl (by kernel_rfl) (by kernel_rfl) (by kernel_rfl) (fun _ _ _ h => h) (.inl ⟨by rfl, fun W hW => by go_simp⟩) HSntrc.out ?_
                    simp only [Act.put, List.setIfInBounds_toArray, List.set_cons_zero, List.set_cons_succ]
                    refine takeH (i := 10) 118 (.agg (rc (Op.step (Op.rdT b n j) (Op.drY j)).2 (.slice Bntrc nntrc dntrc) (.slice Cntrc mntrc fntrc)).toArray) rfl rfl (by kernel_rfl) (by kernel_rfl) (by kernel_rfl) (fun _ _ _ h => h) (.inl ⟨by rfl, fun W hW => by go_simp⟩) HSntrc.out ?_
                    simp only [Act.put, List.setIfInBounds_toArray, List.set_cons_zero, List.set_cons_succ]
                    refine wpAnyH_ready (rs := [13]) (by kernel_rfl) (by simp) ?_
                    refine AllReadyH.cons rfl (fun K hK => ?_) AllReadyH.nil
                    refine store_wp (P := Tryz.prog) 27 (.tmp 18) (.tmp 117) rfl (wyn.heap.size) (tc (Op.rdT b n (j + 1)) (.slice Antrc 24 kntrc)) rfl rfl 27 _ hbtntrc size_Th rfl (tc_row _ _ _ _) ?_
                    intro w8ntrc hb8ntrc hs8ntrc hk8ntrc
                    have HTntrc : Hid ((fun W : World => Below wj.heap.size wj W) w8ntrc) := HSntrc.out.trans (hk8ntrc.below2 (fun q hq => by have := HZn.out; have := HSZnt.out; have := HSZntr.out; omega))
                    refine hK.out _ _ HTntrc.out fun _ => ?_
                    clear hK K
                    refine wpAnyH_ready (rs := [14]) (by kernel_rfl) (by simp) ?_
                    refine AllReadyH.cons rfl (fun K hK => ?_) AllReadyH.nil
                    refine store_wp (P := Tryz.prog) 49 (.tmp 19) (.tmp 118) rfl (wynt.heap.size) (rc (Op.step (Op.rdT b n j) (Op.drY j)).2 (.slice Bntrc nntrc dntrc) (.slice Cntrc mntrc fntrc)) rfl rfl 49 _ (Bw.keep hbrntrc hk8ntrc (by have := HZn.out; have := HSZnt.out; have := HSZntr.out; omega)) size_Rp rfl (rc_row _ _ _ _ _ _ _) ?_
                    intro w9ntrc hb9ntrc hs9ntrc hk9ntrc
                    have HUntrc : Hid ((fun W : World => Below wj.heap.size wj W) w9ntrc) := HTntrc.out.trans (hk9ntrc.below2 (fun q hq => by have := HZn.out; have := HSZnt.out; have := HSZntr.out; omega))
                    refine hK.out _ _ HUntrc.out fun _ => ?_
                    clear hK K
                    refine wpAnyH_done (by kernel_rfl) ?_ _
                    have HFntrc := Lib.hid (VT.two (gt := wyn.heap.size) (gr := wynt.heap.size) HVx.out HSntrc.out (by have := HZn.out; have := HSZnt.out; have := HSZntr.out; omega) (by have := HZn.out; have := HSZnt.out; have := HSZntr.out; omega) (by have := HZn.out; have := HSZnt.out; have := HSZntr.out; omega) hbtntrc hbrntrc tmntrc rmntrc hb8ntrc hk8ntrc hb9ntrc hk9ntrc)
                    simp only [List.getElem_toArray, List.getElem_cons_succ, List.getElem_cons_zero, Act.put]
                    go_step
                    go_step
                    go_meet
                    case rel => exact ⟨_, _, Antrc, kntrc, Bntrc, nntrc, dntrc, Cntrc, mntrc, fntrc, rfl, rfl, HFntrc.out.1, HFntrc.out.2⟩
              · skip
                refine alloc_wp 49 rfl _ zero_Rp ?_
                intro wynr hbrnr hsnr hwnr
                have HSZnr := Lib.hid hsnr
                clear hsnr
                have HSnr : Hid ((fun W : World => Below wj.heap.size wj W) wynr) := HSn.out.trans (hwnr.mono HSn.out.size)
                have hgxnr := HSn.out.size
                refine hK.out _ _ HSnr.out fun _ => ?_
                clear hK K
                simp only [List.getElem_toArray, List.getElem_cons_succ, List.getElem_cons_zero, Act.put, List.setIfInBounds_toArray, List.set_cons_zero, List.set_cons_succ]
                refine wpAnyH_ready (rs := [7, 11]) (by kernel_rfl) (by simp) ?_
                refine AllReadyH.cons rfl (fun K hK => ?_) (AllReadyH.cons rfl (fun K hK => ?_) AllReadyH.nil)
                · skip
                  go_simp
                  refine (HPK.out.run (Op.rdT b n j) A k (Op.drY j) none 0 0 _ (show TM _ A k (Op.rdT b n j) from (VT.below HVx.out HSnr.out).ok 0 rfl) HSj.out (Op.drY_wide (by omega)) (Op.nmd_len j (by omega)) (Nat.le_of_ble_eq_true rfl) (Nat.le_of_ble_eq_true rfl) BS.nil (Nat.le_refl _)).mono ?_
                  rintro e wynrc ⟨Anrc, knrc, Bnrc, nnrc, dnrc, Cnrc, mnrc, fnrc, rfl, tmnrc, rmnrc, hbnrc⟩
                  have enrc := Op.do_step (c := (Op.drY j)) HSj.out.inv.may (Nat.le_of_ble_eq_true rfl) (Nat.le_of_ble_eq_true rfl) (Nat.ne_of_beq_eq_false rfl)
                  rw [show Op.doT (Op.rdT b n j) (Op.drY j) = (Op.rdT b n (j + 1)) from enrc.1] at tmnrc ⊢
                  rw [show Op.doR (Op.rdT b n j) (Op.drY j) = (Op.step (Op.rdT b n j) (Op.drY j)).2 from enrc.2] at rmnrc ⊢
                  have hznrc := hbnrc.size
                  have HSnrc : Hid ((fun W : World => Below wj.heap.size wj W) wynrc) := HSnr.out.trans (hbnrc.mono HSnr.out.size)
                  have hbrnrc := Bw.below hbrnr hbnrc
                  refine hK.out _ _ HSnrc.out fun _ => ?_
                  clear hK K enrc
                  refine takeH (i := 8) 108 (.tuple #[.agg (tc (Op.rdT b n (j + 1)) (.slice Anrc 24 knrc)).toArray, .agg (rc (Op.step (Op.rdT b n j) (Op.drY j)).2 (.slice Bnrc nnrc dnrc) (.slice Cnrc mnrc fnrc)).toArray]) rfl rfl (by kernel_rfl) (by kernel_rfl) (by kernel_rfl) (fun _ _ _ h => h) (.inl ⟨by rfl, fun W hW => by go_simp⟩) HSnrc.out ?_
                  simp only [Act.put, List.setIfInBounds_toArray, List.set_cons_zero, List.set_cons_succ]
                  refine takeH (i := 9) 117 (.agg (tc (Op.rdT b n (j + 1)) (.slice Anrc 24 knrc)).toArray) rfl rfl (by kernel_rfl) (by kernel_rfl) (by kernel_rfl) (fun _ _ _ h => h) (.inl ⟨by rfl, fun W hW => by go_simp⟩) HSnrc.out ?_
                  simp only [Act.put, List.setIfInBounds_toArray, List.set_cons_zero, List.set_cons_succ]
                  refine takeH (i := 10) 118 (.agg (rc (Op.step (Op.rdT b n j) (Op.drY j)).2 (.slice Bnrc nnrc dnrc) (.slice Cnrc mnrc fnrc)).toArray) rfl rfl (by kernel_rfl) (by kernel_rfl) (by kernel_rfl) (fun _ _ _ h => h) (.inl ⟨by rfl, fun W hW => by go_simp⟩) HSnrc.out ?_
                  simp only [Act.put, List.setIfInBounds_toArray, List.set_cons_zero, List.set_cons_succ]
                  refine wpAnyH_ready (rs := [11]) (by kernel_rfl) (by simp) ?_
                  refine AllReadyH.cons rfl (fun K hK => ?_) AllReadyH.nil
                  · skip
                    refine alloc_wp 27 rfl _ zero_Th ?_
                    intro wynrct hbtnrct hsnrct hwnrct
                    have HSZnrct := Lib.hid hsnrct
                    clear hsnrct
                    have HSnrct : Hid ((fun W : World => Below wj.heap.size wj W) wynrct) := HSnrc.out.trans (hwnrct.mono HSnrc.out.size)
                    have hgxnrct := HSnrc.out.size
                    refine hK.out _ _ HSnrct.out fun _ => ?_
                    clear hK K
                    simp only [List.getElem_toArray, List.getElem_cons_succ, List.getElem_cons_zero, Act.put, List.setIfInBounds_toArray, List.set_cons_zero, List.set_cons_succ]
                    have hbrnrct := Bw.below hbrnrc hwnrct
                    have tmnrct := TM.below tmnrc hwnrct
                    have rmnrct := RM.below rmnrc hwnrct
                    refine wpAnyH_ready (rs := [13]) (by kernel_rfl) (by simp) ?_
                    refine AllReadyH.cons rfl (fun K hK => ?_) AllReadyH.nil
                    refine store_wp (P := Tryz.prog) 27 (.tmp 18) (.tmp 117) rfl (wynrc.heap.size) (tc (Op.rdT b n (j + 1)) (.slice Anrc 24 knrc)) rfl rfl 27 _ hbtnrct size_Th rfl (tc_row _ _ _ _) ?_
                    intro w8nrct hb8nrct hs8nrct hk8nrct
                    have HTnrct : Hid ((fun W : World => Below wj.heap.size wj W) w8nrct) := HSnrct.out.trans (hk8nrct.below2 (fun q hq => by have := HZn.out; have := HSZnr.out; have := HSZnrct.out; omega))
                    refine hK.out _ _ HTnrct.out fun _ => ?_
                    clear hK K
                    refine wpAnyH_ready (rs := [14]) (by kernel_rfl) (by simp) ?_
                    refine AllReadyH.cons rfl (fun K hK => ?_) AllReadyH.nil
                    refine store_wp (P := Tryz.prog) 49 (.tmp 19) (.tmp 118) rfl (wyn.heap.size) (rc (Op.step (Op.rdT b n j) (Op.drY j)).2 (.slice Bnrc nnrc dnrc) (.slice Cnrc mnrc fnrc)) rfl rfl 49 _ (Bw.keep hbrnrct hk8nrct (by have := HZn.out; have := HSZnr.out; have := HSZnrct.out; omega)) size_Rp rfl (rc_row _ _ _ _ _ _ _) ?_
                    intro w9nrct hb9nrct hs9nrct hk9nrct
                    have HUnrct : Hid ((fun W : World => Below wj.heap.size wj W) w9nrct) := HTnrct.out.trans (hk9nrct.below2 (fun q hq => by have := HZn.out; have := HSZnr.out; have := HSZnrct.out; omega))
                    refine hK.out _ _ HUnrct.out fun _ => ?_
                    clear hK K
                    refine wpAnyH_done (by kernel_rfl) ?_ _
                    have HFnrct := Lib.hid (VT.two (gt := wynrc.heap.size) (gr := wyn.heap.size) HVx.out HSnrct.out (by have := HZn.out; have := HSZnr.out; have := HSZnrct.out; omega) (by have := HZn.out; have := HSZnr.out; have := HSZnrct.out; omega) (by have := HZn.out; have := HSZnr.out; have := HSZnrct.out; omega) hbtnrct hbrnrct tmnrct rmnrct hb8nrct hk8nrct hb9nrct hk9nrct)
                    simp only [List.getElem_toArray, List.getElem_cons_succ, List.getElem_cons_zero, Act.put]
                    go_step
                    go_step
                    go_meet
                    case rel => exact ⟨_, _, Anrc, knrc, Bnrc, nnrc, dnrc, Cnrc, mnrc, fnrc, rfl, rfl, HFnrct.out.1, HFnrct.out.2⟩
                · skip
                  refine alloc_wp 27 rfl _ zero_Th ?_
                  intro wynrt hbtnrt hsnrt hwnrt
                  have HSZnrt := Lib.hid hsnrt
                  clear hsnrt
                  have HSnrt : Hid ((fun W : World => Below wj.heap.size wj W) wynrt) := HSnr.out.trans (hwnrt.mono HSnr.out.size)
                  have hgxnrt := HSnr.out.size
                  refine hK.out _ _ HSnrt.out fun _ => ?_
                  clear hK K
                  simp only [List.getElem_toArray, List.getElem_cons_succ, List.getElem_cons_zero, Act.put, List.setIfInBounds_toArray, List.set_cons_zero, List.set_cons_succ]
                  have hbrnrt := Bw.below hbrnr hwnrt
                  refine wpAnyH_ready (rs := [7]) (by kernel_rfl) (by simp) ?_
                  refine AllReadyH.cons rfl (fun K hK => ?_) AllReadyH.nil
                  · skip
                    go_simp
                    refine (HPK.out.run (Op.rdT b n j) A k (Op.drY j) none 0 0 _ (show TM _ A k (Op.rdT b n j) from (VT.below HVx.out HSnrt.out).ok 0 rfl) HSj.out (Op.drY_wide (by omega)) (Op.nmd_len j (by omega)) (Nat.le_of_ble_eq_true rfl) (Nat.le_of_ble_eq_true rfl) BS.nil (Nat.le_refl _)).mono ?_
                    rintro e wynrtc ⟨Anrtc, knrtc, Bnrtc, nnrtc, dnrtc, Cnrtc, mnrtc, fnrtc, rfl, tmnrtc, rmnrtc, hbnrtc⟩
                    have enrtc := Op.do_step (c := (Op.drY j)) HSj.out.inv.may (Nat.le_of_ble_eq_true rfl) (Nat.le_of_ble_eq_true rfl) (Nat.ne_of_beq_eq_false rfl)
                    rw [show Op.doT (Op.rdT b n j) (Op.drY j) = (Op.rdT b n (j + 1)) from enrtc.1] at tmnrtc ⊢
                    rw [show Op.doR (Op.rdT b n j) (Op.drY j) = (Op.step (Op.rdT b n j) (Op.drY j)).2 from enrtc.2] at rmnrtc ⊢
                    have hznrtc := hbnrtc.size
                    have HSnrtc : Hid ((fun W : World => Below wj.heap.size wj W) wynrtc) := HSnrt.out.trans (hbnrtc.mono HSnrt.out.size)
                    have hbtnrtc := Bw.below hbtnrt hbnrtc
                    have hbrnrtc := Bw.below hbrnrt hbnrtc
                    refine hK.out _ _ HSnrtc.out fun _ => ?_
                    clear hK K enrtc
                    refine takeH (i := 8) 108 (.tuple #[.agg (tc (Op.rdT b n (j + 1)) (.slice Anrtc 24 knrtc)).toArray, .agg (rc (Op.step (Op.rdT b n j) (Op.drY j)).2 (.slice Bnrtc nnrtc dnrtc) (.slice Cnrtc mnrtc fnrtc)).toArray]) rfl rfl (by kernel_rfl) (by kernel_rfl) (by kernel_rfl) (fun _ _ _ h => h) (.inl ⟨by rfl, fun W hW => by go_simp⟩) HSnrtc.out ?_
                    simp only [Act.put, List.setIfInBounds_toArray, List.set_cons_zero, List.set_cons_succ]
                    refine takeH (i := 9) 117 (.agg (tc (Op.rdT b n (j + 1)) (.slice Anrtc 24 knrtc)).toArray) rfl rfl (by kernel_rfl) (by kernel_rfl) (by kernel_rfl) (fun _ _ _ h => h) (.inl ⟨by rfl, fun W hW => by go_simp⟩) HSnrtc.out ?_
                    simp only [Act.put, List.setIfInBounds_toArray, List.set_cons_zero, List.set_cons_succ]
                    refine takeH (i := 10) 118 (.agg (rc (Op.step (Op.rdT b n j) (Op.drY j)).2 (.slice Bnrtc nnrtc dnrtc) (.slice Cnrtc mnrtc fnrtc)).toArray) rfl rfl (by kernel_rfl) (by kernel_rfl) (by kernel_rfl) (fun _ _ _ h => h) (.inl ⟨by rfl, fun W hW => by go_simp⟩) HSnrtc.out ?_
                    simp only [Act.put, List.setIfInBounds_toArray, List.set_cons_zero, List.set_cons_succ]
                    refine wpAnyH_ready (rs := [13]) (by kernel_rfl) (by simp) ?_
                    refine AllReadyH.cons rfl (fun K hK => ?_) AllReadyH.nil
                    refine store_wp (P := Tryz.prog) 27 (.tmp 18) (.tmp 117) rfl (wynr.heap.size) (tc (Op.rdT b n (j + 1)) (.slice Anrtc 24 knrtc)) rfl rfl 27 _ hbtnrtc size_Th rfl (tc_row _ _ _ _) ?_
                    intro w8nrtc hb8nrtc hs8nrtc hk8nrtc
                    have HTnrtc : Hid ((fun W : World => Below wj.heap.size wj W) w8nrtc) := HSnrtc.out.trans (hk8nrtc.below2 (fun q hq => by have := HZn.out; have := HSZnr.out; have := HSZnrt.out; omega))
                    refine hK.out _ _ HTnrtc.out fun _ => ?_
                    clear hK K
                    refine wpAnyH_ready (rs := [14]) (by kernel_rfl) (by simp) ?_
                    refine AllReadyH.cons rfl (fun K hK => ?_) AllReadyH.nil
                    refine store_wp (P := Tryz.prog) 49 (.tmp 19) (.tmp 118) rfl (wyn.heap.size) (rc (Op.step (Op.rdT b n j) (Op.drY j)).2 (.slice Bnrtc nnrtc dnrtc) (.slice Cnrtc mnrtc fnrtc)) rfl rfl 49 _ (Bw.keep hbrnrtc hk8nrtc (by have := HZn.out; have := HSZnr.out; have := HSZnrt.out; omega)) size_Rp rfl (rc_row _ _ _ _ _ _ _) ?_
                    intro w9nrtc hb9nrtc hs9nrtc hk9nrtc
                    have HUnrtc : Hid ((fun W : World => Below wj.heap.size wj W) w9nrtc) := HTnrtc.out.trans (hk9nrtc.below2 (fun q hq => by have := HZn.out; have := HSZnr.out; have := HSZnrt.out; omega))
                    refine hK.out _ _ HUnrtc.out fun _ => ?_
                    clear hK K
                    refine wpAnyH_done (by kernel_rfl) ?_ _
                    have HFnrtc := Lib.hid (VT.two (gt := wynr.heap.size) (gr := wyn.heap.size) HVx.out HSnrtc.out (by have := HZn.out; have := HSZnr.out; have := HSZnrt.out; omega) (by have := HZn.out; have := HSZnr.out; have := HSZnrt.out; omega) (by have := HZn.out; have := HSZnr.out; have := HSZnrt.out; omega) hbtnrtc hbrnrtc tmnrtc rmnrtc hb8nrtc hk8nrtc hb9nrtc hk9nrtc)
                    simp only [List.getElem_toArray, List.getElem_cons_succ, List.getElem_cons_zero, Act.put]
                    go_step
                    go_step
                    go_meet
                    case rel => exact ⟨_, _, Anrtc, knrtc, Bnrtc, nnrtc, dnrtc, Cnrtc, mnrtc, fnrtc, rfl, rfl, HFnrtc.out.1, HFnrtc.out.2⟩
            · skip
              refine alloc_wp 27 rfl _ zero_Th ?_
              intro wyt hbtt hst hwt
              have HSZt := Lib.hid hst
              clear hst
              have HSt : Hid ((fun W : World => Below wj.heap.size wj W) wyt) := HSd.out.trans (hwt.mono HSd.out.size)
              have hgxt := HSd.out.size
              refine hK.out _ _ HSt.out fun _ => ?_
              clear hK K
              simp only [List.getElem_toArray, List.getElem_cons_succ, List.getElem_cons_zero, Act.put, List.setIfInBounds_toArray, List.set_cons_zero, List.set_cons_succ]
              refine wpAnyH_ready (rs := [5, 12]) (by kernel_rfl) (by simp) ?_
              refine AllReadyH.cons rfl (fun K hK => ?_) (AllReadyH.cons rfl (fun K hK => ?_) AllReadyH.nil)
              · skip
                go_simp
                refine (lawnamed_any j _ (by omega)).mono ?_
                rintro e wytn ⟨rfl, hbtn⟩
                have hztn := hbtn.size
                have HStn : Hid ((fun W : World => Below wj.heap.size wj W) wytn) := HSt.out.trans (hbtn.mono HSt.out.size)
                have hbttn := Bw.below hbtt hbtn
                have HZtn := Lib.hid hztn
                refine hK.out _ _ HStn.out fun _ => ?_
                clear hK K hztn hbtn
                rw [HNM.out]
                refine takeH (i := 6) 115 (.agg #[.int .u32 0, .int .u32 0, .int .u32 10, .int .u32 1, .int .u32 1, .string (txt (Op.nmd j)), .int .u32 0, .int .u32 0, .string ⟨#[]⟩, .int .u64 0, .int .u64 0, .int .u32 0, .int .u32 0, .slice none 0 0]) rfl rfl (by kernel_rfl) (by kernel_rfl) (by kernel_rfl) (fun _ _ _ h => h) (.inl ⟨by rfl, fun W hW => by go_simp⟩) HStn.out ?_
                simp only [Act.put, List.setIfInBounds_toArray, List.set_cons_zero, List.set_cons_succ]
                refine wpAnyH_ready (rs := [7, 12]) (by kernel_rfl) (by simp) ?_
                refine AllReadyH.cons rfl (fun K hK => ?_) (AllReadyH.cons rfl (fun K hK => ?_) AllReadyH.nil)
                · skip
                  go_simp
                  refine (HPK.out.run (Op.rdT b n j) A k (Op.drY j) none 0 0 _ (show TM _ A k (Op.rdT b n j) from (VT.below HVx.out HStn.out).ok 0 rfl) HSj.out (Op.drY_wide (by omega)) (Op.nmd_len j (by omega)) (Nat.le_of_ble_eq_true rfl) (Nat.le_of_ble_eq_true rfl) BS.nil (Nat.le_refl _)).mono ?_
                  rintro e wytnc ⟨Atnc, ktnc, Btnc, ntnc, dtnc, Ctnc, mtnc, ftnc, rfl, tmtnc, rmtnc, hbtnc⟩
                  have etnc := Op.do_step (c := (Op.drY j)) HSj.out.inv.may (Nat.le_of_ble_eq_true rfl) (Nat.le_of_ble_eq_true rfl) (Nat.ne_of_beq_eq_false rfl)
                  rw [show Op.doT (Op.rdT b n j) (Op.drY j) = (Op.rdT b n (j + 1)) from etnc.1] at tmtnc ⊢
                  rw [show Op.doR (Op.rdT b n j) (Op.drY j) = (Op.step (Op.rdT b n j) (Op.drY j)).2 from etnc.2] at rmtnc ⊢
                  have hztnc := hbtnc.size
                  have HStnc : Hid ((fun W : World => Below wj.heap.size wj W) wytnc) := HStn.out.trans (hbtnc.mono HStn.out.size)
                  have hbttnc := Bw.below hbttn hbtnc
                  refine hK.out _ _ HStnc.out fun _ => ?_
                  clear hK K etnc
                  refine takeH (i := 8) 108 (.tuple #[.agg (tc (Op.rdT b n (j + 1)) (.slice Atnc 24 ktnc)).toArray, .agg (rc (Op.step (Op.rdT b n j) (Op.drY j)).2 (.slice Btnc ntnc dtnc) (.slice Ctnc mtnc ftnc)).toArray]) rfl rfl (by kernel_rfl) (by kernel_rfl) (by kernel_rfl) (fun _ _ _ h => h) (.inl ⟨by rfl, fun W hW => by go_simp⟩) HStnc.out ?_
                  simp only [Act.put, List.setIfInBounds_toArray, List.set_cons_zero, List.set_cons_succ]
                  refine takeH (i := 9) 117 (.agg (tc (Op.rdT b n (j + 1)) (.slice Atnc 24 ktnc)).toArray) rfl rfl (by kernel_rfl) (by kernel_rfl) (by kernel_rfl) (fun _ _ _ h => h) (.inl ⟨by rfl, fun W hW => by go_simp⟩) HStnc.out ?_
                  simp only [Act.put, List.setIfInBounds_toArray, List.set_cons_zero, List.set_cons_succ]
                  refine takeH (i := 10) 118 (.agg (rc (Op.step (Op.rdT b n j) (Op.drY j)).2 (.slice Btnc ntnc dtnc) (.slice Ctnc mtnc ftnc)).toArray) rfl rfl (by kernel_rfl) (by kernel_rfl) (by kernel_rfl) (fun _ _ _ h => h) (.inl ⟨by rfl, fun W hW => by go_simp⟩) HStnc.out ?_
                  simp only [Act.put, List.setIfInBounds_toArray, List.set_cons_zero, List.set_cons_succ]
                  refine wpAnyH_ready (rs := [12]) (by kernel_rfl) (by simp) ?_
                  refine AllReadyH.cons rfl (fun K hK => ?_) AllReadyH.nil
                  · skip
                    refine alloc_wp 49 rfl _ zero_Rp ?_
                    intro wytncr hbrtncr hstncr hwtncr
                    have HSZtncr := Lib.hid hstncr
                    clear hstncr
                    have HStncr : Hid ((fun W : World => Below wj.heap.size wj W) wytncr) := HStnc.out.trans (hwtncr.mono HStnc.out.size)
                    have hgxtncr := HStnc.out.size
                    refine hK.out _ _ HStncr.out fun _ => ?_
                    clear hK K
                    simp only [List.getElem_toArray, List.getElem_cons_succ, List.getElem_cons_zero, Act.put, List.setIfInBounds_toArray, List.set_cons_zero, List.set_cons_succ]
                    have hbttncr := Bw.below hbttnc hwtncr
                    have tmtncr := TM.below tmtnc hwtncr
                    have rmtncr := RM.below rmtnc hwtncr
                    refine wpAnyH_ready (rs := [13]) (by kernel_rfl) (by simp) ?_
                    refine AllReadyH.cons rfl (fun K hK => ?_) AllReadyH.nil
                    refine store_wp (P := Tryz.prog) 27 (.tmp 18) (.tmp 117) rfl (wj.drew.heap.size) (tc (Op.rdT b n (j + 1)) (.slice Atnc 24 ktnc)) rfl rfl 27 _ hbttncr size_Th rfl (tc_row _ _ _ _) ?_
                    intro w8tncr hb8tncr hs8tncr hk8tncr
                    have HTtncr : Hid ((fun W : World => Below wj.heap.size wj W) w8tncr) := HStncr.out.trans (hk8tncr.below2 (fun q hq => by have := HSZt.out; have := HZtn.out; have := HSZtncr.out; omega))
                    refine hK.out _ _ HTtncr.out fun _ => ?_
                    clear hK K
                    refine wpAnyH_ready (rs := [14]) (by kernel_rfl) (by simp) ?_
                    refine AllReadyH.cons rfl (fun K hK => ?_) AllReadyH.nil
                    refine store_wp (P := Tryz.prog) 49 (.tmp 19) (.tmp 118) rfl (wytnc.heap.size) (rc (Op.step (Op.rdT b n j) (Op.drY j)).2 (.slice Btnc ntnc dtnc) (.slice Ctnc mtnc ftnc)) rfl rfl 49 _ (Bw.keep hbrtncr hk8tncr (by have := HSZt.out; have := HZtn.out; have := HSZtncr.out; omega)) size_Rp rfl (rc_row _ _ _ _ _ _ _) ?_
                    intro w9tncr hb9tncr hs9tncr hk9tncr
                    have HUtncr : Hid ((fun W : World => Below wj.heap.size wj W) w9tncr) := HTtncr.out.trans (hk9tncr.below2 (fun q hq => by have := HSZt.out; have := HZtn.out; have := HSZtncr.out; omega))
                    refine hK.out _ _ HUtncr.out fun _ => ?_
                    clear hK K
                    refine wpAnyH_done (by kernel_rfl) ?_ _
                    have HFtncr := Lib.hid (VT.two (gt := wj.drew.heap.size) (gr := wytnc.heap.size) HVx.out HStncr.out (by have := HSZt.out; have := HZtn.out; have := HSZtncr.out; omega) (by have := HSZt.out; have := HZtn.out; have := HSZtncr.out; omega) (by have := HSZt.out; have := HZtn.out; have := HSZtncr.out; omega) hbttncr hbrtncr tmtncr rmtncr hb8tncr hk8tncr hb9tncr hk9tncr)
                    simp only [List.getElem_toArray, List.getElem_cons_succ, List.getElem_cons_zero, Act.put]
                    go_step
                    go_step
                    go_meet
                    case rel => exact ⟨_, _, Atnc, ktnc, Btnc, ntnc, dtnc, Ctnc, mtnc, ftnc, rfl, rfl, HFtncr.out.1, HFtncr.out.2⟩
                · skip
                  refine alloc_wp 49 rfl _ zero_Rp ?_
                  intro wytnr hbrtnr hstnr hwtnr
                  have HSZtnr := Lib.hid hstnr
                  clear hstnr
                  have HStnr : Hid ((fun W : World => Below wj.heap.size wj W) wytnr) := HStn.out.trans (hwtnr.mono HStn.out.size)
                  have hgxtnr := HStn.out.size
                  refine hK.out _ _ HStnr.out fun _ => ?_
                  clear hK K
                  simp only [List.getElem_toArray, List.getElem_cons_succ, List.getElem_cons_zero, Act.put, List.setIfInBounds_toArray, List.set_cons_zero, List.set_cons_succ]
                  have hbttnr := Bw.below hbttn hwtnr
                  refine wpAnyH_ready (rs := [7]) (by kernel_rfl) (by simp) ?_
                  refine AllReadyH.cons rfl (fun K hK => ?_) AllReadyH.nil
                  · skip
                    go_simp
                    refine (HPK.out.run (Op.rdT b n j) A k (Op.drY j) none 0 0 _ (show TM _ A k (Op.rdT b n j) from (VT.below HVx.out HStnr.out).ok 0 rfl) HSj.out (Op.drY_wide (by omega)) (Op.nmd_len j (by omega)) (Nat.le_of_ble_eq_true rfl) (Nat.le_of_ble_eq_true rfl) BS.nil (Nat.le_refl _)).mono ?_
                    rintro e wytnrc ⟨Atnrc, ktnrc, Btnrc, ntnrc, dtnrc, Ctnrc, mtnrc, ftnrc, rfl, tmtnrc, rmtnrc, hbtnrc⟩
                    have etnrc := Op.do_step (c := (Op.drY j)) HSj.out.inv.may (Nat.le_of_ble_eq_true rfl) (Nat.le_of_ble_eq_true rfl) (Nat.ne_of_beq_eq_false rfl)
                    rw [show Op.doT (Op.rdT b n j) (Op.drY j) = (Op.rdT b n (j + 1)) from etnrc.1] at tmtnrc ⊢
                    rw [show Op.doR (Op.rdT b n j) (Op.drY j) = (Op.step (Op.rdT b n j) (Op.drY j)).2 from etnrc.2] at rmtnrc ⊢
                    have hztnrc := hbtnrc.size
                    have HStnrc : Hid ((fun W : World => Below wj.heap.size wj W) wytnrc) := HStnr.out.trans (hbtnrc.mono HStnr.out.size)
                    have hbttnrc := Bw.below hbttnr hbtnrc
                    have hbrtnrc := Bw.below hbrtnr hbtnrc
                    refine hK.out _ _ HStnrc.out fun _ => ?_
                    clear hK K etnrc
                    refine takeH (i := 8) 108 (.tuple #[.agg (tc (Op.rdT b n (j + 1)) (.slice Atnrc 24 ktnrc)).toArray, .agg (rc (Op.step (Op.rdT b n j) (Op.drY j)).2 (.slice Btnrc ntnrc dtnrc) (.slice Ctnrc mtnrc ftnrc)).toArray]) rfl rfl (by kernel_rfl) (by kernel_rfl) (by kernel_rfl) (fun _ _ _ h => h) (.inl ⟨by rfl, fun W hW => by go_simp⟩) HStnrc.out ?_
                    simp only [Act.put, List.setIfInBounds_toArray, List.set_cons_zero, List.set_cons_succ]
                    refine takeH (i := 9) 117 (.agg (tc (Op.rdT b n (j + 1)) (.slice Atnrc 24 ktnrc)).toArray) rfl rfl (by kernel_rfl) (by kernel_rfl) (by kernel_rfl) (fun _ _ _ h => h) (.inl ⟨by rfl, fun W hW => by go_simp⟩) HStnrc.out ?_
                    simp only [Act.put, List.setIfInBounds_toArray, List.set_cons_zero, List.set_cons_succ]
                    refine takeH (i := 10) 118 (.agg (rc (Op.step (Op.rdT b n j) (Op.drY j)).2 (.slice Btnrc ntnrc dtnrc) (.slice Ctnrc mtnrc ftnrc)).toArray) rfl rfl (by kernel_rfl) (by kernel_rfl) (by kernel_rfl) (fun _ _ _ h => h) (.inl ⟨by rfl, fun W hW => by go_simp⟩) HStnrc.out ?_
                    simp only [Act.put, List.setIfInBounds_toArray, List.set_cons_zero, List.set_cons_succ]
                    refine wpAnyH_ready (rs := [13]) (by kernel_rfl) (by simp) ?_
                    refine AllReadyH.cons rfl (fun K hK => ?_) AllReadyH.nil
                    refine store_wp (P := Tryz.prog) 27 (.tmp 18) (.tmp 117) rfl (wj.drew.heap.size) (tc (Op.rdT b n (j + 1)) (.slice Atnrc 24 ktnrc)) rfl rfl 27 _ hbttnrc size_Th rfl (tc_row _ _ _ _) ?_
                    intro w8tnrc hb8tnrc hs8tnrc hk8tnrc
                    have HTtnrc : Hid ((fun W : World => Below wj.heap.size wj W) w8tnrc) := HStnrc.out.trans (hk8tnrc.below2 (fun q hq => by have := HSZt.out; have := HZtn.out; have := HSZtnr.out; omega))
                    refine hK.out _ _ HTtnrc.out fun _ => ?_
                    clear hK K
                    refine wpAnyH_ready (rs := [14]) (by kernel_rfl) (by simp) ?_
                    refine AllReadyH.cons rfl (fun K hK => ?_) AllReadyH.nil
                    refine store_wp (P := Tryz.prog) 49 (.tmp 19) (.tmp 118) rfl (wytn.heap.size) (rc (Op.step (Op.rdT b n j) (Op.drY j)).2 (.slice Btnrc ntnrc dtnrc) (.slice Ctnrc mtnrc ftnrc)) rfl rfl 49 _ (Bw.keep hbrtnrc hk8tnrc (by have := HSZt.out; have := HZtn.out; have := HSZtnr.out; omega)) size_Rp rfl (rc_row _ _ _ _ _ _ _) ?_
                    intro w9tnrc hb9tnrc hs9tnrc hk9tnrc
                    have HUtnrc : Hid ((fun W : World => Below wj.heap.size wj W) w9tnrc) := HTtnrc.out.trans (hk9tnrc.below2 (fun q hq => by have := HSZt.out; have := HZtn.out; have := HSZtnr.out; omega))
                    refine hK.out _ _ HUtnrc.out fun _ => ?_
                    clear hK K
                    refine wpAnyH_done (by kernel_rfl) ?_ _
                    have HFtnrc := Lib.hid (VT.two (gt := wj.drew.heap.size) (gr := wytn.heap.size) HVx.out HStnrc.out (by have := HSZt.out; have := HZtn.out; have := HSZtnr.out; omega) (by have := HSZt.out; have := HZtn.out; have := HSZtnr.out; omega) (by have := HSZt.out; have := HZtn.out; have := HSZtnr.out; omega) hbttnrc hbrtnrc tmtnrc rmtnrc hb8tnrc hk8tnrc hb9tnrc hk9tnrc)
                    simp only [List.getElem_toArray, List.getElem_cons_succ, List.getElem_cons_zero, Act.put]
                    go_step
                    go_step
                    go_meet
                    case rel => exact ⟨_, _, Atnrc, ktnrc, Btnrc, ntnrc, dtnrc, Ctnrc, mtnrc, ftnrc, rfl, rfl, HFtnrc.out.1, HFtnrc.out.2⟩
              · skip
                refine alloc_wp 49 rfl _ zero_Rp ?_
                intro wytr hbrtr hstr hwtr
                have HSZtr := Lib.hid hstr
                clear hstr
                have HStr : Hid ((fun W : World => Below wj.heap.size wj W) wytr) := HSt.out.trans (hwtr.mono HSt.out.size)
                have hgxtr := HSt.out.size
                refine hK.out _ _ HStr.out fun _ => ?_
                clear hK K
                simp only [List.getElem_toArray, List.getElem_cons_succ, List.getElem_cons_zero, Act.put, List.setIfInBounds_toArray, List.set_cons_zero, List.set_cons_succ]
                have hbttr := Bw.below hbtt hwtr
                refine wpAnyH_ready (rs := [5]) (by kernel_rfl) (by simp) ?_
                refine AllReadyH.cons rfl (fun K hK => ?_) AllReadyH.nil
                · skip
                  go_simp
                  refine (lawnamed_any j _ (by omega)).mono ?_
                  rintro e wytrn ⟨rfl, hbtrn⟩
                  have hztrn := hbtrn.size
                  have HStrn : Hid ((fun W : World => Below wj.heap.size wj W) wytrn) := HStr.out.trans (hbtrn.mono HStr.out.size)
                  have hbttrn := Bw.below hbttr hbtrn
                  have hbrtrn := Bw.below hbrtr hbtrn
                  have HZtrn := Lib.hid hztrn
                  refine hK.out _ _ HStrn.out fun _ => ?_
                  clear hK K hztrn hbtrn
                  rw [HNM.out]
                  refine takeH (i := 6) 115 (.agg #[.int .u32 0, .int .u32 0, .int .u32 10, .int .u32 1, .int .u32 1, .string (txt (Op.nmd j)), .int .u32 0, .int .u32 0, .string ⟨#[]⟩, .int .u64 0, .int .u64 0, .int .u32 0, .int .u32 0, .slice none 0 0]) rfl rfl (by kernel_rfl) (by kernel_rfl) (by kernel_rfl) (fun _ _ _ h => h) (.inl ⟨by rfl, fun W hW => by go_simp⟩) HStrn.out ?_
                  simp only [Act.put, List.setIfInBounds_toArray, List.set_cons_zero, List.set_cons_succ]
                  refine wpAnyH_ready (rs := [7]) (by kernel_rfl) (by simp) ?_
                  refine AllReadyH.cons rfl (fun K hK => ?_) AllReadyH.nil
                  · skip
                    go_simp
                    refine (HPK.out.run (Op.rdT b n j) A k (Op.drY j) none 0 0 _ (show TM _ A k (Op.rdT b n j) from (VT.below HVx.out HStrn.out).ok 0 rfl) HSj.out (Op.drY_wide (by omega)) (Op.nmd_len j (by omega)) (Nat.le_of_ble_eq_true rfl) (Nat.le_of_ble_eq_true rfl) BS.nil (Nat.le_refl _)).mono ?_
                    rintro e wytrnc ⟨Atrnc, ktrnc, Btrnc, ntrnc, dtrnc, Ctrnc, mtrnc, ftrnc, rfl, tmtrnc, rmtrnc, hbtrnc⟩
                    have etrnc := Op.do_step (c := (Op.drY j)) HSj.out.inv.may (Nat.le_of_ble_eq_true rfl) (Nat.le_of_ble_eq_true rfl) (Nat.ne_of_beq_eq_false rfl)
                    rw [show Op.doT (Op.rdT b n j) (Op.drY j) = (Op.rdT b n (j + 1)) from etrnc.1] at tmtrnc ⊢
                    rw [show Op.doR (Op.rdT b n j) (Op.drY j) = (Op.step (Op.rdT b n j) (Op.drY j)).2 from etrnc.2] at rmtrnc ⊢
                    have hztrnc := hbtrnc.size
                    have HStrnc : Hid ((fun W : World => Below wj.heap.size wj W) wytrnc) := HStrn.out.trans (hbtrnc.mono HStrn.out.size)
                    have hbttrnc := Bw.below hbttrn hbtrnc
                    have hbrtrnc := Bw.below hbrtrn hbtrnc
                    refine hK.out _ _ HStrnc.out fun _ => ?_
                    clear hK K etrnc
                    refine takeH (i := 8) 108 (.tuple #[.agg (tc (Op.rdT b n (j + 1)) (.slice Atrnc 24 ktrnc)).toArray, .agg (rc (Op.step (Op.rdT b n j) (Op.drY j)).2 (.slice Btrnc ntrnc dtrnc) (.slice Ctrnc mtrnc ftrnc)).toArray]) rfl rfl (by kernel_rfl) (by kernel_rfl) (by kernel_rfl) (fun _ _ _ h => h) (.inl ⟨by rfl, fun W hW => by go_simp⟩) HStrnc.out ?_
                    simp only [Act.put, List.setIfInBounds_toArray, List.set_cons_zero, List.set_cons_succ]
                    refine takeH (i := 9) 117 (.agg (tc (Op.rdT b n (j + 1)) (.slice Atrnc 24 ktrnc)).toArray) rfl rfl (by kernel_rfl) (by kernel_rfl) (by kernel_rfl) (fun _ _ _ h => h) (.inl ⟨by rfl, fun W hW => by go_simp⟩) HStrnc.out ?_
                    simp only [Act.put, List.setIfInBounds_toArray, List.set_cons_zero, List.set_cons_succ]
                    refine takeH (i := 10) 118 (.agg (rc (Op.step (Op.rdT b n j) (Op.drY j)).2 (.slice Btrnc ntrnc dtrnc) (.slice Ctrnc mtrnc ftrnc)).toArray) rfl rfl (by kernel_rfl) (by kernel_rfl) (by kernel_rfl) (fun _ _ _ h => h) (.inl ⟨by rfl, fun W hW => by go_simp⟩) HStrnc.out ?_
                    simp only [Act.put, List.setIfInBounds_toArray, List.set_cons_zero, List.set_cons_succ]
                    refine wpAnyH_ready (rs := [13]) (by kernel_rfl) (by simp) ?_
                    refine AllReadyH.cons rfl (fun K hK => ?_) AllReadyH.nil
                    refine store_wp (P := Tryz.prog) 27 (.tmp 18) (.tmp 117) rfl (wj.drew.heap.size) (tc (Op.rdT b n (j + 1)) (.slice Atrnc 24 ktrnc)) rfl rfl 27 _ hbttrnc size_Th rfl (tc_row _ _ _ _) ?_
                    intro w8trnc hb8trnc hs8trnc hk8trnc
                    have HTtrnc : Hid ((fun W : World => Below wj.heap.size wj W) w8trnc) := HStrnc.out.trans (hk8trnc.below2 (fun q hq => by have := HSZt.out; have := HSZtr.out; have := HZtrn.out; omega))
                    refine hK.out _ _ HTtrnc.out fun _ => ?_
                    clear hK K
                    refine wpAnyH_ready (rs := [14]) (by kernel_rfl) (by simp) ?_
                    refine AllReadyH.cons rfl (fun K hK => ?_) AllReadyH.nil
                    refine store_wp (P := Tryz.prog) 49 (.tmp 19) (.tmp 118) rfl (wyt.heap.size) (rc (Op.step (Op.rdT b n j) (Op.drY j)).2 (.slice Btrnc ntrnc dtrnc) (.slice Ctrnc mtrnc ftrnc)) rfl rfl 49 _ (Bw.keep hbrtrnc hk8trnc (by have := HSZt.out; have := HSZtr.out; have := HZtrn.out; omega)) size_Rp rfl (rc_row _ _ _ _ _ _ _) ?_
                    intro w9trnc hb9trnc hs9trnc hk9trnc
                    have HUtrnc : Hid ((fun W : World => Below wj.heap.size wj W) w9trnc) := HTtrnc.out.trans (hk9trnc.below2 (fun q hq => by have := HSZt.out; have := HSZtr.out; have := HZtrn.out; omega))
                    refine hK.out _ _ HUtrnc.out fun _ => ?_
                    clear hK K
                    refine wpAnyH_done (by kernel_rfl) ?_ _
                    have HFtrnc := Lib.hid (VT.two (gt := wj.drew.heap.size) (gr := wyt.heap.size) HVx.out HStrnc.out (by have := HSZt.out; have := HSZtr.out; have := HZtrn.out; omega) (by have := HSZt.out; have := HSZtr.out; have := HZtrn.out; omega) (by have := HSZt.out; have := HSZtr.out; have := HZtrn.out; omega) hbttrnc hbrtrnc tmtrnc rmtrnc hb8trnc hk8trnc hb9trnc hk9trnc)
                    simp only [List.getElem_toArray, List.getElem_cons_succ, List.getElem_cons_zero, Act.put]
                    go_step
                    go_step
                    go_meet
                    case rel => exact ⟨_, _, Atrnc, ktrnc, Btrnc, ntrnc, dtrnc, Ctrnc, mtrnc, ftrnc, rfl, rfl, HFtrnc.out.1, HFtrnc.out.2⟩
            · skip
              refine alloc_wp 49 rfl _ zero_Rp ?_
              intro wyr hbrr hsr hwr
              have HSZr := Lib.hid hsr
              clear hsr
              have HSr : Hid ((fun W : World => Below wj.heap.size wj W) wyr) := HSd.out.trans (hwr.mono HSd.out.size)
              have hgxr := HSd.out.size
              refine hK.out _ _ HSr.out fun _ => ?_
              clear hK K
              simp only [List.getElem_toArray, List.getElem_cons_succ, List.getElem_cons_zero, Act.put, List.setIfInBounds_toArray, List.set_cons_zero, List.set_cons_succ]
              refine wpAnyH_ready (rs := [5, 11]) (by kernel_rfl) (by simp) ?_
              refine AllReadyH.cons rfl (fun K hK => ?_) (AllReadyH.cons rfl (fun K hK => ?_) AllReadyH.nil)
              · skip
                go_simp
                refine (lawnamed_any j _ (by omega)).mono ?_
                rintro e wyrn ⟨rfl, hbrn⟩
                have hzrn := hbrn.size
                have HSrn : Hid ((fun W : World => Below wj.heap.size wj W) wyrn) := HSr.out.trans (hbrn.mono HSr.out.size)
                have hbrrn := Bw.below hbrr hbrn
                have HZrn := Lib.hid hzrn
                refine hK.out _ _ HSrn.out fun _ => ?_
                clear hK K hzrn hbrn
                rw [HNM.out]
                refine takeH (i := 6) 115 (.agg #[.int .u32 0, .int .u32 0, .int .u32 10, .int .u32 1, .int .u32 1, .string (txt (Op.nmd j)), .int .u32 0, .int .u32 0, .string ⟨#[]⟩, .int .u64 0, .int .u64 0, .int .u32 0, .int .u32 0, .slice none 0 0]) rfl rfl (by kernel_rfl) (by kernel_rfl) (by kernel_rfl) (fun _ _ _ h => h) (.inl ⟨by rfl, fun W hW => by go_simp⟩) HSrn.out ?_
                simp only [Act.put, List.setIfInBounds_toArray, List.set_cons_zero, List.set_cons_succ]
                refine wpAnyH_ready (rs := [7, 11]) (by kernel_rfl) (by simp) ?_
                refine AllReadyH.cons rfl (fun K hK => ?_) (AllReadyH.cons rfl (fun K hK => ?_) AllReadyH.nil)
                · skip
                  go_simp
                  refine (HPK.out.run (Op.rdT b n j) A k (Op.drY j) none 0 0 _ (show TM _ A k (Op.rdT b n j) from (VT.below HVx.out HSrn.out).ok 0 rfl) HSj.out (Op.drY_wide (by omega)) (Op.nmd_len j (by omega)) (Nat.le_of_ble_eq_true rfl) (Nat.le_of_ble_eq_true rfl) BS.nil (Nat.le_refl _)).mono ?_
                  rintro e wyrnc ⟨Arnc, krnc, Brnc, nrnc, drnc, Crnc, mrnc, frnc, rfl, tmrnc, rmrnc, hbrnc⟩
                  have ernc := Op.do_step (c := (Op.drY j)) HSj.out.inv.may (Nat.le_of_ble_eq_true rfl) (Nat.le_of_ble_eq_true rfl) (Nat.ne_of_beq_eq_false rfl)
                  rw [show Op.doT (Op.rdT b n j) (Op.drY j) = (Op.rdT b n (j + 1)) from ernc.1] at tmrnc ⊢
                  rw [show Op.doR (Op.rdT b n j) (Op.drY j) = (Op.step (Op.rdT b n j) (Op.drY j)).2 from ernc.2] at rmrnc ⊢
                  have hzrnc := hbrnc.size
                  have HSrnc : Hid ((fun W : World => Below wj.heap.size wj W) wyrnc) := HSrn.out.trans (hbrnc.mono HSrn.out.size)
                  have hbrrnc := Bw.below hbrrn hbrnc
                  refine hK.out _ _ HSrnc.out fun _ => ?_
                  clear hK K ernc
                  refine takeH (i := 8) 108 (.tuple #[.agg (tc (Op.rdT b n (j + 1)) (.slice Arnc 24 krnc)).toArray, .agg (rc (Op.step (Op.rdT b n j) (Op.drY j)).2 (.slice Brnc nrnc drnc) (.slice Crnc mrnc frnc)).toArray]) rfl rfl (by kernel_rfl) (by kernel_rfl) (by kernel_rfl) (fun _ _ _ h => h) (.inl ⟨by rfl, fun W hW => by go_simp⟩) HSrnc.out ?_
                  simp only [Act.put, List.setIfInBounds_toArray, List.set_cons_zero, List.set_cons_succ]
                  refine takeH (i := 9) 117 (.agg (tc (Op.rdT b n (j + 1)) (.slice Arnc 24 krnc)).toArray) rfl rfl (by kernel_rfl) (by kernel_rfl) (by kernel_rfl) (fun _ _ _ h => h) (.inl ⟨by rfl, fun W hW => by go_simp⟩) HSrnc.out ?_
                  simp only [Act.put, List.setIfInBounds_toArray, List.set_cons_zero, List.set_cons_succ]
                  refine takeH (i := 10) 118 (.agg (rc (Op.step (Op.rdT b n j) (Op.drY j)).2 (.slice Brnc nrnc drnc) (.slice Crnc mrnc frnc)).toArray) rfl rfl (by kernel_rfl) (by kernel_rfl) (by kernel_rfl) (fun _ _ _ h => h) (.inl ⟨by rfl, fun W hW => by go_simp⟩) HSrnc.out ?_
                  simp only [Act.put, List.setIfInBounds_toArray, List.set_cons_zero, List.set_cons_succ]
                  refine wpAnyH_ready (rs := [11]) (by kernel_rfl) (by simp) ?_
                  refine AllReadyH.cons rfl (fun K hK => ?_) AllReadyH.nil
                  · skip
                    refine alloc_wp 27 rfl _ zero_Th ?_
                    intro wyrnct hbtrnct hsrnct hwrnct
                    have HSZrnct := Lib.hid hsrnct
                    clear hsrnct
                    have HSrnct : Hid ((fun W : World => Below wj.heap.size wj W) wyrnct) := HSrnc.out.trans (hwrnct.mono HSrnc.out.size)
                    have hgxrnct := HSrnc.out.size
                    refine hK.out _ _ HSrnct.out fun _ => ?_
                    clear hK K
                    simp only [List.getElem_toArray, List.getElem_cons_succ, List.getElem_cons_zero, Act.put, List.setIfInBounds_toArray, List.set_cons_zero, List.set_cons_succ]
                    have hbrrnct := Bw.below hbrrnc hwrnct
                    have tmrnct := TM.below tmrnc hwrnct
                    have rmrnct := RM.below rmrnc hwrnct
                    refine wpAnyH_ready (rs := [13]) (by kernel_rfl) (by simp) ?_
                    refine AllReadyH.cons rfl (fun K hK => ?_) AllReadyH.nil
                    refine store_wp (P := Tryz.prog) 27 (.tmp 18) (.tmp 117) rfl (wyrnc.heap.size) (tc (Op.rdT b n (j + 1)) (.slice Arnc 24 krnc)) rfl rfl 27 _ hbtrnct size_Th rfl (tc_row _ _ _ _) ?_
                    intro w8rnct hb8rnct hs8rnct hk8rnct
                    have HTrnct : Hid ((fun W : World => Below wj.heap.size wj W) w8rnct) := HSrnct.out.trans (hk8rnct.below2 (fun q hq => by have := HSZr.out; have := HZrn.out; have := HSZrnct.out; omega))
                    refine hK.out _ _ HTrnct.out fun _ => ?_
                    clear hK K
                    refine wpAnyH_ready (rs := [14]) (by kernel_rfl) (by simp) ?_
                    refine AllReadyH.cons rfl (fun K hK => ?_) AllReadyH.nil
                    refine store_wp (P := Tryz.prog) 49 (.tmp 19) (.tmp 118) rfl (wj.drew.heap.size) (rc (Op.step (Op.rdT b n j) (Op.drY j)).2 (.slice Brnc nrnc drnc) (.slice Crnc mrnc frnc)) rfl rfl 49 _ (Bw.keep hbrrnct hk8rnct (by have := HSZr.out; have := HZrn.out; have := HSZrnct.out; omega)) size_Rp rfl (rc_row _ _ _ _ _ _ _) ?_
                    intro w9rnct hb9rnct hs9rnct hk9rnct
                    have HUrnct : Hid ((fun W : World => Below wj.heap.size wj W) w9rnct) := HTrnct.out.trans (hk9rnct.below2 (fun q hq => by have := HSZr.out; have := HZrn.out; have := HSZrnct.out; omega))
                    refine hK.out _ _ HUrnct.out fun _ => ?_
                    clear hK K
                    refine wpAnyH_done (by kernel_rfl) ?_ _
                    have HFrnct := Lib.hid (VT.two (gt := wyrnc.heap.size) (gr := wj.drew.heap.size) HVx.out HSrnct.out (by have := HSZr.out; have := HZrn.out; have := HSZrnct.out; omega) (by have := HSZr.out; have := HZrn.out; have := HSZrnct.out; omega) (by have := HSZr.out; have := HZrn.out; have := HSZrnct.out; omega) hbtrnct hbrrnct tmrnct rmrnct hb8rnct hk8rnct hb9rnct hk9rnct)
                    simp only [List.getElem_toArray, List.getElem_cons_succ, List.getElem_cons_zero, Act.put]
                    go_step
                    go_step
                    go_meet
                    case rel => exact ⟨_, _, Arnc, krnc, Brnc, nrnc, drnc, Crnc, mrnc, frnc, rfl, rfl, HFrnct.out.1, HFrnct.out.2⟩
                · skip
                  refine alloc_wp 27 rfl _ zero_Th ?_
                  intro wyrnt hbtrnt hsrnt hwrnt
                  have HSZrnt := Lib.hid hsrnt
                  clear hsrnt
                  have HSrnt : Hid ((fun W : World => Below wj.heap.size wj W) wyrnt) := HSrn.out.trans (hwrnt.mono HSrn.out.size)
                  have hgxrnt := HSrn.out.size
                  refine hK.out _ _ HSrnt.out fun _ => ?_
                  clear hK K
                  simp only [List.getElem_toArray, List.getElem_cons_succ, List.getElem_cons_zero, Act.put, List.setIfInBounds_toArray, List.set_cons_zero, List.set_cons_succ]
                  have hbrrnt := Bw.below hbrrn hwrnt
                  refine wpAnyH_ready (rs := [7]) (by kernel_rfl) (by simp) ?_
                  refine AllReadyH.cons rfl (fun K hK => ?_) AllReadyH.nil
                  · skip
                    go_simp
                    refine (HPK.out.run (Op.rdT b n j) A k (Op.drY j) none 0 0 _ (show TM _ A k (Op.rdT b n j) from (VT.below HVx.out HSrnt.out).ok 0 rfl) HSj.out (Op.drY_wide (by omega)) (Op.nmd_len j (by omega)) (Nat.le_of_ble_eq_true rfl) (Nat.le_of_ble_eq_true rfl) BS.nil (Nat.le_refl _)).mono ?_
                    rintro e wyrntc ⟨Arntc, krntc, Brntc, nrntc, drntc, Crntc, mrntc, frntc, rfl, tmrntc, rmrntc, hbrntc⟩
                    have erntc := Op.do_step (c := (Op.drY j)) HSj.out.inv.may (Nat.le_of_ble_eq_true rfl) (Nat.le_of_ble_eq_true rfl) (Nat.ne_of_beq_eq_false rfl)
                    rw [show Op.doT (Op.rdT b n j) (Op.drY j) = (Op.rdT b n (j + 1)) from erntc.1] at tmrntc ⊢
                    rw [show Op.doR (Op.rdT b n j) (Op.drY j) = (Op.step (Op.rdT b n j) (Op.drY j)).2 from erntc.2] at rmrntc ⊢
                    have hzrntc := hbrntc.size
                    have HSrntc : Hid ((fun W : World => Below wj.heap.size wj W) wyrntc) := HSrnt.out.trans (hbrntc.mono HSrnt.out.size)
                    have hbtrntc := Bw.below hbtrnt hbrntc
                    have hbrrntc := Bw.below hbrrnt hbrntc
                    refine hK.out _ _ HSrntc.out fun _ => ?_
                    clear hK K erntc
                    refine takeH (i := 8) 108 (.tuple #[.agg (tc (Op.rdT b n (j + 1)) (.slice Arntc 24 krntc)).toArray, .agg (rc (Op.step (Op.rdT b n j) (Op.drY j)).2 (.slice Brntc nrntc drntc) (.slice Crntc mrntc frntc)).toArray]) rfl rfl (by kernel_rfl) (by kernel_rfl) (by kernel_rfl) (fun _ _ _ h => h) (.inl ⟨by rfl, fun W hW => by go_simp⟩) HSrntc.out ?_
                    simp only [Act.put, List.setIfInBounds_toArray, List.set_cons_zero, List.set_cons_succ]
                    refine takeH (i := 9) 117 (.agg (tc (Op.rdT b n (j + 1)) (.slice Arntc 24 krntc)).toArray) rfl rfl (by kernel_rfl) (by kernel_rfl) (by kernel_rfl) (fun _ _ _ h => h) (.inl ⟨by rfl, fun W hW => by go_simp⟩) HSrntc.out ?_
                    simp only [Act.put, List.setIfInBounds_toArray, List.set_cons_zero, List.set_cons_succ]
                    refine takeH (i := 10) 118 (.agg (rc (Op.step (Op.rdT b n j) (Op.drY j)).2 (.slice Brntc nrntc drntc) (.slice Crntc mrntc frntc)).toArray) rfl rfl (by kernel_rfl) (by kernel_rfl) (by kernel_rfl) (fun _ _ _ h => h) (.inl ⟨by rfl, fun W hW => by go_simp⟩) HSrntc.out ?_
                    simp only [Act.put, List.setIfInBounds_toArray, List.set_cons_zero, List.set_cons_succ]
                    refine wpAnyH_ready (rs := [13]) (by kernel_rfl) (by simp) ?_
                    refine AllReadyH.cons rfl (fun K hK => ?_) AllReadyH.nil
                    refine store_wp (P := Tryz.prog) 27 (.tmp 18) (.tmp 117) rfl (wyrn.heap.size) (tc (Op.rdT b n (j + 1)) (.slice Arntc 24 krntc)) rfl rfl 27 _ hbtrntc size_Th rfl (tc_row _ _ _ _) ?_
                    intro w8rntc hb8rntc hs8rntc hk8rntc
                    have HTrntc : Hid ((fun W : World => Below wj.heap.size wj W) w8rntc) := HSrntc.out.trans (hk8rntc.below2 (fun q hq => by have := HSZr.out; have := HZrn.out; have := HSZrnt.out; omega))
                    refine hK.out _ _ HTrntc.out fun _ => ?_
                    clear hK K
                    refine wpAnyH_ready (rs := [14]) (by kernel_rfl) (by simp) ?_
                    refine AllReadyH.cons rfl (fun K hK => ?_) AllReadyH.nil
                    refine store_wp (P := Tryz.prog) 49 (.tmp 19) (.tmp 118) rfl (wj.drew.heap.size) (rc (Op.step (Op.rdT b n j) (Op.drY j)).2 (.slice Brntc nrntc drntc) (.slice Crntc mrntc frntc)) rfl rfl 49 _ (Bw.keep hbrrntc hk8rntc (by have := HSZr.out; have := HZrn.out; have := HSZrnt.out; omega)) size_Rp rfl (rc_row _ _ _ _ _ _ _) ?_
                    intro w9rntc hb9rntc hs9rntc hk9rntc
                    have HUrntc : Hid ((fun W : World => Below wj.heap.size wj W) w9rntc) := HTrntc.out.trans (hk9rntc.below2 (fun q hq => by have := HSZr.out; have := HZrn.out; have := HSZrnt.out; omega))
                    refine hK.out _ _ HUrntc.out fun _ => ?_
                    clear hK K
                    refine wpAnyH_done (by kernel_rfl) ?_ _
                    have HFrntc := Lib.hid (VT.two (gt := wyrn.heap.size) (gr := wj.drew.heap.size) HVx.out HSrntc.out (by have := HSZr.out; have := HZrn.out; have := HSZrnt.out; omega) (by have := HSZr.out; have := HZrn.out; have := HSZrnt.out; omega) (by have := HSZr.out; have := HZrn.out; have := HSZrnt.out; omega) hbtrntc hbrrntc tmrntc rmrntc hb8rntc hk8rntc hb9rntc hk9rntc)
                    simp only [List.getElem_toArray, List.getElem_cons_succ, List.getElem_cons_zero, Act.put]
                    go_step
                    go_step
                    go_meet
                    case rel => exact ⟨_, _, Arntc, krntc, Brntc, nrntc, drntc, Crntc, mrntc, frntc, rfl, rfl, HFrntc.out.1, HFrntc.out.2⟩
              · skip
                refine alloc_wp 27 rfl _ zero_Th ?_
                intro wyrt hbtrt hsrt hwrt
                have HSZrt := Lib.hid hsrt
                clear hsrt
                have HSrt : Hid ((fun W : World => Below wj.heap.size wj W) wyrt) := HSr.out.trans (hwrt.mono HSr.out.size)
                have hgxrt := HSr.out.size
                refine hK.out _ _ HSrt.out fun _ => ?_
                clear hK K
                simp only [List.getElem_toArray, List.getElem_cons_succ, List.getElem_cons_zero, Act.put, List.setIfInBounds_toArray, List.set_cons_zero, List.set_cons_succ]
                have hbrrt := Bw.below hbrr hwrt
                refine wpAnyH_ready (rs := [5]) (by kernel_rfl) (by simp) ?_
                refine AllReadyH.cons rfl (fun K hK => ?_) AllReadyH.nil
                · skip
                  go_simp
                  refine (lawnamed_any j _ (by omega)).mono ?_
                  rintro e wyrtn ⟨rfl, hbrtn⟩
                  have hzrtn := hbrtn.size
                  have HSrtn : Hid ((fun W : World => Below wj.heap.size wj W) wyrtn) := HSrt.out.trans (hbrtn.mono HSrt.out.size)
                  have hbtrtn := Bw.below hbtrt hbrtn
                  have hbrrtn := Bw.below hbrrt hbrtn
                  have HZrtn := Lib.hid hzrtn
                  refine hK.out _ _ HSrtn.out fun _ => ?_
                  clear hK K hzrtn hbrtn
                  rw [HNM.out]
                  refine takeH (i := 6) 115 (.agg #[.int .u32 0, .int .u32 0, .int .u32 10, .int .u32 1, .int .u32 1, .string (txt (Op.nmd j)), .int .u32 0, .int .u32 0, .string ⟨#[]⟩, .int .u64 0, .int .u64 0, .int .u32 0, .int .u32 0, .slice none 0 0]) rfl rfl (by kernel_rfl) (by kernel_rfl) (by kernel_rfl) (fun _ _ _ h => h) (.inl ⟨by rfl, fun W hW => by go_simp⟩) HSrtn.out ?_
                  simp only [Act.put, List.setIfInBounds_toArray, List.set_cons_zero, List.set_cons_succ]
                  refine wpAnyH_ready (rs := [7]) (by kernel_rfl) (by simp) ?_
                  refine AllReadyH.cons rfl (fun K hK => ?_) AllReadyH.nil
                  · skip
                    go_simp
                    refine (HPK.out.run (Op.rdT b n j) A k (Op.drY j) none 0 0 _ (show TM _ A k (Op.rdT b n j) from (VT.below HVx.out HSrtn.out).ok 0 rfl) HSj.out (Op.drY_wide (by omega)) (Op.nmd_len j (by omega)) (Nat.le_of_ble_eq_true rfl) (Nat.le_of_ble_eq_true rfl) BS.nil (Nat.le_refl _)).mono ?_
                    rintro e wyrtnc ⟨Artnc, krtnc, Brtnc, nrtnc, drtnc, Crtnc, mrtnc, frtnc, rfl, tmrtnc, rmrtnc, hbrtnc⟩
                    have ertnc := Op.do_step (c := (Op.drY j)) HSj.out.inv.may (Nat.le_of_ble_eq_true rfl) (Nat.le_of_ble_eq_true rfl) (Nat.ne_of_beq_eq_false rfl)
                    rw [show Op.doT (Op.rdT b n j) (Op.drY j) = (Op.rdT b n (j + 1)) from ertnc.1] at tmrtnc ⊢
                    rw [show Op.doR (Op.rdT b n j) (Op.drY j) = (Op.step (Op.rdT b n j) (Op.drY j)).2 from ertnc.2] at rmrtnc ⊢
                    have hzrtnc := hbrtnc.size
                    have HSrtnc : Hid ((fun W : World => Below wj.heap.size wj W) wyrtnc) := HSrtn.out.trans (hbrtnc.mono HSrtn.out.size)
                    have hbtrtnc := Bw.below hbtrtn hbrtnc
                    have hbrrtnc := Bw.below hbrrtn hbrtnc
                    refine hK.out _ _ HSrtnc.out fun _ => ?_
                    clear hK K ertnc
                    refine takeH (i := 8) 108 (.tuple #[.agg (tc (Op.rdT b n (j + 1)) (.slice Artnc 24 krtnc)).toArray, .agg (rc (Op.step (Op.rdT b n j) (Op.drY j)).2 (.slice Brtnc nrtnc drtnc) (.slice Crtnc mrtnc frtnc)).toArray]) rfl rfl (by kernel_rfl) (by kernel_rfl) (by kernel_rfl) (fun _ _ _ h => h) (.inl ⟨by rfl, fun W hW => by go_simp⟩) HSrtnc.out ?_
                    simp only [Act.put, List.setIfInBounds_toArray, List.set_cons_zero, List.set_cons_succ]
                    refine takeH (i := 9) 117 (.agg (tc (Op.rdT b n (j + 1)) (.slice Artnc 24 krtnc)).toArray) rfl rfl (by kernel_rfl) (by kernel_rfl) (by kernel_rfl) (fun _ _ _ h => h) (.inl ⟨by rfl, fun W hW => by go_simp⟩) HSrtnc.out ?_
                    simp only [Act.put, List.setIfInBounds_toArray, List.set_cons_zero, List.set_cons_succ]
                    refine takeH (i := 10) 118 (.agg (rc (Op.step (Op.rdT b n j) (Op.drY j)).2 (.slice Brtnc nrtnc drtnc) (.slice Crtnc mrtnc frtnc)).toArray) rfl rfl (by kernel_rfl) (by kernel_rfl) (by kernel_rfl) (fun _ _ _ h => h) (.inl ⟨by rfl, fun W hW => by go_simp⟩) HSrtnc.out ?_
                    simp only [Act.put, List.setIfInBounds_toArray, List.set_cons_zero, List.set_cons_succ]
                    refine wpAnyH_ready (rs := [13]) (by kernel_rfl) (by simp) ?_
                    refine AllReadyH.cons rfl (fun K hK => ?_) AllReadyH.nil
                    refine store_wp (P := Tryz.prog) 27 (.tmp 18) (.tmp 117) rfl (wyr.heap.size) (tc (Op.rdT b n (j + 1)) (.slice Artnc 24 krtnc)) rfl rfl 27 _ hbtrtnc size_Th rfl (tc_row _ _ _ _) ?_
                    intro w8rtnc hb8rtnc hs8rtnc hk8rtnc
                    have HTrtnc : Hid ((fun W : World => Below wj.heap.size wj W) w8rtnc) := HSrtnc.out.trans (hk8rtnc.below2 (fun q hq => by have := HSZr.out; have := HSZrt.out; have := HZrtn.out; omega))
                    refine hK.out _ _ HTrtnc.out fun _ => ?_
                    clear hK K
                    refine wpAnyH_ready (rs := [14]) (by kernel_rfl) (by simp) ?_
                    refine AllReadyH.cons rfl (fun K hK => ?_) AllReadyH.nil
                    refine store_wp (P := Tryz.prog) 49 (.tmp 19) (.tmp 118) rfl (wj.drew.heap.size) (rc (Op.step (Op.rdT b n j) (Op.drY j)).2 (.slice Brtnc nrtnc drtnc) (.slice Crtnc mrtnc frtnc)) rfl rfl 49 _ (Bw.keep hbrrtnc hk8rtnc (by have := HSZr.out; have := HSZrt.out; have := HZrtn.out; omega)) size_Rp rfl (rc_row _ _ _ _ _ _ _) ?_
                    intro w9rtnc hb9rtnc hs9rtnc hk9rtnc
                    have HUrtnc : Hid ((fun W : World => Below wj.heap.size wj W) w9rtnc) := HTrtnc.out.trans (hk9rtnc.below2 (fun q hq => by have := HSZr.out; have := HSZrt.out; have := HZrtn.out; omega))
                    refine hK.out _ _ HUrtnc.out fun _ => ?_
                    clear hK K
                    refine wpAnyH_done (by kernel_rfl) ?_ _
                    have HFrtnc := Lib.hid (VT.two (gt := wyr.heap.size) (gr := wj.drew.heap.size) HVx.out HSrtnc.out (by have := HSZr.out; have := HSZrt.out; have := HZrtn.out; omega) (by have := HSZr.out; have := HSZrt.out; have := HZrtn.out; omega) (by have := HSZr.out; have := HSZrt.out; have := HZrtn.out; omega) hbtrtnc hbrrtnc tmrtnc rmrtnc hb8rtnc hk8rtnc hb9rtnc hk9rtnc)
                    simp only [List.getElem_toArray, List.getElem_cons_succ, List.getElem_cons_zero, Act.put]
                    go_step
                    go_step
                    go_meet
                    case rel => exact ⟨_, _, Artnc, krtnc, Brtnc, nrtnc, drtnc, Crtnc, mrtnc, frtnc, rfl, rfl, HFrtnc.out.1, HFrtnc.out.2⟩
          case rest =>
          obtain ⟨gyt, gyr, Ay, ky, By, ny, dy, Cy, my, fy, rfl, rfl, HVy, HBEy⟩ := hcut
          have ey := Op.do_step (c := (Op.drY j)) HSj.out.inv.may (Nat.le_of_ble_eq_true rfl) (Nat.le_of_ble_eq_true rfl) (Nat.ne_of_beq_eq_false rfl)
          have HSy : Hid (Op.Sound (Op.rdT b n (j + 1))) := by show Op.Sound _; rw [show (Op.rdT b n (j + 1)) = Op.doT (Op.rdT b n j) (Op.drY j) from ey.1.symm]; exact HSj.out.doT (Op.drY_wide (by omega))
          clear ey HVx
          have HRD := Lib.hid (Op.rd_ok b n hn4 j hlt)
          have s2 := HVy.out.cell 3 rfl 2 _ rfl
          have s3 := HVy.out.cell 5 rfl 2 _ rfl
          rw [HRD.out.1] at s2
          rw [HRD.out.2] at s3
          clear HBEx HBEy HRD HNM
          go_wp2_with (first
            | (refine wpList_load_part rfl 27 (.tmp 18) rfl gyt 0 rfl _ Tryz.underlying27 rfl (tc (Op.rdT b n (j + 1)) (.slice Ay 24 ky)) 27 _ (HVy.out.bw 4 rfl) size_Th (fun j u hu => by rw [Nat.zero_add]; exact hu) ?_)
            | (refine wpList_store_part rfl 27 (.tmp 7) (.tmp 127) rfl g1t 0 (tc (Op.rdT b n (j + 1)) (.slice Ay 24 ky)) rfl rfl 27 _ (HVy.out.bw 0 rfl) size_Th (by simp [tc, Vr.cells]) (tc_row _ _ _ _) ?_
               intro w6u hbu6 hsu6 hku6
               have HV6 : Hid (VT w w6u [(g1t, .th Ay ky (Op.rdT b n (j + 1))), (g1r, .rp B1 n1 d1 C1 m1 f1 Op.drR0), (gxt, .th Ax kx (Op.step (Op.rdT b n j) (Op.drX j)).1), (gxr, .rp Bx nx dx Cx mx fx (Op.step (Op.rdT b n j) (Op.drX j)).2), (gyt, .th Ay ky (Op.rdT b n (j + 1))), (gyr, .rp By ny dy Cy my fy (Op.step (Op.rdT b n j) (Op.drY j)).2)]) := HVy.out.put 0 (u := .th Ay ky (Op.rdT b n (j + 1))) rfl hbu6 hku6 (show TM _ _ _ _ from HVy.out.ok 4 rfl)
               clear hbu6 hsu6 hku6))
          clear HVy
          have HV7 : Hid (VT w _ [(g1t, .th Ay ky (Op.rdT b n (j + 1))), (g1r, .rp B1 n1 d1 C1 m1 f1 Op.drR0)]) := VT.left (us := [(gxt, .th Ax kx (Op.step (Op.rdT b n j) (Op.drX j)).1), (gxr, .rp Bx nx dx Cx mx fx (Op.step (Op.rdT b n j) (Op.drX j)).2), (gyt, .th Ay ky (Op.rdT b n (j + 1))), (gyr, .rp By ny dy Cy my fy (Op.step (Op.rdT b n j) (Op.drY j)).2)]) HV6.out
          clear HV6
          clear s2 s3
          go_wp2_with fail
          go_roundw
          case rel => exact ⟨j + 1, Ay, ky, by omega, by go_num, HV7⟩
          case measure => simp [intOf]; omega
        · obtain rfl : n = j := by omega
          have HSj : Hid (Op.Sound (Op.rdT b n n)) := Op.rd_sound b n (by omega) n (by omega)
          clear hlt hj
          go_wp2_with (refine wpList_load_part rfl 27 (.tmp 7) rfl g1t 0 rfl _ Tryz.underlying27 rfl (tc (Op.rdT b n n) (.slice A 24 k)) 27 _ (HV.out.bw 0 rfl) size_Th (fun j u hu => by rw [Nat.zero_add]; exact hu) ?_)
          refine (HPK.out.run (Op.rdT b n n) A k (Op.cl 11 0 1 [100]) none 0 0 _ (show TM _ A k (Op.rdT b n n) from HV.out.ok 0 rfl) HSj.out (Op.cl_wide (by decide) (by decide) (by decide)) (Nat.le_of_ble_eq_true rfl) (Nat.le_of_ble_eq_true rfl) (Nat.le_of_ble_eq_true rfl) BS.nil (Nat.le_refl _)).mono ?_
          rintro e w9a ⟨A9, k9, B9, n9, d9, C9, m9, f9, rfl, tm9, rm9, hb9⟩
          have e9 := Op.do_step (c := (Op.cl 11 0 1 [100])) HSj.out.inv.may (Nat.le_of_ble_eq_true rfl) (Nat.le_of_ble_eq_true rfl) (Nat.ne_of_beq_eq_false rfl)
          have HS9 : Hid (Op.Sound (Op.step (Op.rdT b n n) (Op.cl 11 0 1 [100])).1) := by show Op.Sound _; rw [show (Op.step (Op.rdT b n n) (Op.cl 11 0 1 [100])).1 = Op.doT (Op.rdT b n n) (Op.cl 11 0 1 [100]) from e9.1.symm]; exact HSj.out.doT (Op.cl_wide (by decide) (by decide) (by decide))
          rw [show Op.doT (Op.rdT b n n) (Op.cl 11 0 1 [100]) = (Op.step (Op.rdT b n n) (Op.cl 11 0 1 [100])).1 from e9.1] at tm9 ⊢
          rw [show Op.doR (Op.rdT b n n) (Op.cl 11 0 1 [100]) = (Op.step (Op.rdT b n n) (Op.cl 11 0 1 [100])).2 from e9.2] at rm9 ⊢
          have HV9a := Lib.hid (HV.out.below hb9)
          clear e9 hb9
          go_upto_region 26 with (first
            | (refine wpList_alloc_any rfl 27 rfl _ zero_Th ?_
               intro w9t hbt9 hst9 hwt9)
            | (refine wpList_alloc_any rfl 49 rfl _ zero_Rp ?_
               intro w9r hbr9 hsr9 hwr9
               have hbt29 : Bw w9r w9a.heap.size (tc Op.zeroT (.slice none 0 0)) 27 := Bw.below hbt9 hwr9)
            | (refine wpList_store_part rfl 27 (.tmp 20) (.tmp 133) rfl w9a.heap.size 0 (tc (Op.step (Op.rdT b n n) (Op.cl 11 0 1 [100])).1 (.slice A9 24 k9)) rfl rfl 27 _ hbt29 size_Th (by simp [tc]) (tc_row _ _ _ _) ?_
               intro w9u hbu9 hsu9 hku9
               have hbr29 : Bw w9u w9t.heap.size (rc Rp.zero (.slice none 0 0) (.slice none 0 0)) 49 := Bw.keep hbr9 hku9 (by omega))
            | (refine wpList_store_part rfl 49 (.tmp 21) (.tmp 134) rfl w9t.heap.size 0 (rc (Op.step (Op.rdT b n n) (Op.cl 11 0 1 [100])).2 (.slice B9 n9 d9) (.slice C9 m9 f9)) rfl rfl 49 _ hbr29 size_Rp (by simp [rc]) (rc_row _ _ _ _ _ _ _) ?_
               intro w9v hbv9 hsv9 hkv9))
          have hbe9 : Below w9a.heap.size w9a w9v := ((hwt9.trans (hwr9.mono (by omega))).trans (hku9.below2 (fun k hk => by omega))).trans (hkv9.below2 (fun k hk => by omega))
          have HV9 : Hid (VT w w9v [(g1t, .th A k (Op.rdT b n n)), (g1r, .rp B1 n1 d1 C1 m1 f1 Op.drR0), (w9a.heap.size, .th A9 k9 (Op.step (Op.rdT b n n) (Op.cl 11 0 1 [100])).1), (w9t.heap.size, .rp B9 n9 d9 C9 m9 f9 (Op.step (Op.rdT b n n) (Op.cl 11 0 1 [100])).2)]) := VT.push2 HV9a.out (g := w9a.heap.size) (g' := w9t.heap.size) (v := .th A9 k9 (Op.step (Op.rdT b n n) (Op.cl 11 0 1 [100])).1) (v' := .rp B9 n9 d9 C9 m9 f9 (Op.step (Op.rdT b n n) (Op.cl 11 0 1 [100])).2) (Nat.le_refl _) (by omega) (by omega) (Bw.keep hbu9 hkv9 (by omega)) hbv9 hbe9 tm9 rm9
          clear HV9a hbe9 hbt9 hst9 hwt9 hbr9 hsr9 hwr9 hbt29 hbu9 hsu9 hku9 hbr29 hbv9 hsv9 hkv9 tm9 rm9 HV
          generalize w9t.heap.size = g9r at *
          generalize w9a.heap.size = g9t at *
          have r3 := HV9.out.cell 1 rfl 3 _ rfl
          have r4 := HV9.out.cell 1 rfl 4 _ rfl
          rw [show Op.drR0.ati = 1 from Op.dr_r.2.1] at r3
          rw [show Op.drR0.atg = 1 from Op.dr_r.2.2] at r4
          go_wp2_with (refine wpList_load_part rfl 27 (.tmp 20) rfl g9t 0 rfl _ Tryz.underlying27 rfl (tc (Op.step (Op.rdT b n n) (Op.cl 11 0 1 [100])).1 (.slice A9 24 k9)) 27 _ (HV9.out.bw 2 rfl) size_Th (fun j u hu => by rw [Nat.zero_add]; exact hu) ?_)
          refine (HPK.out.run (Op.step (Op.rdT b n n) (Op.cl 11 0 1 [100])).1 A9 k9 (Op.cl 1 1 1 [97]) none 0 0 _ (show TM _ A9 k9 (Op.step (Op.rdT b n n) (Op.cl 11 0 1 [100])).1 from HV9.out.ok 2 rfl) HS9.out (Op.cl_wide (by decide) (by decide) (by decide)) (Nat.le_of_ble_eq_true rfl) (Nat.le_of_ble_eq_true rfl) (Nat.le_of_ble_eq_true rfl) BS.nil (Nat.le_refl _)).mono ?_
          rintro e w10a ⟨A10, k10, B10, n10, d10, C10, m10, f10, rfl, tm10, rm10, hb10⟩
          have e10 := Op.do_step (c := (Op.cl 1 1 1 [97])) HS9.out.inv.may (Nat.le_of_ble_eq_true rfl) (Nat.le_of_ble_eq_true rfl) (Nat.ne_of_beq_eq_false rfl)
          have HS10 : Hid (Op.Sound (Op.step (Op.step (Op.rdT b n n) (Op.cl 11 0 1 [100])).1 (Op.cl 1 1 1 [97])).1) := by show Op.Sound _; rw [show (Op.step (Op.step (Op.rdT b n n) (Op.cl 11 0 1 [100])).1 (Op.cl 1 1 1 [97])).1 = Op.doT (Op.step (Op.rdT b n n) (Op.cl 11 0 1 [100])).1 (Op.cl 1 1 1 [97]) from e10.1.symm]; exact HS9.out.doT (Op.cl_wide (by decide) (by decide) (by decide))
          rw [show Op.doT (Op.step (Op.rdT b n n) (Op.cl 11 0 1 [100])).1 (Op.cl 1 1 1 [97]) = (Op.step (Op.step (Op.rdT b n n) (Op.cl 11 0 1 [100])).1 (Op.cl 1 1 1 [97])).1 from e10.1] at tm10 ⊢
          rw [show Op.doR (Op.step (Op.rdT b n n) (Op.cl 11 0 1 [100])).1 (Op.cl 1 1 1 [97]) = (Op.step (Op.step (Op.rdT b n n) (Op.cl 11 0 1 [100])).1 (Op.cl 1 1 1 [97])).2 from e10.2] at rm10 ⊢
          have HV10a := Lib.hid (HV9.out.below hb10)
          clear e10 hb10
          go_upto_region 27 with (first
            | (refine wpList_alloc_any rfl 27 rfl _ zero_Th ?_
               intro w10t hbt10 hst10 hwt10)
            | (refine wpList_alloc_any rfl 49 rfl _ zero_Rp ?_
               intro w10r hbr10 hsr10 hwr10
               have hbt210 : Bw w10r w10a.heap.size (tc Op.zeroT (.slice none 0 0)) 27 := Bw.below hbt10 hwr10)
            | (refine wpList_store_part rfl 27 (.tmp 22) (.tmp 141) rfl w10a.heap.size 0 (tc (Op.step (Op.step (Op.rdT b n n) (Op.cl 11 0 1 [100])).1 (Op.cl 1 1 1 [97])).1 (.slice A10 24 k10)) rfl rfl 27 _ hbt210 size_Th (by simp [tc]) (tc_row _ _ _ _) ?_
               intro w10u hbu10 hsu10 hku10
               have hbr210 : Bw w10u w10t.heap.size (rc Rp.zero (.slice none 0 0) (.slice none 0 0)) 49 := Bw.keep hbr10 hku10 (by omega))
            | (refine wpList_store_part rfl 49 (.tmp 23) (.tmp 142) rfl w10t.heap.size 0 (rc (Op.step (Op.step (Op.rdT b n n) (Op.cl 11 0 1 [100])).1 (Op.cl 1 1 1 [97])).2 (.slice B10 n10 d10) (.slice C10 m10 f10)) rfl rfl 49 _ hbr210 size_Rp (by simp [rc]) (rc_row _ _ _ _ _ _ _) ?_
               intro w10v hbv10 hsv10 hkv10))
          have hbe10 : Below w10a.heap.size w10a w10v := ((hwt10.trans (hwr10.mono (by omega))).trans (hku10.below2 (fun k hk => by omega))).trans (hkv10.below2 (fun k hk => by omega))
          have HV10 : Hid (VT w w10v [(g1t, .th A k (Op.rdT b n n)), (g1r, .rp B1 n1 d1 C1 m1 f1 Op.drR0), (g9t, .th A9 k9 (Op.step (Op.rdT b n n) (Op.cl 11 0 1 [100])).1), (g9r, .rp B9 n9 d9 C9 m9 f9 (Op.step (Op.rdT b n n) (Op.cl 11 0 1 [100])).2), (w10t.heap.size, .rp B10 n10 d10 C10 m10 f10 (Op.step (Op.step (Op.rdT b n n) (Op.cl 11 0 1 [100])).1 (Op.cl 1 1 1 [97])).2)]) := HV10a.out.push (g := w10t.heap.size) (v := .rp B10 n10 d10 C10 m10 f10 (Op.step (Op.step (Op.rdT b n n) (Op.cl 11 0 1 [100])).1 (Op.cl 1 1 1 [97])).2) (by omega) hbv10 hbe10 rm10 
          clear HV10a hbe10 hbt10 hst10 hwt10 hbr10 hsr10 hwr10 hbt210 hbu10 hsu10 hku10 hbr210 hbv10 hsv10 hkv10 tm10 rm10 HV9
          generalize w10t.heap.size = g10r at *
          generalize w10a.heap.size = g10t at *
          have HRE := Lib.hid (Op.rd_end b n hn4)
          have HT9 : Hid (TM w10v A9 k9 (Op.step (Op.rdT b n n) (Op.cl 11 0 1 [100])).1) := HV10.out.ok 2 rfl
          have c0 := HV10.out.cell 2 rfl 0 _ rfl
          have c1 := HV10.out.cell 2 rfl 1 _ rfl
          have c2 := HV10.out.cell 2 rfl 2 _ rfl
          have s2 := HV10.out.cell 3 rfl 2 _ rfl
          have s3 := HV10.out.cell 4 rfl 2 _ rfl
          rw [HRE.out.1] at s2
          rw [HRE.out.2.1] at s3
          clear r3 r4 HSj HS10
          go_wp2_with fail
          refine (HPK.out.used _ _ _ _ HT9.out HS9.out).mono ?_
          rintro e w11 ⟨rfl, hb11⟩
          rw [HRE.out.2.2]
          have HBF : Hid (Below w.heap.size w w11) := (HV10.out.below hb11).bel
          clear hb11 HV10 HRE
          go_wp2_with fail
          go_ret
          exact ⟨rfl, HBF.out⟩
end Go.Proofs.YtpbpdnjlomhkdaaGreat
