/-
  The law OpsLists (layer 13).
-/
import Derived.Test.YtndnkfnhgakibaaGreatOListM
import Derived.Test.YtndnkfnhgakibaaGreatORow
import Derived.Test.YtndnkfnhgakibaaGreatOSnd
namespace Go.Proofs.YtndnkfnhgakibaaGreat
open Go.RowKit Go.Shelf
attribute [local go_sem] Oper.semAt_some

/-- Texts as cells. -/
def tv (L : List (List UInt8)) : List Value := L.map fun s => .string (txt s)
theorem tv_at {L : List (List UInt8)} {i : Nat} {s : List UInt8} (h : L[i]? = some s) : (tv L)[i]? = some (.string (txt s)) := by simp [tv, h]
set_option maxRecDepth 100000 in
set_option maxHeartbeats 8000000 in
theorem lists_walk (HP : Pk) (A1 : Option Addr) (len cap : Nat) (l : List UInt8) (m v : Nat) (w : World) (hl : BS w A1 len l) (hm : m < 256) (hv : v < 18446744073709551616) :
    Calls Tryz.prog 14 #[.slice A1 len cap, .int .u8 (m : Int), .int .u64 (v : Int)] w fun e w' => e = .returned (.bool true) ∧ Below w.heap.size w w' := by
  have HPK := Lib.hid HP
  have HL := Lib.hid hl
  clear HP hl
  obtain ⟨p, hp⟩ : ∃ p, m % 4 + 1 = p := ⟨_, rfl⟩
  have HPI : Hid ((m : Int) % 4 + 1 = (p : Int)) := by show _ = _; omega
  have hp4 : 1 ≤ p ∧ p ≤ 4 := by omega
  have HPP := Lib.hid hp4
  clear hp
  go_enter Tryz.func14, Tryz.ntmps14
  go_wp2_with fail
  refine (awakeO_any HPK.out w).mono ?_
  rintro e w0 ⟨rfl, hb0⟩
  have HB0 := Lib.hid hb0
  clear hb0
  by_cases h20 : 10 < len
  · have k2 : decide ((10 : Int) < (len : Int)) = true := by simp; omega
    go_wp2_with fail
    go_ret
    exact ⟨rfl, HB0.out⟩
  have k2 : decide ((10 : Int) < (len : Int)) = false := by simp; omega
  go_upto_region 6 with fail
  clear k2
  go_wp2_with fail
  refine (HPK.out.format 30 w0 (by omega)).mono ?_
  rintro e w1 ⟨A0, k0, rfl, tm0, hb1⟩
  have HT0 := Lib.hid tm0
  have HV0 : Hid (VT w w1 []) := VT.nil (HB0.out.trans (hb1.mono HB0.out.size))
  clear tm0 hb1 HB0
  go_upto_region 7 with (first
    | (refine wpList_alloc_any rfl 27 rfl _ zero_Th ?_; intro w3 hb2 hs2 hw2)
    | (refine wpList_store_part rfl 27 (.tmp 8) (.tmp 30) rfl _ 0 (tc (Op.format 30) (.slice A0 24 k0)) rfl rfl 27 (tc Op.zeroT (.slice none 0 0)) hb2 size_Th (by simp [tc]) (tc_row _ _ _ _) ?_
       intro w4 hb3 hs3 hk3))
  have HV : Hid (VT w w4 [(w1.heap.size, .th A0 k0 (Op.format 30))]) := HV0.out.push (Nat.le_refl _) hb3 (hw2.trans (hk3.below2 (fun k hk => by omega))) HT0.out
  clear hb2 hs2 hw2 hb3 hs3 hk3 HT0 HV0
  generalize w1.heap.size = g1 at *
  go_wp2_with fail
  go_loopw [9, 10] (fun wv i wr => ∃ (j : Nat) (t : Op.TT) (A : Option Addr) (k : Nat) (L : List (List UInt8)) (B : Option Addr) (kk : Nat), j ≤ len ∧ i = .int .i64 j ∧ wv = .slice B L.length kk ∧ L.length ≤ j ∧ Hid (Op.Ls t L j) ∧ Hid (VT w wr [(g1, .th A k t)]) ∧ Hid (TR wr w.heap.size 9 1 B L.length kk (tv L))) (fun _ i _ => len - (intOf i).toNat)
  case atStart => exact ⟨0, _, A0, k0, [], none, 0, by omega, rfl, rfl, Nat.le_refl _, Op.ls_zero, HV, TR.nil _ _ _ _⟩
  case round =>
    clear HV
    obtain ⟨j, t, A, k, L, B, kk, hj, rfl, rfl, hLj, HLS, HV, HTR⟩ := hrel
    obtain ⟨wo, rfl⟩ : ∃ wo, wo = wr := ⟨wr, rfl⟩
    have HSj : Hid (Op.Sound t) := HLS.out.snd
    by_cases hlt : j < len
    · have hb := HL.out.below HV.out.bel
      obtain ⟨b, o, rfl, hc⟩ := hb.2 (by omega)
      have hll : l.length = len := hb.1
      have cj := hc j (by omega)
      have hx : (l[j]'(by omega)).toNat < 256 := UInt8.toNat_lt _
      generalize (l[j]'(by omega)).toNat = x at *
      obtain ⟨q, hq⟩ : ∃ q, x % 26 = q := ⟨_, rfl⟩
      have HNB : Hid (97 + (x : Int) % 26 = ((nb q).toNat : Int)) := by show _ = _; rw [nb_int (by omega)]; omega
      clear hb hc hll hq
      go_upto_region 12 with (first
        | (refine wpList_byte2 rfl (.const (.int .u8 101)) (.tmp 42) rfl 101 (nb q) e101 (congrArg (Value.int .u8) HNB.out) ?_; intro wb hbs hbb)
        | (refine wpList_conv_bs rfl (.tmp 43) rfl _ 2 2 [101, nb q] rfl hbs ?_))
      have HVb := Lib.hid (HV.out.below hbb)
      have HTRb := Lib.hid (HTR.out.below hbb)
      have HMK := Lib.hid (HLS.out.mkdir [101, nb q])
      clear HV hbs hbb HNB HTR HLS cj hx
      have HNLa : ([101, nb q] : List UInt8).length ≤ 100 := by show 2 ≤ 100; omega
      generalize [101, nb q] = nm at *
      have HNL : Hid (nm.length ≤ 100) := HNLa
      clear HNLa
      go_wp2_with (refine wpList_load_part rfl 27 (.tmp 8) rfl g1 0 rfl _ Tryz.underlying27 rfl (tc t (.slice A 24 k)) 27 _ (HVb.out.bw 0 rfl) size_Th (fun j u hu => by rw [Nat.zero_add]; exact hu) ?_)
      refine (HPK.out.run t A k (Op.mkC nm) none 0 0 _ (show TM _ A k t from HVb.out.ok 0 rfl) HSj.out (Op.cl_wide (by decide) (by decide) (by decide)) HNL.out (Nat.le_of_ble_eq_true rfl) (Nat.le_of_ble_eq_true rfl) BS.nil (Nat.le_refl _)).mono ?_
      rintro e w1a ⟨A1, k1, B1, n1, d1, C1, m1, f1, rfl, tm1, rm1, hb1⟩
      have e1 := Op.do_step (c := (Op.mkC nm)) HSj.out.inv.may (Nat.le_of_ble_eq_true rfl) (Nat.le_of_ble_eq_true rfl) (Nat.ne_of_beq_eq_false rfl)
      have HS1 : Hid (Op.Sound (Op.step t (Op.mkC nm)).1) := by show Op.Sound _; rw [show (Op.step t (Op.mkC nm)).1 = Op.doT t (Op.mkC nm) from e1.1.symm]; exact HSj.out.doT (Op.cl_wide (by decide) (by decide) (by decide))
      rw [show Op.doT t (Op.mkC nm) = (Op.step t (Op.mkC nm)).1 from e1.1] at tm1 ⊢
      rw [show Op.doR t (Op.mkC nm) = (Op.step t (Op.mkC nm)).2 from e1.2] at rm1 ⊢
      have HBa1 := Lib.hid hb1
      have HV1a := Lib.hid (HVb.out.below hb1)
      clear e1 hb1
      go_upto_region 13 with (first
        | (refine wpList_alloc_any rfl 27 rfl _ zero_Th ?_
           intro w1t hbt1 hst1 hwt1)
        | (refine wpList_alloc_any rfl 49 rfl _ zero_Rp ?_
           intro w1r hbr1 hsr1 hwr1
           have hbt21 : Bw w1r w1a.heap.size (tc Op.zeroT (.slice none 0 0)) 27 := Bw.below hbt1 hwr1)
        | (refine wpList_store_part rfl 27 (.tmp 12) (.tmp 51) rfl w1a.heap.size 0 (tc (Op.step t (Op.mkC nm)).1 (.slice A1 24 k1)) rfl rfl 27 _ hbt21 size_Th (by simp [tc]) (tc_row _ _ _ _) ?_
           intro w1u hbu1 hsu1 hku1
           have hbr21 : Bw w1u w1t.heap.size (rc Rp.zero (.slice none 0 0) (.slice none 0 0)) 49 := Bw.keep hbr1 hku1 (by omega))
        | (refine wpList_store_part rfl 49 (.tmp 13) (.tmp 52) rfl w1t.heap.size 0 (rc (Op.step t (Op.mkC nm)).2 (.slice B1 n1 d1) (.slice C1 m1 f1)) rfl rfl 49 _ hbr21 size_Rp (by simp [rc]) (rc_row _ _ _ _ _ _ _) ?_
           intro w1v hbv1 hsv1 hkv1))
      have hbe1 : Below w1a.heap.size w1a w1v := ((hwt1.trans (hwr1.mono (by omega))).trans (hku1.below2 (fun k hk => by omega))).trans (hkv1.below2 (fun k hk => by omega))
      have HBE1 := Lib.hid (HBa1.out.trans (hbe1.mono HBa1.out.size))
      have HR_1 := Lib.hid (HTRb.out.below HBE1.out)
      clear HTRb
      clear HBE1 HBa1
      have HV1 : Hid (VT w w1v [(g1, .th A k t), (w1a.heap.size, .th A1 k1 (Op.step t (Op.mkC nm)).1), (w1t.heap.size, .rp B1 n1 d1 C1 m1 f1 (Op.step t (Op.mkC nm)).2)]) := VT.push2 HV1a.out (g := w1a.heap.size) (g' := w1t.heap.size) (v := .th A1 k1 (Op.step t (Op.mkC nm)).1) (v' := .rp B1 n1 d1 C1 m1 f1 (Op.step t (Op.mkC nm)).2) (Nat.le_refl _) (by omega) (by omega) (Bw.keep hbu1 hkv1 (by omega)) hbv1 hbe1 tm1 rm1
      clear HV1a hbe1 hbt1 hst1 hwt1 hbr1 hsr1 hwr1 hbt21 hbu1 hsu1 hku1 hbr21 hbv1 hsv1 hkv1 tm1 rm1 HVb
      generalize w1t.heap.size = g1r at *
      generalize w1a.heap.size = g1t at *
      have s2 := HV1.out.cell 2 rfl 2 _ rfl
      rcases HMK.out with ⟨hst, hls⟩ | ⟨hst, hls⟩
      · skip
        rw [hst] at s2
        have HLS2 := Lib.hid hls
        clear hst hls HMK
        go_upto_region 15 with (refine wpList_app rfl (.tmp 56) (.tmp 58) rfl rfl ⟨w1v.heap.size, 0, none⟩ rfl (HR_1.out.below (alloc_below _ _)) elem_S (by omega) (by have := HV1.out.bel.size; simp; omega) (by omega) [.string (txt nm)] rfl (fun u hu => by obtain rfl := List.mem_singleton.1 hu; rfl) (fun u hu => by obtain rfl := List.mem_singleton.1 hu; exact dry_str _) (cell_one_new _ _ _) ?_; intro B2 kk2 w2 htr hgr)
        have HVg := Lib.hid (VT.grown (HV1.out.below (alloc_below _ _)) (HR_1.out.below (alloc_below _ _)) (Nat.le_refl _) (by decide) hgr)
        have HTg : Hid (TR w2 w.heap.size 9 1 B2 (L ++ [nm]).length kk2 (tv (L ++ [nm]))) := by
          show TR _ _ _ _ _ _ _ _
          rw [show tv (L ++ [nm]) = tv L ++ [.string (txt nm)] by simp [tv], show (L ++ [nm]).length = L.length + 1 by simp]
          exact htr
        clear htr hgr HV1 HR_1 s2
        go_wp2_with (first
          | (refine wpList_load_part rfl 27 (.tmp 12) rfl g1t 0 rfl _ Tryz.underlying27 rfl (tc (Op.step t (Op.mkC nm)).1 (.slice A1 24 k1)) 27 _ (HVg.out.bw 1 rfl) size_Th (fun j u hu => by rw [Nat.zero_add]; exact hu) ?_)
          | (refine wpList_store_part rfl 27 (.tmp 8) (.tmp 60) rfl g1 0 (tc (Op.step t (Op.mkC nm)).1 (.slice A1 24 k1)) rfl rfl 27 _ (HVg.out.bw 0 rfl) size_Th (by simp [tc, Vr.cells]) (tc_row _ _ _ _) ?_
             intro w2u hbu2 hsu2 hku2
             have HV2 : Hid (VT w w2u [(g1, .th A1 k1 (Op.step t (Op.mkC nm)).1), (g1t, .th A1 k1 (Op.step t (Op.mkC nm)).1), (g1r, .rp B1 n1 d1 C1 m1 f1 (Op.step t (Op.mkC nm)).2)]) := HVg.out.put 0 (u := .th A1 k1 (Op.step t (Op.mkC nm)).1) rfl hbu2 hku2 (show TM _ _ _ _ from HVg.out.ok 1 rfl)
             have HR_2 := Lib.hid (HTg.out.keep (HVg.out.bw 0 rfl) (Nat.ne_of_beq_eq_false rfl) hku2)
             clear hbu2 hsu2 hku2))
        clear HVg
        clear HTg
        have HV3 : Hid (VT w _ [(g1, .th A1 k1 (Op.step t (Op.mkC nm)).1)]) := VT.left (us := [(g1t, .th A1 k1 (Op.step t (Op.mkC nm)).1), (g1r, .rp B1 n1 d1 C1 m1 f1 (Op.step t (Op.mkC nm)).2)]) HV2.out
        clear HV2
        go_wp2_with fail
        go_roundw
        case rel => exact ⟨j + 1, (Op.step t (Op.mkC nm)).1, A1, k1, (L ++ [nm]), B2, kk2, by omega, by go_num, by simp, by simp; omega, HLS2, HV3, HR_2⟩
        case measure => simp [intOf]; omega
      · skip
        have HLS2 := Lib.hid hls
        clear hls HMK
        have hd : ((Op.step t (Op.mkC nm)).2.st == 0) = false := by simpa using hst
        generalize (Op.step t (Op.mkC nm)).2.st = z at *
        go_upto_region 15 with fail
        clear s2 hd hst
        go_wp2_with (first
          | (refine wpList_load_part rfl 27 (.tmp 12) rfl g1t 0 rfl _ Tryz.underlying27 rfl (tc (Op.step t (Op.mkC nm)).1 (.slice A1 24 k1)) 27 _ (HV1.out.bw 1 rfl) size_Th (fun j u hu => by rw [Nat.zero_add]; exact hu) ?_)
          | (refine wpList_store_part rfl 27 (.tmp 8) (.tmp 60) rfl g1 0 (tc (Op.step t (Op.mkC nm)).1 (.slice A1 24 k1)) rfl rfl 27 _ (HV1.out.bw 0 rfl) size_Th (by simp [tc, Vr.cells]) (tc_row _ _ _ _) ?_
             intro w2u hbu2 hsu2 hku2
             have HV2 : Hid (VT w w2u [(g1, .th A1 k1 (Op.step t (Op.mkC nm)).1), (g1t, .th A1 k1 (Op.step t (Op.mkC nm)).1), (g1r, .rp B1 n1 d1 C1 m1 f1 (Op.step t (Op.mkC nm)).2)]) := HV1.out.put 0 (u := .th A1 k1 (Op.step t (Op.mkC nm)).1) rfl hbu2 hku2 (show TM _ _ _ _ from HV1.out.ok 1 rfl)
             have HR_2 := Lib.hid (HR_1.out.keep (HV1.out.bw 0 rfl) (Nat.ne_of_beq_eq_false rfl) hku2)
             clear hbu2 hsu2 hku2))
        clear HV1
        clear HR_1
        have HV3 : Hid (VT w _ [(g1, .th A1 k1 (Op.step t (Op.mkC nm)).1)]) := VT.left (us := [(g1t, .th A1 k1 (Op.step t (Op.mkC nm)).1), (g1r, .rp B1 n1 d1 C1 m1 f1 (Op.step t (Op.mkC nm)).2)]) HV2.out
        clear HV2
        go_wp2_with fail
        go_roundw
        case rel => exact ⟨j + 1, (Op.step t (Op.mkC nm)).1, A1, k1, L, B, kk, by omega, by go_num, rfl, by omega, HLS2, HV3, HR_2⟩
        case measure => simp [intOf]; omega
    · obtain rfl : len = j := by omega
      have hL10 : L.length ≤ 10 := by omega
      obtain ⟨E, hE⟩ : ∃ E, Op.ents t 0 = E := ⟨_, rfl⟩
      obtain ⟨hok, hel, -, hck⟩ := HLS.out.ok
      have hnm := HLS.out.names
      rw [hE] at hok hel hck hnm
      have HE := Lib.hid hE
      have HOK := Lib.hid hok
      have HEL := Lib.hid hel
      have HNM := Lib.hid hnm
      have HLA : Hid (∀ g, lastAt E g ≤ 10) := fun g => by
        unfold lastAt
        split
        · omega
        · rw [List.getD_eq_getElem?_getD]
          cases hg : E[g - 1]? with
          | none => show (0 : Nat) ≤ 10; omega
          | some e => have := hck e (List.mem_of_getElem? hg); show e.ck ≤ 10; omega
      clear hE hok hel hnm hck hlt hj
      go_wp2_with fail
      go_loopw [14, 15, 16] (fun cv gv i wr => ∃ (q got : Nat), got ≤ L.length ∧ q ≤ got ∧ cv = .int .u64 (lastAt E got : Int) ∧ gv = .int .i64 (got : Int) ∧ i = .int .i64 q ∧ Hid (VT w wr [(g1, .th A k t)]) ∧ Hid (TR wr w.heap.size 9 1 B L.length kk (tv L))) (fun _ _ i _ => 12 - (intOf i).toNat)
      case atStart => exact ⟨0, 0, by omega, by omega, rfl, rfl, rfl, HV, HTR⟩
      case round =>
        clear HV HTR
        obtain ⟨q, got, hgot, hqg, rfl, rfl, rfl, HV, HTR⟩ := hrel
        obtain ⟨wi, rfl⟩ : ∃ wi, wi = wr := ⟨wr, rfl⟩
        have hq12 : q < 12 := by omega
        have hla := HLA.out got
        have hpp := HPP.out
        have HRD := Lib.hid (HLS.out.read hgot (p := p) (by omega))
        rw [HE.out] at HRD
        obtain ⟨ck, hckk⟩ : ∃ ck, lastAt E got = ck := ⟨_, rfl⟩
        have HCK := Lib.hid hckk
        rw [hckk] at HRD hla ⊢
        clear hckk
        go_wp2_with (refine wpList_load_part rfl 27 (.tmp 8) rfl g1 0 rfl _ Tryz.underlying27 rfl (tc t (.slice A 24 k)) 27 _ (HV.out.bw 0 rfl) size_Th (fun j u hu => by rw [Nat.zero_add]; exact hu) ?_)
        first | rw [HPI.out] | skip
        refine (HPK.out.run t A k (Op.rdC ck 1 p) none 0 0 _ (show TM _ A k t from HV.out.ok 0 rfl) HSj.out (Op.rdC_wide (by omega) (by omega) (by omega)) (Nat.le_of_ble_eq_true rfl) (Nat.le_of_ble_eq_true rfl) (Nat.le_of_ble_eq_true rfl) BS.nil (Nat.le_refl _)).mono ?_
        rintro e w4a ⟨A4, k4, B4, n4, d4, C4, m4, f4, rfl, tm4, rm4, hb4⟩
        have e4 := Op.do_step (c := (Op.rdC ck 1 p)) HSj.out.inv.may (Nat.le_of_ble_eq_true rfl) (Nat.le_of_ble_eq_true rfl) (Nat.ne_of_beq_eq_false rfl)
        have HS4 : Hid (Op.Sound (Op.step t (Op.rdC ck 1 p)).1) := by show Op.Sound _; rw [show (Op.step t (Op.rdC ck 1 p)).1 = Op.doT t (Op.rdC ck 1 p) from e4.1.symm]; exact HSj.out.doT (Op.rdC_wide (by omega) (by omega) (by omega))
        rw [show Op.doT t (Op.rdC ck 1 p) = (Op.step t (Op.rdC ck 1 p)).1 from e4.1] at tm4 ⊢
        rw [show Op.doR t (Op.rdC ck 1 p) = (Op.step t (Op.rdC ck 1 p)).2 from e4.2] at rm4 ⊢
        have HBa4 := Lib.hid hb4
        have HV4a := Lib.hid (HV.out.below hb4)
        clear e4 hb4
        go_upto_region 22 with (first
          | (refine wpList_alloc_any rfl 27 rfl _ zero_Th ?_
             intro w4t hbt4 hst4 hwt4)
          | (refine wpList_alloc_any rfl 49 rfl _ zero_Rp ?_
             intro w4r hbr4 hsr4 hwr4
             have hbt24 : Bw w4r w4a.heap.size (tc Op.zeroT (.slice none 0 0)) 27 := Bw.below hbt4 hwr4)
          | (refine wpList_store_part rfl 27 (.tmp 17) (.tmp 75) rfl w4a.heap.size 0 (tc (Op.step t (Op.rdC ck 1 p)).1 (.slice A4 24 k4)) rfl rfl 27 _ hbt24 size_Th (by simp [tc]) (tc_row _ _ _ _) ?_
             intro w4u hbu4 hsu4 hku4
             have hbr24 : Bw w4u w4t.heap.size (rc Rp.zero (.slice none 0 0) (.slice none 0 0)) 49 := Bw.keep hbr4 hku4 (by omega))
          | (refine wpList_store_part rfl 49 (.tmp 18) (.tmp 76) rfl w4t.heap.size 0 (rc (Op.step t (Op.rdC ck 1 p)).2 (.slice B4 n4 d4) (.slice C4 m4 f4)) rfl rfl 49 _ hbr24 size_Rp (by simp [rc]) (rc_row _ _ _ _ _ _ _) ?_
             intro w4v hbv4 hsv4 hkv4))
        have hbe4 : Below w4a.heap.size w4a w4v := ((hwt4.trans (hwr4.mono (by omega))).trans (hku4.below2 (fun k hk => by omega))).trans (hkv4.below2 (fun k hk => by omega))
        have HBE4 := Lib.hid (HBa4.out.trans (hbe4.mono HBa4.out.size))
        have HR_4 := Lib.hid (HTR.out.below HBE4.out)
        clear HTR
        clear HBE4 HBa4
        have HV4 : Hid (VT w w4v [(g1, .th A k t), (w4t.heap.size, .rp B4 n4 d4 C4 m4 f4 (Op.step t (Op.rdC ck 1 p)).2)]) := HV4a.out.push (g := w4t.heap.size) (v := .rp B4 n4 d4 C4 m4 f4 (Op.step t (Op.rdC ck 1 p)).2) (by omega) hbv4 hbe4 rm4 
        clear HV4a hbe4 hbt4 hst4 hwt4 hbr4 hsr4 hwr4 hbt24 hbu4 hsu4 hku4 hbr24 hbv4 hsv4 hkv4 tm4 rm4 HV
        generalize w4t.heap.size = g4r at *
        generalize w4a.heap.size = g4t at *
        clear HS4
        generalize (Op.step t (Op.rdC ck 1 p)).2 = R at *
        have s2 := HV4.out.cell 1 rfl 2 _ rfl
        have s13 := HV4.out.cell 1 rfl 13 _ rfl
        rw [HRD.out.1] at s2
        rw [HRD.out.2.1] at s13
        have HEO := Lib.hid HRD.out.2.2.2
        have HES : Hid (R.es = (E.drop got).take p) := HRD.out.2.2.1
        have s11 := HV4.out.cell 1 rfl 11 _ rfl
        clear HRD
        go_wp2_with fail
        clear s2 s13 s11
        have HMN : Hid (m4 = min p (L.length - got)) := by
          show _ = _
          have h1 := (show RM _ B4 n4 d4 C4 m4 f4 R from HV4.out.ok 1 rfl).ents.1
          rw [HES.out, List.length_take, List.length_drop, HEL.out] at h1
          omega
        have hm4 : m4 ≤ 4 := by have := HMN.out; have := HPP.out; omega
        go_loopw [14, 15, 19] (fun cv gv i wr => ∃ (z gz : Nat), z ≤ m4 ∧ Hid (gz = got + z) ∧ cv = .int .u64 (lastAt E gz : Int) ∧ gv = .int .i64 (gz : Int) ∧ i = .int .i64 z ∧ Hid (VT w wr [(g1, .th A k t), (g4r, .rp B4 n4 d4 C4 m4 f4 R)]) ∧ Hid (TR wr w.heap.size 9 1 B L.length kk (tv L))) (fun _ _ i _ => m4 - (intOf i).toNat)
        case atStart => exact ⟨0, got, by omega, rfl, by rw [HCK.out], rfl, rfl, HV4, HR_4⟩
        case round =>
          clear HV4 HR_4
          obtain ⟨z, gz, hz, HG, rfl, rfl, rfl, HV, HTR⟩ := hrel
          obtain ⟨wz, rfl⟩ : ∃ wz, wz = wr := ⟨wr, rfl⟩
          have s11 := HV.out.cell 1 rfl 11 _ rfl
          by_cases hzm : z < m4
          · have hes := (show RM _ B4 n4 d4 C4 m4 f4 R from HV.out.ok 1 rfl).ents
            obtain ⟨b', o', rfl, -, hjl, hce⟩ := hes.at hzm
            have hgz : gz < E.length := by have := HG.out; have := HMN.out; rw [HEL.out]; omega
            have hel : R.es[z] = E[gz] := by
              have h1 : R.es[z]? = E[gz]? := by rw [HES.out, List.getElem?_take, if_pos (by have := HMN.out; omega), List.getElem?_drop, HG.out]
              rw [List.getElem?_eq_getElem hjl, List.getElem?_eq_getElem hgz] at h1
              exact Option.some.inj h1
            rw [hel] at hce
            have HST : Hid (lastAt E (gz + 1) = E[gz].ck) := Op.last_succ E hgz
            have hlt := (okB_at E HOK.out gz hgz).2
            have hnm : L[gz]? = some E[gz].nm := by rw [← HNM.out, List.getElem?_map, List.getElem?_eq_getElem hgz]; rfl
            generalize E[gz] = e at *
            obtain ⟨b2, rfl, -, -, hbc, -, -⟩ := HTR.out.at (show 0 < L.length by have := HG.out; have := HMN.out; omega)
            have w1c := hbc gz _ (tv_at hnm)
            have e0 : wz.cell? ⟨b', o' + z * 4, none⟩ = some (.int .u64 (e.ck : Int)) := hce 0 _ rfl
            have e3 : wz.cell? ⟨b', o' + z * 4 + 3, none⟩ = some (.string (txt e.nm)) := hce 3 _ rfl
            obtain ⟨a, ha⟩ : ∃ a, lastAt E gz = a := ⟨_, rfl⟩
            rw [ha] at hlt ⊢
            have k2 : decide ((e.ck : Int) ≤ (a : Int)) = false := by simp; omega
            have hgl : gz < L.length := by rw [← HEL.out]; exact hgz
            have k1 : decide ((L.length : Int) ≤ (gz : Int)) = false := by simp; omega
            have k1n : decide (L.length ≤ gz) = false := by simp; omega
            have k2n : decide (e.ck ≤ a) = false := by simp; omega
            have HNX : Hid (∀ m, VT w (wz.drewN m) [(g1, .th A k t), (g4r, .rp B4 n4 d4 (some ⟨b', o', none⟩) m4 f4 R)]) := fun m => HV.out.below (Below.drewsN wz wz.heap.size m)
            have HTX : Hid (∀ m, TR (wz.drewN m) w.heap.size 9 1 (some ⟨b2, 0, none⟩) L.length kk (tv L)) := fun m => HTR.out.below (Below.drewsN wz wz.heap.size m)
            clear hce hbc hel hes hnm ha hlt HV HTR
            go_wp2_with fail
            go_quiet (fail)
            have e0n : (wz.drewN nq).cell? ⟨b', o' + z * 4, none⟩ = some (.int .u64 (e.ck : Int)) := e0
            go_wp2_with fail
            go_roundw
            case rel =>
              exact ⟨z + 1, gz + 1, by omega, by show _ = _; have := HG.out; omega, by rw [HST.out], by go_num, by go_num, HNX.out _, HTX.out _⟩
            case measure => simp [intOf]; omega
          · obtain rfl : m4 = z := by omega
            have s12 := HV.out.cell 1 rfl 12 _ rfl
            rw [HEO.out] at s12
            by_cases hef : L.length - got ≤ p
            · rw [show decide (L.length - got ≤ p) = true by simpa using hef] at s12
              have hgl : gz = L.length := by have := HG.out; have := HMN.out; omega
              go_upto_region 32 with fail
              clear HTR s11 s12
              go_wp2_with (refine wpList_load_part rfl 27 (.tmp 8) rfl g1 0 rfl _ Tryz.underlying27 rfl (tc t (.slice A 24 k)) 27 _ (HV.out.bw 0 rfl) size_Th (fun j u hu => by rw [Nat.zero_add]; exact hu) ?_)
              refine (HPK.out.run t A k (Op.rdC 1 v 1) none 0 0 _ (show TM _ A k t from HV.out.ok 0 rfl) HSj.out (Op.rdC_wide (by omega) (by omega) (by omega)) (Nat.le_of_ble_eq_true rfl) (Nat.le_of_ble_eq_true rfl) (Nat.le_of_ble_eq_true rfl) BS.nil (Nat.le_refl _)).mono ?_
              rintro e w5a ⟨A5, k5, B5, n5, d5, C5, m5, f5, rfl, tm5, rm5, hb5⟩
              have e5 := Op.do_step (c := (Op.rdC 1 v 1)) HSj.out.inv.may (Nat.le_of_ble_eq_true rfl) (Nat.le_of_ble_eq_true rfl) (Nat.ne_of_beq_eq_false rfl)
              have HS5 : Hid (Op.Sound (Op.step t (Op.rdC 1 v 1)).1) := by show Op.Sound _; rw [show (Op.step t (Op.rdC 1 v 1)).1 = Op.doT t (Op.rdC 1 v 1) from e5.1.symm]; exact HSj.out.doT (Op.rdC_wide (by omega) (by omega) (by omega))
              rw [show Op.doT t (Op.rdC 1 v 1) = (Op.step t (Op.rdC 1 v 1)).1 from e5.1] at tm5 ⊢
              rw [show Op.doR t (Op.rdC 1 v 1) = (Op.step t (Op.rdC 1 v 1)).2 from e5.2] at rm5 ⊢
              have HV5a := Lib.hid (HV.out.below hb5)
              clear e5 hb5
              go_upto_region 33 with (first
                | (refine wpList_alloc_any rfl 27 rfl _ zero_Th ?_
                   intro w5t hbt5 hst5 hwt5)
                | (refine wpList_alloc_any rfl 49 rfl _ zero_Rp ?_
                   intro w5r hbr5 hsr5 hwr5
                   have hbt25 : Bw w5r w5a.heap.size (tc Op.zeroT (.slice none 0 0)) 27 := Bw.below hbt5 hwr5)
                | (refine wpList_store_part rfl 27 (.tmp 20) (.tmp 135) rfl w5a.heap.size 0 (tc (Op.step t (Op.rdC 1 v 1)).1 (.slice A5 24 k5)) rfl rfl 27 _ hbt25 size_Th (by simp [tc]) (tc_row _ _ _ _) ?_
                   intro w5u hbu5 hsu5 hku5
                   have hbr25 : Bw w5u w5t.heap.size (rc Rp.zero (.slice none 0 0) (.slice none 0 0)) 49 := Bw.keep hbr5 hku5 (by omega))
                | (refine wpList_store_part rfl 49 (.tmp 21) (.tmp 136) rfl w5t.heap.size 0 (rc (Op.step t (Op.rdC 1 v 1)).2 (.slice B5 n5 d5) (.slice C5 m5 f5)) rfl rfl 49 _ hbr25 size_Rp (by simp [rc]) (rc_row _ _ _ _ _ _ _) ?_
                   intro w5v hbv5 hsv5 hkv5))
              have hbe5 : Below w5a.heap.size w5a w5v := ((hwt5.trans (hwr5.mono (by omega))).trans (hku5.below2 (fun k hk => by omega))).trans (hkv5.below2 (fun k hk => by omega))
              have HV5 : Hid (VT w w5v [(g1, .th A k t), (g4r, .rp B4 n4 d4 C4 m4 f4 R), (w5t.heap.size, .rp B5 n5 d5 C5 m5 f5 (Op.step t (Op.rdC 1 v 1)).2)]) := HV5a.out.push (g := w5t.heap.size) (v := .rp B5 n5 d5 C5 m5 f5 (Op.step t (Op.rdC 1 v 1)).2) (by omega) hbv5 hbe5 rm5 
              clear HV5a hbe5 hbt5 hst5 hwt5 hbr5 hsr5 hwr5 hbt25 hbu5 hsu5 hku5 hbr25 hbv5 hsv5 hkv5 tm5 rm5 HV
              generalize w5t.heap.size = g5r at *
              generalize w5a.heap.size = g5t at *
              go_wp2_with (refine wpList_load_part rfl 27 (.tmp 8) rfl g1 0 rfl _ Tryz.underlying27 rfl (tc t (.slice A 24 k)) 27 _ (HV5.out.bw 0 rfl) size_Th (fun j u hu => by rw [Nat.zero_add]; exact hu) ?_)
              refine (HPK.out.run t A k (Op.rdC 0 0 0) none 0 0 _ (show TM _ A k t from HV5.out.ok 0 rfl) HSj.out (Op.rdC_wide (by omega) (by omega) (by omega)) (Nat.le_of_ble_eq_true rfl) (Nat.le_of_ble_eq_true rfl) (Nat.le_of_ble_eq_true rfl) BS.nil (Nat.le_refl _)).mono ?_
              rintro e w6a ⟨A6, k6, B6, n6, d6, C6, m6, f6, rfl, tm6, rm6, hb6⟩
              have e6 := Op.do_step (c := (Op.rdC 0 0 0)) HSj.out.inv.may (Nat.le_of_ble_eq_true rfl) (Nat.le_of_ble_eq_true rfl) (Nat.ne_of_beq_eq_false rfl)
              have HS6 : Hid (Op.Sound (Op.step t (Op.rdC 0 0 0)).1) := by show Op.Sound _; rw [show (Op.step t (Op.rdC 0 0 0)).1 = Op.doT t (Op.rdC 0 0 0) from e6.1.symm]; exact HSj.out.doT (Op.rdC_wide (by omega) (by omega) (by omega))
              rw [show Op.doT t (Op.rdC 0 0 0) = (Op.step t (Op.rdC 0 0 0)).1 from e6.1] at tm6 ⊢
              rw [show Op.doR t (Op.rdC 0 0 0) = (Op.step t (Op.rdC 0 0 0)).2 from e6.2] at rm6 ⊢
              have HV6a := Lib.hid (HV5.out.below hb6)
              clear e6 hb6
              go_upto_region 34 with (first
                | (refine wpList_alloc_any rfl 27 rfl _ zero_Th ?_
                   intro w6t hbt6 hst6 hwt6)
                | (refine wpList_alloc_any rfl 49 rfl _ zero_Rp ?_
                   intro w6r hbr6 hsr6 hwr6
                   have hbt26 : Bw w6r w6a.heap.size (tc Op.zeroT (.slice none 0 0)) 27 := Bw.below hbt6 hwr6)
                | (refine wpList_store_part rfl 27 (.tmp 22) (.tmp 142) rfl w6a.heap.size 0 (tc (Op.step t (Op.rdC 0 0 0)).1 (.slice A6 24 k6)) rfl rfl 27 _ hbt26 size_Th (by simp [tc]) (tc_row _ _ _ _) ?_
                   intro w6u hbu6 hsu6 hku6
                   have hbr26 : Bw w6u w6t.heap.size (rc Rp.zero (.slice none 0 0) (.slice none 0 0)) 49 := Bw.keep hbr6 hku6 (by omega))
                | (refine wpList_store_part rfl 49 (.tmp 23) (.tmp 143) rfl w6t.heap.size 0 (rc (Op.step t (Op.rdC 0 0 0)).2 (.slice B6 n6 d6) (.slice C6 m6 f6)) rfl rfl 49 _ hbr26 size_Rp (by simp [rc]) (rc_row _ _ _ _ _ _ _) ?_
                   intro w6v hbv6 hsv6 hkv6))
              have hbe6 : Below w6a.heap.size w6a w6v := ((hwt6.trans (hwr6.mono (by omega))).trans (hku6.below2 (fun k hk => by omega))).trans (hkv6.below2 (fun k hk => by omega))
              have HV6 : Hid (VT w w6v [(g1, .th A k t), (g4r, .rp B4 n4 d4 C4 m4 f4 R), (g5r, .rp B5 n5 d5 C5 m5 f5 (Op.step t (Op.rdC 1 v 1)).2), (w6t.heap.size, .rp B6 n6 d6 C6 m6 f6 (Op.step t (Op.rdC 0 0 0)).2)]) := HV6a.out.push (g := w6t.heap.size) (v := .rp B6 n6 d6 C6 m6 f6 (Op.step t (Op.rdC 0 0 0)).2) (by omega) hbv6 hbe6 rm6 
              clear HV6a hbe6 hbt6 hst6 hwt6 hbr6 hsr6 hwr6 hbt26 hbu6 hsu6 hku6 hbr26 hbv6 hsv6 hkv6 tm6 rm6 HV5
              generalize w6t.heap.size = g6r at *
              generalize w6a.heap.size = g6t at *
              have a2 := HV6.out.cell 2 rfl 2 _ rfl
              have b2 := HV6.out.cell 3 rfl 2 _ rfl
              rw [HLS.out.wrong v] at a2
              rw [HLS.out.none] at b2
              have HBF : Hid (Below w.heap.size w w6v) := HV6.out.bel
              have kg : ((gz : Int) == (L.length : Int)) = true := by simp; omega
              clear HV6 HS5 HS6 HSj HPK
              by_cases hv1 : v = 1
              · rw [if_pos hv1] at a2
                have kv : ((v : Int) == 1) = true := by simp; omega
                clear hv1
                go_wp2_with fail
                go_ret
                exact ⟨rfl, HBF.out⟩
              · rw [if_neg hv1] at a2
                have kv : ((v : Int) == 1) = false := by simp; omega
                clear hv1
                go_wp2_with fail
                go_ret
                exact ⟨rfl, HBF.out⟩

            · rw [show decide (L.length - got ≤ p) = false by simpa using hef] at s12
              have HVl : Hid (VT w wz [(g1, .th A k t)]) := VT.left (us := [(g4r, .rp B4 n4 d4 C4 m4 f4 R)]) HV.out
              have HG2 : Hid (gz = got + p) := by show _ = _; have := HG.out; have := HMN.out; omega
              clear HV
              go_wp2_with fail
              go_roundw
              case rel => exact ⟨q + 1, gz, by have := HG2.out; have := hef; omega, by have := HG2.out; omega, rfl, rfl, by go_num, HVl, HTR⟩
              case measure => simp [intOf]; omega
end Go.Proofs.YtndnkfnhgakibaaGreat
