/-
  The law OpsNames (layer 13).
-/
import Derived.Test.YtndnkfnhgakibaaGreatOAwake
import Derived.Test.YtndnkfnhgakibaaGreatONames
namespace Go.Proofs.YtndnkfnhgakibaaGreat
open Go.RowKit Go.Shelf
attribute [local go_sem] Oper.semAt_some

theorem Op.nmC_wide {k : Nat} {nm : List UInt8} (h : k < 4294967296) : (Op.nmC k nm).Wide := by
  constructor <;> first | exact h | (show (0 : Nat) < _; omega) | (show (1 : Nat) < _; omega)
/-- The law's list of calls. -/
theorem names_op (o : Nat) : ∃ k : Nat, (k = 1 ∨ k = 6 ∨ k = 7 ∨ k = 8 ∨ k = 10 ∨ k = 11 ∨ k = 12) ∧ [Value.int IntKind.u32 1, Value.int IntKind.u32 6, Value.int IntKind.u32 7, Value.int IntKind.u32 8, Value.int IntKind.u32 10, Value.int IntKind.u32 11, Value.int IntKind.u32 12][o % 7]? = some (.int .u32 (k : Int)) := by
  have h : o % 7 < 7 := Nat.mod_lt _ (by omega)
  generalize o % 7 = j at h
  match j, h with
  | 0, _ => exact ⟨1, by omega, rfl⟩
  | 1, _ => exact ⟨6, by omega, rfl⟩
  | 2, _ => exact ⟨7, by omega, rfl⟩
  | 3, _ => exact ⟨8, by omega, rfl⟩
  | 4, _ => exact ⟨10, by omega, rfl⟩
  | 5, _ => exact ⟨11, by omega, rfl⟩
  | 6, _ => exact ⟨12, by omega, rfl⟩
set_option maxRecDepth 100000 in
set_option maxHeartbeats 8000000 in
theorem names_walk (HP : Pk) (nm : List UInt8) (o : Nat) (w : World) (ho : o < 256) :
    Calls Tryz.prog 6 #[.string (txt nm), .int .u8 (o : Int)] w fun e w' => e = .returned (.bool true) ∧ Below w.heap.size w w' := by
  have HPK := Lib.hid HP
  clear HP
  have hz := txt_size nm
  obtain ⟨k, hk, hl⟩ := names_op o
  have hk32 : k < 4294967296 := by omega
  go_enter Tryz.func6, Tryz.ntmps6
  go_wp2_with fail
  refine (awakeO_any HPK.out w).mono ?_
  rintro e w0 ⟨rfl, hb0⟩
  have HB0 := Lib.hid hb0
  clear hb0
  go_wp2_with fail
  · go_ret
    exact ⟨rfl, HB0.out⟩
  go_wp2_with fail
  have h100 : (Op.nmC k nm).nm.length ≤ 100 := by show nm.length ≤ 100; omega
  have e0l : ∀ O : Obj, Below w.heap.size w (w0.alloc O) := fun O => HB0.out.trans ((Below.refl _ _).alloc HB0.out.size O)
  have hb0' := e0l (.cells #[Value.int IntKind.u32 1, Value.int IntKind.u32 6, Value.int IntKind.u32 7, Value.int IntKind.u32 8, Value.int IntKind.u32 10, Value.int IntKind.u32 11, Value.int IntKind.u32 12] 33)
  generalize w0.alloc _ = w1 at *
  refine (HPK.out.format 20 w1 (by omega)).mono ?_
  rintro e w2 ⟨A0, k0, rfl, tm0, hb1⟩
  have HT0 := Lib.hid tm0
  have HV0 : Hid (VT w w2 []) := VT.nil (hb0'.trans (hb1.mono hb0'.size))
  have HS0 : Hid (Op.Sound (Op.format 20)) := Op.Sound.format
  clear tm0 hb1 HB0 hb0' e0l
  go_upto_region 9 with (first
    | (refine wpList_alloc_any rfl 27 rfl _ zero_Th ?_; intro w3 hb2 hs2 hw2)
    | (refine wpList_store_part rfl 27 (.tmp 8) (.tmp 29) rfl _ 0 (tc (Op.format 20) (.slice A0 24 k0)) rfl rfl 27 (tc Op.zeroT (.slice none 0 0)) hb2 size_Th (by simp [tc]) (tc_row _ _ _ _) ?_
       intro w4 hb3 hs3 hk3))
  have HV : Hid (VT w w4 [(w2.heap.size, .th A0 k0 (Op.format 20))]) := HV0.out.push (Nat.le_refl _) hb3 (hw2.trans (hk3.below2 (fun k hk => by omega))) HT0.out
  clear hb2 hs2 hw2 hb3 hs3 hk3 HT0 HV0
  generalize w2.heap.size = g1 at *
  have e1l : Below w4.heap.size w4 (w4.alloc (.cells #[.int .u8 120] 5 (1, 2))) := (Below.refl _ _).alloc (Nat.le_refl _) _
  have hcr := conv_const w4 #[.int .u8 120] 1 1 w4.heap.size rfl
  have HVc1 := Lib.hid (HV.out.below (e1l))
  go_wp2_with (refine wpList_load_part rfl 27 (.tmp 8) rfl g1 0 rfl _ Tryz.underlying27 rfl (tc (Op.format 20) (.slice A0 24 k0)) 27 _ (HV.out.bw 0 rfl) size_Th (fun j u hu => by rw [Nat.zero_add]; exact hu) ?_)
  refine (HPK.out.run (Op.format 20) A0 k0 (Op.nmC k nm) (some ⟨w4.heap.size, 0, none⟩) 1 1 _ (show TM _ A0 k0 (Op.format 20) from HVc1.out.ok 0 rfl) HS0.out (Op.nmC_wide hk32) h100 (Nat.le_of_ble_eq_true rfl) (Nat.le_of_ble_eq_true rfl) (BS.ofM (l := [120]) (heap_alloc_new w4 _)) (Nat.le_refl _)).mono ?_
  rintro e w1a ⟨A1, k1, B1, n1, d1, C1, m1, f1, rfl, tm1, rm1, hb1⟩
  have HS1 : Hid (Op.Sound (Op.doT (Op.format 20) (Op.nmC k nm))) := HS0.out.doT (Op.nmC_wide hk32)
  have HV1a := Lib.hid (HVc1.out.below hb1)
  clear hb1
  go_upto_region 10 with (first
    | (refine wpList_alloc_any rfl 27 rfl _ zero_Th ?_
       intro w1t hbt1 hst1 hwt1)
    | (refine wpList_alloc_any rfl 49 rfl _ zero_Rp ?_
       intro w1r hbr1 hsr1 hwr1
       have hbt21 : Bw w1r w1a.heap.size (tc Op.zeroT (.slice none 0 0)) 27 := Bw.below hbt1 hwr1)
    | (refine wpList_store_part rfl 27 (.tmp 9) (.tmp 40) rfl w1a.heap.size 0 (tc (Op.doT (Op.format 20) (Op.nmC k nm)) (.slice A1 24 k1)) rfl rfl 27 _ hbt21 size_Th (by simp [tc]) (tc_row _ _ _ _) ?_
       intro w1u hbu1 hsu1 hku1
       have hbr21 : Bw w1u w1t.heap.size (rc Rp.zero (.slice none 0 0) (.slice none 0 0)) 49 := Bw.keep hbr1 hku1 (by omega))
    | (refine wpList_store_part rfl 49 (.tmp 10) (.tmp 41) rfl w1t.heap.size 0 (rc (Op.doR (Op.format 20) (Op.nmC k nm)) (.slice B1 n1 d1) (.slice C1 m1 f1)) rfl rfl 49 _ hbr21 size_Rp (by simp [rc]) (rc_row _ _ _ _ _ _ _) ?_
       intro w1v hbv1 hsv1 hkv1))
  have hbe1 : Below w1a.heap.size w1a w1v := ((hwt1.trans (hwr1.mono (by omega))).trans (hku1.below2 (fun k hk => by omega))).trans (hkv1.below2 (fun k hk => by omega))
  have HV1 : Hid (VT w w1v [(g1, .th A0 k0 (Op.format 20)), (w1a.heap.size, .th A1 k1 (Op.doT (Op.format 20) (Op.nmC k nm))), (w1t.heap.size, .rp B1 n1 d1 C1 m1 f1 (Op.doR (Op.format 20) (Op.nmC k nm)))]) := VT.push2 HV1a.out (g := w1a.heap.size) (g' := w1t.heap.size) (v := .th A1 k1 (Op.doT (Op.format 20) (Op.nmC k nm))) (v' := .rp B1 n1 d1 C1 m1 f1 (Op.doR (Op.format 20) (Op.nmC k nm))) (Nat.le_refl _) (by omega) (by omega) (Bw.keep hbu1 hkv1 (by omega)) hbv1 hbe1 tm1 rm1
  clear HV1a hbe1 hbt1 hst1 hwt1 hbr1 hsr1 hwr1 hbt21 hbu1 hsu1 hku1 hbr21 hbv1 hsv1 hkv1 tm1 rm1 HV HVc1
  generalize w1t.heap.size = g1r at *
  generalize w1a.heap.size = g1t at *
  go_wp2_with fail
  refine (name_any nm _).mono ?_
  rintro e w5 ⟨rfl, hb5⟩
  have HV2 := Lib.hid (HV1.out.below hb5)
  have HBF : Hid (Below w.heap.size w w5) := HV2.out.bel
  clear hb5 HV1 HS1 HPK h100
  have a0 : w5.cell? ⟨g1, 1, none⟩ = some (.int .u64 1) := HV2.out.cell 0 rfl 1 _ rfl
  have a1 := HV2.out.cell 1 rfl 1 _ rfl
  have a2 := HV2.out.cell 2 rfl 2 _ rfl
  have hN := Op.names_all HS0.out.inv.may nm hk
  clear HV2 HS0
  generalize Op.doT (Op.format 20) (Op.nmC k nm) = T at *
  generalize Op.doR (Op.format 20) (Op.nmC k nm) = R at *
  cases hok : nameOk nm with
  | false =>
    have hE : nameE nm = 67 := by unfold nameE; rw [hok]; rfl
    have h1 := hN.1 hok
    rw [h1.2] at a1
    rw [h1.1] at a2
    rw [hE]
    clear h1 hN hE hok
    rcases hk with rfl | rfl | rfl | rfl | rfl | rfl | rfl
    all_goals (go_wp2_with fail; go_ret; exact ⟨rfl, HBF.out⟩)
  | true =>
    have hE : nameE nm = 0 := by unfold nameE; rw [hok]; rfl
    have h1 := hN.2 hok
    rw [hE]
    clear hN hE hok
    rcases hk with rfl | rfl | rfl | rfl | rfl | rfl | rfl
    all_goals (simp at h1; rw [h1] at a2; clear h1; go_wp2_with fail; go_ret; exact ⟨rfl, HBF.out⟩)
end Go.Proofs.YtndnkfnhgakibaaGreat
