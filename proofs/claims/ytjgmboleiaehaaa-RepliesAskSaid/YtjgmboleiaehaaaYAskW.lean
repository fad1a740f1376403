/-
  The walk of the statement on new, known and old calls (layer 14).
-/
import Derived.Test.YtjgmboleiaehaaaYQ6
namespace Go.Proofs.Ytjgmboleiaehaaa
open Go.RowKit Go.Shelf

/-- The reply that the statement keeps. -/
def rY (c l : Nat) : Rp := ⟨c, l, 0, 0, 0, 0, 0, 0, 0, 0, [], [], false, 7, 0⟩
theorem built_rY (c l : Int) : Try.prog.built 41 [(0, .int .u32 c), (1, .int .u32 l), (8, .int .u64 7)] = some #[.int .u32 c, .int .u32 l, .int .i64 0, .int .u32 0, .int .u32 0, .int .u32 0, .int .u32 0, .int .u32 0, .int .u32 0, .int .u64 0, .slice none 0 0, .slice none 0 0, .bool false, .int .u64 7, .int .u32 0] := by kernel_rfl
theorem rY_wide (c l : Nat) (hc : c < 4294967296) (hl : l < 4294967296) : (rY c l).Wide := ⟨hc, hl, by show 0 < 4294967296; omega, by show 0 < 4294967296; omega, by show 0 < 4294967296; omega, by show 0 < 4294967296; omega, by show 0 < 4294967296; omega, by show 0 < 4294967296; omega, by show 0 < 18446744073709551616; omega, by show 7 < 18446744073709551616; omega, by show 0 < 4294967296; omega, fun e he => by cases he⟩
theorem rY_ok (c l : Nat) (hc : c < 8) : Ry.okB (rY c l) = true := (Ry.okB_iff _).2 ⟨hc, by rfl, rfl, rfl, rfl⟩
theorem rY_no (c l : Nat) (hc : ¬ c < 8) : ¬ Ry.okB (rY c l) = true := fun h => hc ((Ry.okB_iff _).1 h).1
set_option maxRecDepth 100000 in
set_option maxHeartbeats 4000000 in
theorem ask_walk (w : World) (c l x : Nat) (hc : c < 4294967296) (hl : l < 4294967296) (hx : x < 4294967296) :
    Calls Try.prog 5 #[.int .u32 (c : Int), .int .u32 (l : Int), .int .u32 (x : Int)] w fun e w' => e = .returned (.bool true) ∧ Below w.heap.size w w' := by
  go_enter Try.func5, Try.ntmps5
  go_wp2_with fail
  refine (awakeY_any w).mono ?_
  rintro e w0 ⟨rfl, hb⟩
  have HW0 := Lib.hid hb
  clear hb
  have HRI := Lib.hid (RI.made w0 40)
  have HBa : Hid (Below w0.heap.size w0 (w0.alloc (.cells (Array.replicate 40 (.slice none 0 0)) 38))) := (Below.refl _ _).alloc (Nat.le_refl _) _
  have hmk : ∀ W : World, (Instr.makeSlice 26 (.int .i64 40) (.int .i64 40)).run Try.prog W = .ok (.slice (some ⟨W.heap.size, 0, none⟩) 40 40) (W.alloc (.cells (Array.replicate 40 (.slice none 0 0)) 38)) := fun W => run_make_rows W 40 (by omega)
  go_wp2_with fail
  refine (new_any _ 40 40 (List.replicate 40 []) _ HRI.out (by omega)).mono ?_
  rintro en w1 ⟨h, m, p, rfl, ht, hb, _, hm⟩
  have Hw1 : Hid (TK w p m ⟨some ⟨h, 0, none⟩, 40, 40⟩ (TX.new (List.replicate 40 [])) w1) := TK.start (HW0.out) (ht.mono fun k hk => Nat.le_trans HBa.out.size hk) (HBa.out.trans (hb.mono HBa.out.size))
  clear ht hb hm HBa HRI hmk
  clear HW0
  obtain ⟨_, akn, arn⟩ := Ry.none_nil c x
  have hbc : Try.prog.built 63 [(0, .int .u32 (c : Int)), (1, .int .u32 (x : Int))] = some (cc (cY c x) (.slice none 0 0)).toArray := built_cY _ _
  go_wp2_with fail
  refine (ask_tq Hw1.out.tq (cY c x) (.slice none 0 0) (by rw [bk_new]; exact Nat.zero_le _)).mono ?_
  rintro en w2a ⟨rfl, hb⟩
  rw [bk_new, show Ry.aKnown (cY c x).cli (cY c x).xid [] = 0 from akn, show Ry.aRep (cY c x).cli (cY c x).xid [] = Rp.zero from arn]
  have HT2a := Lib.hid (Hw1.out.below hb)
  clear hb hbc Hw1 akn arn
  go_upto_region 6 with (first
    | (refine wpList_alloc_any rfl 41 rfl _ zero_Rp ?_; intro wa hba hsa hwa)
    | (refine wpList_store_part rfl 41 (.tmp 10) (.tmp 27) rfl w2a.heap.size 0 (rc Rp.zero (.slice none 0 0) (.slice none 0 0)) rfl rfl 41 _ hba size_Rp (by simp [rc]) (rc_row _ _ _ _ _ _ _) ?_
       intro w2 hbb hsb hkb))
  have hbw : Below w2a.heap.size w2a w2 := hwa.trans (hkb.below2 (fun k hk => by omega))
  have HT2 := Lib.hid (HT2a.out.below hbw)
  clear hba hsa hwa hbb hsb hkb hbw HT2a
  have hbr : Try.prog.built 41 [(0, .int .u32 (c : Int)), (1, .int .u32 (l : Int)), (8, .int .u64 7)] = some (rc (rY c l) (.slice none 0 0) (.slice none 0 0)).toArray := built_rY _ _
  go_wp2_with fail
  refine (putRp_any HT2.out.tq HT2.out.new (rY c l) none 0 0 none 0 0 (rY_wide c l hc hl) rfl rfl).mono ?_
  rintro en w3 ⟨rfl, ht, hb⟩
  have HT3 := Lib.hid (HT2.out.put ht hb)
  clear ht hb hbr HT2
  have hbc : Try.prog.built 63 [(0, .int .u32 (c : Int)), (1, .int .u32 (x : Int))] = some (cc (cY c x) (.slice none 0 0)).toArray := built_cY _ _
  by_cases h8 : c < 8
  rotate_left
  · have hgt : decide ((7 : Int) < (c : Int)) = true := by simp; omega
    have HNO := Lib.hid (rY_no c l h8)
    rw [show Ry.pErr (Sl.n ⟨some ⟨h, 0, none⟩, 40, 40⟩) (rY c l) = 1 from Ry.pErr_no _ _ HNO.out]
    rw [show Ry.pPut (Sl.n ⟨some ⟨h, 0, none⟩, 40, 40⟩) (TX.new (List.replicate 40 [])) (rY c l) = TX.new (List.replicate 40 []) from Ry.pPut_no _ _ _ HNO.out] at HT3
    obtain ⟨_, akn, arn⟩ := Ry.none_nil c x
    go_wp2_with fail
    refine (ask_tq HT3.out.tq (cY c x) (.slice none 0 0) (by rw [bk_new]; exact Nat.zero_le _)).mono ?_
    rintro en w4a ⟨rfl, hb⟩
    rw [bk_new, show Ry.aKnown (cY c x).cli (cY c x).xid [] = 0 from akn, show Ry.aRep (cY c x).cli (cY c x).xid [] = Rp.zero from arn]
    have HT4a := Lib.hid (HT3.out.below hb)
    clear hb hbc HT3 akn arn
    go_upto_region 8 with (first
      | (refine wpList_alloc_any rfl 41 rfl _ zero_Rp ?_; intro wa hba hsa hwa)
      | (refine wpList_store_part rfl 41 (.tmp 13) (.tmp 40) rfl w4a.heap.size 0 (rc Rp.zero (.slice none 0 0) (.slice none 0 0)) rfl rfl 41 _ hba size_Rp (by simp [rc]) (rc_row _ _ _ _ _ _ _) ?_
         intro w4 hbb hsb hkb))
    have hbw : Below w4a.heap.size w4a w4 := hwa.trans (hkb.below2 (fun k hk => by omega))
    have HT4 := Lib.hid (HT4a.out.below hbw)
    clear hba hsa hwa hbb hsb hkb hbw HT4a
    go_wp2_with fail
    refine (changes_any HT4.out.tq (by show 40 ≤ _; omega)).mono ?_
    intro e w5 hcx
    have hc' : ChgQ w4 [] e w5 := by
      have := hcx
      rw [chs_new] at this
      exact this
    obtain ⟨A4, c4, sl, rfl, _, hb, _⟩ := hc'
    have HT5 := Lib.hid (HT4.out.below hb)
    clear hcx hb HT4
    rw [List.length_nil]
    go_wp2_with fail
    go_ret
    exact ⟨rfl, HT5.out.bel⟩
  have hgt : decide ((7 : Int) < (c : Int)) = false := by simp; omega
  have HOK := Lib.hid (rY_ok c l h8)
  have HWR := Lib.hid (rY_wide c l hc hl)
  rw [show Ry.pErr (Sl.n ⟨some ⟨h, 0, none⟩, 40, 40⟩) (rY c l) = 0 from Ry.pErr_ok 40 _ HOK.out (by omega)]
  have HBK : Hid (TX.bk (Ry.pPut (Sl.n ⟨some ⟨h, 0, none⟩, 40, 40⟩) (TX.new (List.replicate 40 [])) (rY c l)) 40 (1 + c) = Ry.enc (rY c l)) := by
    show _ = _
    rw [show TX.bk (Ry.pPut (Sl.n ⟨some ⟨h, 0, none⟩, 40, 40⟩) (TX.new (List.replicate 40 [])) (rY c l)) 40 (1 + c) = _ from Ry.pPut_bk 40 _ (rY c l) HOK.out (by omega) (1 + c)]
    exact if_pos rfl
  generalize Ry.pPut (Sl.n ⟨some ⟨h, 0, none⟩, 40, 40⟩) (TX.new (List.replicate 40 [])) (rY c l) = X at *
  have hcase : l < x ∨ l = x ∨ x < l := by omega
  rcases hcase with hlx | hlx | hlx
  · have HF := Lib.hid (Ry.ask_lt (rY c l) HWR.out HOK.out x hlx)
    go_wp2_with fail
    refine (ask_tq HT3.out.tq (cY c x) (.slice none 0 0) (by show (TX.bk X 40 (1 + c)).length ≤ 2000; rw [HBK.out, Ry.enc_length]; omega)).mono ?_
    rintro en w4a ⟨rfl, hb⟩
    rw [show TX.bk X (Sl.n ⟨some ⟨h, 0, none⟩, 40, 40⟩) (1 + (cY c x).cli) = Ry.enc (rY c l) from HBK.out, show Ry.aKnown (cY c x).cli (cY c x).xid (Ry.enc (rY c l)) = 0 from HF.out.1, show Ry.aRep (cY c x).cli (cY c x).xid (Ry.enc (rY c l)) = Rp.zero from HF.out.2]
    have HT4a := Lib.hid (HT3.out.below hb)
    clear hb hbc HT3 HF
    go_upto_region 8 with (first
      | (refine wpList_alloc_any rfl 41 rfl _ zero_Rp ?_; intro wa hba hsa hwa)
      | (refine wpList_store_part rfl 41 (.tmp 13) (.tmp 40) rfl w4a.heap.size 0 (rc Rp.zero (.slice none 0 0) (.slice none 0 0)) rfl rfl 41 _ hba size_Rp (by simp [rc]) (rc_row _ _ _ _ _ _ _) ?_
         intro w4 hbb hsb hkb))
    have hbw : Below w4a.heap.size w4a w4 := hwa.trans (hkb.below2 (fun k hk => by omega))
    have HT4 := Lib.hid (HT4a.out.below hbw)
    have e13 := (show Bw w4 w4a.heap.size (rc Rp.zero (.slice none 0 0) (.slice none 0 0)) 41 from hbb).cell 13 _ rfl
    have e13 : w4.cell? ⟨w4a.heap.size, 13, none⟩ = some (.int .u64 0) := e13
    clear hba hsa hwa hbb hsb hkb hbw HT4a
    have g1 : ((x : Int) == (l : Int)) = false := by simp; omega
    have g2 : decide (x < l) = false := by simp; omega
    go_wp2_with fail
    go_ret
    exact ⟨rfl, HT4.out.bel⟩
  · subst hlx
    have HF := Lib.hid (Ry.ask_eq (rY c l) HWR.out HOK.out)
    go_wp2_with fail
    refine (ask_tq HT3.out.tq (cY c l) (.slice none 0 0) (by show (TX.bk X 40 (1 + c)).length ≤ 2000; rw [HBK.out, Ry.enc_length]; omega)).mono ?_
    rintro en w4a ⟨rfl, hb⟩
    rw [show TX.bk X (Sl.n ⟨some ⟨h, 0, none⟩, 40, 40⟩) (1 + (cY c l).cli) = Ry.enc (rY c l) from HBK.out, show Ry.aKnown (cY c l).cli (cY c l).xid (Ry.enc (rY c l)) = 1 from HF.out.1, show Ry.aRep (cY c l).cli (cY c l).xid (Ry.enc (rY c l)) = (rY c l) from HF.out.2]
    have HT4a := Lib.hid (HT3.out.below hb)
    clear hb hbc HT3 HF
    go_upto_region 8 with (first
      | (refine wpList_alloc_any rfl 41 rfl _ zero_Rp ?_; intro wa hba hsa hwa)
      | (refine wpList_store_part rfl 41 (.tmp 13) (.tmp 40) rfl w4a.heap.size 0 (rc (rY c l) (.slice none 0 0) (.slice none 0 0)) rfl rfl 41 _ hba size_Rp (by simp [rc]) (rc_row _ _ _ _ _ _ _) ?_
         intro w4 hbb hsb hkb))
    have hbw : Below w4a.heap.size w4a w4 := hwa.trans (hkb.below2 (fun k hk => by omega))
    have HT4 := Lib.hid (HT4a.out.below hbw)
    have e13 := (show Bw w4 w4a.heap.size (rc (rY c l) (.slice none 0 0) (.slice none 0 0)) 41 from hbb).cell 13 _ rfl
    have e13 : w4.cell? ⟨w4a.heap.size, 13, none⟩ = some (.int .u64 7) := e13
    clear hba hsa hwa hbb hsb hkb hbw HT4a
    go_wp2_with fail
    go_ret
    exact ⟨rfl, HT4.out.bel⟩
  · have HF := Lib.hid (Ry.ask_gt (rY c l) HWR.out HOK.out x hlx)
    go_wp2_with fail
    refine (ask_tq HT3.out.tq (cY c x) (.slice none 0 0) (by show (TX.bk X 40 (1 + c)).length ≤ 2000; rw [HBK.out, Ry.enc_length]; omega)).mono ?_
    rintro en w4a ⟨rfl, hb⟩
    rw [show TX.bk X (Sl.n ⟨some ⟨h, 0, none⟩, 40, 40⟩) (1 + (cY c x).cli) = Ry.enc (rY c l) from HBK.out, show Ry.aKnown (cY c x).cli (cY c x).xid (Ry.enc (rY c l)) = 2 from HF.out.1, show Ry.aRep (cY c x).cli (cY c x).xid (Ry.enc (rY c l)) = Rp.zero from HF.out.2]
    have HT4a := Lib.hid (HT3.out.below hb)
    clear hb hbc HT3 HF
    go_upto_region 8 with (first
      | (refine wpList_alloc_any rfl 41 rfl _ zero_Rp ?_; intro wa hba hsa hwa)
      | (refine wpList_store_part rfl 41 (.tmp 13) (.tmp 40) rfl w4a.heap.size 0 (rc Rp.zero (.slice none 0 0) (.slice none 0 0)) rfl rfl 41 _ hba size_Rp (by simp [rc]) (rc_row _ _ _ _ _ _ _) ?_
         intro w4 hbb hsb hkb))
    have hbw : Below w4a.heap.size w4a w4 := hwa.trans (hkb.below2 (fun k hk => by omega))
    have HT4 := Lib.hid (HT4a.out.below hbw)
    have e13 := (show Bw w4 w4a.heap.size (rc Rp.zero (.slice none 0 0) (.slice none 0 0)) 41 from hbb).cell 13 _ rfl
    have e13 : w4.cell? ⟨w4a.heap.size, 13, none⟩ = some (.int .u64 0) := e13
    clear hba hsa hwa hbb hsb hkb hbw HT4a
    have g1 : ((x : Int) == (l : Int)) = false := by simp; omega
    have g2 : decide (x < l) = true := by simp; omega
    go_wp2_with fail
    go_ret
    exact ⟨rfl, HT4.out.bel⟩
end Go.Proofs.Ytjgmboleiaehaaa
