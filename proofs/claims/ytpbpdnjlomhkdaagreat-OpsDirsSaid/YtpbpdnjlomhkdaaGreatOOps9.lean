/-
  Contract of Readdir (layer 13).
-/
import Derived.Test.YtpbpdnjlomhkdaaGreatOOps7
namespace Go.Proofs.YtpbpdnjlomhkdaaGreat
open Go.RowKit Go.Shelf

theorem aftL_len (es : List En) (c : Nat) (most : Int) : (aftL es c most).length ≤ es.length := by
  unfold aftL
  rw [List.length_take, List.length_drop]
  omega
theorem most_i (x : Nat) : min (x : Int) 24 = Op.most x := by
  unfold Op.most
  split <;> omega
section
variable {w0 w w' : World} {p g k : Nat} {t u : Op.TT} {sl : Nat → Sl} {c : Cl} {B : Option Addr} {n d : Nat} {r r' : Rp} {D D' : Option Addr} {m e m' e' : Nat} {E E' : Option Addr} {q f q' f' : Nat}
set_option maxRecDepth 100000 in
set_option maxHeartbeats 4000000 in
theorem readdir_any (h : RX w0 w p g k t sl c B n d (Op.rep0 c) none 0 0 none 0 0) (hs : Op.Sound t) (hcn : c.cnt < 4294967296) :
    Calls Tryz.prog 66 #[.pointer (some ⟨p, 0, none⟩)] w (OutQ w0 p g k c B n d (Op.readdir t c)) := by
  have HX0 := Lib.hid h
  have HSD := Lib.hid hs
  obtain ⟨RR, hRR⟩ : ∃ RR, RR = Op.readdir t c := ⟨_, rfl⟩
  rw [← hRR]
  have HR0 := Lib.hid hRR
  have HCN := Lib.hid hcn
  clear h hs hRR hcn
  go_enter Tryz.func66, Tryz.ntmps66
  go_wp2_with (refine wpList_load_part rfl 35 (.tmp 7) rfl p 6 rfl _ Tryz.underlying35 rfl (hc c.ati c.atg) 104 _ HX0.out.run size_H xc_at ?_)
  refine (folder_any HX0.out c.ati c.atg).mono ?_
  rintro e w1 ⟨⟨hz, rfl⟩ | ⟨hz, rfl⟩, hb⟩
  rotate_left
  · exact ⟨rfl, .no (HR0.out.trans (if_pos hz)) (HX0.out.below hb).bel⟩
  have HX1 := Lib.hid (HX0.out.below hb)
  have HR1 := Lib.hid (HR0.out.trans (if_neg (fun h => h hz)))
  have HDA : Hid (Op.Dir t c.ati) := HSD.out.inv.isDir (Op.folder_ok hz).1 (Op.folder_ok hz).2.1
  clear hz hb HX0 HR0
  have q14 := HX1.out.cellR 14 _ rfl
  by_cases h0 : c.cnt = 0
  · have hd : ((c.cnt : Int) == 0) = true := by simp; omega
    have HRE := Lib.hid (HR1.out.trans (if_pos h0))
    clear h0 HR1
    go_wp2_with (refine (refuse_yes 64 _).mono ?_; rintro e w' ⟨rfl, rfl⟩)
    exact ⟨rfl, .no HRE.out HX1.out.bel⟩
  have hd : ((c.cnt : Int) == 0) = false := by simp; omega
  have HRF := Lib.hid (HR1.out.trans (if_neg h0))
  have hgen : (t.s c.ati).gen < 4294967296 := (HSD.out.inv.wide _ HDA.out.lt).gen
  clear h0 HR1
  go_upto_region 2 with (refine (refuse_no 64 _).mono ?_; rintro e w' ⟨rfl, rfl⟩)
  clear hd q14
  obtain ⟨wq, hwq⟩ : ∃ wq, wq = w1 := ⟨_, rfl⟩
  rw [← hwq] at HX1 ⊢
  have HXQ := HX1
  clear HX1 hwq
  by_cases hv : c.off ≠ 0 ∧ c.vf ≠ (t.s c.ati).gen
  · have HRE := Lib.hid (HRF.out.trans (if_pos hv))
    have hv1 := hv.1
    have hv2 := hv.2
    clear hv HRF
    have HS : Hid ((fun W : World => W.cell? ⟨p, 12, none⟩ = some (.int .u64 (c.off : Int)) ∧ W.cell? ⟨p, 13, none⟩ = some (.int .u64 (c.vf : Int)) ∧ W.cell? ⟨g, c.ati * 9 + 2, none⟩ = some (.int .u32 ((t.s c.ati).gen : Int))) wq.drew) := ⟨HXQ.out.cellR 12 _ rfl, HXQ.out.cellR 13 _ rfl, HXQ.out.cellS HDA.out.lt 2 _ rfl⟩
    refine wp_region_held_drew (S := (fun W : World => W.cell? ⟨p, 12, none⟩ = some (.int .u64 (c.off : Int)) ∧ W.cell? ⟨p, 13, none⟩ = some (.int .u64 (c.vf : Int)) ∧ W.cell? ⟨g, c.ati * 9 + 2, none⟩ = some (.int .u32 ((t.s c.ati).gen : Int)))) (by kernel_rfl) HS.out (fun _ => ?_)
    change wpAnyH _ _ _ _ _ 20 (Array.replicate 20 false) _ _
    refine takeH (i := 0) 17 (.pointer (some ⟨p, 0, none⟩)) rfl rfl (by kernel_rfl) (by kernel_rfl) (by kernel_rfl) (fun _ _ _ h => h) (.inl ⟨by rfl, fun W hW => by go_simp⟩) HS.out ?_
    simp only [Act.put, List.setIfInBounds_toArray, List.set_cons_zero, List.set_cons_succ]
    refine takeH (i := 1) 18 (.pointer (some ⟨p, 0, none⟩)) rfl rfl (by kernel_rfl) (by kernel_rfl) (by kernel_rfl) (fun _ _ _ h => h) (.inl ⟨by rfl, fun W hW => by go_simp⟩) HS.out ?_
    simp only [Act.put, List.setIfInBounds_toArray, List.set_cons_zero, List.set_cons_succ]
    refine takeH (i := 2) 19 (.pointer (some ⟨p, 3, none⟩)) rfl rfl (by kernel_rfl) (by kernel_rfl) (by kernel_rfl) (fun _ _ _ h => h) (.inl ⟨by rfl, fun W hW => by go_simp⟩) HS.out ?_
    simp only [Act.put, List.setIfInBounds_toArray, List.set_cons_zero, List.set_cons_succ]
    refine takeH (i := 3) 20 (.pointer (some ⟨p, 12, none⟩)) rfl rfl (by kernel_rfl) (by kernel_rfl) (by kernel_rfl) (fun _ _ _ h => h) (.inl ⟨by rfl, fun W hW => by go_simp⟩) HS.out ?_
    simp only [Act.put, List.setIfInBounds_toArray, List.set_cons_zero, List.set_cons_succ]
    refine takeH (i := 4) 21 (.int .u64 (c.off : Int)) rfl rfl (by kernel_rfl) (by kernel_rfl) (by kernel_rfl) (fun _ _ _ h => h) (.inl ⟨by rfl, fun W hW => by (have hz := hW.1; go_simp)⟩) HS.out ?_
    simp only [Act.put, List.setIfInBounds_toArray, List.set_cons_zero, List.set_cons_succ]
    refine takeH (i := 5) 22 (.bool true) rfl rfl (by kernel_rfl) (by kernel_rfl) (by kernel_rfl) (fun _ _ _ h => h) (.inl ⟨by rfl, fun W hW => by (go_simp <;> omega)⟩) HS.out ?_
    simp only [Act.put, List.setIfInBounds_toArray, List.set_cons_zero, List.set_cons_succ]
    refine takeH (i := 6) 23 (.bool true) rfl rfl (by kernel_rfl) (by kernel_rfl) (by kernel_rfl) (fun _ _ _ h => h) (.inl ⟨by rfl, fun W hW => by go_simp⟩) HS.out ?_
    simp only [Act.put, List.setIfInBounds_toArray, List.set_cons_zero, List.set_cons_succ]
    refine takeH (i := 7) 24 (.pointer (some ⟨p, 0, none⟩)) rfl rfl (by kernel_rfl) (by kernel_rfl) (by kernel_rfl) (fun _ _ _ h => h) (.inl ⟨by rfl, fun W hW => by go_simp⟩) HS.out ?_
    simp only [Act.put, List.setIfInBounds_toArray, List.set_cons_zero, List.set_cons_succ]
    refine takeH (i := 8) 25 (.pointer (some ⟨p, 0, none⟩)) rfl rfl (by kernel_rfl) (by kernel_rfl) (by kernel_rfl) (fun _ _ _ h => h) (.inl ⟨by rfl, fun W hW => by go_simp⟩) HS.out ?_
    simp only [Act.put, List.setIfInBounds_toArray, List.set_cons_zero, List.set_cons_succ]
    refine takeH (i := 9) 26 (.pointer (some ⟨p, 3, none⟩)) rfl rfl (by kernel_rfl) (by kernel_rfl) (by kernel_rfl) (fun _ _ _ h => h) (.inl ⟨by rfl, fun W hW => by go_simp⟩) HS.out ?_
    simp only [Act.put, List.setIfInBounds_toArray, List.set_cons_zero, List.set_cons_succ]
    refine takeH (i := 10) 27 (.pointer (some ⟨p, 13, none⟩)) rfl rfl (by kernel_rfl) (by kernel_rfl) (by kernel_rfl) (fun _ _ _ h => h) (.inl ⟨by rfl, fun W hW => by go_simp⟩) HS.out ?_
    simp only [Act.put, List.setIfInBounds_toArray, List.set_cons_zero, List.set_cons_succ]
    refine takeH (i := 11) 28 (.int .u64 (c.vf : Int)) rfl rfl (by kernel_rfl) (by kernel_rfl) (by kernel_rfl) (fun _ _ _ h => h) (.inl ⟨by rfl, fun W hW => by (have hz := hW.2.1; go_simp)⟩) HS.out ?_
    simp only [Act.put, List.setIfInBounds_toArray, List.set_cons_zero, List.set_cons_succ]
    refine takeH (i := 12) 29 (.pointer (some ⟨g, c.ati * 9, none⟩)) rfl rfl (by kernel_rfl) (by kernel_rfl) (by kernel_rfl) (fun _ _ _ h => h) (.inl ⟨by rfl, fun W hW => by go_simp⟩) HS.out ?_
    simp only [Act.put, List.setIfInBounds_toArray, List.set_cons_zero, List.set_cons_succ]
    refine takeH (i := 13) 30 (.pointer (some ⟨g, c.ati * 9, none⟩)) rfl rfl (by kernel_rfl) (by kernel_rfl) (by kernel_rfl) (fun _ _ _ h => h) (.inl ⟨by rfl, fun W hW => by go_simp⟩) HS.out ?_
    simp only [Act.put, List.setIfInBounds_toArray, List.set_cons_zero, List.set_cons_succ]
    refine takeH (i := 14) 31 (.pointer (some ⟨g, c.ati * 9 + 2, none⟩)) rfl rfl (by kernel_rfl) (by kernel_rfl) (by kernel_rfl) (fun _ _ _ h => h) (.inl ⟨by rfl, fun W hW => by go_simp⟩) HS.out ?_
    simp only [Act.put, List.setIfInBounds_toArray, List.set_cons_zero, List.set_cons_succ]
    refine takeH (i := 15) 32 (.int .u32 ((t.s c.ati).gen : Int)) rfl rfl (by kernel_rfl) (by kernel_rfl) (by kernel_rfl) (fun _ _ _ h => h) (.inl ⟨by rfl, fun W hW => by (have hz := hW.2.2; go_simp)⟩) HS.out ?_
    simp only [Act.put, List.setIfInBounds_toArray, List.set_cons_zero, List.set_cons_succ]
    refine takeH (i := 16) 33 (.int .u64 ((t.s c.ati).gen : Int)) rfl rfl (by kernel_rfl) (by kernel_rfl) (by kernel_rfl) (fun _ _ _ h => h) (.inl ⟨by rfl, fun W hW => by (go_simp; exact IntWalk.u64_in _ (by omega))⟩) HS.out ?_
    simp only [Act.put, List.setIfInBounds_toArray, List.set_cons_zero, List.set_cons_succ]
    refine takeH (i := 17) 34 (.bool true) rfl rfl (by kernel_rfl) (by kernel_rfl) (by kernel_rfl) (fun _ _ _ h => h) (.inl ⟨by rfl, fun W hW => by (go_simp <;> omega)⟩) HS.out ?_
    simp only [Act.put, List.setIfInBounds_toArray, List.set_cons_zero, List.set_cons_succ]
    refine takeH (i := 18) 35 (.bool true) rfl rfl (by kernel_rfl) (by kernel_rfl) (by kernel_rfl) (fun _ _ _ h => h) (.inl ⟨by rfl, fun W hW => by go_simp⟩) HS.out ?_
    simp only [Act.put, List.setIfInBounds_toArray, List.set_cons_zero, List.set_cons_succ]
    refine wpAnyH_ready (rs := [19]) (by kernel_rfl) (by simp) ?_
    refine AllReadyH.cons rfl (fun K hK => ?_) AllReadyH.nil
    go_simp
    refine (refuse_yes 70 _).mono ?_
    rintro e w' ⟨rfl, rfl⟩
    exact ⟨rfl, .no HRE.out HXQ.out.drew.bel⟩
  have HRG := Lib.hid (HRF.out.trans (if_neg hv))
  clear HRF
  by_cases ho : c.off = 0
  · clear hv
    have HS : Hid ((fun W : World => W.cell? ⟨p, 12, none⟩ = some (.int .u64 (c.off : Int)) ∧ W.cell? ⟨p, 13, none⟩ = some (.int .u64 (c.vf : Int)) ∧ W.cell? ⟨g, c.ati * 9 + 2, none⟩ = some (.int .u32 ((t.s c.ati).gen : Int))) wq.drew) := ⟨HXQ.out.cellR 12 _ rfl, HXQ.out.cellR 13 _ rfl, HXQ.out.cellS HDA.out.lt 2 _ rfl⟩
    refine wp_region_held_drew (S := (fun W : World => W.cell? ⟨p, 12, none⟩ = some (.int .u64 (c.off : Int)) ∧ W.cell? ⟨p, 13, none⟩ = some (.int .u64 (c.vf : Int)) ∧ W.cell? ⟨g, c.ati * 9 + 2, none⟩ = some (.int .u32 ((t.s c.ati).gen : Int)))) (by kernel_rfl) HS.out (fun _ => ?_)
    change wpAnyH _ _ _ _ _ 20 (Array.replicate 20 false) _ _
    refine takeH (i := 0) 17 (.pointer (some ⟨p, 0, none⟩)) rfl rfl (by kernel_rfl) (by kernel_rfl) (by kernel_rfl) (fun _ _ _ h => h) (.inl ⟨by rfl, fun W hW => by go_simp⟩) HS.out ?_
    simp only [Act.put, List.setIfInBounds_toArray, List.set_cons_zero, List.set_cons_succ]
    refine takeH (i := 1) 18 (.pointer (some ⟨p, 0, none⟩)) rfl rfl (by kernel_rfl) (by kernel_rfl) (by kernel_rfl) (fun _ _ _ h => h) (.inl ⟨by rfl, fun W hW => by go_simp⟩) HS.out ?_
    simp only [Act.put, List.setIfInBounds_toArray, List.set_cons_zero, List.set_cons_succ]
    refine takeH (i := 2) 19 (.pointer (some ⟨p, 3, none⟩)) rfl rfl (by kernel_rfl) (by kernel_rfl) (by kernel_rfl) (fun _ _ _ h => h) (.inl ⟨by rfl, fun W hW => by go_simp⟩) HS.out ?_
    simp only [Act.put, List.setIfInBounds_toArray, List.set_cons_zero, List.set_cons_succ]
    refine takeH (i := 3) 20 (.pointer (some ⟨p, 12, none⟩)) rfl rfl (by kernel_rfl) (by kernel_rfl) (by kernel_rfl) (fun _ _ _ h => h) (.inl ⟨by rfl, fun W hW => by go_simp⟩) HS.out ?_
    simp only [Act.put, List.setIfInBounds_toArray, List.set_cons_zero, List.set_cons_succ]
    refine takeH (i := 4) 21 (.int .u64 (c.off : Int)) rfl rfl (by kernel_rfl) (by kernel_rfl) (by kernel_rfl) (fun _ _ _ h => h) (.inl ⟨by rfl, fun W hW => by (have hz := hW.1; go_simp)⟩) HS.out ?_
    simp only [Act.put, List.setIfInBounds_toArray, List.set_cons_zero, List.set_cons_succ]
    refine takeH (i := 5) 22 (.bool false) rfl rfl (by kernel_rfl) (by kernel_rfl) (by kernel_rfl) (fun _ _ _ h => h) (.inl ⟨by rfl, fun W hW => by (go_simp <;> omega)⟩) HS.out ?_
    simp only [Act.put, List.setIfInBounds_toArray, List.set_cons_zero, List.set_cons_succ]
    refine takeH (i := 6) 23 (.bool false) rfl rfl (by kernel_rfl) (by kernel_rfl) (by kernel_rfl) (fun _ _ _ h => h) (.inl ⟨by rfl, fun W hW => by go_simp⟩) HS.out ?_
    simp only [Act.put, List.setIfInBounds_toArray, List.set_cons_zero, List.set_cons_succ]
    refine takeH (i := 7) 24 undef rfl rfl (by kernel_rfl) (by kernel_rfl) (by kernel_rfl) (fun _ _ _ h => h) (.inr ⟨by rfl, rfl⟩) HS.out ?_
    simp only [Act.put, List.setIfInBounds_toArray, List.set_cons_zero, List.set_cons_succ]
    refine takeH (i := 8) 25 undef rfl rfl (by kernel_rfl) (by kernel_rfl) (by kernel_rfl) (fun _ _ _ h => h) (.inr ⟨by rfl, rfl⟩) HS.out ?_
    simp only [Act.put, List.setIfInBounds_toArray, List.set_cons_zero, List.set_cons_succ]
    refine takeH (i := 9) 26 undef rfl rfl (by kernel_rfl) (by kernel_rfl) (by kernel_rfl) (fun _ _ _ h => h) (.inr ⟨by rfl, rfl⟩) HS.out ?_
    simp only [Act.put, List.setIfInBounds_toArray, List.set_cons_zero, List.set_cons_succ]
    refine takeH (i := 10) 27 undef rfl rfl (by kernel_rfl) (by kernel_rfl) (by kernel_rfl) (fun _ _ _ h => h) (.inr ⟨by rfl, rfl⟩) HS.out ?_
    simp only [Act.put, List.setIfInBounds_toArray, List.set_cons_zero, List.set_cons_succ]
    refine takeH (i := 11) 28 undef rfl rfl (by kernel_rfl) (by kernel_rfl) (by kernel_rfl) (fun _ _ _ h => h) (.inr ⟨by rfl, rfl⟩) HS.out ?_
    simp only [Act.put, List.setIfInBounds_toArray, List.set_cons_zero, List.set_cons_succ]
    refine takeH (i := 12) 29 undef rfl rfl (by kernel_rfl) (by kernel_rfl) (by kernel_rfl) (fun _ _ _ h => h) (.inr ⟨by rfl, rfl⟩) HS.out ?_
    simp only [Act.put, List.setIfInBounds_toArray, List.set_cons_zero, List.set_cons_succ]
    refine takeH (i := 13) 30 undef rfl rfl (by kernel_rfl) (by kernel_rfl) (by kernel_rfl) (fun _ _ _ h => h) (.inr ⟨by rfl, rfl⟩) HS.out ?_
    simp only [Act.put, List.setIfInBounds_toArray, List.set_cons_zero, List.set_cons_succ]
    refine takeH (i := 14) 31 undef rfl rfl (by kernel_rfl) (by kernel_rfl) (by kernel_rfl) (fun _ _ _ h => h) (.inr ⟨by rfl, rfl⟩) HS.out ?_
    simp only [Act.put, List.setIfInBounds_toArray, List.set_cons_zero, List.set_cons_succ]
    refine takeH (i := 15) 32 undef rfl rfl (by kernel_rfl) (by kernel_rfl) (by kernel_rfl) (fun _ _ _ h => h) (.inr ⟨by rfl, rfl⟩) HS.out ?_
    simp only [Act.put, List.setIfInBounds_toArray, List.set_cons_zero, List.set_cons_succ]
    refine takeH (i := 16) 33 undef rfl rfl (by kernel_rfl) (by kernel_rfl) (by kernel_rfl) (fun _ _ _ h => h) (.inr ⟨by rfl, rfl⟩) HS.out ?_
    simp only [Act.put, List.setIfInBounds_toArray, List.set_cons_zero, List.set_cons_succ]
    refine takeH (i := 17) 34 undef rfl rfl (by kernel_rfl) (by kernel_rfl) (by kernel_rfl) (fun _ _ _ h => h) (.inr ⟨by rfl, rfl⟩) HS.out ?_
    simp only [Act.put, List.setIfInBounds_toArray, List.set_cons_zero, List.set_cons_succ]
    refine takeH (i := 18) 35 (.bool false) rfl rfl (by kernel_rfl) (by kernel_rfl) (by kernel_rfl) (fun _ _ _ h => h) (.inl ⟨by rfl, fun W hW => by go_simp⟩) HS.out ?_
    simp only [Act.put, List.setIfInBounds_toArray, List.set_cons_zero, List.set_cons_succ]
    refine wpAnyH_ready (rs := [19]) (by kernel_rfl) (by simp) ?_
    refine AllReadyH.cons rfl (fun K hK => ?_) AllReadyH.nil
    go_simp
    clear ho
    refine (refuse_no 70 _).mono ?_
    rintro e w' ⟨rfl, rfl⟩
    refine hK.out _ _ HS.out fun _ => ?_
    clear hK K
    refine wpAnyH_done (by kernel_rfl) ?_ _
    go_upto_region 3 with fail
    have HXd := Lib.hid HXQ.out.drew.drew
    clear HS HXQ
    have HS : Hid ((fun W : World => W.cell? ⟨p, 12, none⟩ = some (.int .u64 (c.off : Int)) ∧ W.cell? ⟨p, 14, none⟩ = some (.int .u32 (c.cnt : Int))) wq.drew.drew) := ⟨HXd.out.cellR 12 _ rfl, HXd.out.cellR 14 _ rfl⟩
    have HEN := Lib.hid (entries_any HXd.out HDA.out)
    have HFW := Lib.hid HDA.out.few
    obtain ⟨M, hM⟩ : ∃ M, M = Op.most c.cnt := ⟨_, rfl⟩
    have HM : Hid (min (c.cnt : Int) 24 = M ∧ 0 ≤ M ∧ M ≤ 24) := by
      have h1 := most_i c.cnt
      refine ⟨by rw [hM]; exact h1, ?_, ?_⟩ <;> omega
    rw [← hM] at HRG
    clear hM
    refine wp_region_held_drew (S := (fun W : World => W.cell? ⟨p, 12, none⟩ = some (.int .u64 (c.off : Int)) ∧ W.cell? ⟨p, 14, none⟩ = some (.int .u32 (c.cnt : Int)))) (by kernel_rfl) HS.out (fun _ => ?_)
    change wpAnyH _ _ _ _ _ 28 (Array.replicate 28 false) _ _
    generalize wq.drew.drew = wd at *
    refine takeH (i := 0) 38 (.pointer (some ⟨p, 0, none⟩)) rfl rfl (by kernel_rfl) (by kernel_rfl) (by kernel_rfl) (fun _ _ _ h => h) (.inl ⟨by rfl, fun W hW => by go_simp⟩) HS.out ?_
    simp only [Act.put, List.setIfInBounds_toArray, List.set_cons_zero, List.set_cons_succ]
    refine takeH (i := 1) 39 (.pointer (some ⟨p, 0, none⟩)) rfl rfl (by kernel_rfl) (by kernel_rfl) (by kernel_rfl) (fun _ _ _ h => h) (.inl ⟨by rfl, fun W hW => by go_simp⟩) HS.out ?_
    simp only [Act.put, List.setIfInBounds_toArray, List.set_cons_zero, List.set_cons_succ]
    refine takeH (i := 2) 40 (.pointer (some ⟨g, c.ati * 9, none⟩)) rfl rfl (by kernel_rfl) (by kernel_rfl) (by kernel_rfl) (fun _ _ _ h => h) (.inl ⟨by rfl, fun W hW => by go_simp⟩) HS.out ?_
    simp only [Act.put, List.setIfInBounds_toArray, List.set_cons_zero, List.set_cons_succ]
    refine takeH (i := 4) 42 (.pointer (some ⟨p, 0, none⟩)) rfl rfl (by kernel_rfl) (by kernel_rfl) (by kernel_rfl) (fun _ _ _ h => h) (.inl ⟨by rfl, fun W hW => by go_simp⟩) HS.out ?_
    simp only [Act.put, List.setIfInBounds_toArray, List.set_cons_zero, List.set_cons_succ]
    refine takeH (i := 5) 43 (.pointer (some ⟨p, 0, none⟩)) rfl rfl (by kernel_rfl) (by kernel_rfl) (by kernel_rfl) (fun _ _ _ h => h) (.inl ⟨by rfl, fun W hW => by go_simp⟩) HS.out ?_
    simp only [Act.put, List.setIfInBounds_toArray, List.set_cons_zero, List.set_cons_succ]
    refine takeH (i := 6) 44 (.pointer (some ⟨p, 3, none⟩)) rfl rfl (by kernel_rfl) (by kernel_rfl) (by kernel_rfl) (fun _ _ _ h => h) (.inl ⟨by rfl, fun W hW => by go_simp⟩) HS.out ?_
    simp only [Act.put, List.setIfInBounds_toArray, List.set_cons_zero, List.set_cons_succ]
    refine takeH (i := 7) 45 (.pointer (some ⟨p, 12, none⟩)) rfl rfl (by kernel_rfl) (by kernel_rfl) (by kernel_rfl) (fun _ _ _ h => h) (.inl ⟨by rfl, fun W hW => by go_simp⟩) HS.out ?_
    simp only [Act.put, List.setIfInBounds_toArray, List.set_cons_zero, List.set_cons_succ]
    refine takeH (i := 8) 46 (.int .u64 (c.off : Int)) rfl rfl (by kernel_rfl) (by kernel_rfl) (by kernel_rfl) (fun _ _ _ h => h) (.inl ⟨by rfl, fun W hW => by (have hz := hW.1; go_simp)⟩) HS.out ?_
    simp only [Act.put, List.setIfInBounds_toArray, List.set_cons_zero, List.set_cons_succ]
    refine takeH (i := 9) 47 (.pointer (some ⟨p, 0, none⟩)) rfl rfl (by kernel_rfl) (by kernel_rfl) (by kernel_rfl) (fun _ _ _ h => h) (.inl ⟨by rfl, fun W hW => by go_simp⟩) HS.out ?_
    simp only [Act.put, List.setIfInBounds_toArray, List.set_cons_zero, List.set_cons_succ]
    refine takeH (i := 10) 48 (.pointer (some ⟨p, 0, none⟩)) rfl rfl (by kernel_rfl) (by kernel_rfl) (by kernel_rfl) (fun _ _ _ h => h) (.inl ⟨by rfl, fun W hW => by go_simp⟩) HS.out ?_
    simp only [Act.put, List.setIfInBounds_toArray, List.set_cons_zero, List.set_cons_succ]
    refine takeH (i := 11) 49 (.pointer (some ⟨p, 3, none⟩)) rfl rfl (by kernel_rfl) (by kernel_rfl) (by kernel_rfl) (fun _ _ _ h => h) (.inl ⟨by rfl, fun W hW => by go_simp⟩) HS.out ?_
    simp only [Act.put, List.setIfInBounds_toArray, List.set_cons_zero, List.set_cons_succ]
    refine takeH (i := 12) 50 (.pointer (some ⟨p, 14, none⟩)) rfl rfl (by kernel_rfl) (by kernel_rfl) (by kernel_rfl) (fun _ _ _ h => h) (.inl ⟨by rfl, fun W hW => by go_simp⟩) HS.out ?_
    simp only [Act.put, List.setIfInBounds_toArray, List.set_cons_zero, List.set_cons_succ]
    refine takeH (i := 13) 51 (.int .u32 (c.cnt : Int)) rfl rfl (by kernel_rfl) (by kernel_rfl) (by kernel_rfl) (fun _ _ _ h => h) (.inl ⟨by rfl, fun W hW => by (have hz := hW.2; go_simp)⟩) HS.out ?_
    simp only [Act.put, List.setIfInBounds_toArray, List.set_cons_zero, List.set_cons_succ]
    refine takeH (i := 14) 52 (.int .u32 M) rfl rfl (by kernel_rfl) (by kernel_rfl) (by kernel_rfl) (fun _ _ _ h => h) (.inl ⟨by rfl, fun W hW => by (go_simp; have := HM.out; omega)⟩) HS.out ?_
    simp only [Act.put, List.setIfInBounds_toArray, List.set_cons_zero, List.set_cons_succ]
    refine takeH (i := 15) 53 (.int .i64 M) rfl rfl (by kernel_rfl) (by kernel_rfl) (by kernel_rfl) (fun _ _ _ h => h) (.inl ⟨by rfl, fun W hW => by (go_simp; exact IntWalk.i64_in _ (by have := HM.out; omega))⟩) HS.out ?_
    simp only [Act.put, List.setIfInBounds_toArray, List.set_cons_zero, List.set_cons_succ]
    refine wpAnyH_ready (rs := [3]) (by kernel_rfl) (by simp) ?_
    refine AllReadyH.cons rfl (fun K hK => ?_) AllReadyH.nil
    go_simp
    refine HEN.out.mono ?_
    rintro e w3 ⟨A3, n3, c3, rfl, h1, h2, h3⟩
    have HX3 := Lib.hid (HXd.out.below h3)
    have HAF := Lib.hid (after_any A3 n3 c3 (Op.ents t c.ati) c.off M w3 h1 h2.1 h2.2 (by have := HFW.out; rw [← h1.1]; omega))
    have HS3 : Hid ((fun W : World => W.cell? ⟨p, 12, none⟩ = some (.int .u64 (c.off : Int)) ∧ W.cell? ⟨p, 14, none⟩ = some (.int .u32 (c.cnt : Int))) w3) := ⟨HX3.out.cellR 12 _ rfl, HX3.out.cellR 14 _ rfl⟩
    refine hK.out _ _ HS3.out fun _ => ?_
    clear hK K h1 h2 h3 HXd HEN HS
    refine wpAnyH_ready (rs := [16]) (by kernel_rfl) (by simp) ?_
    refine AllReadyH.cons rfl (fun K hK => ?_) AllReadyH.nil
    go_simp
    refine HAF.out.mono ?_
    rintro e w4 ⟨A4, n4, c4, rfl, h1, h2, h3⟩
    have HX4 := Lib.hid (HX3.out.below h3)
    have HE4 := Lib.hid h1
    have HL4 : Hid (n4 ≤ 38) := by show _ ≤ _; rw [← h1.1]; exact Nat.le_trans (aftL_len _ _ _) HFW.out
    have HS4 : Hid ((fun W : World => W.cell? ⟨p, 12, none⟩ = some (.int .u64 (c.off : Int)) ∧ W.cell? ⟨p, 14, none⟩ = some (.int .u32 (c.cnt : Int))) w4) := ⟨HX4.out.cellR 12 _ rfl, HX4.out.cellR 14 _ rfl⟩
    refine hK.out _ _ HS4.out fun _ => ?_
    obtain ⟨Z, hZ⟩ : ∃ Z, Z = aftB (Op.ents t c.ati) c.off M := ⟨_, rfl⟩
    obtain ⟨ES4, hES⟩ : ∃ E, E = aftL (Op.ents t c.ati) c.off M := ⟨_, rfl⟩
    rw [← hZ, ← hES] at HRG
    rw [← hES] at HE4
    rw [← hZ]
    clear hK K h1 h2 h3 HX3 HAF HS3 hZ hES HFW
    refine takeH (i := 17) 37 (.tuple #[.slice A4 n4 c4, .bool Z]) rfl rfl (by kernel_rfl) (by kernel_rfl) (by kernel_rfl) (fun _ _ _ h => h) (.inl ⟨by rfl, fun W hW => by go_simp⟩) HS4.out ?_
    simp only [Act.put, List.setIfInBounds_toArray, List.set_cons_zero, List.set_cons_succ]
    refine takeH (i := 18) 55 (.slice A4 n4 c4) rfl rfl (by kernel_rfl) (by kernel_rfl) (by kernel_rfl) (fun _ _ _ h => h) (.inl ⟨by rfl, fun W hW => by go_simp⟩) HS4.out ?_
    simp only [Act.put, List.setIfInBounds_toArray, List.set_cons_zero, List.set_cons_succ]
    refine takeH (i := 19) 56 (.bool Z) rfl rfl (by kernel_rfl) (by kernel_rfl) (by kernel_rfl) (fun _ _ _ h => h) (.inl ⟨by rfl, fun W hW => by go_simp⟩) HS4.out ?_
    simp only [Act.put, List.setIfInBounds_toArray, List.set_cons_zero, List.set_cons_succ]
    refine takeH (i := 20) 57 (.pointer (some ⟨p, 0, none⟩)) rfl rfl (by kernel_rfl) (by kernel_rfl) (by kernel_rfl) (fun _ _ _ h => h) (.inl ⟨by rfl, fun W hW => by go_simp⟩) HS4.out ?_
    simp only [Act.put, List.setIfInBounds_toArray, List.set_cons_zero, List.set_cons_succ]
    refine takeH (i := 21) 58 (.pointer (some ⟨p, 17, none⟩)) rfl rfl (by kernel_rfl) (by kernel_rfl) (by kernel_rfl) (fun _ _ _ h => h) (.inl ⟨by rfl, fun W hW => by go_simp⟩) HS4.out ?_
    simp only [Act.put, List.setIfInBounds_toArray, List.set_cons_zero, List.set_cons_succ]
    refine takeH (i := 22) 59 (.pointer (some ⟨p, 28, none⟩)) rfl rfl (by kernel_rfl) (by kernel_rfl) (by kernel_rfl) (fun _ _ _ h => h) (.inl ⟨by rfl, fun W hW => by go_simp⟩) HS4.out ?_
    simp only [Act.put, List.setIfInBounds_toArray, List.set_cons_zero, List.set_cons_succ]
    refine wpAnyH_ready (rs := [23]) (by kernel_rfl) (by simp) ?_
    refine AllReadyH.cons rfl (fun K hK => ?_) AllReadyH.nil
    have k28 := HX4.out.cellR 28 _ rfl
    have f28 := HX4.out.run.froz 28
    go_simp
    have hk : Keep (· ≠ p) w4 (w4.setCell ⟨p, 28, none⟩ (.slice A4 n4 c4)) := (Keep.refl _ w4).setCell (p := ⟨p, 28, none⟩) (fun h => h rfl) _
    have HX5 : Hid (RX w0 (w4.setCell ⟨p, 28, none⟩ (.slice A4 n4 c4)) p g k t sl c B n d { Op.rep0 c with es := ES4 } none 0 0 A4 n4 c4) := HX4.out.setR 28 _ rfl rfl
    have HE5 := Lib.hid (ES.offX HX4.out HE4.out hk)
    have HS5 : Hid ((fun W : World => W.cell? ⟨p, 12, none⟩ = some (.int .u64 (c.off : Int)) ∧ W.cell? ⟨p, 14, none⟩ = some (.int .u32 (c.cnt : Int))) (w4.setCell ⟨p, 28, none⟩ (.slice A4 n4 c4))) := ⟨HX5.out.cellR 12 _ rfl, HX5.out.cellR 14 _ rfl⟩
    refine hK.out _ _ HS5.out fun _ => ?_
    generalize w4.setCell ⟨p, 28, none⟩ (.slice A4 n4 c4) = w5 at *
    clear hK K k28 f28 hk HX4 HE4 HS4
    refine takeH (i := 24) 60 (.pointer (some ⟨p, 0, none⟩)) rfl rfl (by kernel_rfl) (by kernel_rfl) (by kernel_rfl) (fun _ _ _ h => h) (.inl ⟨by rfl, fun W hW => by go_simp⟩) HS5.out ?_
    simp only [Act.put, List.setIfInBounds_toArray, List.set_cons_zero, List.set_cons_succ]
    refine takeH (i := 25) 61 (.pointer (some ⟨p, 17, none⟩)) rfl rfl (by kernel_rfl) (by kernel_rfl) (by kernel_rfl) (fun _ _ _ h => h) (.inl ⟨by rfl, fun W hW => by go_simp⟩) HS5.out ?_
    simp only [Act.put, List.setIfInBounds_toArray, List.set_cons_zero, List.set_cons_succ]
    refine takeH (i := 26) 62 (.pointer (some ⟨p, 29, none⟩)) rfl rfl (by kernel_rfl) (by kernel_rfl) (by kernel_rfl) (fun _ _ _ h => h) (.inl ⟨by rfl, fun W hW => by go_simp⟩) HS5.out ?_
    simp only [Act.put, List.setIfInBounds_toArray, List.set_cons_zero, List.set_cons_succ]
    refine wpAnyH_ready (rs := [27]) (by kernel_rfl) (by simp) ?_
    refine AllReadyH.cons rfl (fun K hK => ?_) AllReadyH.nil
    have k29 := HX5.out.cellR 29 _ rfl
    have f29 := HX5.out.run.froz 29
    go_simp
    have hk : Keep (· ≠ p) w5 (w5.setCell ⟨p, 29, none⟩ (.bool Z)) := (Keep.refl _ w5).setCell (p := ⟨p, 29, none⟩) (fun h => h rfl) _
    have HX6 : Hid (RX w0 (w5.setCell ⟨p, 29, none⟩ (.bool Z)) p g k t sl c B n d { Op.rep0 c with es := ES4, eof := Z } none 0 0 A4 n4 c4) := HX5.out.setR 29 _ rfl rfl
    have HE6 := Lib.hid (ES.offX HX5.out HE5.out hk)
    have HS6 : Hid ((fun W : World => W.cell? ⟨p, 12, none⟩ = some (.int .u64 (c.off : Int)) ∧ W.cell? ⟨p, 14, none⟩ = some (.int .u32 (c.cnt : Int))) (w5.setCell ⟨p, 29, none⟩ (.bool Z))) := ⟨HX6.out.cellR 12 _ rfl, HX6.out.cellR 14 _ rfl⟩
    refine hK.out _ _ HS6.out fun _ => ?_
    generalize w5.setCell ⟨p, 29, none⟩ (.bool Z) = w6 at *
    clear hK K k29 f29 hk HX5 HE5 HS5
    refine wpAnyH_done (by kernel_rfl) ?_ _
    have s2 := HX6.out.cellS HDA.out.lt 2 _ rfl
    have q30 := HX6.out.cellR 30 _ rfl
    have f30 := HX6.out.run.froz 30
    go_upto_region 5 with fail
    have hk : Keep (· ≠ p) w6 (w6.setCell ⟨p, 30, none⟩ (.int .u64 ((t.s c.ati).gen : Int))) := (Keep.refl _ w6).setCell (p := ⟨p, 30, none⟩) (fun h => h rfl) _
    have HX7 : Hid (RX w0 (w6.setCell ⟨p, 30, none⟩ (.int .u64 ((t.s c.ati).gen : Int))) p g k t sl c B n d { Op.rep0 c with es := ES4, eof := Z, vf := (t.s c.ati).gen } none 0 0 A4 n4 c4) := HX6.out.setR 30 _ rfl rfl
    have HE7 := Lib.hid (ES.offX HX6.out HE6.out hk)
    generalize w6.setCell ⟨p, 30, none⟩ (.int .u64 ((t.s c.ati).gen : Int)) = w7 at *
    clear s2 q30 f30 hk HX6 HE6 HS6
    have HRE := Lib.hid (report_any HX7.out HDA.out.lt)
    have HRR := Lib.hid (fun w' h => ES.rep HE7.out HX7.out (w' := w') h)
    go_wp2_with fail
    refine HRE.out.mono ?_
    rintro e w8 ⟨rfl, h1, h2⟩
    have HX8 := Lib.hid h1
    have HE8 := Lib.hid (HRR.out w8 (fun j hj hne => (h2 (fun j => j < w7.heap.size ∧ j ≠ p) (fun _ h => h)).block j ⟨hj, hne⟩))
    clear h1 h2 HRE HRR HX7
    go_wp2_with fail
    go_end0
    exact .ok HRG.out HX8.out ⟨BS.nil, HE8.out, by have := HL4.out; omega⟩
  · have hv2 : c.vf = (t.s c.ati).gen := by
      by_cases h : c.vf = (t.s c.ati).gen
      · exact h
      · exact absurd ⟨ho, h⟩ hv
    clear hv
    have HS : Hid ((fun W : World => W.cell? ⟨p, 12, none⟩ = some (.int .u64 (c.off : Int)) ∧ W.cell? ⟨p, 13, none⟩ = some (.int .u64 (c.vf : Int)) ∧ W.cell? ⟨g, c.ati * 9 + 2, none⟩ = some (.int .u32 ((t.s c.ati).gen : Int))) wq.drew) := ⟨HXQ.out.cellR 12 _ rfl, HXQ.out.cellR 13 _ rfl, HXQ.out.cellS HDA.out.lt 2 _ rfl⟩
    refine wp_region_held_drew (S := (fun W : World => W.cell? ⟨p, 12, none⟩ = some (.int .u64 (c.off : Int)) ∧ W.cell? ⟨p, 13, none⟩ = some (.int .u64 (c.vf : Int)) ∧ W.cell? ⟨g, c.ati * 9 + 2, none⟩ = some (.int .u32 ((t.s c.ati).gen : Int)))) (by kernel_rfl) HS.out (fun _ => ?_)
    change wpAnyH _ _ _ _ _ 20 (Array.replicate 20 false) _ _
    refine takeH (i := 0) 17 (.pointer (some ⟨p, 0, none⟩)) rfl rfl (by kernel_rfl) (by kernel_rfl) (by kernel_rfl) (fun _ _ _ h => h) (.inl ⟨by rfl, fun W hW => by go_simp⟩) HS.out ?_
    simp only [Act.put, List.setIfInBounds_toArray, List.set_cons_zero, List.set_cons_succ]
    refine takeH (i := 1) 18 (.pointer (some ⟨p, 0, none⟩)) rfl rfl (by kernel_rfl) (by kernel_rfl) (by kernel_rfl) (fun _ _ _ h => h) (.inl ⟨by rfl, fun W hW => by go_simp⟩) HS.out ?_
    simp only [Act.put, List.setIfInBounds_toArray, List.set_cons_zero, List.set_cons_succ]
    refine takeH (i := 2) 19 (.pointer (some ⟨p, 3, none⟩)) rfl rfl (by kernel_rfl) (by kernel_rfl) (by kernel_rfl) (fun _ _ _ h => h) (.inl ⟨by rfl, fun W hW => by go_simp⟩) HS.out ?_
    simp only [Act.put, List.setIfInBounds_toArray, List.set_cons_zero, List.set_cons_succ]
    refine takeH (i := 3) 20 (.pointer (some ⟨p, 12, none⟩)) rfl rfl (by kernel_rfl) (by kernel_rfl) (by kernel_rfl) (fun _ _ _ h => h) (.inl ⟨by rfl, fun W hW => by go_simp⟩) HS.out ?_
    simp only [Act.put, List.setIfInBounds_toArray, List.set_cons_zero, List.set_cons_succ]
    refine takeH (i := 4) 21 (.int .u64 (c.off : Int)) rfl rfl (by kernel_rfl) (by kernel_rfl) (by kernel_rfl) (fun _ _ _ h => h) (.inl ⟨by rfl, fun W hW => by (have hz := hW.1; go_simp)⟩) HS.out ?_
    simp only [Act.put, List.setIfInBounds_toArray, List.set_cons_zero, List.set_cons_succ]
    refine takeH (i := 5) 22 (.bool true) rfl rfl (by kernel_rfl) (by kernel_rfl) (by kernel_rfl) (fun _ _ _ h => h) (.inl ⟨by rfl, fun W hW => by (go_simp <;> omega)⟩) HS.out ?_
    simp only [Act.put, List.setIfInBounds_toArray, List.set_cons_zero, List.set_cons_succ]
    refine takeH (i := 6) 23 (.bool true) rfl rfl (by kernel_rfl) (by kernel_rfl) (by kernel_rfl) (fun _ _ _ h => h) (.inl ⟨by rfl, fun W hW => by go_simp⟩) HS.out ?_
    simp only [Act.put, List.setIfInBounds_toArray, List.set_cons_zero, List.set_cons_succ]
    refine takeH (i := 7) 24 (.pointer (some ⟨p, 0, none⟩)) rfl rfl (by kernel_rfl) (by kernel_rfl) (by kernel_rfl) (fun _ _ _ h => h) (.inl ⟨by rfl, fun W hW => by go_simp⟩) HS.out ?_
    simp only [Act.put, List.setIfInBounds_toArray, List.set_cons_zero, List.set_cons_succ]
    refine takeH (i := 8) 25 (.pointer (some ⟨p, 0, none⟩)) rfl rfl (by kernel_rfl) (by kernel_rfl) (by kernel_rfl) (fun _ _ _ h => h) (.inl ⟨by rfl, fun W hW => by go_simp⟩) HS.out ?_
    simp only [Act.put, List.setIfInBounds_toArray, List.set_cons_zero, List.set_cons_succ]
    refine takeH (i := 9) 26 (.pointer (some ⟨p, 3, none⟩)) rfl rfl (by kernel_rfl) (by kernel_rfl) (by kernel_rfl) (fun _ _ _ h => h) (.inl ⟨by rfl, fun W hW => by go_simp⟩) HS.out ?_
    simp only [Act.put, List.setIfInBounds_toArray, List.set_cons_zero, List.set_cons_succ]
    refine takeH (i := 10) 27 (.pointer (some ⟨p, 13, none⟩)) rfl rfl (by kernel_rfl) (by kernel_rfl) (by kernel_rfl) (fun _ _ _ h => h) (.inl ⟨by rfl, fun W hW => by go_simp⟩) HS.out ?_
    simp only [Act.put, List.setIfInBounds_toArray, List.set_cons_zero, List.set_cons_succ]
    refine takeH (i := 11) 28 (.int .u64 (c.vf : Int)) rfl rfl (by kernel_rfl) (by kernel_rfl) (by kernel_rfl) (fun _ _ _ h => h) (.inl ⟨by rfl, fun W hW => by (have hz := hW.2.1; go_simp)⟩) HS.out ?_
    simp only [Act.put, List.setIfInBounds_toArray, List.set_cons_zero, List.set_cons_succ]
    refine takeH (i := 12) 29 (.pointer (some ⟨g, c.ati * 9, none⟩)) rfl rfl (by kernel_rfl) (by kernel_rfl) (by kernel_rfl) (fun _ _ _ h => h) (.inl ⟨by rfl, fun W hW => by go_simp⟩) HS.out ?_
    simp only [Act.put, List.setIfInBounds_toArray, List.set_cons_zero, List.set_cons_succ]
    refine takeH (i := 13) 30 (.pointer (some ⟨g, c.ati * 9, none⟩)) rfl rfl (by kernel_rfl) (by kernel_rfl) (by kernel_rfl) (fun _ _ _ h => h) (.inl ⟨by rfl, fun W hW => by go_simp⟩) HS.out ?_
    simp only [Act.put, List.setIfInBounds_toArray, List.set_cons_zero, List.set_cons_succ]
    refine takeH (i := 14) 31 (.pointer (some ⟨g, c.ati * 9 + 2, none⟩)) rfl rfl (by kernel_rfl) (by kernel_rfl) (by kernel_rfl) (fun _ _ _ h => h) (.inl ⟨by rfl, fun W hW => by go_simp⟩) HS.out ?_
    simp only [Act.put, List.setIfInBounds_toArray, List.set_cons_zero, List.set_cons_succ]
    refine takeH (i := 15) 32 (.int .u32 ((t.s c.ati).gen : Int)) rfl rfl (by kernel_rfl) (by kernel_rfl) (by kernel_rfl) (fun _ _ _ h => h) (.inl ⟨by rfl, fun W hW => by (have hz := hW.2.2; go_simp)⟩) HS.out ?_
    simp only [Act.put, List.setIfInBounds_toArray, List.set_cons_zero, List.set_cons_succ]
    refine takeH (i := 16) 33 (.int .u64 ((t.s c.ati).gen : Int)) rfl rfl (by kernel_rfl) (by kernel_rfl) (by kernel_rfl) (fun _ _ _ h => h) (.inl ⟨by rfl, fun W hW => by (go_simp; exact IntWalk.u64_in _ (by omega))⟩) HS.out ?_
    simp only [Act.put, List.setIfInBounds_toArray, List.set_cons_zero, List.set_cons_succ]
    refine takeH (i := 17) 34 (.bool false) rfl rfl (by kernel_rfl) (by kernel_rfl) (by kernel_rfl) (fun _ _ _ h => h) (.inl ⟨by rfl, fun W hW => by (go_simp <;> omega)⟩) HS.out ?_
    simp only [Act.put, List.setIfInBounds_toArray, List.set_cons_zero, List.set_cons_succ]
    refine takeH (i := 18) 35 (.bool false) rfl rfl (by kernel_rfl) (by kernel_rfl) (by kernel_rfl) (fun _ _ _ h => h) (.inl ⟨by rfl, fun W hW => by go_simp⟩) HS.out ?_
    simp only [Act.put, List.setIfInBounds_toArray, List.set_cons_zero, List.set_cons_succ]
    refine wpAnyH_ready (rs := [19]) (by kernel_rfl) (by simp) ?_
    refine AllReadyH.cons rfl (fun K hK => ?_) AllReadyH.nil
    go_simp
    clear ho hv2
    refine (refuse_no 70 _).mono ?_
    rintro e w' ⟨rfl, rfl⟩
    refine hK.out _ _ HS.out fun _ => ?_
    clear hK K
    refine wpAnyH_done (by kernel_rfl) ?_ _
    go_upto_region 3 with fail
    have HXd := Lib.hid HXQ.out.drew.drew
    clear HS HXQ
    have HS : Hid ((fun W : World => W.cell? ⟨p, 12, none⟩ = some (.int .u64 (c.off : Int)) ∧ W.cell? ⟨p, 14, none⟩ = some (.int .u32 (c.cnt : Int))) wq.drew.drew) := ⟨HXd.out.cellR 12 _ rfl, HXd.out.cellR 14 _ rfl⟩
    have HEN := Lib.hid (entries_any HXd.out HDA.out)
    have HFW := Lib.hid HDA.out.few
    obtain ⟨M, hM⟩ : ∃ M, M = Op.most c.cnt := ⟨_, rfl⟩
    have HM : Hid (min (c.cnt : Int) 24 = M ∧ 0 ≤ M ∧ M ≤ 24) := by
      have h1 := most_i c.cnt
      refine ⟨by rw [hM]; exact h1, ?_, ?_⟩ <;> omega
    rw [← hM] at HRG
    clear hM
    refine wp_region_held_drew (S := (fun W : World => W.cell? ⟨p, 12, none⟩ = some (.int .u64 (c.off : Int)) ∧ W.cell? ⟨p, 14, none⟩ = some (.int .u32 (c.cnt : Int)))) (by kernel_rfl) HS.out (fun _ => ?_)
    change wpAnyH _ _ _ _ _ 28 (Array.replicate 28 false) _ _
    generalize wq.drew.drew = wd at *
    refine takeH (i := 0) 38 (.pointer (some ⟨p, 0, none⟩)) rfl rfl (by kernel_rfl) (by kernel_rfl) (by kernel_rfl) (fun _ _ _ h => h) (.inl ⟨by rfl, fun W hW => by go_simp⟩) HS.out ?_
    simp only [Act.put, List.setIfInBounds_toArray, List.set_cons_zero, List.set_cons_succ]
    refine takeH (i := 1) 39 (.pointer (some ⟨p, 0, none⟩)) rfl rfl (by kernel_rfl) (by kernel_rfl) (by kernel_rfl) (fun _ _ _ h => h) (.inl ⟨by rfl, fun W hW => by go_simp⟩) HS.out ?_
    simp only [Act.put, List.setIfInBounds_toArray, List.set_cons_zero, List.set_cons_succ]
    refine takeH (i := 2) 40 (.pointer (some ⟨g, c.ati * 9, none⟩)) rfl rfl (by kernel_rfl) (by kernel_rfl) (by kernel_rfl) (fun _ _ _ h => h) (.inl ⟨by rfl, fun W hW => by go_simp⟩) HS.out ?_
    simp only [Act.put, List.setIfInBounds_toArray, List.set_cons_zero, List.set_cons_succ]
    refine takeH (i := 4) 42 (.pointer (some ⟨p, 0, none⟩)) rfl rfl (by kernel_rfl) (by kernel_rfl) (by kernel_rfl) (fun _ _ _ h => h) (.inl ⟨by rfl, fun W hW => by go_simp⟩) HS.out ?_
    simp only [Act.put, List.setIfInBounds_toArray, List.set_cons_zero, List.set_cons_succ]
    refine takeH (i := 5) 43 (.pointer (some ⟨p, 0, none⟩)) rfl rfl (by kernel_rfl) (by kernel_rfl) (by kernel_rfl) (fun _ _ _ h => h) (.inl ⟨by rfl, fun W hW => by go_simp⟩) HS.out ?_
    simp only [Act.put, List.setIfInBounds_toArray, List.set_cons_zero, List.set_cons_succ]
    refine takeH (i := 6) 44 (.pointer (some ⟨p, 3, none⟩)) rfl rfl (by kernel_rfl) (by kernel_rfl) (by kernel_rfl) (fun _ _ _ h => h) (.inl ⟨by rfl, fun W hW => by go_simp⟩) HS.out ?_
    simp only [Act.put, List.setIfInBounds_toArray, List.set_cons_zero, List.set_cons_succ]
    refine takeH (i := 7) 45 (.pointer (some ⟨p, 12, none⟩)) rfl rfl (by kernel_rfl) (by kernel_rfl) (by kernel_rfl) (fun _ _ _ h => h) (.inl ⟨by rfl, fun W hW => by go_simp⟩) HS.out ?_
    simp only [Act.put, List.setIfInBounds_toArray, List.set_cons_zero, List.set_cons_succ]
    refine takeH (i := 8) 46 (.int .u64 (c.off : Int)) rfl rfl (by kernel_rfl) (by kernel_rfl) (by kernel_rfl) (fun _ _ _ h => h) (.inl ⟨by rfl, fun W hW => by (have hz := hW.1; go_simp)⟩) HS.out ?_
    simp only [Act.put, List.setIfInBounds_toArray, List.set_cons_zero, List.set_cons_succ]
    refine takeH (i := 9) 47 (.pointer (some ⟨p, 0, none⟩)) rfl rfl (by kernel_rfl) (by kernel_rfl) (by kernel_rfl) (fun _ _ _ h => h) (.inl ⟨by rfl, fun W hW => by go_simp⟩) HS.out ?_
    simp only [Act.put, List.setIfInBounds_toArray, List.set_cons_zero, List.set_cons_succ]
    refine takeH (i := 10) 48 (.pointer (some ⟨p, 0, none⟩)) rfl rfl (by kernel_rfl) (by kernel_rfl) (by kernel_rfl) (fun _ _ _ h => h) (.inl ⟨by rfl, fun W hW => by go_simp⟩) HS.out ?_
    simp only [Act.put, List.setIfInBounds_toArray, List.set_cons_zero, List.set_cons_succ]
    refine takeH (i := 11) 49 (.pointer (some ⟨p, 3, none⟩)) rfl rfl (by kernel_rfl) (by kernel_rfl) (by kernel_rfl) (fun _ _ _ h => h) (.inl ⟨by rfl, fun W hW => by go_simp⟩) HS.out ?_
    simp only [Act.put, List.setIfInBounds_toArray, List.set_cons_zero, List.set_cons_succ]
    refine takeH (i := 12) 50 (.pointer (some ⟨p, 14, none⟩)) rfl rfl (by kernel_rfl) (by kernel_rfl) (by kernel_rfl) (fun _ _ _ h => h) (.inl ⟨by rfl, fun W hW => by go_simp⟩) HS.out ?_
    simp only [Act.put, List.setIfInBounds_toArray, List.set_cons_zero, List.set_cons_succ]
    refine takeH (i := 13) 51 (.int .u32 (c.cnt : Int)) rfl rfl (by kernel_rfl) (by kernel_rfl) (by kernel_rfl) (fun _ _ _ h => h) (.inl ⟨by rfl, fun W hW => by (have hz := hW.2; go_simp)⟩) HS.out ?_
    simp only [Act.put, List.setIfInBounds_toArray, List.set_cons_zero, List.set_cons_succ]
    refine takeH (i := 14) 52 (.int .u32 M) rfl rfl (by kernel_rfl) (by kernel_rfl) (by kernel_rfl) (fun _ _ _ h => h) (.inl ⟨by rfl, fun W hW => by (go_simp; have := HM.out; omega)⟩) HS.out ?_
    simp only [Act.put, List.setIfInBounds_toArray, List.set_cons_zero, List.set_cons_succ]
    refine takeH (i := 15) 53 (.int .i64 M) rfl rfl (by kernel_rfl) (by kernel_rfl) (by kernel_rfl) (fun _ _ _ h => h) (.inl ⟨by rfl, fun W hW => by (go_simp; exact IntWalk.i64_in _ (by have := HM.out; omega))⟩) HS.out ?_
    simp only [Act.put, List.setIfInBounds_toArray, List.set_cons_zero, List.set_cons_succ]
    refine wpAnyH_ready (rs := [3]) (by kernel_rfl) (by simp) ?_
    refine AllReadyH.cons rfl (fun K hK => ?_) AllReadyH.nil
    go_simp
    refine HEN.out.mono ?_
    rintro e w3 ⟨A3, n3, c3, rfl, h1, h2, h3⟩
    have HX3 := Lib.hid (HXd.out.below h3)
    have HAF := Lib.hid (after_any A3 n3 c3 (Op.ents t c.ati) c.off M w3 h1 h2.1 h2.2 (by have := HFW.out; rw [← h1.1]; omega))
    have HS3 : Hid ((fun W : World => W.cell? ⟨p, 12, none⟩ = some (.int .u64 (c.off : Int)) ∧ W.cell? ⟨p, 14, none⟩ = some (.int .u32 (c.cnt : Int))) w3) := ⟨HX3.out.cellR 12 _ rfl, HX3.out.cellR 14 _ rfl⟩
    refine hK.out _ _ HS3.out fun _ => ?_
    clear hK K h1 h2 h3 HXd HEN HS
    refine wpAnyH_ready (rs := [16]) (by kernel_rfl) (by simp) ?_
    refine AllReadyH.cons rfl (fun K hK => ?_) AllReadyH.nil
    go_simp
    refine HAF.out.mono ?_
    rintro e w4 ⟨A4, n4, c4, rfl, h1, h2, h3⟩
    have HX4 := Lib.hid (HX3.out.below h3)
    have HE4 := Lib.hid h1
    have HL4 : Hid (n4 ≤ 38) := by show _ ≤ _; rw [← h1.1]; exact Nat.le_trans (aftL_len _ _ _) HFW.out
    have HS4 : Hid ((fun W : World => W.cell? ⟨p, 12, none⟩ = some (.int .u64 (c.off : Int)) ∧ W.cell? ⟨p, 14, none⟩ = some (.int .u32 (c.cnt : Int))) w4) := ⟨HX4.out.cellR 12 _ rfl, HX4.out.cellR 14 _ rfl⟩
    refine hK.out _ _ HS4.out fun _ => ?_
    obtain ⟨Z, hZ⟩ : ∃ Z, Z = aftB (Op.ents t c.ati) c.off M := ⟨_, rfl⟩
    obtain ⟨ES4, hES⟩ : ∃ E, E = aftL (Op.ents t c.ati) c.off M := ⟨_, rfl⟩
    rw [← hZ, ← hES] at HRG
    rw [← hES] at HE4
    rw [← hZ]
    clear hK K h1 h2 h3 HX3 HAF HS3 hZ hES HFW
    refine takeH (i := 17) 37 (.tuple #[.slice A4 n4 c4, .bool Z]) rfl rfl (by kernel_rfl) (by kernel_rfl) (by kernel_rfl) (fun _ _ _ h => h) (.inl ⟨by rfl, fun W hW => by go_simp⟩) HS4.out ?_
    simp only [Act.put, List.setIfInBounds_toArray, List.set_cons_zero, List.set_cons_succ]
    refine takeH (i := 18) 55 (.slice A4 n4 c4) rfl rfl (by kernel_rfl) (by kernel_rfl) (by kernel_rfl) (fun _ _ _ h => h) (.inl ⟨by rfl, fun W hW => by go_simp⟩) HS4.out ?_
    simp only [Act.put, List.setIfInBounds_toArray, List.set_cons_zero, List.set_cons_succ]
    refine takeH (i := 19) 56 (.bool Z) rfl rfl (by kernel_rfl) (by kernel_rfl) (by kernel_rfl) (fun _ _ _ h => h) (.inl ⟨by rfl, fun W hW => by go_simp⟩) HS4.out ?_
    simp only [Act.put, List.setIfInBounds_toArray, List.set_cons_zero, List.set_cons_succ]
    refine takeH (i := 20) 57 (.pointer (some ⟨p, 0, none⟩)) rfl rfl (by kernel_rfl) (by kernel_rfl) (by kernel_rfl) (fun _ _ _ h => h) (.inl ⟨by rfl, fun W hW => by go_simp⟩) HS4.out ?_
    simp only [Act.put, List.setIfInBounds_toArray, List.set_cons_zero, List.set_cons_succ]
    refine takeH (i := 21) 58 (.pointer (some ⟨p, 17, none⟩)) rfl rfl (by kernel_rfl) (by kernel_rfl) (by kernel_rfl) (fun _ _ _ h => h) (.inl ⟨by rfl, fun W hW => by go_simp⟩) HS4.out ?_
    simp only [Act.put, List.setIfInBounds_toArray, List.set_cons_zero, List.set_cons_succ]
    refine takeH (i := 22) 59 (.pointer (some ⟨p, 28, none⟩)) rfl rfl (by kernel_rfl) (by kernel_rfl) (by kernel_rfl) (fun _ _ _ h => h) (.inl ⟨by rfl, fun W hW => by go_simp⟩) HS4.out ?_
    simp only [Act.put, List.setIfInBounds_toArray, List.set_cons_zero, List.set_cons_succ]
    refine wpAnyH_ready (rs := [23]) (by kernel_rfl) (by simp) ?_
    refine AllReadyH.cons rfl (fun K hK => ?_) AllReadyH.nil
    have k28 := HX4.out.cellR 28 _ rfl
    have f28 := HX4.out.run.froz 28
    go_simp
    have hk : Keep (· ≠ p) w4 (w4.setCell ⟨p, 28, none⟩ (.slice A4 n4 c4)) := (Keep.refl _ w4).setCell (p := ⟨p, 28, none⟩) (fun h => h rfl) _
    have HX5 : Hid (RX w0 (w4.setCell ⟨p, 28, none⟩ (.slice A4 n4 c4)) p g k t sl c B n d { Op.rep0 c with es := ES4 } none 0 0 A4 n4 c4) := HX4.out.setR 28 _ rfl rfl
    have HE5 := Lib.hid (ES.offX HX4.out HE4.out hk)
    have HS5 : Hid ((fun W : World => W.cell? ⟨p, 12, none⟩ = some (.int .u64 (c.off : Int)) ∧ W.cell? ⟨p, 14, none⟩ = some (.int .u32 (c.cnt : Int))) (w4.setCell ⟨p, 28, none⟩ (.slice A4 n4 c4))) := ⟨HX5.out.cellR 12 _ rfl, HX5.out.cellR 14 _ rfl⟩
    refine hK.out _ _ HS5.out fun _ => ?_
    generalize w4.setCell ⟨p, 28, none⟩ (.slice A4 n4 c4) = w5 at *
    clear hK K k28 f28 hk HX4 HE4 HS4
    refine takeH (i := 24) 60 (.pointer (some ⟨p, 0, none⟩)) rfl rfl (by kernel_rfl) (by kernel_rfl) (by kernel_rfl) (fun _ _ _ h => h) (.inl ⟨by rfl, fun W hW => by go_simp⟩) HS5.out ?_
    simp only [Act.put, List.setIfInBounds_toArray, List.set_cons_zero, List.set_cons_succ]
    refine takeH (i := 25) 61 (.pointer (some ⟨p, 17, none⟩)) rfl rfl (by kernel_rfl) (by kernel_rfl) (by kernel_rfl) (fun _ _ _ h => h) (.inl ⟨by rfl, fun W hW => by go_simp⟩) HS5.out ?_
    simp only [Act.put, List.setIfInBounds_toArray, List.set_cons_zero, List.set_cons_succ]
    refine takeH (i := 26) 62 (.pointer (some ⟨p, 29, none⟩)) rfl rfl (by kernel_rfl) (by kernel_rfl) (by kernel_rfl) (fun _ _ _ h => h) (.inl ⟨by rfl, fun W hW => by go_simp⟩) HS5.out ?_
    simp only [Act.put, List.setIfInBounds_toArray, List.set_cons_zero, List.set_cons_succ]
    refine wpAnyH_ready (rs := [27]) (by kernel_rfl) (by simp) ?_
    refine AllReadyH.cons rfl (fun K hK => ?_) AllReadyH.nil
    have k29 := HX5.out.cellR 29 _ rfl
    have f29 := HX5.out.run.froz 29
    go_simp
    have hk : Keep (· ≠ p) w5 (w5.setCell ⟨p, 29, none⟩ (.bool Z)) := (Keep.refl _ w5).setCell (p := ⟨p, 29, none⟩) (fun h => h rfl) _
    have HX6 : Hid (RX w0 (w5.setCell ⟨p, 29, none⟩ (.bool Z)) p g k t sl c B n d { Op.rep0 c with es := ES4, eof := Z } none 0 0 A4 n4 c4) := HX5.out.setR 29 _ rfl rfl
    have HE6 := Lib.hid (ES.offX HX5.out HE5.out hk)
    have HS6 : Hid ((fun W : World => W.cell? ⟨p, 12, none⟩ = some (.int .u64 (c.off : Int)) ∧ W.cell? ⟨p, 14, none⟩ = some (.int .u32 (c.cnt : Int))) (w5.setCell ⟨p, 29, none⟩ (.bool Z))) := ⟨HX6.out.cellR 12 _ rfl, HX6.out.cellR 14 _ rfl⟩
    refine hK.out _ _ HS6.out fun _ => ?_
    generalize w5.setCell ⟨p, 29, none⟩ (.bool Z) = w6 at *
    clear hK K k29 f29 hk HX5 HE5 HS5
    refine wpAnyH_done (by kernel_rfl) ?_ _
    have s2 := HX6.out.cellS HDA.out.lt 2 _ rfl
    have q30 := HX6.out.cellR 30 _ rfl
    have f30 := HX6.out.run.froz 30
    go_upto_region 5 with fail
    have hk : Keep (· ≠ p) w6 (w6.setCell ⟨p, 30, none⟩ (.int .u64 ((t.s c.ati).gen : Int))) := (Keep.refl _ w6).setCell (p := ⟨p, 30, none⟩) (fun h => h rfl) _
    have HX7 : Hid (RX w0 (w6.setCell ⟨p, 30, none⟩ (.int .u64 ((t.s c.ati).gen : Int))) p g k t sl c B n d { Op.rep0 c with es := ES4, eof := Z, vf := (t.s c.ati).gen } none 0 0 A4 n4 c4) := HX6.out.setR 30 _ rfl rfl
    have HE7 := Lib.hid (ES.offX HX6.out HE6.out hk)
    generalize w6.setCell ⟨p, 30, none⟩ (.int .u64 ((t.s c.ati).gen : Int)) = w7 at *
    clear s2 q30 f30 hk HX6 HE6 HS6
    have HRE := Lib.hid (report_any HX7.out HDA.out.lt)
    have HRR := Lib.hid (fun w' h => ES.rep HE7.out HX7.out (w' := w') h)
    go_wp2_with fail
    refine HRE.out.mono ?_
    rintro e w8 ⟨rfl, h1, h2⟩
    have HX8 := Lib.hid h1
    have HE8 := Lib.hid (HRR.out w8 (fun j hj hne => (h2 (fun j => j < w7.heap.size ∧ j ≠ p) (fun _ h => h)).block j ⟨hj, hne⟩))
    clear h1 h2 HRE HRR HX7
    go_wp2_with fail
    go_end0
    exact .ok HRG.out HX8.out ⟨BS.nil, HE8.out, by have := HL4.out; omega⟩
end
end Go.Proofs.YtpbpdnjlomhkdaaGreat
