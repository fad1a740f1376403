/-
  Contract of Setattr (layer 13).
-/
import Derived.Test.YtpbpdnjlomhkdaaGreatOOps5
namespace Go.Proofs.YtpbpdnjlomhkdaaGreat
open Go.RowKit Go.Shelf

theorem i64_of_u32 (x : Nat) (h : x < 4294967296) : IntKind.i64.wrap (x : Int) = (x : Int) := IntWalk.i64_in _ (by omega)
section
variable {w0 w w' : World} {p g k : Nat} {t u : Op.TT} {sl : Nat → Sl} {c : Cl} {B : Option Addr} {n d : Nat} {r r' : Rp} {D D' : Option Addr} {m e m' e' : Nat} {E E' : Option Addr} {q f q' f' : Nat}
set_option maxRecDepth 100000 in
set_option maxHeartbeats 4000000 in
theorem setattr_any (h : RX w0 w p g k t sl c B n d (Op.rep0 c) none 0 0 none 0 0) (hs : Op.Sound t) (hcn : c.cnt < 4294967296) :
    Calls Tryz.prog 55 #[.pointer (some ⟨p, 0, none⟩)] w (OutQ w0 p g k c B n d (Op.setattr t c)) := by
  have HX0 := Lib.hid h
  have HSD := Lib.hid hs
  obtain ⟨RR, hRR⟩ : ∃ RR, RR = Op.setattr t c := ⟨_, rfl⟩
  rw [← hRR]
  have HR0 := Lib.hid hRR
  have HCN := Lib.hid hcn
  clear h hs hRR hcn
  go_enter Tryz.func55, Tryz.ntmps55
  go_wp2_with (refine wpList_load_part rfl 35 (.tmp 7) rfl p 6 rfl _ Tryz.underlying35 rfl (hc c.ati c.atg) 104 _ HX0.out.run size_H xc_at ?_)
  refine (thing_any HX0.out c.ati c.atg).mono ?_
  rintro e w1 ⟨⟨hz, rfl⟩ | ⟨hz, rfl⟩, hb⟩
  rotate_left
  · have h69 : Op.thingE t c.ati c.atg = 69 := by
      rcases thingE_two t c.ati c.atg with h | h
      · exact absurd h.1 hz
      · exact h
    rw [h69]
    exact ⟨rfl, .no (HR0.out.trans (if_pos hz)) (HX0.out.below hb).bel⟩
  have HX1 := Lib.hid (HX0.out.below hb)
  have HIA := Lib.hid (Op.thing_ok hz)
  have HR1 := Lib.hid (HR0.out.trans (if_neg (fun h => h hz)))
  have HFE := Lib.hid (fileE_thing hz (Vl.okB_facts (HSD.out.inv.may.ok _ HIA.out.1)).2.1)
  clear hz hb HX0 HR0
  have q12 := HX1.out.cellR 12 _ rfl
  by_cases ho : c.off = 1
  · have hd : ((c.off : Int) == 1) = true := by simp; omega
    have hd1 : decide ((1 : Int) < (c.off : Int)) = false := by simp; omega
    go_wp2_with fail
    refine (file_any HX1.out HIA.out.1).mono ?_
    rw [← HFE.out]
    rintro e w1 ⟨⟨hz, rfl⟩ | ⟨hz, rfl⟩, hb⟩
    rotate_left
    · exact ⟨rfl, .no (HR1.out.trans (if_pos ⟨ho, hz⟩)) (HX1.out.below hb).bel⟩
    have HXF := Lib.hid (HX1.out.below hb)
    have HRF := Lib.hid (HR1.out.trans (if_neg (fun h => h.2 hz)))
    clear hz hb HR1 HX1 HFE q12
    have q12 := HXF.out.cellR 12 _ rfl
    have q14 := HXF.out.cellR 14 _ rfl
    by_cases hc : 768 < c.cnt
    · have hdc : decide ((768 : Int) < (c.cnt : Int)) = true := by simp; omega
      have HRE := Lib.hid (HRF.out.trans (if_pos ⟨ho, hc⟩))
      clear hc ho HRF
      go_wp2_with (refine (refuse_yes 65 _).mono ?_; rintro e w' ⟨rfl, rfl⟩)
      exact ⟨rfl, .no HRE.out HXF.out.bel⟩
    have hdc : decide ((768 : Int) < (c.cnt : Int)) = false := by simp; omega
    have HRG := Lib.hid ((HRF.out.trans (if_neg (fun h => hc h.2))).trans (if_neg (by omega)))
    rw [if_pos ho] at HRG
    have HCL : Hid (c.cnt ≤ 768) := by show _ ≤ _; omega
    clear hc HRF ho
    obtain ⟨M, hM⟩ : ∃ M, M = c.md % 512 := ⟨_, rfl⟩
    have HME : Hid ((c.md : Int) % 512 = (M : Int)) := by show _ = _; rw [hM]; omega
    have s4 := HXF.out.cellS HIA.out.1 4 _ rfl
    have f4 := HXF.out.frozS (c.ati * 9 + 4)
    have q15 := HXF.out.cellR 15 _ rfl
    have HQO : Hid (∀ v, (w1.setCell ⟨g, c.ati * 9 + 4, none⟩ v).cell? ⟨p, 12, none⟩ = some (.int .u64 (c.off : Int))) := fun v => (World.cell?_of_block (Below.heap_setCell w1 ⟨g, c.ati * 9 + 4, none⟩ v p HXF.out.pos.2.2)).trans (HXF.out.cellR 12 _ rfl)
    go_upto_region 6 with (first | (refine (refuse_no 65 _).mono ?_; rintro e w' ⟨rfl, rfl⟩) | (refine (refuse_no 64 _).mono ?_; rintro e w' ⟨rfl, rfl⟩))
    rw [HME.out]
    have HXM : Hid (RX w0 (w1.setCell ⟨g, c.ati * 9 + 4, none⟩ (.int .u32 (M : Int))) p g k (Op.set t c.ati { t.s c.ati with mode := M }) sl c B n d (Op.rep0 c) none 0 0 none 0 0) := HXF.out.setN HIA.out.1 4 (by omega) _ rfl rfl
    generalize w1.setCell ⟨g, c.ati * 9 + 4, none⟩ (.int .u32 (M : Int)) = wm at *
    generalize hv : (c.md : Int) % 512 = V at *
    clear hv HME s4 f4 q15 q12 HQO HXF
    have q12 := HXM.out.cellR 12 _ rfl

    rw [← hM] at HRG
    clear hM q14 hd1 hdc
    go_upto_region 7 with fail
    have HXd := Lib.hid HXM.out.drew
    have HSl : Hid (∀ W, RX w0 W p g k (Op.set t c.ati { t.s c.ati with mode := M }) sl c B n d (Op.rep0 c) none 0 0 none 0 0 → W.cell? ⟨g, c.ati * 9 + 8, none⟩ = some (.slice (sl c.ati).a (sl c.ati).n (sl c.ati).c)) := fun W hx => hx.cellS HIA.out.1 8 _ (by rw [Op.set_at]; rfl)
    have HSb : Hid (BS wm.drew (sl c.ati).a (sl c.ati).n (t.s c.ati).dt) := by
      have := (HXd.out.sx.bs c.ati HIA.out.1).1
      rw [Op.set_at] at this
      exact this
    have HSn : Hid ((sl c.ati).n ≤ 768) := by show _ ≤ _; rw [← HSb.out.1]; exact (Vl.okB_facts (HSD.out.inv.may.ok _ HIA.out.1)).2.2
    clear HXM q12
    have HS : Hid ((fun W : World => W.cell? ⟨p, 14, none⟩ = some (.int .u32 (c.cnt : Int))) wm.drew) := HXd.out.cellR 14 _ rfl
    refine wp_region_held_drew (S := (fun W : World => W.cell? ⟨p, 14, none⟩ = some (.int .u32 (c.cnt : Int)))) (by kernel_rfl) HS.out (fun _ => ?_)
    change wpAnyH _ _ _ _ _ 15 (Array.replicate 15 false) _ _
    generalize wm.drew = wd at *
    refine takeH (i := 0) 47 (.pointer (some ⟨g, c.ati * 9, none⟩)) rfl rfl (by kernel_rfl) (by kernel_rfl) (by kernel_rfl) (fun _ _ _ h => h) (.inl ⟨by rfl, fun W hW => by go_simp⟩) HS.out ?_
    simp only [Act.put, List.setIfInBounds_toArray, List.set_cons_zero, List.set_cons_succ]
    refine takeH (i := 1) 48 (.pointer (some ⟨g, c.ati * 9, none⟩)) rfl rfl (by kernel_rfl) (by kernel_rfl) (by kernel_rfl) (fun _ _ _ h => h) (.inl ⟨by rfl, fun W hW => by go_simp⟩) HS.out ?_
    simp only [Act.put, List.setIfInBounds_toArray, List.set_cons_zero, List.set_cons_succ]
    refine takeH (i := 2) 49 (.pointer (some ⟨g, c.ati * 9, none⟩)) rfl rfl (by kernel_rfl) (by kernel_rfl) (by kernel_rfl) (fun _ _ _ h => h) (.inl ⟨by rfl, fun W hW => by go_simp⟩) HS.out ?_
    simp only [Act.put, List.setIfInBounds_toArray, List.set_cons_zero, List.set_cons_succ]
    refine takeH (i := 3) 50 (.pointer (some ⟨g, c.ati * 9 + 8, none⟩)) rfl rfl (by kernel_rfl) (by kernel_rfl) (by kernel_rfl) (fun _ _ _ h => h) (.inl ⟨by rfl, fun W hW => by go_simp⟩) HS.out ?_
    simp only [Act.put, List.setIfInBounds_toArray, List.set_cons_zero, List.set_cons_succ]
    refine takeH (i := 5) 52 (.pointer (some ⟨p, 0, none⟩)) rfl rfl (by kernel_rfl) (by kernel_rfl) (by kernel_rfl) (fun _ _ _ h => h) (.inl ⟨by rfl, fun W hW => by go_simp⟩) HS.out ?_
    simp only [Act.put, List.setIfInBounds_toArray, List.set_cons_zero, List.set_cons_succ]
    refine takeH (i := 6) 53 (.pointer (some ⟨p, 0, none⟩)) rfl rfl (by kernel_rfl) (by kernel_rfl) (by kernel_rfl) (fun _ _ _ h => h) (.inl ⟨by rfl, fun W hW => by go_simp⟩) HS.out ?_
    simp only [Act.put, List.setIfInBounds_toArray, List.set_cons_zero, List.set_cons_succ]
    refine takeH (i := 7) 54 (.pointer (some ⟨p, 3, none⟩)) rfl rfl (by kernel_rfl) (by kernel_rfl) (by kernel_rfl) (fun _ _ _ h => h) (.inl ⟨by rfl, fun W hW => by go_simp⟩) HS.out ?_
    simp only [Act.put, List.setIfInBounds_toArray, List.set_cons_zero, List.set_cons_succ]
    refine takeH (i := 8) 55 (.pointer (some ⟨p, 14, none⟩)) rfl rfl (by kernel_rfl) (by kernel_rfl) (by kernel_rfl) (fun _ _ _ h => h) (.inl ⟨by rfl, fun W hW => by go_simp⟩) HS.out ?_
    simp only [Act.put, List.setIfInBounds_toArray, List.set_cons_zero, List.set_cons_succ]
    refine takeH (i := 9) 56 (.int .u32 (c.cnt : Int)) rfl rfl (by kernel_rfl) (by kernel_rfl) (by kernel_rfl) (fun _ _ _ h => h) (.inl ⟨by rfl, fun W hW => by (have hz := hW; go_simp)⟩) HS.out ?_
    simp only [Act.put, List.setIfInBounds_toArray, List.set_cons_zero, List.set_cons_succ]
    refine takeH (i := 10) 57 (.int .i64 (c.cnt : Int)) rfl rfl (by kernel_rfl) (by kernel_rfl) (by kernel_rfl) (fun _ _ _ h => h) (.inl ⟨by rfl, fun W hW => by (go_simp; exact i64_of_u32 _ HCN.out)⟩) HS.out ?_
    simp only [Act.put, List.setIfInBounds_toArray, List.set_cons_zero, List.set_cons_succ]
    refine wpAnyH_ready (rs := [4]) (by kernel_rfl) (by simp) ?_
    refine AllReadyH.cons rfl (fun K hK => ?_) AllReadyH.nil
    have k8 := HSl.out wd HXd.out
    go_simp
    refine hK.out _ _ HS.out fun _ => ?_
    clear hK K k8
    refine wpAnyH_ready (rs := [11]) (by kernel_rfl) (by simp) ?_
    refine AllReadyH.cons rfl (fun K hK => ?_) AllReadyH.nil
    go_simp
    refine (resized_any (sl c.ati).a (sl c.ati).n (sl c.ati).c c.cnt (t.s c.ati).dt wd HSb.out (by have := HSn.out; omega) (by have := HCL.out; omega)).mono ?_
    rintro e w3 ⟨rfl, h1, h2⟩
    have HX3 := Lib.hid (HXd.out.below h2)
    have HB3 : Hid (BS w3 (some ⟨wd.heap.size, 0, none⟩) c.cnt (Op.sized (t.s c.ati).dt c.cnt)) := by
      have := BS.ofB h1
      rw [Op.sized_len] at this
      exact this
    have HO3 : Hid (Off g (some ⟨wd.heap.size, 0, none⟩) c.cnt) := fun _ ad e => by
      have := HXd.out.sx.lt
      injection e with e
      subst e
      show wd.heap.size ≠ g
      omega
    have HS3 : Hid ((fun W : World => W.cell? ⟨p, 14, none⟩ = some (.int .u32 (c.cnt : Int))) w3) := HX3.out.cellR 14 _ rfl
    refine hK.out _ _ HS3.out fun _ => ?_
    clear hK K h1 h2 HXd HSb HSn HS
    refine takeH (i := 12) 59 (.pointer (some ⟨g, c.ati * 9, none⟩)) rfl rfl (by kernel_rfl) (by kernel_rfl) (by kernel_rfl) (fun _ _ _ h => h) (.inl ⟨by rfl, fun W hW => by go_simp⟩) HS3.out ?_
    simp only [Act.put, List.setIfInBounds_toArray, List.set_cons_zero, List.set_cons_succ]
    refine takeH (i := 13) 60 (.pointer (some ⟨g, c.ati * 9 + 8, none⟩)) rfl rfl (by kernel_rfl) (by kernel_rfl) (by kernel_rfl) (fun _ _ _ h => h) (.inl ⟨by rfl, fun W hW => by go_simp⟩) HS3.out ?_
    simp only [Act.put, List.setIfInBounds_toArray, List.set_cons_zero, List.set_cons_succ]
    refine wpAnyH_ready (rs := [14]) (by kernel_rfl) (by simp) ?_
    refine AllReadyH.cons rfl (fun K hK => ?_) AllReadyH.nil
    have k8 := HSl.out w3 HX3.out
    have f8 := HX3.out.frozS (c.ati * 9 + 8)
    go_simp
    have HX4 : Hid (RX w0 (w3.setCell ⟨g, c.ati * 9 + 8, none⟩ (.slice (some ⟨wd.heap.size, 0, none⟩) c.cnt c.cnt)) p g k (Op.set t c.ati { t.s c.ati with mode := M, dt := Op.sized (t.s c.ati).dt c.cnt }) (Vl.upd sl c.ati ⟨some ⟨wd.heap.size, 0, none⟩, c.cnt, c.cnt⟩) c B n d (Op.rep0 c) none 0 0 none 0 0) := by
      have := HX3.out.setS HIA.out.1 8 (by omega) (.slice (some ⟨wd.heap.size, 0, none⟩) c.cnt c.cnt) (x := { t.s c.ati with mode := M, dt := Op.sized (t.s c.ati).dt c.cnt }) (s := ⟨some ⟨wd.heap.size, 0, none⟩, c.cnt, c.cnt⟩) (by rw [Op.set_at]; rfl) HB3.out (Nat.le_refl _) HO3.out
      rw [Op.set_set] at this
      exact this
    have HS4 : Hid ((fun W : World => W.cell? ⟨p, 14, none⟩ = some (.int .u32 (c.cnt : Int))) (w3.setCell ⟨g, c.ati * 9 + 8, none⟩ (.slice (some ⟨wd.heap.size, 0, none⟩) c.cnt c.cnt))) := HX4.out.cellR 14 _ rfl
    refine hK.out _ _ HS4.out fun _ => ?_
    generalize w3.setCell ⟨g, c.ati * 9 + 8, none⟩ (.slice (some ⟨wd.heap.size, 0, none⟩) c.cnt c.cnt) = w4 at *
    clear hK K k8 f8 HX3 HB3 HO3 HS3 HSl
    refine wpAnyH_done (by kernel_rfl) ?_ _
    have HN9 : Hid (∀ i, i < 24 → ((Op.set t c.ati { t.s c.ati with mode := M, dt := Op.sized (t.s c.ati).dt c.cnt }).s i).dt.length ≤ 1000000) := fun i hi => by
      by_cases e : i = c.ati
      · subst e; rw [Op.set_at]; show (Op.sized _ _).length ≤ _; rw [Op.sized_len]; have := HCL.out; omega
      · rw [Op.set_other t _ e]; exact HSD.out.dts i hi
    generalize Op.set t c.ati { t.s c.ati with mode := M, dt := Op.sized (t.s c.ati).dt c.cnt } = u9 at *
    clear HCL HS4
    have HCH := Lib.hid (fin_one HX4.out HIA.out.1 HN9.out rfl)
    clear HX4 HN9
    go_wp2_with fail
    refine HCH.out.mono ?_
    rintro e w10 (⟨rfl, h1, h2⟩ | ⟨rfl, h1, h2⟩)
    rotate_left
    · exact ⟨rfl, .no (HRG.out.trans (if_pos h1)) h2⟩
    have HRZ : Hid (RR = .ok (Op.touch u9 [c.ati], Op.told (Op.touch u9 [c.ati]) (Op.rep0 c) c.ati)) := HRG.out.trans (if_neg h1)
    have HRE := Lib.hid (report_any h2 HIA.out.1)
    clear h1 h2 HCH HRG
    generalize Op.touch u9 [c.ati] = v at *
    go_wp2_with fail
    refine HRE.out.mono ?_
    rintro e w11 ⟨rfl, h1, h2⟩
    have HX11 := Lib.hid h1
    clear h1 h2 HRE
    go_wp2_with fail
    go_end0
    exact .ok HRZ.out HX11.out (RM.none rfl rfl)
  · have hd : ((c.off : Int) == 1) = false := by simp; omega
    have HRF := Lib.hid ((HR1.out.trans (if_neg (fun h => ho h.1))).trans (if_neg (fun h => ho h.1)))
    clear HR1 HFE
    by_cases h1 : 1 < c.off
    · have hd1 : decide ((1 : Int) < (c.off : Int)) = true := by simp; omega
      have HRE := Lib.hid (HRF.out.trans (if_pos h1))
      clear h1 ho HRF
      go_wp2_with (refine (refuse_yes 64 _).mono ?_; rintro e w' ⟨rfl, rfl⟩)
      exact ⟨rfl, .no HRE.out HX1.out.bel⟩
    have hd1 : decide ((1 : Int) < (c.off : Int)) = false := by simp; omega
    have HRG := Lib.hid (HRF.out.trans (if_neg h1))
    rw [if_neg ho] at HRG
    clear ho h1 HRF
    obtain ⟨M, hM⟩ : ∃ M, M = c.md % 512 := ⟨_, rfl⟩
    have HME : Hid ((c.md : Int) % 512 = (M : Int)) := by show _ = _; rw [hM]; omega
    have s4 := HX1.out.cellS HIA.out.1 4 _ rfl
    have f4 := HX1.out.frozS (c.ati * 9 + 4)
    have q15 := HX1.out.cellR 15 _ rfl
    have HQO : Hid (∀ v, (w1.setCell ⟨g, c.ati * 9 + 4, none⟩ v).cell? ⟨p, 12, none⟩ = some (.int .u64 (c.off : Int))) := fun v => (World.cell?_of_block (Below.heap_setCell w1 ⟨g, c.ati * 9 + 4, none⟩ v p HX1.out.pos.2.2)).trans (HX1.out.cellR 12 _ rfl)
    go_upto_region 6 with (refine (refuse_no 64 _).mono ?_; rintro e w' ⟨rfl, rfl⟩)
    rw [HME.out]
    have HXM : Hid (RX w0 (w1.setCell ⟨g, c.ati * 9 + 4, none⟩ (.int .u32 (M : Int))) p g k (Op.set t c.ati { t.s c.ati with mode := M }) sl c B n d (Op.rep0 c) none 0 0 none 0 0) := HX1.out.setN HIA.out.1 4 (by omega) _ rfl rfl
    generalize w1.setCell ⟨g, c.ati * 9 + 4, none⟩ (.int .u32 (M : Int)) = wm at *
    generalize hv : (c.md : Int) % 512 = V at *
    clear hv HME s4 f4 q15 q12 HQO HX1
    have q12 := HXM.out.cellR 12 _ rfl

    rw [← hM] at HRG
    clear hM hd1
    have HN9 : Hid (∀ i, i < 24 → ((Op.set t c.ati { t.s c.ati with mode := M }).s i).dt.length ≤ 1000000) := fun i hi => by
      by_cases e : i = c.ati
      · subst e; rw [Op.set_at]; exact HSD.out.dts _ hi
      · rw [Op.set_other t _ e]; exact HSD.out.dts i hi
    have HRH : Hid (RR = Op.fin (Op.set t c.ati { t.s c.ati with mode := M }) (Op.rep0 c) [c.ati] c.ati) := HRG.out
    generalize Op.set t c.ati { t.s c.ati with mode := M } = u9 at *
    clear HRG
    have HCH := Lib.hid (fin_one HXM.out HIA.out.1 HN9.out rfl)
    clear HXM HN9
    go_wp2_with fail
    refine HCH.out.mono ?_
    rintro e w10 (⟨rfl, h1, h2⟩ | ⟨rfl, h1, h2⟩)
    rotate_left
    · exact ⟨rfl, .no (HRH.out.trans (if_pos h1)) h2⟩
    have HRZ : Hid (RR = .ok (Op.touch u9 [c.ati], Op.told (Op.touch u9 [c.ati]) (Op.rep0 c) c.ati)) := HRH.out.trans (if_neg h1)
    have HRE := Lib.hid (report_any h2 HIA.out.1)
    clear h1 h2 HCH HRH
    generalize Op.touch u9 [c.ati] = v at *
    go_wp2_with fail
    refine HRE.out.mono ?_
    rintro e w11 ⟨rfl, h1, h2⟩
    have HX11 := Lib.hid h1
    clear h1 h2 HRE
    go_wp2_with fail
    go_end0
    exact .ok HRZ.out HX11.out (RM.none rfl rfl)
end
end Go.Proofs.YtpbpdnjlomhkdaaGreat
