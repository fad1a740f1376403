/-
  Contract of the operation Rename (layer 13).
-/
import Derived.Test.YtpbpdnjlomhkdaaGreatOBelow2
import Derived.Test.YtpbpdnjlomhkdaaGreatOMid
import Derived.Test.YtpbpdnjlomhkdaaGreatOOps5
namespace Go.Proofs.YtpbpdnjlomhkdaaGreat
open Go.RowKit Go.Shelf

section
variable {w0 w w' : World} {p g k : Nat} {t u : Op.TT} {sl : Nat → Sl} {c : Cl} {B : Option Addr} {n d : Nat} {r r' : Rp} {D D' : Option Addr} {m e m' e' : Nat} {E E' : Option Addr} {q f q' f' : Nat}
set_option maxRecDepth 100000 in
set_option maxHeartbeats 4000000 in
theorem rename_any (h : RX w0 w p g k t sl c B n d (Op.rep0 c) none 0 0 none 0 0) (hs : Op.Sound t) :
    Calls Tryz.prog 64 #[.pointer (some ⟨p, 0, none⟩)] w (OutQ w0 p g k c B n d (Op.rename t c)) := by
  have HX0 := Lib.hid h
  have HSD := Lib.hid hs
  obtain ⟨RR, hRR⟩ : ∃ RR, RR = Op.rename t c := ⟨_, rfl⟩
  rw [← hRR]
  have HR0 := Lib.hid hRR
  clear h hs hRR
  go_enter Tryz.func64, Tryz.ntmps64
  go_wp2_with (refine wpList_load_part rfl 35 (.tmp 11) rfl p 6 rfl _ Tryz.underlying35 rfl (hc c.ati c.atg) 104 _ HX0.out.run size_H xc_at ?_)
  refine (folder_any HX0.out c.ati c.atg).mono ?_
  rintro e w1 ⟨⟨hz, rfl⟩ | ⟨hz, rfl⟩, hb⟩
  rotate_left
  · exact ⟨rfl, .no (HR0.out.trans (if_pos hz)) (HX0.out.below hb).bel⟩
  have HX1 := Lib.hid (HX0.out.below hb)
  have HR1 := Lib.hid (HR0.out.trans (if_neg (fun h => h hz)))
  have HDA : Hid (Op.Dir t c.ati) := HSD.out.inv.isDir (Op.folder_ok hz).1 (Op.folder_ok hz).2.1
  clear hz hb HX0 HR0
  go_wp2_with (refine wpList_load_part rfl 35 (.tmp 18) rfl p 9 rfl _ Tryz.underlying35 rfl (hc c.toi c.tog) 104 _ HX1.out.run size_H xc_to ?_)
  refine (folder_any HX1.out c.toi c.tog).mono ?_
  rintro e w2 ⟨⟨hz, rfl⟩ | ⟨hz, rfl⟩, hb⟩
  rotate_left
  · exact ⟨rfl, .no (HR1.out.trans (if_pos hz)) (HX1.out.below hb).bel⟩
  have HX2 := Lib.hid (HX1.out.below hb)
  have HR2 := Lib.hid (HR1.out.trans (if_neg (fun h => h hz)))
  have HDT : Hid (Op.Dir t c.toi) := HSD.out.inv.isDir (Op.folder_ok hz).1 (Op.folder_ok hz).2.1
  clear hz hb HX1 HR1
  have q8 := HX2.out.cellR 8 _ rfl
  go_wp2_with fail
  refine (name_any c.nm _).mono ?_
  rintro e w3 ⟨rfl, hb⟩
  have HX3 := Lib.hid (HX2.out.below hb)
  clear q8 hb HX2
  by_cases hn3 : nameOk c.nm = false
  · rw [show nameE c.nm = 67 from by unfold nameE; rw [hn3]; rfl]
    have HRN := Lib.hid (HR2.out.trans (if_pos hn3))
    clear HR2
    go_wp2_with (refine (check_no 67 (by decide) _).mono ?_; rintro e w' ⟨rfl, rfl⟩)
    exact ⟨rfl, .no HRN.out HX3.out.bel⟩
  have HR3 := Lib.hid (HR2.out.trans (if_neg hn3))
  rw [show nameE c.nm = 0 from by unfold nameE; rw [show nameOk c.nm = true from by simpa using hn3]; rfl]
  clear HR2 hn3
  have q11 := HX3.out.cellR 11 _ rfl
  go_wp2_with (refine (check_ok _).mono ?_; rintro e w' ⟨rfl, rfl⟩)
  refine (name_any c.tn _).mono ?_
  rintro e w4 ⟨rfl, hb⟩
  have HX4 := Lib.hid (HX3.out.below hb)
  clear q11 hb HX3
  by_cases hn4 : nameOk c.tn = false
  · rw [show nameE c.tn = 67 from by unfold nameE; rw [hn4]; rfl]
    have HRN := Lib.hid (HR3.out.trans (if_pos hn4))
    clear HR3
    go_wp2_with (refine (check_no 67 (by decide) _).mono ?_; rintro e w' ⟨rfl, rfl⟩)
    exact ⟨rfl, .no HRN.out HX4.out.bel⟩
  have HR4 := Lib.hid (HR3.out.trans (if_neg hn4))
  rw [show nameE c.tn = 0 from by unfold nameE; rw [show nameOk c.tn = true from by simpa using hn4]; rfl]
  clear HR3 hn4
  have q8 := HX4.out.cellR 8 _ rfl
  go_wp2_with (refine (check_ok _).mono ?_; rintro e w' ⟨rfl, rfl⟩)
  cases hl5 : Op.look t c.ati c.nm with
  | none =>
    have HRN : Hid (RR = .error 60) := by have := HR4.out; rw [hl5] at this; exact this
    have hx : nameX t c.ati c.nm = 60 := by unfold nameX; rw [hl5]
    refine (named_any HX4.out HDA.out c.nm).mono ?_
    rw [hx]
    rintro e w5 ⟨⟨hz, rfl⟩ | ⟨hz, rfl⟩, hb⟩
    · exact absurd hz (by decide)
    · exact ⟨rfl, .no HRN.out (HX4.out.below hb).bel⟩
  | some z =>
  have hr5 := HR4.out
  rw [hl5] at hr5
  have hx : nameX t c.ati c.nm = Op.thingE t z.ino z.gen ∧ nameI t c.ati c.nm = z.ino := by unfold nameX nameI; rw [hl5]; exact ⟨rfl, rfl⟩
  refine (named_any HX4.out HDA.out c.nm).mono ?_
  rw [hx.1, hx.2]
  rintro e w5 ⟨⟨hz, rfl⟩ | ⟨hz, rfl⟩, hb⟩
  rotate_left
  · have h69 : Op.thingE t z.ino z.gen = 69 := by
      rcases thingE_two t z.ino z.gen with h | h
      · exact absurd h.1 hz
      · exact h
    rw [h69]
    exact ⟨rfl, .no (hr5.trans (if_pos hz)) (HX4.out.below hb).bel⟩
  have HX5 := Lib.hid (HX4.out.below hb)
  have HR5 := Lib.hid (hr5.trans (if_neg (fun h => h hz)))
  have HIz := Lib.hid (Op.thing_ok hz)
  have HLz := Lib.hid hl5
  clear q8 hz hb hx hr5 hl5 HX4 HR4
  have HXB := Lib.hid (HX5.out.below (alloc_below w5 (.cells #[.pointer (some ⟨g, c.ati * 9, none⟩), .pointer (some ⟨g, c.toi * 9, none⟩), .pointer (some ⟨g, z.ino * 9, none⟩)] 149)))
  have HPB := Lib.hid (PR.three w5 g c.ati c.toi z.ino)
  have HLT : Hid (p < w5.heap.size ∧ g < w5.heap.size) := ⟨HX5.out.run.lt, HX5.out.sx.lt⟩
  have HNE : Hid (w5.heap.size ≠ p ∧ w5.heap.size ≠ g) := by
    have h1 := HX5.out.sx.lt
    have h2 := HX5.out.run.lt
    exact ⟨by omega, by omega⟩
  have q11 := HXB.out.cellR 11 _ rfl
  clear HX5
  have HHAS := Lib.hid (has_any HXB.out HDT.out c.tn)
  go_wp2_with fail
  refine HHAS.out.mono ?_
  rintro e wA ⟨rfl, hb⟩
  have HXA := Lib.hid (HXB.out.below hb)
  have HPA := Lib.hid (HPB.out.below hb)
  clear hb HXB HPB q11 HHAS
  cases hlo : Op.look t c.toi c.tn with
  | none =>
    have hr0 := HR5.out
    rw [hlo] at hr0
    have HRA := Lib.hid hr0
    have HMID : Hid (Op.Mid t c z t) := HSD.out.mid HDA.out.lt HDA.out.kind HDT.out.lt HDT.out.kind HLz.out (old := none) hlo
    clear hlo hr0 HR5
    have s1 := HXA.out.cellS HIz.out.1 1 _ rfl
    by_cases hk : (t.s z.ino).kind = 2
    · have hd : (((t.s z.ino).kind : Int) == 2) = true := by simp; omega
      have HBL := Lib.hid (reaches_any HXA.out HSD.out HIz.out.1 hk (low := c.toi))
      cases hin : Op.inside t c.toi z.ino with
      | true =>
        have HRN := Lib.hid (HRA.out.trans (if_pos ⟨hk, hin⟩))
        rw [hin] at HBL
        clear hk hin HRA
        have HBE := Lib.hid HXA.out.bel
        go_wp2_with fail
        refine HBL.out.mono ?_
        rintro e wB ⟨rfl, hb⟩
        have HBB : Hid (Below w0.heap.size w0 wB) := HBE.out.trans (hb.mono HBE.out.size)
        clear hb s1 HBL HXA HPA
        go_wp2_with (refine (refuse_yes 64 _).mono ?_; rintro e w' ⟨rfl, rfl⟩)
        exact ⟨rfl, .no HRN.out HBB.out⟩
      | false =>
        have HRK : Hid (RR = Op.moved t c z.ino (none)) := HRA.out.trans (if_neg (fun h => by rw [hin] at h; cases h.2))
        rw [hin] at HBL
        clear hk hin HRA
        go_wp2_with fail
        refine HBL.out.mono ?_
        rintro e wB ⟨rfl, hb⟩
        have HXC := Lib.hid (HXA.out.below hb)
        have HPC := Lib.hid (HPA.out.below hb)
        clear hb s1 HBL HXA HPA
        go_upto_region 14 with (refine (refuse_no 64 _).mono ?_; rintro e w' ⟨rfl, rfl⟩)
        clear hd
        have HMV : Hid (RR = match Op.enter (Op.leave t c.ati c.nm) c.toi c.tn (t.s z.ino).ino (t.s z.ino).gen with | .error y => .error y | .ok u => Op.fin u (Op.rep0 c) (Op.hit c z.ino (none)) z.ino) := HRK.out.trans (Op.moved_eq t c z.ino (none))
        clear HRK
        have q8 := HXC.out.cellR 8 _ rfl
        have HT3 := Lib.hid (removeEntry_any HXC.out HMID.out.da HMID.out.la)
        go_wp2_with fail
        refine HT3.out.mono ?_
        rintro e wF ⟨rfl, slF, hx1, hp1⟩
        have HXF := Lib.hid hx1
        have HPF := Lib.hid (HPC.out.pg hp1 HNE.out)
        clear hx1 hp1 HT3 q8 HXC HPC
        have q11 := HXF.out.cellR 11 _ rfl
        have HT4 := Lib.hid (addEntry_any HXF.out HMID.out.db HIz.out.1 HMID.out.wb HMID.out.we (by rw [HMID.out.no.1]; exact HMID.out.no.2) c.tn)
        rw [HMID.out.no.1, HMID.out.gn] at HT4
        have HDTS : Hid (∀ i, i < 24 → ((Op.leave t c.ati c.nm).s i).dt.length ≤ 1000000) := HMID.out.dts
        generalize Op.leave t c.ati c.nm = v3 at HT4 HMV HDTS
        go_wp2_with fail
        refine HT4.out.mono ?_
        rintro e wG hq
        have HQ := Lib.hid hq
        clear hq HT4 q11 HXF HMID
        cases he : Op.enter v3 c.toi c.tn (t.s z.ino).ino (t.s z.ino).gen with
        | error y =>
          rw [he] at HQ HMV
          obtain ⟨rfl, hb⟩ := HQ.out
          exact ⟨rfl, .no HMV.out hb⟩
        | ok u =>
        rw [he] at HQ HMV
        have HN8 := Lib.hid (Op.enter_dt he HDTS.out)
        obtain ⟨rfl, slG, hx1, hp1⟩ := HQ.out
        have HXG := Lib.hid hx1
        have HPG := Lib.hid (HPF.out.pg hp1 HNE.out)
        have HRG : Hid (RR = Op.fin u (Op.rep0 c) [c.ati, c.toi, z.ino] z.ino) := HMV.out
        clear hx1 hp1 HQ he HMV HPF HDTS
        have HCH := Lib.hid (change_any (kc := 3) HXG.out HPG.out.ptrs HNE.out (fun i hi => by
          simp only [List.mem_cons, List.not_mem_nil, or_false] at hi
          rcases hi with h | h | h
          · rw [h]; exact HDA.out.lt
          · rw [h]; exact HDT.out.lt
          · rw [h]; exact HIz.out.1) (by simp) HN8.out)
        clear HXG HPG HN8
        go_wp2_with fail
        refine HCH.out.mono ?_
        rintro e wH (⟨rfl, h1, h2⟩ | ⟨rfl, h1, h2⟩)
        rotate_left
        · exact ⟨rfl, .no (HRG.out.trans (if_pos h1)) h2⟩
        have HRZ : Hid (RR = .ok (Op.touch u [c.ati, c.toi, z.ino], Op.told (Op.touch u [c.ati, c.toi, z.ino]) (Op.rep0 c) z.ino)) := HRG.out.trans (if_neg h1)
        have HRE := Lib.hid (report_any h2 HIz.out.1)
        clear h1 h2 HCH HRG
        generalize Op.touch u [c.ati, c.toi, z.ino] = v at *
        go_wp2_with fail
        refine HRE.out.mono ?_
        rintro e wI ⟨rfl, h1, h2⟩
        have HXI := Lib.hid h1
        clear h1 h2 HRE
        go_wp2_with fail
        go_end0
        exact .ok HRZ.out HXI.out (RM.none rfl rfl)
    · have hd : (((t.s z.ino).kind : Int) == 2) = false := by simp; omega
      have HRK : Hid (RR = Op.moved t c z.ino (none)) := HRA.out.trans (if_neg (fun h => hk h.1))
      clear hk HRA
      go_upto_region 14 with (refine (refuse_no 64 _).mono ?_; rintro e w' ⟨rfl, rfl⟩)
      clear s1 hd
      have HMV : Hid (RR = match Op.enter (Op.leave t c.ati c.nm) c.toi c.tn (t.s z.ino).ino (t.s z.ino).gen with | .error y => .error y | .ok u => Op.fin u (Op.rep0 c) (Op.hit c z.ino (none)) z.ino) := HRK.out.trans (Op.moved_eq t c z.ino (none))
      clear HRK
      have q8 := HXA.out.cellR 8 _ rfl
      have HT3 := Lib.hid (removeEntry_any HXA.out HMID.out.da HMID.out.la)
      go_wp2_with fail
      refine HT3.out.mono ?_
      rintro e wF ⟨rfl, slF, hx1, hp1⟩
      have HXF := Lib.hid hx1
      have HPF := Lib.hid (HPA.out.pg hp1 HNE.out)
      clear hx1 hp1 HT3 q8 HXA HPA
      have q11 := HXF.out.cellR 11 _ rfl
      have HT4 := Lib.hid (addEntry_any HXF.out HMID.out.db HIz.out.1 HMID.out.wb HMID.out.we (by rw [HMID.out.no.1]; exact HMID.out.no.2) c.tn)
      rw [HMID.out.no.1, HMID.out.gn] at HT4
      have HDTS : Hid (∀ i, i < 24 → ((Op.leave t c.ati c.nm).s i).dt.length ≤ 1000000) := HMID.out.dts
      generalize Op.leave t c.ati c.nm = v3 at HT4 HMV HDTS
      go_wp2_with fail
      refine HT4.out.mono ?_
      rintro e wG hq
      have HQ := Lib.hid hq
      clear hq HT4 q11 HXF HMID
      cases he : Op.enter v3 c.toi c.tn (t.s z.ino).ino (t.s z.ino).gen with
      | error y =>
        rw [he] at HQ HMV
        obtain ⟨rfl, hb⟩ := HQ.out
        exact ⟨rfl, .no HMV.out hb⟩
      | ok u =>
      rw [he] at HQ HMV
      have HN8 := Lib.hid (Op.enter_dt he HDTS.out)
      obtain ⟨rfl, slG, hx1, hp1⟩ := HQ.out
      have HXG := Lib.hid hx1
      have HPG := Lib.hid (HPF.out.pg hp1 HNE.out)
      have HRG : Hid (RR = Op.fin u (Op.rep0 c) [c.ati, c.toi, z.ino] z.ino) := HMV.out
      clear hx1 hp1 HQ he HMV HPF HDTS
      have HCH := Lib.hid (change_any (kc := 3) HXG.out HPG.out.ptrs HNE.out (fun i hi => by
        simp only [List.mem_cons, List.not_mem_nil, or_false] at hi
        rcases hi with h | h | h
        · rw [h]; exact HDA.out.lt
        · rw [h]; exact HDT.out.lt
        · rw [h]; exact HIz.out.1) (by simp) HN8.out)
      clear HXG HPG HN8
      go_wp2_with fail
      refine HCH.out.mono ?_
      rintro e wH (⟨rfl, h1, h2⟩ | ⟨rfl, h1, h2⟩)
      rotate_left
      · exact ⟨rfl, .no (HRG.out.trans (if_pos h1)) h2⟩
      have HRZ : Hid (RR = .ok (Op.touch u [c.ati, c.toi, z.ino], Op.told (Op.touch u [c.ati, c.toi, z.ino]) (Op.rep0 c) z.ino)) := HRG.out.trans (if_neg h1)
      have HRE := Lib.hid (report_any h2 HIz.out.1)
      clear h1 h2 HCH HRG
      generalize Op.touch u [c.ati, c.toi, z.ino] = v at *
      go_wp2_with fail
      refine HRE.out.mono ?_
      rintro e wI ⟨rfl, h1, h2⟩
      have HXI := Lib.hid h1
      clear h1 h2 HRE
      go_wp2_with fail
      go_end0
      exact .ok HRZ.out HXI.out (RM.none rfl rfl)
  | some o =>
    have hr0 := HR5.out
    rw [hlo] at hr0
    have HRA := Lib.hid hr0
    have hx : nameX t c.toi c.tn = Op.thingE t o.ino o.gen ∧ nameI t c.toi c.tn = o.ino := by unfold nameX nameI; rw [hlo]; exact ⟨rfl, rfl⟩
    have HLo := Lib.hid hlo
    have q11 := HXA.out.cellR 11 _ rfl
    have HNM := Lib.hid (named_any HXA.out HDT.out c.tn)
    rw [hx.1, hx.2] at HNM
    clear hr0 hx hlo HR5
    go_wp2_with fail
    refine HNM.out.mono ?_
    rintro e wJ ⟨⟨hz, rfl⟩ | ⟨hz, rfl⟩, hb⟩
    rotate_left
    · have h69 : Op.thingE t o.ino o.gen = 69 := by
        rcases thingE_two t o.ino o.gen with h | h
        · exact absurd h.1 hz
        · exact h
      rw [h69]
      exact ⟨rfl, .no (HRA.out.trans (if_pos hz)) (HXA.out.below hb).bel⟩
    have HXJ := Lib.hid (HXA.out.below hb)
    have HPJ := Lib.hid (HPA.out.below hb)
    have HRJ := Lib.hid (HRA.out.trans (if_neg (fun h => h hz)))
    have HIo := Lib.hid (Op.thing_ok hz)
    clear q11 hz hb HXA HPA HRA HNM
    have hE := ptrEq HXJ.out.rw o.ino z.ino
    by_cases heq : o.ino = z.ino
    · rw [decide_eq_true heq] at hE
      have HRZ := Lib.hid (HRJ.out.trans (if_pos heq))
      have HRE := Lib.hid (report_any HXJ.out HIz.out.1)
      clear HRJ HPJ heq
      go_wp2_with fail
      refine HRE.out.mono ?_
      rintro e wI ⟨rfl, h1, h2⟩
      have HXI := Lib.hid h1
      clear h1 h2 HRE
      go_wp2_with fail
      go_end0
      exact .ok HRZ.out HXI.out (RM.none rfl rfl)
    rw [decide_eq_false heq] at hE
    have HRK1 : Hid (RR = if Op.replE t z.ino o.ino ≠ 0 then .error (Op.replE t z.ino o.ino) else if (t.s z.ino).kind = 2 ∧ Op.inside t c.toi z.ino = true then .error 64 else Op.moved t c z.ino (some o.ino)) := (HRJ.out.trans (if_neg heq)).trans (Op.repl_eq t z.ino o.ino _)
    have HRP : Hid (Calls Tryz.prog 119 #[.pointer (some ⟨g, z.ino * 9, none⟩), .pointer (some ⟨g, o.ino * 9, none⟩)] wJ (ErQ (Op.replE t z.ino o.ino) (.tuple #[]) wJ)) := replace_any HXJ.out HIz.out.1 HIo.out.1 (HSD.out.inv.may.ok _ HIo.out.1)
    have HZR : Hid (Op.replE t z.ino o.ino = 0 → Op.Mid t c z (Op.unlink (Op.leave t c.toi c.tn) o.ino)) := fun h => HSD.out.mid HDA.out.lt HDA.out.kind HDT.out.lt HDT.out.kind HLz.out (old := some o.ino) ⟨o, HLo.out, rfl, heq, HIo.out.2.1, Op.repl_zero h⟩
    generalize Op.replE t z.ino o.ino = ER at HRK1 HRP HZR
    clear HRJ heq
    go_wp2_with fail
    refine HRP.out.mono ?_
    rintro e wK ⟨⟨hz, rfl⟩ | ⟨hz, rfl⟩, hb⟩
    rotate_left
    · exact ⟨rfl, .no (HRK1.out.trans (if_pos hz)) (HXJ.out.below hb).bel⟩
    have HXK := Lib.hid (HXJ.out.below hb)
    have HPK := Lib.hid (HPJ.out.below hb)
    have HRL := Lib.hid (HRK1.out.trans (if_neg (fun h => h hz)))
    have HMID := Lib.hid (HZR.out hz)
    clear hz hb HXJ HPJ HRK1 HZR HRP hE
    have HXL := Lib.hid (HXK.out.below (alloc_below wK (.cells #[.pointer (some ⟨g, o.ino * 9, none⟩)] 149)))
    have HPL := Lib.hid (HPK.out.below (alloc_below wK (.cells #[.pointer (some ⟨g, o.ino * 9, none⟩)] 149)))
    have hbs : w5.heap.size ≤ (wK.alloc (.cells #[.pointer (some ⟨g, o.ino * 9, none⟩)] 149)).heap.size := by have := HPL.out.lt; omega
    have HAPP := fun ty => Lib.hid (HPL.out.append (i := o.ino) hbs (by simp) ⟨wK.heap.size, 0, none⟩ (by rw [cell_of_row _ _ _ _ _ _ (heap_alloc_new wK _)]; rfl) ty)
    clear HXK HPK
    go_upto_region 13 with
                (at_builtin
                 obtain ⟨b9, c9, w9, hrun, hpr9, hgr9, hbe9⟩ := (HAPP 161).out
                 go_must (refine wpList_append_run rfl (.tmp 71) (.tmp 73) 161 rfl _ _ _ rfl rfl hrun ?_)
                 have HX9 := Lib.hid (HXL.out.below (hbe9 rfl))
                 have HP9 : Hid (PR w9 w5.heap.size g b9 c9 [c.ati, c.toi, z.ino, o.ino]) := hpr9
                 have HNE9 : Hid (b9 ≠ p ∧ b9 ≠ g) := ⟨fun e => by have h1 := HP9.out.base; have h2 := HLT.out.1; omega, fun e => by have h1 := HP9.out.base; have h2 := HLT.out.2; omega⟩
                 clear hpr9 hgr9 hbe9 hrun HAPP HXL HPL HNE)
    have s1 := HX9.out.cellS HIz.out.1 1 _ rfl
    by_cases hk : (t.s z.ino).kind = 2
    · have hd : (((t.s z.ino).kind : Int) == 2) = true := by simp; omega
      have HBL := Lib.hid (reaches_any HX9.out HSD.out HIz.out.1 hk (low := c.toi))
      cases hin : Op.inside t c.toi z.ino with
      | true =>
        have HRN := Lib.hid (HRL.out.trans (if_pos ⟨hk, hin⟩))
        rw [hin] at HBL
        clear hk hin HRL
        have HBE := Lib.hid HX9.out.bel
        go_wp2_with fail
        refine HBL.out.mono ?_
        rintro e wB ⟨rfl, hb⟩
        have HBB : Hid (Below w0.heap.size w0 wB) := HBE.out.trans (hb.mono HBE.out.size)
        clear hb s1 HBL HX9 HP9
        go_wp2_with (refine (refuse_yes 64 _).mono ?_; rintro e w' ⟨rfl, rfl⟩)
        exact ⟨rfl, .no HRN.out HBB.out⟩
      | false =>
        have HRK : Hid (RR = Op.moved t c z.ino (some o.ino)) := HRL.out.trans (if_neg (fun h => by rw [hin] at h; cases h.2))
        rw [hin] at HBL
        clear hk hin HRL
        go_wp2_with fail
        refine HBL.out.mono ?_
        rintro e wB ⟨rfl, hb⟩
        have HXC := Lib.hid (HX9.out.below hb)
        have HPC := Lib.hid (HP9.out.below hb)
        clear hb s1 HBL HX9 HP9
        go_upto_region 14 with (refine (refuse_no 64 _).mono ?_; rintro e w' ⟨rfl, rfl⟩)
        clear hd
        have HMV : Hid (RR = match Op.enter (Op.leave (Op.unlink (Op.leave t c.toi c.tn) o.ino) c.ati c.nm) c.toi c.tn (t.s z.ino).ino (t.s z.ino).gen with | .error y => .error y | .ok u => Op.fin u (Op.rep0 c) (Op.hit c z.ino (some o.ino)) z.ino) := HRK.out.trans (Op.moved_eq t c z.ino (some o.ino))
        clear HRK
        have q11 := HXC.out.cellR 11 _ rfl
        have HT1 := Lib.hid (removeEntry_any HXC.out HDT.out HLo.out)
        go_wp2_with fail
        refine HT1.out.mono ?_
        rintro e wD ⟨rfl, slD, hx1, hp1⟩
        have HXD := Lib.hid hx1
        have HPD := Lib.hid (HPC.out.pg hp1 HNE9.out)
        clear hx1 hp1 HT1 q11 HXC HPC
        have HT2 := Lib.hid (unlink_any HXD.out HIo.out.1)
        go_wp2_with fail
        refine HT2.out.mono ?_
        rintro e wE ⟨rfl, slE, hx1, hp1⟩
        have HXE := Lib.hid hx1
        have HPE := Lib.hid (HPD.out.pg hp1 HNE9.out)
        clear hx1 hp1 HT2 HXD HPD
        have q8 := HXE.out.cellR 8 _ rfl
        have HT3 := Lib.hid (removeEntry_any HXE.out HMID.out.da HMID.out.la)
        go_wp2_with fail
        refine HT3.out.mono ?_
        rintro e wF ⟨rfl, slF, hx1, hp1⟩
        have HXF := Lib.hid hx1
        have HPF := Lib.hid (HPE.out.pg hp1 HNE9.out)
        clear hx1 hp1 HT3 q8 HXE HPE
        have q11 := HXF.out.cellR 11 _ rfl
        have HT4 := Lib.hid (addEntry_any HXF.out HMID.out.db HIz.out.1 HMID.out.wb HMID.out.we (by rw [HMID.out.no.1]; exact HMID.out.no.2) c.tn)
        rw [HMID.out.no.1, HMID.out.gn] at HT4
        have HDTS : Hid (∀ i, i < 24 → ((Op.leave (Op.unlink (Op.leave t c.toi c.tn) o.ino) c.ati c.nm).s i).dt.length ≤ 1000000) := HMID.out.dts
        generalize Op.leave (Op.unlink (Op.leave t c.toi c.tn) o.ino) c.ati c.nm = v3 at HT4 HMV HDTS
        go_wp2_with fail
        refine HT4.out.mono ?_
        rintro e wG hq
        have HQ := Lib.hid hq
        clear hq HT4 q11 HXF HMID
        cases he : Op.enter v3 c.toi c.tn (t.s z.ino).ino (t.s z.ino).gen with
        | error y =>
          rw [he] at HQ HMV
          obtain ⟨rfl, hb⟩ := HQ.out
          exact ⟨rfl, .no HMV.out hb⟩
        | ok u =>
        rw [he] at HQ HMV
        have HN8 := Lib.hid (Op.enter_dt he HDTS.out)
        obtain ⟨rfl, slG, hx1, hp1⟩ := HQ.out
        have HXG := Lib.hid hx1
        have HPG := Lib.hid (HPF.out.pg hp1 HNE9.out)
        have HRG : Hid (RR = Op.fin u (Op.rep0 c) [c.ati, c.toi, z.ino, o.ino] z.ino) := HMV.out
        clear hx1 hp1 HQ he HMV HPF HDTS
        have HCH := Lib.hid (change_any (kc := c9) HXG.out HPG.out.ptrs HNE9.out (fun i hi => by
          simp only [List.mem_cons, List.not_mem_nil, or_false] at hi
          rcases hi with h | h | h | h
          · rw [h]; exact HDA.out.lt
          · rw [h]; exact HDT.out.lt
          · rw [h]; exact HIz.out.1
          · rw [h]; exact HIo.out.1) (by simp) HN8.out)
        clear HXG HPG HN8
        go_wp2_with fail
        refine HCH.out.mono ?_
        rintro e wH (⟨rfl, h1, h2⟩ | ⟨rfl, h1, h2⟩)
        rotate_left
        · exact ⟨rfl, .no (HRG.out.trans (if_pos h1)) h2⟩
        have HRZ : Hid (RR = .ok (Op.touch u [c.ati, c.toi, z.ino, o.ino], Op.told (Op.touch u [c.ati, c.toi, z.ino, o.ino]) (Op.rep0 c) z.ino)) := HRG.out.trans (if_neg h1)
        have HRE := Lib.hid (report_any h2 HIz.out.1)
        clear h1 h2 HCH HRG
        generalize Op.touch u [c.ati, c.toi, z.ino, o.ino] = v at *
        go_wp2_with fail
        refine HRE.out.mono ?_
        rintro e wI ⟨rfl, h1, h2⟩
        have HXI := Lib.hid h1
        clear h1 h2 HRE
        go_wp2_with fail
        go_end0
        exact .ok HRZ.out HXI.out (RM.none rfl rfl)
    · have hd : (((t.s z.ino).kind : Int) == 2) = false := by simp; omega
      have HRK : Hid (RR = Op.moved t c z.ino (some o.ino)) := HRL.out.trans (if_neg (fun h => hk h.1))
      clear hk HRL
      go_upto_region 14 with (refine (refuse_no 64 _).mono ?_; rintro e w' ⟨rfl, rfl⟩)
      clear s1 hd
      have HMV : Hid (RR = match Op.enter (Op.leave (Op.unlink (Op.leave t c.toi c.tn) o.ino) c.ati c.nm) c.toi c.tn (t.s z.ino).ino (t.s z.ino).gen with | .error y => .error y | .ok u => Op.fin u (Op.rep0 c) (Op.hit c z.ino (some o.ino)) z.ino) := HRK.out.trans (Op.moved_eq t c z.ino (some o.ino))
      clear HRK
      have q11 := HX9.out.cellR 11 _ rfl
      have HT1 := Lib.hid (removeEntry_any HX9.out HDT.out HLo.out)
      go_wp2_with fail
      refine HT1.out.mono ?_
      rintro e wD ⟨rfl, slD, hx1, hp1⟩
      have HXD := Lib.hid hx1
      have HPD := Lib.hid (HP9.out.pg hp1 HNE9.out)
      clear hx1 hp1 HT1 q11 HX9 HP9
      have HT2 := Lib.hid (unlink_any HXD.out HIo.out.1)
      go_wp2_with fail
      refine HT2.out.mono ?_
      rintro e wE ⟨rfl, slE, hx1, hp1⟩
      have HXE := Lib.hid hx1
      have HPE := Lib.hid (HPD.out.pg hp1 HNE9.out)
      clear hx1 hp1 HT2 HXD HPD
      have q8 := HXE.out.cellR 8 _ rfl
      have HT3 := Lib.hid (removeEntry_any HXE.out HMID.out.da HMID.out.la)
      go_wp2_with fail
      refine HT3.out.mono ?_
      rintro e wF ⟨rfl, slF, hx1, hp1⟩
      have HXF := Lib.hid hx1
      have HPF := Lib.hid (HPE.out.pg hp1 HNE9.out)
      clear hx1 hp1 HT3 q8 HXE HPE
      have q11 := HXF.out.cellR 11 _ rfl
      have HT4 := Lib.hid (addEntry_any HXF.out HMID.out.db HIz.out.1 HMID.out.wb HMID.out.we (by rw [HMID.out.no.1]; exact HMID.out.no.2) c.tn)
      rw [HMID.out.no.1, HMID.out.gn] at HT4
      have HDTS : Hid (∀ i, i < 24 → ((Op.leave (Op.unlink (Op.leave t c.toi c.tn) o.ino) c.ati c.nm).s i).dt.length ≤ 1000000) := HMID.out.dts
      generalize Op.leave (Op.unlink (Op.leave t c.toi c.tn) o.ino) c.ati c.nm = v3 at HT4 HMV HDTS
      go_wp2_with fail
      refine HT4.out.mono ?_
      rintro e wG hq
      have HQ := Lib.hid hq
      clear hq HT4 q11 HXF HMID
      cases he : Op.enter v3 c.toi c.tn (t.s z.ino).ino (t.s z.ino).gen with
      | error y =>
        rw [he] at HQ HMV
        obtain ⟨rfl, hb⟩ := HQ.out
        exact ⟨rfl, .no HMV.out hb⟩
      | ok u =>
      rw [he] at HQ HMV
      have HN8 := Lib.hid (Op.enter_dt he HDTS.out)
      obtain ⟨rfl, slG, hx1, hp1⟩ := HQ.out
      have HXG := Lib.hid hx1
      have HPG := Lib.hid (HPF.out.pg hp1 HNE9.out)
      have HRG : Hid (RR = Op.fin u (Op.rep0 c) [c.ati, c.toi, z.ino, o.ino] z.ino) := HMV.out
      clear hx1 hp1 HQ he HMV HPF HDTS
      have HCH := Lib.hid (change_any (kc := c9) HXG.out HPG.out.ptrs HNE9.out (fun i hi => by
        simp only [List.mem_cons, List.not_mem_nil, or_false] at hi
        rcases hi with h | h | h | h
        · rw [h]; exact HDA.out.lt
        · rw [h]; exact HDT.out.lt
        · rw [h]; exact HIz.out.1
        · rw [h]; exact HIo.out.1) (by simp) HN8.out)
      clear HXG HPG HN8
      go_wp2_with fail
      refine HCH.out.mono ?_
      rintro e wH (⟨rfl, h1, h2⟩ | ⟨rfl, h1, h2⟩)
      rotate_left
      · exact ⟨rfl, .no (HRG.out.trans (if_pos h1)) h2⟩
      have HRZ : Hid (RR = .ok (Op.touch u [c.ati, c.toi, z.ino, o.ino], Op.told (Op.touch u [c.ati, c.toi, z.ino, o.ino]) (Op.rep0 c) z.ino)) := HRG.out.trans (if_neg h1)
      have HRE := Lib.hid (report_any h2 HIz.out.1)
      clear h1 h2 HCH HRG
      generalize Op.touch u [c.ati, c.toi, z.ino, o.ino] = v at *
      go_wp2_with fail
      refine HRE.out.mono ?_
      rintro e wI ⟨rfl, h1, h2⟩
      have HXI := Lib.hid h1
      clear h1 h2 HRE
      go_wp2_with fail
      go_end0
      exact .ok HRZ.out HXI.out (RM.none rfl rfl)
end
end Go.Proofs.YtpbpdnjlomhkdaaGreat
