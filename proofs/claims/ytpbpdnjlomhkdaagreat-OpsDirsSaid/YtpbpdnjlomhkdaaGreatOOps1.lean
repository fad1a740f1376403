/-
  Contracts of the operations: Lookup, Getattr, Commit, Fsstat, Remove, Rmdir, Mkdir (layer 13).
-/
import Derived.Test.YtpbpdnjlomhkdaaGreatODrop
namespace Go.Proofs.YtpbpdnjlomhkdaaGreat
open Go.RowKit Go.Shelf

theorem built_Sl1 (a : Int) : Tryz.prog.built 92 [(1, .int .u32 a)] = some #[.int .u32 0, .int .u32 a, .int .u32 0, .int .u32 0, .int .u32 0, .int .u64 0, .int .u64 0, .int .u64 0, .slice none 0 0] := by kernel_rfl
theorem wrap_room (x : Int) (h : 0 ≤ x) : wrap64 x % 4294967296 = ((x.toNat % 4294967296 : Nat) : Int) := by
  unfold wrap64
  omega
section
variable {w0 w w' : World} {p g k : Nat} {t u : Op.TT} {sl : Nat → Sl} {c : Cl} {B : Option Addr} {n d : Nat} {r r' : Rp} {D D' : Option Addr} {m e m' e' : Nat} {E E' : Option Addr} {q f q' f' : Nat}
set_option maxRecDepth 100000 in
set_option maxHeartbeats 4000000 in
theorem lookup_any (h : RX w0 w p g k t sl c B n d (Op.rep0 c) none 0 0 none 0 0) (hs : Op.Sound t) :
    Calls Tryz.prog 53 #[.pointer (some ⟨p, 0, none⟩)] w (OutQ w0 p g k c B n d (Op.lookup t c)) := by
  have HX0 := Lib.hid h
  have HSD := Lib.hid hs
  obtain ⟨RR, hRR⟩ : ∃ RR, RR = Op.lookup t c := ⟨_, rfl⟩
  rw [← hRR]
  have HR0 := Lib.hid hRR
  clear h hs hRR
  go_enter Tryz.func53, Tryz.ntmps53
  go_wp2_with (refine wpList_load_part rfl 35 (.tmp 7) rfl p 6 rfl _ Tryz.underlying35 rfl (hc c.ati c.atg) 104 _ HX0.out.run size_H xc_at ?_)
  refine (folder_any HX0.out c.ati c.atg).mono ?_
  rintro e w1 ⟨⟨hz, rfl⟩ | ⟨hz, rfl⟩, hb⟩
  rotate_left
  · exact ⟨rfl, .no (HR0.out.trans (if_pos hz)) (HX0.out.below hb).bel⟩
  have HX1 := Lib.hid (HX0.out.below hb)
  have HR1 := Lib.hid (HR0.out.trans (if_neg (fun h => h hz)))
  have HDA : Hid (Op.Dir t c.ati) := HSD.out.inv.isDir (Op.folder_ok hz).1 (Op.folder_ok hz).2.1
  clear hz hb HX0 HR0
  have q8 := HX1.out.cellR 8 _ rfl
  go_wp2_with fail
  refine (name_any c.nm _).mono ?_
  rintro e w2 ⟨rfl, hb⟩
  have HX2 := Lib.hid (HX1.out.below hb)
  clear q8 hb HX1
  by_cases hn2 : nameOk c.nm = false
  · rw [show nameE c.nm = 67 from by unfold nameE; rw [hn2]; rfl]
    have HRN := Lib.hid (HR1.out.trans (if_pos hn2))
    clear HR1
    go_wp2_with (refine (check_no 67 (by decide) _).mono ?_; rintro e w' ⟨rfl, rfl⟩)
    exact ⟨rfl, .no HRN.out HX2.out.bel⟩
  have HR2 := Lib.hid (HR1.out.trans (if_neg hn2))
  rw [show nameE c.nm = 0 from by unfold nameE; rw [show nameOk c.nm = true from by simpa using hn2]; rfl]
  clear HR1 hn2
  have q8 := HX2.out.cellR 8 _ rfl
  go_wp2_with (refine (check_ok _).mono ?_; rintro e w' ⟨rfl, rfl⟩)
  cases hl3 : Op.look t c.ati c.nm with
  | none =>
    have HRN : Hid (RR = .error 60) := by have := HR2.out; rw [hl3] at this; exact this
    have hx : nameX t c.ati c.nm = 60 := by unfold nameX; rw [hl3]
    refine (named_any HX2.out HDA.out c.nm).mono ?_
    rw [hx]
    rintro e w3 ⟨⟨hz, rfl⟩ | ⟨hz, rfl⟩, hb⟩
    · exact absurd hz (by decide)
    · exact ⟨rfl, .no HRN.out (HX2.out.below hb).bel⟩
  | some z =>
  have hr3 := HR2.out
  rw [hl3] at hr3
  have hx : nameX t c.ati c.nm = Op.thingE t z.ino z.gen ∧ nameI t c.ati c.nm = z.ino := by unfold nameX nameI; rw [hl3]; exact ⟨rfl, rfl⟩
  refine (named_any HX2.out HDA.out c.nm).mono ?_
  rw [hx.1, hx.2]
  rintro e w3 ⟨⟨hz, rfl⟩ | ⟨hz, rfl⟩, hb⟩
  rotate_left
  · have h69 : Op.thingE t z.ino z.gen = 69 := by
      rcases thingE_two t z.ino z.gen with h | h
      · exact absurd h.1 hz
      · exact h
    rw [h69]
    exact ⟨rfl, .no (hr3.trans (if_pos hz)) (HX2.out.below hb).bel⟩
  have HX3 := Lib.hid (HX2.out.below hb)
  have HR3 := Lib.hid (hr3.trans (if_neg (fun h => h hz)))
  have HIz := Lib.hid (Op.thing_ok hz)
  have HLz := Lib.hid hl3
  clear q8 hz hb hx hr3 hl3 HX2 HR2
  go_wp2_with fail
  refine (report_any HX3.out HIz.out.1).mono ?_
  rintro e w4 ⟨rfl, h1, h2⟩
  have HX4 := Lib.hid h1
  clear h1 h2 HX3
  go_wp2_with fail
  go_end0
  exact .ok HR3.out HX4.out (RM.none rfl rfl)
set_option maxRecDepth 100000 in
set_option maxHeartbeats 4000000 in
theorem getattr_any (h : RX w0 w p g k t sl c B n d (Op.rep0 c) none 0 0 none 0 0) (hs : Op.Sound t) :
    Calls Tryz.prog 54 #[.pointer (some ⟨p, 0, none⟩)] w (OutQ w0 p g k c B n d (Op.getattr t c)) := by
  have HX0 := Lib.hid h
  have HSD := Lib.hid hs
  obtain ⟨RR, hRR⟩ : ∃ RR, RR = Op.getattr t c := ⟨_, rfl⟩
  rw [← hRR]
  have HR0 := Lib.hid hRR
  clear h hs hRR
  go_enter Tryz.func54, Tryz.ntmps54
  go_wp2_with (refine wpList_load_part rfl 35 (.tmp 7) rfl p 6 rfl _ Tryz.underlying35 rfl (hc c.ati c.atg) 104 _ HX0.out.run size_H xc_at ?_)
  refine (thing_any HX0.out c.ati c.atg).mono ?_
  rintro e w1 ⟨⟨hz, rfl⟩ | ⟨hz, rfl⟩, hb⟩
  rotate_left
  · have h69 : Op.thingE t c.ati c.atg = 69 := by
      rcases thingE_two t c.ati c.atg with h | h
      · exact absurd h.1 hz
      · exact h
    rw [h69]
    exact ⟨rfl, .no (HR0.out.trans (if_pos hz)) (HX0.out.below hb).bel⟩
  have HX1 := Lib.hid (HX0.out.below hb)
  have HIA := Lib.hid (Op.thing_ok hz)
  have HR1 := Lib.hid (HR0.out.trans (if_neg (fun h => h hz)))
  clear hz hb HX0 HR0
  go_wp2_with fail
  refine (report_any HX1.out HIA.out.1).mono ?_
  rintro e w2 ⟨rfl, h1, h2⟩
  have HX2 := Lib.hid h1
  clear h1 h2 HX1
  go_wp2_with fail
  go_end0
  exact .ok HR1.out HX2.out (RM.none rfl rfl)
set_option maxRecDepth 100000 in
set_option maxHeartbeats 4000000 in
theorem commit_any (h : RX w0 w p g k t sl c B n d (Op.rep0 c) none 0 0 none 0 0) (hs : Op.Sound t) :
    Calls Tryz.prog 68 #[.pointer (some ⟨p, 0, none⟩)] w (OutQ w0 p g k c B n d (Op.commit t c)) := by
  have HX0 := Lib.hid h
  have HSD := Lib.hid hs
  obtain ⟨RR, hRR⟩ : ∃ RR, RR = Op.commit t c := ⟨_, rfl⟩
  rw [← hRR]
  have HR0 := Lib.hid hRR
  clear h hs hRR
  go_enter Tryz.func68, Tryz.ntmps68
  have HG := Lib.hid (getattr_any HX0.out HSD.out)
  go_wp2_with fail
  refine HG.out.mono ?_
  rintro e w1 hq
  have HQ := Lib.hid hq
  clear hq HG
  by_cases hz : Op.thingE t c.ati c.atg = 0
  rotate_left
  · rw [show Op.getattr t c = .error 69 from if_pos hz] at HQ
    obtain ⟨rfl, hb⟩ := HQ.out
    exact ⟨rfl, .no (HR0.out.trans (if_pos hz)) hb⟩
  rw [show Op.getattr t c = .ok (t, Op.told t (Op.rep0 c) c.ati) from if_neg (fun h => h hz)] at HQ
  have HR1 := Lib.hid (HR0.out.trans (if_neg (fun h => h hz)))
  obtain ⟨rfl, sl1, D1, m1, e1, E1, qq1, f1, hx, hm⟩ := HQ.out
  have HX1 := Lib.hid hx
  have HM1 := Lib.hid hm
  clear hx hm HQ hz HR0 HX0
  have q30 := HX1.out.cellR 30 _ rfl
  have f30 := HX1.out.run.froz 30
  go_wp2_with fail
  go_end0
  have hk : Keep (· ≠ p) w1 (w1.setCell ⟨p, 30, none⟩ (.int .u64 1)) := (Keep.refl _ w1).setCell (p := ⟨p, 30, none⟩) (fun h => h rfl) _
  exact .ok HR1.out (HX1.out.setR 30 (.int .u64 1) (r' := Op.told t { Op.rep0 c with vf := 1 } c.ati) rfl rfl) ⟨HX1.out.offP HM1.out.data hk, ES.offX HX1.out HM1.out.ents hk, HM1.out.few⟩
set_option maxRecDepth 100000 in
set_option maxHeartbeats 4000000 in
theorem fsstat_any (h : RX w0 w p g k t sl c B n d (Op.rep0 c) none 0 0 none 0 0) (hs : Op.Sound t) :
    Calls Tryz.prog 67 #[.pointer (some ⟨p, 0, none⟩)] w (OutQ w0 p g k c B n d (Op.fsstat t c)) := by
  have HX0 := Lib.hid h
  have HSD := Lib.hid hs
  obtain ⟨RR, hRR⟩ : ∃ RR, RR = Op.fsstat t c := ⟨_, rfl⟩
  rw [← hRR]
  have HR0 := Lib.hid hRR
  clear h hs hRR
  go_enter Tryz.func67, Tryz.ntmps67
  have HG := Lib.hid (getattr_any HX0.out HSD.out)
  go_wp2_with fail
  refine HG.out.mono ?_
  rintro e w1 hq
  have HQ := Lib.hid hq
  clear hq HG
  by_cases hz : Op.thingE t c.ati c.atg = 0
  rotate_left
  · rw [show Op.getattr t c = .error 69 from if_pos hz] at HQ
    obtain ⟨rfl, hb⟩ := HQ.out
    exact ⟨rfl, .no (HR0.out.trans (if_pos hz)) hb⟩
  rw [show Op.getattr t c = .ok (t, Op.told t (Op.rep0 c) c.ati) from if_neg (fun h => h hz)] at HQ
  have HR1 := Lib.hid (HR0.out.trans (if_neg (fun h => h hz)))
  obtain ⟨rfl, sl1, D1, m1, e1, E1, qq1, f1, hx, hm⟩ := HQ.out
  have HX1 := Lib.hid hx
  have HM1 := Lib.hid hm
  clear hx hm HQ hz HR0 HX0
  have HU := Lib.hid (used_any (c := k) HX1.out.sx.ss HSD.out.dts)
  have HROOM : Hid ((Vl.tot t.s : Int) ≤ t.rm) := HSD.out.room
  obtain ⟨T, hT⟩ : ∃ T, T = Vl.tot t.s := ⟨_, rfl⟩
  have HRT : Hid (RR = .ok (t, Op.told t { Op.rep0 c with fr := ((t.rm - (T : Int)).toNat) % 4294967296 } c.ati)) := by rw [hT]; exact HR1.out
  rw [← hT] at HU HROOM
  clear hT HR1 HSD
  go_wp2_with (refine wpList_load_part rfl 27 (.tmp 7) rfl p 0 rfl _ Tryz.underlying27 rfl (tc t (.slice (some ⟨g, 0, none⟩) 24 k)) 104 _ HX1.out.run size_Th (fun j u hu => by
    rw [Nat.zero_add]
    match j, hu with
    | 0, hu => exact hu
    | 1, hu => exact hu
    | 2, hu => exact hu
    | j + 3, hu => simp [tc] at hu) ?_)
  refine HU.out.mono ?_
  rintro e w2 ⟨rfl, hb⟩
  have HX2 := Lib.hid (HX1.out.below hb)
  have HM2 := Lib.hid (HM1.out.below hb)
  have q2 := HX2.out.cellR 2 _ rfl
  have q31 := HX2.out.cellR 31 _ rfl
  have f31 := HX2.out.run.froz 31
  clear hb HX1 HM1 HU
  by_cases hr : (T : Int) < t.rm
  · have hd : decide ((T : Int) < t.rm) = true := by simpa using hr
    have HW := Lib.hid (wrap_room (t.rm - (T : Int)) (by omega))
    go_wp2_with fail
    rw [HW.out]
    go_end0
    obtain ⟨F, hF⟩ : ∃ F, F = ((t.rm - (T : Int)).toNat) % 4294967296 := ⟨_, rfl⟩
    rw [← hF] at HRT ⊢
    have hk : Keep (· ≠ p) w2 (w2.setCell ⟨p, 31, none⟩ (.int .u32 (F : Int))) := (Keep.refl _ w2).setCell (p := ⟨p, 31, none⟩) (fun h => h rfl) _
    exact .ok HRT.out (HX2.out.setR 31 (.int .u32 (F : Int)) (r' := Op.told t { Op.rep0 c with fr := F } c.ati) rfl rfl) ⟨HX2.out.offP HM2.out.data hk, ES.offX HX2.out HM2.out.ents hk, HM2.out.few⟩
  · have hd : decide ((T : Int) < t.rm) = false := by simpa using hr
    have HF : Hid (((t.rm - (T : Int)).toNat) % 4294967296 = 0) := by show _ = _; have := HROOM.out; omega
    rw [HF.out] at HRT
    go_wp2_with fail
    go_end0
    exact .ok HRT.out HX2.out HM2.out
set_option maxRecDepth 100000 in
set_option maxHeartbeats 4000000 in
theorem oremove_any (h : RX w0 w p g k t sl c B n d (Op.rep0 c) none 0 0 none 0 0) (hs : Op.Sound t) :
    Calls Tryz.prog 62 #[.pointer (some ⟨p, 0, none⟩)] w (OutQ w0 p g k c B n d (Op.out t c false)) := by
  have HX0 := Lib.hid h
  have HSD := Lib.hid hs
  obtain ⟨RR, hRR⟩ : ∃ RR, RR = Op.out t c false := ⟨_, rfl⟩
  rw [← hRR]
  have HR0 := Lib.hid hRR
  clear h hs hRR
  go_enter Tryz.func62, Tryz.ntmps62
  go_wp2_with (refine wpList_load_part rfl 35 (.tmp 8) rfl p 6 rfl _ Tryz.underlying35 rfl (hc c.ati c.atg) 104 _ HX0.out.run size_H xc_at ?_)
  refine (folder_any HX0.out c.ati c.atg).mono ?_
  rintro e w1 ⟨⟨hz, rfl⟩ | ⟨hz, rfl⟩, hb⟩
  rotate_left
  · exact ⟨rfl, .no (HR0.out.trans (if_pos hz)) (HX0.out.below hb).bel⟩
  have HX1 := Lib.hid (HX0.out.below hb)
  have HR1 := Lib.hid (HR0.out.trans (if_neg (fun h => h hz)))
  have HDA : Hid (Op.Dir t c.ati) := HSD.out.inv.isDir (Op.folder_ok hz).1 (Op.folder_ok hz).2.1
  clear hz hb HX0 HR0
  have q8 := HX1.out.cellR 8 _ rfl
  go_wp2_with fail
  refine (name_any c.nm _).mono ?_
  rintro e w2 ⟨rfl, hb⟩
  have HX2 := Lib.hid (HX1.out.below hb)
  clear q8 hb HX1
  by_cases hn2 : nameOk c.nm = false
  · rw [show nameE c.nm = 67 from by unfold nameE; rw [hn2]; rfl]
    have HRN := Lib.hid (HR1.out.trans (if_pos hn2))
    clear HR1
    go_wp2_with (refine (check_no 67 (by decide) _).mono ?_; rintro e w' ⟨rfl, rfl⟩)
    exact ⟨rfl, .no HRN.out HX2.out.bel⟩
  have HR2 := Lib.hid (HR1.out.trans (if_neg hn2))
  rw [show nameE c.nm = 0 from by unfold nameE; rw [show nameOk c.nm = true from by simpa using hn2]; rfl]
  clear HR1 hn2
  have q8 := HX2.out.cellR 8 _ rfl
  go_wp2_with (refine (check_ok _).mono ?_; rintro e w' ⟨rfl, rfl⟩)
  cases hl3 : Op.look t c.ati c.nm with
  | none =>
    have HRN : Hid (RR = .error 60) := by have := HR2.out; rw [hl3] at this; exact this
    have hx : nameX t c.ati c.nm = 60 := by unfold nameX; rw [hl3]
    refine (named_any HX2.out HDA.out c.nm).mono ?_
    rw [hx]
    rintro e w3 ⟨⟨hz, rfl⟩ | ⟨hz, rfl⟩, hb⟩
    · exact absurd hz (by decide)
    · exact ⟨rfl, .no HRN.out (HX2.out.below hb).bel⟩
  | some z =>
  have hr3 := HR2.out
  rw [hl3] at hr3
  have hx : nameX t c.ati c.nm = Op.thingE t z.ino z.gen ∧ nameI t c.ati c.nm = z.ino := by unfold nameX nameI; rw [hl3]; exact ⟨rfl, rfl⟩
  refine (named_any HX2.out HDA.out c.nm).mono ?_
  rw [hx.1, hx.2]
  rintro e w3 ⟨⟨hz, rfl⟩ | ⟨hz, rfl⟩, hb⟩
  rotate_left
  · have h69 : Op.thingE t z.ino z.gen = 69 := by
      rcases thingE_two t z.ino z.gen with h | h
      · exact absurd h.1 hz
      · exact h
    rw [h69]
    exact ⟨rfl, .no (hr3.trans (if_pos hz)) (HX2.out.below hb).bel⟩
  have HX3 := Lib.hid (HX2.out.below hb)
  have HR3 := Lib.hid (hr3.trans (if_neg (fun h => h hz)))
  have HIz := Lib.hid (Op.thing_ok hz)
  have HLz := Lib.hid hl3
  clear q8 hz hb hx hr3 hl3 HX2 HR2
  have s1 := HX3.out.cellS HIz.out.1 1 _ rfl
  by_cases hk : (t.s z.ino).kind = 2
  · have hd : (((t.s z.ino).kind : Int) == 2) = true := by simp; omega
    have HRE := Lib.hid (HR3.out.trans (if_pos ⟨by simp, hk⟩))
    clear hk
    go_wp2_with (refine (refuse_yes 63 _).mono ?_; rintro e w' ⟨rfl, rfl⟩)
    exact ⟨rfl, .no HRE.out HX3.out.bel⟩
  have hd : (((t.s z.ino).kind : Int) == 2) = false := by simp; omega
  have HRG := Lib.hid (((HR3.out.trans (if_neg (fun h => hk h.2))).trans (if_neg (fun h => by cases h.1))).trans (if_neg (fun h => by cases h.1)))
  clear HR3 hk
  have HT4 := Lib.hid (drop_any HX3.out HDA.out HLz.out HIz.out.1 HSD.out.dts)
  rw [← HRG.out] at HT4
  go_wp2_with (refine (refuse_no 63 _).mono ?_; rintro e w' ⟨rfl, rfl⟩)
  refine HT4.out.mono ?_
  rintro e w4 hq
  have HQ := Lib.hid hq
  clear hq HT4 HRG
  cases RR with
  | error z =>
    obtain ⟨rfl, hb⟩ := HQ.out
    exact ⟨rfl, .no rfl hb⟩
  | ok y =>
    obtain ⟨rfl, sl2, D2, m2, e2, E2, q2, f2, hx, hm⟩ := HQ.out
    have HXZ := Lib.hid hx
    have HMZ := Lib.hid hm
    clear hx hm HQ
    go_wp2_with fail
    go_end0
    exact .ok rfl HXZ.out HMZ.out
set_option maxRecDepth 100000 in
set_option maxHeartbeats 4000000 in
theorem ormdir_any (h : RX w0 w p g k t sl c B n d (Op.rep0 c) none 0 0 none 0 0) (hs : Op.Sound t) :
    Calls Tryz.prog 63 #[.pointer (some ⟨p, 0, none⟩)] w (OutQ w0 p g k c B n d (Op.out t c true)) := by
  have HX0 := Lib.hid h
  have HSD := Lib.hid hs
  obtain ⟨RR, hRR⟩ : ∃ RR, RR = Op.out t c true := ⟨_, rfl⟩
  rw [← hRR]
  have HR0 := Lib.hid hRR
  clear h hs hRR
  go_enter Tryz.func63, Tryz.ntmps63
  go_wp2_with (refine wpList_load_part rfl 35 (.tmp 8) rfl p 6 rfl _ Tryz.underlying35 rfl (hc c.ati c.atg) 104 _ HX0.out.run size_H xc_at ?_)
  refine (folder_any HX0.out c.ati c.atg).mono ?_
  rintro e w1 ⟨⟨hz, rfl⟩ | ⟨hz, rfl⟩, hb⟩
  rotate_left
  · exact ⟨rfl, .no (HR0.out.trans (if_pos hz)) (HX0.out.below hb).bel⟩
  have HX1 := Lib.hid (HX0.out.below hb)
  have HR1 := Lib.hid (HR0.out.trans (if_neg (fun h => h hz)))
  have HDA : Hid (Op.Dir t c.ati) := HSD.out.inv.isDir (Op.folder_ok hz).1 (Op.folder_ok hz).2.1
  clear hz hb HX0 HR0
  have q8 := HX1.out.cellR 8 _ rfl
  go_wp2_with fail
  refine (name_any c.nm _).mono ?_
  rintro e w2 ⟨rfl, hb⟩
  have HX2 := Lib.hid (HX1.out.below hb)
  clear q8 hb HX1
  by_cases hn2 : nameOk c.nm = false
  · rw [show nameE c.nm = 67 from by unfold nameE; rw [hn2]; rfl]
    have HRN := Lib.hid (HR1.out.trans (if_pos hn2))
    clear HR1
    go_wp2_with (refine (check_no 67 (by decide) _).mono ?_; rintro e w' ⟨rfl, rfl⟩)
    exact ⟨rfl, .no HRN.out HX2.out.bel⟩
  have HR2 := Lib.hid (HR1.out.trans (if_neg hn2))
  rw [show nameE c.nm = 0 from by unfold nameE; rw [show nameOk c.nm = true from by simpa using hn2]; rfl]
  clear HR1 hn2
  have q8 := HX2.out.cellR 8 _ rfl
  go_wp2_with (refine (check_ok _).mono ?_; rintro e w' ⟨rfl, rfl⟩)
  cases hl3 : Op.look t c.ati c.nm with
  | none =>
    have HRN : Hid (RR = .error 60) := by have := HR2.out; rw [hl3] at this; exact this
    have hx : nameX t c.ati c.nm = 60 := by unfold nameX; rw [hl3]
    refine (named_any HX2.out HDA.out c.nm).mono ?_
    rw [hx]
    rintro e w3 ⟨⟨hz, rfl⟩ | ⟨hz, rfl⟩, hb⟩
    · exact absurd hz (by decide)
    · exact ⟨rfl, .no HRN.out (HX2.out.below hb).bel⟩
  | some z =>
  have hr3 := HR2.out
  rw [hl3] at hr3
  have hx : nameX t c.ati c.nm = Op.thingE t z.ino z.gen ∧ nameI t c.ati c.nm = z.ino := by unfold nameX nameI; rw [hl3]; exact ⟨rfl, rfl⟩
  refine (named_any HX2.out HDA.out c.nm).mono ?_
  rw [hx.1, hx.2]
  rintro e w3 ⟨⟨hz, rfl⟩ | ⟨hz, rfl⟩, hb⟩
  rotate_left
  · have h69 : Op.thingE t z.ino z.gen = 69 := by
      rcases thingE_two t z.ino z.gen with h | h
      · exact absurd h.1 hz
      · exact h
    rw [h69]
    exact ⟨rfl, .no (hr3.trans (if_pos hz)) (HX2.out.below hb).bel⟩
  have HX3 := Lib.hid (HX2.out.below hb)
  have HR3 := Lib.hid (hr3.trans (if_neg (fun h => h hz)))
  have HIz := Lib.hid (Op.thing_ok hz)
  have HLz := Lib.hid hl3
  clear q8 hz hb hx hr3 hl3 HX2 HR2
  go_wp2_with fail
  refine (empty_any HX3.out HIz.out.1 (HSD.out.inv.may.ok _ HIz.out.1)).mono ?_
  rintro e w4 ⟨⟨hz, rfl⟩ | ⟨hz, rfl⟩, hb⟩
  rotate_left
  · have hr := ((HR3.out.trans (if_neg (fun h => by cases h.1))))
    by_cases hk : (t.s z.ino).kind = 2
    · rw [if_neg (fun h => h hk)] at hz ⊢
      by_cases he : Op.ents t z.ino = []
      · rw [if_neg (fun h => h he)] at hz
        exact absurd rfl hz
      · rw [if_pos he]
        exact ⟨rfl, .no ((hr.trans (if_neg (fun h => h.2 hk))).trans (if_pos ⟨by simp, he⟩)) (HX3.out.below hb).bel⟩
    · rw [if_pos hk]
      exact ⟨rfl, .no (hr.trans (if_pos ⟨by simp, hk⟩)) (HX3.out.below hb).bel⟩
  have hk : (t.s z.ino).kind = 2 := by
    by_cases hk : (t.s z.ino).kind = 2
    · exact hk
    · rw [if_pos hk] at hz; cases hz
  rw [if_neg (fun h => h hk)] at hz
  have he : Op.ents t z.ino = [] := by
    by_cases he : Op.ents t z.ino = []
    · exact he
    · rw [if_pos he] at hz; cases hz
  have HX4 := Lib.hid (HX3.out.below hb)
  have HR4 := Lib.hid (((HR3.out.trans (if_neg (fun h => by cases h.1))).trans (if_neg (fun h => h.2 hk))).trans (if_neg (fun h => h.2 he)))
  clear hz hb hk he HX3 HR3
  have HT5 := Lib.hid (drop_any HX4.out HDA.out HLz.out HIz.out.1 HSD.out.dts)
  rw [← HR4.out] at HT5
  go_wp2_with fail
  refine HT5.out.mono ?_
  rintro e w5 hq
  have HQ := Lib.hid hq
  clear hq HT5 HR4
  cases RR with
  | error z =>
    obtain ⟨rfl, hb⟩ := HQ.out
    exact ⟨rfl, .no rfl hb⟩
  | ok y =>
    obtain ⟨rfl, sl2, D2, m2, e2, E2, q2, f2, hx, hm⟩ := HQ.out
    have HXZ := Lib.hid hx
    have HMZ := Lib.hid hm
    clear hx hm HQ
    go_wp2_with fail
    go_end0
    exact .ok rfl HXZ.out HMZ.out
set_option maxRecDepth 100000 in
set_option maxHeartbeats 4000000 in
theorem mkdir_any (h : RX w0 w p g k t sl c B n d (Op.rep0 c) none 0 0 none 0 0) (hs : Op.Sound t) :
    Calls Tryz.prog 59 #[.pointer (some ⟨p, 0, none⟩)] w (OutQ w0 p g k c B n d (Op.mkdir t c)) := by
  have HX0 := Lib.hid h
  have HSD := Lib.hid hs
  obtain ⟨RR, hRR⟩ : ∃ RR, RR = Op.mkdir t c := ⟨_, rfl⟩
  rw [← hRR]
  have HR0 := Lib.hid hRR
  clear h hs hRR
  go_enter Tryz.func59, Tryz.ntmps59
  go_wp2_with (refine wpList_load_part rfl 35 (.tmp 7) rfl p 6 rfl _ Tryz.underlying35 rfl (hc c.ati c.atg) 104 _ HX0.out.run size_H xc_at ?_)
  refine (folder_any HX0.out c.ati c.atg).mono ?_
  rintro e w1 ⟨⟨hz, rfl⟩ | ⟨hz, rfl⟩, hb⟩
  rotate_left
  · exact ⟨rfl, .no (HR0.out.trans (if_pos hz)) (HX0.out.below hb).bel⟩
  have HX1 := Lib.hid (HX0.out.below hb)
  have HR1 := Lib.hid (HR0.out.trans (if_neg (fun h => h hz)))
  have HDA : Hid (Op.Dir t c.ati) := HSD.out.inv.isDir (Op.folder_ok hz).1 (Op.folder_ok hz).2.1
  clear hz hb HX0 HR0
  have q8 := HX1.out.cellR 8 _ rfl
  go_wp2_with fail
  refine (refName_any2 HX1.out HDA.out c.nm).mono ?_
  rintro e w2 ⟨⟨hz, rfl⟩ | ⟨hz, rfl⟩, hb⟩
  rotate_left
  · by_cases hn : nameOk c.nm = false
    · rw [if_pos hn]
      exact ⟨rfl, .no (HR1.out.trans (if_pos hn)) (HX1.out.below hb).bel⟩
    · rw [if_neg hn] at hz ⊢
      cases hl : Op.look t c.ati c.nm with
      | none => rw [hl] at hz; exact absurd rfl hz
      | some z =>
        have hr := HR1.out.trans (if_neg hn)
        rw [hl] at hr
        exact ⟨rfl, .no hr (HX1.out.below hb).bel⟩
  have hn : ¬ nameOk c.nm = false := fun hn => by rw [if_pos hn] at hz; cases hz
  rw [if_neg hn] at hz
  have hl : Op.look t c.ati c.nm = none := by
    cases hl : Op.look t c.ati c.nm with
    | none => rfl
    | some z => rw [hl] at hz; cases hz
  have HR2 : Hid (RR = Op.fresh t c 2 0 []) := by
    have hr := HR1.out.trans (if_neg hn)
    rw [hl] at hr
    exact hr
  have HX2 := Lib.hid (HX1.out.below hb)
  clear hz hb hn hl q8 HX1 HR1
  have HT3 := Lib.hid (add_any2 HX2.out HSD.out HDA.out (kind := 2) (vf := 0) (dt := []) (by omega) (by omega) (A := none) (x := 0) (y := 0) BS.nil (Nat.le_refl _) Off.zero (by show 0 ≤ 1000; omega))
  rw [← HR2.out] at HT3
  go_wp2_with (refine Did.list rfl (did_build 92 _ rfl _ (built_Sl1 2)) ?_)
  refine HT3.out.mono ?_
  rintro e w3 hq
  have HQ := Lib.hid hq
  clear hq HT3 HR2
  cases RR with
  | error z =>
    obtain ⟨rfl, hb⟩ := HQ.out
    exact ⟨rfl, .no rfl hb⟩
  | ok y =>
    obtain ⟨rfl, sl2, D2, m2, e2, E2, q2, f2, hx, hm⟩ := HQ.out
    have HXZ := Lib.hid hx
    have HMZ := Lib.hid hm
    clear hx hm HQ
    go_wp2_with fail
    go_end0
    exact .ok rfl HXZ.out HMZ.out
end
end Go.Proofs.YtpbpdnjlomhkdaaGreat
