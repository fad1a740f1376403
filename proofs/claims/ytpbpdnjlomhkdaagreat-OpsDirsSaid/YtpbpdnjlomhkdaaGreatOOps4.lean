/-
  Contracts of the operations: Create, Link (layer 13).
-/
import Derived.Test.YtpbpdnjlomhkdaaGreatOOps3
namespace Go.Proofs.YtpbpdnjlomhkdaaGreat
open Go.RowKit Go.Shelf

section
variable {w0 w w' : World} {p g k : Nat} {t u : Op.TT} {sl : Nat → Sl} {c : Cl} {B : Option Addr} {n d : Nat} {r r' : Rp} {D D' : Option Addr} {m e m' e' : Nat} {E E' : Option Addr} {q f q' f' : Nat}
set_option maxRecDepth 100000 in
set_option maxHeartbeats 4000000 in
theorem create_any (h : RX w0 w p g k t sl c B n d (Op.rep0 c) none 0 0 none 0 0) (hs : Op.Sound t) (hcv : c.vf < 18446744073709551616) :
    Calls Tryz.prog 58 #[.pointer (some ⟨p, 0, none⟩)] w (OutQ w0 p g k c B n d (Op.create t c)) := by
  have HX0 := Lib.hid h
  have HSD := Lib.hid hs
  obtain ⟨RR, hRR⟩ : ∃ RR, RR = Op.create t c := ⟨_, rfl⟩
  rw [← hRR]
  have HR0 := Lib.hid hRR
  have HCV := Lib.hid hcv
  clear h hs hRR hcv
  go_enter Tryz.func58, Tryz.ntmps58
  go_wp2_with (refine wpList_load_part rfl 35 (.tmp 9) rfl p 6 rfl _ Tryz.underlying35 rfl (hc c.ati c.atg) 104 _ HX0.out.run size_H xc_at ?_)
  refine (folder_any HX0.out c.ati c.atg).mono ?_
  rintro e w1 ⟨⟨hz, rfl⟩ | ⟨hz, rfl⟩, hb⟩
  rotate_left
  · exact ⟨rfl, .no (HR0.out.trans (if_pos hz)) (HX0.out.below hb).bel⟩
  have HX1 := Lib.hid (HX0.out.below hb)
  have HR1 := Lib.hid (HR0.out.trans (if_neg (fun h => h hz)))
  have HDA : Hid (Op.Dir t c.ati) := HSD.out.inv.isDir (Op.folder_ok hz).1 (Op.folder_ok hz).2.1
  clear hz hb HX0 HR0
  have q8 := HX1.out.cellR 8 _ rfl
  go_wp2_with fail
  refine (name_any c.nm _).mono ?_
  rintro e w2 ⟨rfl, hb⟩
  have HX2 := Lib.hid (HX1.out.below hb)
  clear q8 hb HX1
  by_cases hn2 : nameOk c.nm = false
  · rw [show nameE c.nm = 67 from by unfold nameE; rw [hn2]; rfl]
    have HRN := Lib.hid (HR1.out.trans (if_pos hn2))
    clear HR1
    go_wp2_with (refine (check_no 67 (by decide) _).mono ?_; rintro e w' ⟨rfl, rfl⟩)
    exact ⟨rfl, .no HRN.out HX2.out.bel⟩
  have HR2 := Lib.hid (HR1.out.trans (if_neg hn2))
  rw [show nameE c.nm = 0 from by unfold nameE; rw [show nameOk c.nm = true from by simpa using hn2]; rfl]
  clear HR1 hn2
  have q14 := HX2.out.cellR 14 _ rfl
  by_cases h2 : 2 < c.cnt
  · have hd : decide ((2 : Int) < (c.cnt : Int)) = true := by simp; omega
    have HRE := Lib.hid (HR2.out.trans (if_pos h2))
    clear h2 HR2
    go_wp2_with (first | (refine (check_ok _).mono ?_; rintro e w' ⟨rfl, rfl⟩) | (refine (refuse_yes 64 _).mono ?_; rintro e w' ⟨rfl, rfl⟩))
    exact ⟨rfl, .no HRE.out HX2.out.bel⟩
  have hd : decide ((2 : Int) < (c.cnt : Int)) = false := by simp; omega
  have HRC := Lib.hid (HR2.out.trans (if_neg h2))
  have q8 := HX2.out.cellR 8 _ rfl
  clear h2 HR2
  go_wp2_with (first | (refine (check_ok _).mono ?_; rintro e w' ⟨rfl, rfl⟩) | (refine (refuse_no 64 _).mono ?_; rintro e w' ⟨rfl, rfl⟩))
  refine (has_any HX2.out HDA.out c.nm).mono ?_
  rintro e wh ⟨rfl, hb⟩
  have HXH := Lib.hid (HX2.out.below hb)
  clear hb q8 q14 hd HX2
  have q8 := HXH.out.cellR 8 _ rfl
  cases hl : Op.look t c.ati c.nm with
  | some z =>
    have hr := HRC.out
    rw [hl] at hr
    have hx : nameX t c.ati c.nm = Op.thingE t z.ino z.gen ∧ nameI t c.ati c.nm = z.ino := by unfold nameX nameI; rw [hl]; exact ⟨rfl, rfl⟩
    have HNM := Lib.hid (named_any HXH.out HDA.out c.nm)
    rw [hx.1, hx.2] at HNM
    have HRS : Hid (RR = if Op.thingE t z.ino z.gen ≠ 0 then .error 69 else if (t.s z.ino).kind = 1 ∧ (c.cnt = 0 ∨ c.cnt = 1 ∧ c.vf ≠ 0 ∧ c.vf = (t.s z.ino).verf) then .ok (t, Op.told t (Op.rep0 c) z.ino) else .error 61) := hr
    clear hr hx hl HRC
    go_wp2_with fail
    refine HNM.out.mono ?_
    rintro e wn ⟨⟨hz, rfl⟩ | ⟨hz, rfl⟩, hb⟩
    rotate_left
    · have h69 : Op.thingE t z.ino z.gen = 69 := by
        rcases thingE_two t z.ino z.gen with h | h
        · exact absurd h.1 hz
        · exact h
      rw [h69]
      exact ⟨rfl, .no (HRS.out.trans (if_pos hz)) (HXH.out.below hb).bel⟩
    have HXN := Lib.hid (HXH.out.below hb)
    have HIZ := Lib.hid (Op.thing_ok hz).1
    have HRT := Lib.hid (HRS.out.trans (if_neg (fun h => h hz)))
    clear hz hb HRS HNM HXH q8
    go_wp2_with fail
    refine (willDo_any HXN.out HIZ.out).mono ?_
    rintro e wd ⟨rfl, hb⟩
    have HXD := Lib.hid (HXN.out.below hb)
    clear hb HXN
    by_cases hw : (t.s z.ino).kind = 1 ∧ (c.cnt = 0 ∨ c.cnt = 1 ∧ c.vf ≠ 0 ∧ c.vf = (t.s z.ino).verf)
    · have HRU := Lib.hid (HRT.out.trans (if_pos hw))
      rw [show decide ((t.s z.ino).kind = 1 ∧ (c.cnt = 0 ∨ c.cnt = 1 ∧ c.vf ≠ 0 ∧ c.vf = (t.s z.ino).verf)) = true from decide_eq_true hw]
      clear hw HRT
      go_wp2_with (refine (refuse_no 61 _).mono ?_; rintro e w' ⟨rfl, rfl⟩)
      refine (report_any HXD.out HIZ.out).mono ?_
      rintro e we ⟨rfl, h1, h2⟩
      have HXE := Lib.hid h1
      clear h1 h2 HXD
      go_wp2_with fail
      go_end0
      exact .ok HRU.out HXE.out (RM.none rfl rfl)
    · have HRU := Lib.hid (HRT.out.trans (if_neg hw))
      rw [show decide ((t.s z.ino).kind = 1 ∧ (c.cnt = 0 ∨ c.cnt = 1 ∧ c.vf ≠ 0 ∧ c.vf = (t.s z.ino).verf)) = false from decide_eq_false hw]
      clear hw HRT
      go_wp2_with (refine (refuse_yes 61 _).mono ?_; rintro e w' ⟨rfl, rfl⟩)
      exact ⟨rfl, .no HRU.out HXD.out.bel⟩
  | none =>
    have hr := HRC.out
    rw [hl] at hr
    have HRG : Hid (RR = Op.fresh t c 1 (if c.cnt = 1 then c.vf else 0) []) := hr
    clear hr hl HRC
    have q13 := HXH.out.cellR 13 _ rfl
    have q14 := HXH.out.cellR 14 _ rfl
    by_cases h1 : c.cnt = 1
    · have hd : ((c.cnt : Int) == 1) = true := by simp; omega
      rw [if_pos h1] at HRG
      clear h1
      have HT3 := Lib.hid (add_any2 HXH.out HSD.out HDA.out (kind := 1) (vf := c.vf) (dt := []) (by omega) HCV.out (A := none) (x := 0) (y := 0) BS.nil (Nat.le_refl _) Off.zero (by show 0 ≤ 1000; omega))
      rw [← HRG.out] at HT3
      go_wp2_with (refine Did.list rfl (did_build 92 _ rfl _ (built_Sl17 1 _)) ?_)
      refine HT3.out.mono ?_
      rintro e w3 hq
      have HQ := Lib.hid hq
      clear hq HT3 HRG
      cases RR with
      | error z =>
        obtain ⟨rfl, hb⟩ := HQ.out
        exact ⟨rfl, .no rfl hb⟩
      | ok y =>
        obtain ⟨rfl, sl2, D2, m2, e2, E2, q2, f2, hx, hm⟩ := HQ.out
        have HXZ := Lib.hid hx
        have HMZ := Lib.hid hm
        clear hx hm HQ
        go_wp2_with fail
        go_end0
        exact .ok rfl HXZ.out HMZ.out
    · have hd : ((c.cnt : Int) == 1) = false := by simp; omega
      rw [if_neg h1] at HRG
      clear h1
      have HT4 := Lib.hid (add_any2 HXH.out HSD.out HDA.out (kind := 1) (vf := 0) (dt := []) (by omega) (by omega) (A := none) (x := 0) (y := 0) BS.nil (Nat.le_refl _) Off.zero (by show 0 ≤ 1000; omega))
      rw [← HRG.out] at HT4
      go_wp2_with (refine Did.list rfl (did_build 92 _ rfl _ (built_Sl17 1 _)) ?_)
      refine HT4.out.mono ?_
      rintro e w4 hq
      have HQ := Lib.hid hq
      clear hq HT4 HRG
      cases RR with
      | error z =>
        obtain ⟨rfl, hb⟩ := HQ.out
        exact ⟨rfl, .no rfl hb⟩
      | ok y =>
        obtain ⟨rfl, sl2, D2, m2, e2, E2, q2, f2, hx, hm⟩ := HQ.out
        have HXZ := Lib.hid hx
        have HMZ := Lib.hid hm
        clear hx hm HQ
        go_wp2_with fail
        go_end0
        exact .ok rfl HXZ.out HMZ.out
end
end Go.Proofs.YtpbpdnjlomhkdaaGreat
