/-
  Contracts of the operations: Symlink, Create, Link, Readlink (layer 13).
-/
import Derived.Test.YtpbpdnjlomhkdaaGreatOOps1
namespace Go.Proofs.YtpbpdnjlomhkdaaGreat
open Go.RowKit Go.Shelf

theorem built_Sl18 (a : Int) (A : Option Addr) (n c : Nat) : Tryz.prog.built 92 [(1, .int .u32 a), (8, .slice A n c)] = some #[.int .u32 0, .int .u32 a, .int .u32 0, .int .u32 0, .int .u32 0, .int .u64 0, .int .u64 0, .int .u64 0, .slice A n c] := by kernel_rfl
section
variable {w0 w w' : World} {p g k : Nat} {t u : Op.TT} {sl : Nat → Sl} {c : Cl} {B : Option Addr} {n d : Nat} {r r' : Rp} {D D' : Option Addr} {m e m' e' : Nat} {E E' : Option Addr} {q f q' f' : Nat}
set_option maxRecDepth 100000 in
set_option maxHeartbeats 4000000 in
theorem symlink_any (h : RX w0 w p g k t sl c B n d (Op.rep0 c) none 0 0 none 0 0) (hs : Op.Sound t) (hdl : c.dt.length ≤ 2000) :
    Calls Tryz.prog 60 #[.pointer (some ⟨p, 0, none⟩)] w (OutQ w0 p g k c B n d (Op.symlink t c)) := by
  have HX0 := Lib.hid h
  have HSD := Lib.hid hs
  obtain ⟨RR, hRR⟩ : ∃ RR, RR = Op.symlink t c := ⟨_, rfl⟩
  rw [← hRR]
  have HR0 := Lib.hid hRR
  have HDL := Lib.hid hdl
  clear h hs hRR hdl
  go_enter Tryz.func60, Tryz.ntmps60
  go_wp2_with (refine wpList_load_part rfl 35 (.tmp 7) rfl p 6 rfl _ Tryz.underlying35 rfl (hc c.ati c.atg) 104 _ HX0.out.run size_H xc_at ?_)
  refine (folder_any HX0.out c.ati c.atg).mono ?_
  rintro e w1 ⟨⟨hz, rfl⟩ | ⟨hz, rfl⟩, hb⟩
  rotate_left
  · exact ⟨rfl, .no (HR0.out.trans (if_pos hz)) (HX0.out.below hb).bel⟩
  have HX1 := Lib.hid (HX0.out.below hb)
  have HR1 := Lib.hid (HR0.out.trans (if_neg (fun h => h hz)))
  have HDA : Hid (Op.Dir t c.ati) := HSD.out.inv.isDir (Op.folder_ok hz).1 (Op.folder_ok hz).2.1
  clear hz hb HX0 HR0
  have q8 := HX1.out.cellR 8 _ rfl
  go_wp2_with fail
  refine (refName_any2 HX1.out HDA.out c.nm).mono ?_
  rintro e w2 ⟨⟨hz, rfl⟩ | ⟨hz, rfl⟩, hb⟩
  rotate_left
  · by_cases hn : nameOk c.nm = false
    · rw [if_pos hn]
      exact ⟨rfl, .no (HR1.out.trans (if_pos hn)) (HX1.out.below hb).bel⟩
    · rw [if_neg hn] at hz ⊢
      cases hl : Op.look t c.ati c.nm with
      | none => rw [hl] at hz; exact absurd rfl hz
      | some z =>
        have hr := HR1.out.trans (if_neg hn)
        rw [hl] at hr
        exact ⟨rfl, .no hr (HX1.out.below hb).bel⟩
  have hn : ¬ nameOk c.nm = false := fun hn => by rw [if_pos hn] at hz; cases hz
  rw [if_neg hn] at hz
  have hl : Op.look t c.ati c.nm = none := by
    cases hl : Op.look t c.ati c.nm with
    | none => rfl
    | some z => rw [hl] at hz; cases hz
  have HR2 : Hid (RR = if c.dt = [] ∨ 768 < c.dt.length then .error 64 else Op.fresh t c 3 0 c.dt) := by
    have hr := HR1.out.trans (if_neg hn)
    rw [hl] at hr
    exact hr
  have HX2 := Lib.hid (HX1.out.below hb)
  clear hz hb hn hl q8 HX1 HR1
  have q16 := HX2.out.cellR 16 _ rfl
  have HN : Hid (c.dt.length = n) := HX2.out.data.1.1
  by_cases h0 : n = 0
  · have HRE : Hid (RR = .error 64) := HR2.out.trans (if_pos (.inl (List.eq_nil_of_length_eq_zero (by rw [HN.out]; exact h0))))
    subst h0
    clear HR2
    go_wp2_with (refine (refuse_yes 64 _).mono ?_; rintro e w' ⟨rfl, rfl⟩)
    exact ⟨rfl, .no HRE.out HX2.out.bel⟩
  have hne : ((n : Int) == 0) = false := by simp; omega
  have hnle : n ≤ 2000 := by rw [← HN.out]; exact HDL.out
  by_cases h1 : 768 < n
  · have HRE : Hid (RR = .error 64) := HR2.out.trans (if_pos (.inr (by rw [HN.out]; exact h1)))
    have hd : decide ((768 : Int) < (n : Int)) = true := by simp; omega
    clear HR2
    go_wp2_with (refine (refuse_yes 64 _).mono ?_; rintro e w' ⟨rfl, rfl⟩)
    exact ⟨rfl, .no HRE.out HX2.out.bel⟩
  have hd : decide ((768 : Int) < (n : Int)) = false := by simp; omega
  have HRG : Hid (RR = Op.fresh t c 3 0 c.dt) := HR2.out.trans (if_neg (fun h => by
    rcases h with h | h
    · rw [← HN.out, h] at h0; exact h0 rfl
    · rw [HN.out] at h; exact h1 h))
  have HLE : Hid (n ≤ 768) := by show _ ≤ _; omega
  clear HR2 h0 h1
  go_wp2_with (refine (refuse_no 64 _).mono ?_; rintro e w' ⟨rfl, rfl⟩)
  refine (cloneB_off B n d c.dt _ HX2.out.dat (by have := HLE.out; omega)).mono ?_
  rintro e wc ⟨A2, c2, rfl, h1, h2, h3, h4⟩
  have HXC := Lib.hid (HX2.out.below h4)
  have HD1 := Lib.hid h1
  have HD2 := Lib.hid h2
  have HD3 := Lib.hid (h3 g HX2.out.sx.lt)
  clear h1 h2 h3 h4 q16 hd hne hnle HX2
  have HT3 := Lib.hid (add_any2 HXC.out HSD.out HDA.out (kind := 3) (vf := 0) (dt := c.dt) (by omega) (by omega) HD1.out HD2.out HD3.out (by rw [HN.out]; have := HLE.out; omega))
  rw [← HRG.out] at HT3
  go_wp2_with (refine Did.list rfl (did_build 92 _ rfl _ (built_Sl18 3 _ _ _)) ?_)
  refine HT3.out.mono ?_
  rintro e w3 hq
  have HQ := Lib.hid hq
  clear hq HT3 HRG
  cases RR with
  | error z =>
    obtain ⟨rfl, hb⟩ := HQ.out
    exact ⟨rfl, .no rfl hb⟩
  | ok y =>
    obtain ⟨rfl, sl2, D2, m2, e2, E2, q2, f2, hx, hm⟩ := HQ.out
    have HXZ := Lib.hid hx
    have HMZ := Lib.hid hm
    clear hx hm HQ
    go_wp2_with fail
    go_end0
    exact .ok rfl HXZ.out HMZ.out
set_option maxRecDepth 100000 in
set_option maxHeartbeats 4000000 in
theorem readlink_any (h : RX w0 w p g k t sl c B n d (Op.rep0 c) none 0 0 none 0 0) (hs : Op.Sound t) :
    Calls Tryz.prog 61 #[.pointer (some ⟨p, 0, none⟩)] w (OutQ w0 p g k c B n d (Op.readlink t c)) := by
  have HX0 := Lib.hid h
  have HSD := Lib.hid hs
  obtain ⟨RR, hRR⟩ : ∃ RR, RR = Op.readlink t c := ⟨_, rfl⟩
  rw [← hRR]
  have HR0 := Lib.hid hRR
  clear h hs hRR
  go_enter Tryz.func61, Tryz.ntmps61
  go_wp2_with (refine wpList_load_part rfl 35 (.tmp 7) rfl p 6 rfl _ Tryz.underlying35 rfl (hc c.ati c.atg) 104 _ HX0.out.run size_H xc_at ?_)
  refine (thing_any HX0.out c.ati c.atg).mono ?_
  rintro e w1 ⟨⟨hz, rfl⟩ | ⟨hz, rfl⟩, hb⟩
  rotate_left
  · have h69 : Op.thingE t c.ati c.atg = 69 := by
      rcases thingE_two t c.ati c.atg with h | h
      · exact absurd h.1 hz
      · exact h
    rw [h69]
    exact ⟨rfl, .no (HR0.out.trans (if_pos hz)) (HX0.out.below hb).bel⟩
  have HX1 := Lib.hid (HX0.out.below hb)
  have HIA := Lib.hid (Op.thing_ok hz)
  have HR1 := Lib.hid (HR0.out.trans (if_neg (fun h => h hz)))
  clear hz hb HX0 HR0
  have s1 := HX1.out.cellS HIA.out.1 1 _ rfl
  have s8 := HX1.out.cellS HIA.out.1 8 _ rfl
  by_cases hk : (t.s c.ati).kind = 3
  rotate_left
  · have hd : (((t.s c.ati).kind : Int) != 3) = true := by simp; omega
    have HRE := Lib.hid (HR1.out.trans (if_pos hk))
    clear hk
    go_wp2_with (refine (refuse_yes 64 _).mono ?_; rintro e w' ⟨rfl, rfl⟩)
    exact ⟨rfl, .no HRE.out HX1.out.bel⟩
  have hd : (((t.s c.ati).kind : Int) != 3) = false := by simp; omega
  have HRG := Lib.hid (HR1.out.trans (if_neg (fun h => h hk)))
  have hbs := HX1.out.sx.bs c.ati HIA.out.1
  have hlen := HSD.out.dts c.ati HIA.out.1
  have HCL := Lib.hid (cloneB_off (sl c.ati).a (sl c.ati).n (sl c.ati).c (t.s c.ati).dt _ hbs.1 (by rw [← hbs.1.1]; omega))
  have HLE : Hid ((sl c.ati).n ≤ 768) := by show _ ≤ _; rw [← hbs.1.1]; exact (Vl.okB_facts (HSD.out.inv.may.ok _ HIA.out.1)).2.2
  clear HR1 hk hbs hlen
  go_wp2_with (refine (refuse_no 64 _).mono ?_; rintro e w' ⟨rfl, rfl⟩)
  refine HCL.out.mono ?_
  rintro e wc ⟨A2, c2, rfl, h1, h2, h3, h4⟩
  have HXC := Lib.hid (HX1.out.below h4)
  have HD1 := Lib.hid h1
  have q27 := HXC.out.cellR 27 _ rfl
  have f27 := HXC.out.run.froz 27
  clear h1 h2 h3 h4 s1 s8 hd HCL HX1
  go_upto_region 3 with fail
  have hk : Keep (· ≠ p) wc (wc.setCell ⟨p, 27, none⟩ (.slice A2 (sl c.ati).n c2)) := (Keep.refl _ wc).setCell (p := ⟨p, 27, none⟩) (fun h => h rfl) _
  have HXE : Hid (RX w0 (wc.setCell ⟨p, 27, none⟩ (.slice A2 (sl c.ati).n c2)) p g k t sl c B n d { Op.rep0 c with dt := (t.s c.ati).dt } A2 (sl c.ati).n c2 none 0 0) := HXC.out.setR 27 _ rfl rfl
  have HDE := Lib.hid (HXC.out.offP HD1.out hk)
  generalize wc.setCell ⟨p, 27, none⟩ (.slice A2 (sl c.ati).n c2) = we at *
  clear hk q27 f27 HXC HD1
  go_wp2_with fail
  refine (report_any HXE.out HIA.out.1).mono ?_
  rintro e w2 ⟨rfl, h1, h2⟩
  have HX2 := Lib.hid h1
  have HDR := Lib.hid (BS.rep HXE.out HDE.out h2)
  clear h1 h2 HXE
  go_wp2_with fail
  go_end0
  exact .ok HRG.out HX2.out ⟨HDR.out, ES.nil, by have := HLE.out; omega⟩
end
end Go.Proofs.YtpbpdnjlomhkdaaGreat
