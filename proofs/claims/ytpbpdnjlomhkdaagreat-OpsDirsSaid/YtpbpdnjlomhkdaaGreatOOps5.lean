/-
  Contracts of the operations: Link, Setattr (layer 13).
-/
import Derived.Test.YtpbpdnjlomhkdaaGreatOOps4
namespace Go.Proofs.YtpbpdnjlomhkdaaGreat
open Go.RowKit Go.Shelf

theorem more_i (x : Nat) : ((x : Int) + 1) % 4294967296 = (((x + 1) % 4294967296 : Nat) : Int) := by omega
theorem ptrs_one (w : World) (g i : Nat) : PtrS (w.alloc (.cells #[.pointer (some ⟨g, i * 9, none⟩)] 149)) g w.heap.size [i] := fun a ha => by
  rw [cell_of_row _ _ _ _ _ _ (heap_alloc_new w _)]
  match a, ha with
  | 0, _ => rfl
  | a + 1, ha => simp at ha
section
variable {w0 w w' : World} {p g k : Nat} {t u : Op.TT} {sl : Nat → Sl} {c : Cl} {B : Option Addr} {n d : Nat} {r r' : Rp} {D D' : Option Addr} {m e m' e' : Nat} {E E' : Option Addr} {q f q' f' : Nat}

/-- A change of one. -/
theorem fin_one (hx : RX w0 w p g k u sl c B n d (Op.rep0 c) none 0 0 none 0 0) {i : Nat} (hi : i < 24) (hn : ∀ i, i < 24 → (u.s i).dt.length ≤ 1000000) {w1 : World} (hw : w1 = w.alloc (.cells #[.pointer (some ⟨g, i * 9, none⟩)] 149)) :
    Calls Tryz.prog 112 #[.pointer (some ⟨p, 0, none⟩), .slice (some ⟨w.heap.size, 0, none⟩) 1 1] w1 (ChgX w0 p g k u [i] sl c B n d (Op.rep0 c) none 0 0 none 0 0) := by
  subst hw
  have h1 := hx.sx.lt
  have h2 := hx.run.lt
  refine change_any (hx.below (alloc_below w _)) (ptrs_one w g i) ⟨by omega, by omega⟩ (fun a ha => ?_) (by show 1 ≤ 10; omega) hn
  rw [List.mem_singleton.1 ha]; exact hi
set_option maxRecDepth 100000 in
set_option maxHeartbeats 4000000 in
theorem link_any (h : RX w0 w p g k t sl c B n d (Op.rep0 c) none 0 0 none 0 0) (hs : Op.Sound t) :
    Calls Tryz.prog 65 #[.pointer (some ⟨p, 0, none⟩)] w (OutQ w0 p g k c B n d (Op.link t c)) := by
  have HX0 := Lib.hid h
  have HSD := Lib.hid hs
  obtain ⟨RR, hRR⟩ : ∃ RR, RR = Op.link t c := ⟨_, rfl⟩
  rw [← hRR]
  have HR0 := Lib.hid hRR
  clear h hs hRR
  go_enter Tryz.func65, Tryz.ntmps65
  go_wp2_with (refine wpList_load_part rfl 35 (.tmp 8) rfl p 6 rfl _ Tryz.underlying35 rfl (hc c.ati c.atg) 104 _ HX0.out.run size_H xc_at ?_)
  refine (thing_any HX0.out c.ati c.atg).mono ?_
  rintro e w1 ⟨⟨hz, rfl⟩ | ⟨hz, rfl⟩, hb⟩
  rotate_left
  · have h69 : Op.thingE t c.ati c.atg = 69 := by
      rcases thingE_two t c.ati c.atg with h | h
      · exact absurd h.1 hz
      · exact h
    rw [h69]
    exact ⟨rfl, .no (HR0.out.trans (if_pos hz)) (HX0.out.below hb).bel⟩
  have HX1 := Lib.hid (HX0.out.below hb)
  have HIA := Lib.hid (Op.thing_ok hz)
  have HR1 := Lib.hid (HR0.out.trans (if_neg (fun h => h hz)))
  clear hz hb HX0 HR0
  have s1 := HX1.out.cellS HIA.out.1 1 _ rfl
  by_cases hk : (t.s c.ati).kind = 2
  · have hd : (((t.s c.ati).kind : Int) == 2) = true := by simp; omega
    have HRE := Lib.hid (HR1.out.trans (if_pos hk))
    clear hk
    go_wp2_with (refine (refuse_yes 63 _).mono ?_; rintro e w' ⟨rfl, rfl⟩)
    exact ⟨rfl, .no HRE.out HX1.out.bel⟩
  have hd : (((t.s c.ati).kind : Int) == 2) = false := by simp; omega
  have HRG := Lib.hid (HR1.out.trans (if_neg hk))
  clear HR1 hk
  go_wp2_with (first
    | (refine (refuse_no 63 _).mono ?_; rintro e w' ⟨rfl, rfl⟩)
    | (refine wpList_load_part rfl 35 (.tmp 21) rfl p 9 rfl _ Tryz.underlying35 rfl (hc c.toi c.tog) 104 _ HX1.out.run size_H xc_to ?_))
  refine (folder_any HX1.out c.toi c.tog).mono ?_
  rintro e w2 ⟨⟨hz, rfl⟩ | ⟨hz, rfl⟩, hb⟩
  rotate_left
  · exact ⟨rfl, .no (HRG.out.trans (if_pos hz)) (HX1.out.below hb).bel⟩
  have HX2 := Lib.hid (HX1.out.below hb)
  have HR2 := Lib.hid (HRG.out.trans (if_neg (fun h => h hz)))
  have HDT : Hid (Op.Dir t c.toi) := HSD.out.inv.isDir (Op.folder_ok hz).1 (Op.folder_ok hz).2.1
  clear s1 hz hb hd HX1 HRG
  have q11 := HX2.out.cellR 11 _ rfl
  go_wp2_with fail
  refine (refName_any2 HX2.out HDT.out c.tn).mono ?_
  rintro e w3 ⟨⟨hz, rfl⟩ | ⟨hz, rfl⟩, hb⟩
  rotate_left
  · by_cases hn : nameOk c.tn = false
    · rw [if_pos hn]
      exact ⟨rfl, .no (HR2.out.trans (if_pos hn)) (HX2.out.below hb).bel⟩
    · rw [if_neg hn] at hz ⊢
      cases hl : Op.look t c.toi c.tn with
      | none => rw [hl] at hz; exact absurd rfl hz
      | some z =>
        have hr := HR2.out.trans (if_neg hn)
        rw [hl] at hr
        exact ⟨rfl, .no hr (HX2.out.below hb).bel⟩
  have hn : ¬ nameOk c.tn = false := fun hn => by rw [if_pos hn] at hz; cases hz
  rw [if_neg hn] at hz
  have hl : Op.look t c.toi c.tn = none := by
    cases hl : Op.look t c.toi c.tn with
    | none => rfl
    | some z => rw [hl] at hz; cases hz
  have HR3 : Hid (RR = match Op.enter t c.toi c.tn (t.s c.ati).ino (t.s c.ati).gen with | .error e => .error e | .ok u => Op.fin (Op.set u c.ati { u.s c.ati with links := ((u.s c.ati).links + 1) % 4294967296 }) (Op.rep0 c) [c.ati, c.toi] c.ati) := by
    have hr := HR2.out.trans (if_neg hn)
    rw [hl] at hr
    exact hr
  have HX3 := Lib.hid (HX2.out.below hb)
  clear hz hb hn hl q11 HX2 HR2
  have HADD := Lib.hid (addEntry_any HX3.out HDT.out HIA.out.1 (HSD.out.inv.wide _ HDT.out.lt) (HSD.out.inv.wide _ HIA.out.1) (by rw [HSD.out.inv.may.ino _ HIA.out.1]; have := HIA.out.1; omega) c.tn)
  have q11 := HX3.out.cellR 11 _ rfl
  go_wp2_with fail
  refine HADD.out.mono ?_
  rintro e w8 hq
  have HQ := Lib.hid hq
  have HR8 := HR3
  clear hq HADD q11 HR3 HX3
  cases he : Op.enter t c.toi c.tn (t.s c.ati).ino (t.s c.ati).gen with
  | error z =>
    rw [he] at HQ HR8
    obtain ⟨rfl, hb⟩ := HQ.out
    exact ⟨rfl, .no HR8.out hb⟩
  | ok u =>
  rw [he] at HQ HR8
  have HN8 := Lib.hid (Op.enter_dt he HSD.out.dts)
  obtain ⟨rfl, sl8, hx, _⟩ := HQ.out
  have HX8 := Lib.hid hx
  have HR9 : Hid (RR = Op.fin (Op.set u c.ati { u.s c.ati with links := ((u.s c.ati).links + 1) % 4294967296 }) (Op.rep0 c) [c.ati, c.toi] c.ati) := HR8.out
  clear HQ hx he HR8
  have s3 := HX8.out.cellS HIA.out.1 3 _ rfl
  have f3 := HX8.out.frozS (c.ati * 9 + 3)
  go_upto_region 6 with fail
  rw [more_i]
  obtain ⟨L, hL⟩ : ∃ L, L = ((u.s c.ati).links + 1) % 4294967296 := ⟨_, rfl⟩
  rw [← hL] at HR9 ⊢
  have HX9 : Hid (RX w0 (w8.setCell ⟨g, c.ati * 9 + 3, none⟩ (.int .u32 (L : Int))) p g k (Op.set u c.ati { u.s c.ati with links := L }) sl8 c B n d (Op.rep0 c) none 0 0 none 0 0) := HX8.out.setN HIA.out.1 3 (by omega) _ rfl rfl
  have HN9 : Hid (∀ i, i < 24 → ((Op.set u c.ati { u.s c.ati with links := L }).s i).dt.length ≤ 1000000) := fun i hi => by
    by_cases e : i = c.ati
    · subst e; rw [Op.set_at]; exact HN8.out _ hi
    · rw [Op.set_other u _ e]; exact HN8.out i hi
  generalize w8.setCell ⟨g, c.ati * 9 + 3, none⟩ (.int .u32 (L : Int)) = w9 at *
  generalize Op.set u c.ati { u.s c.ati with links := L } = u9 at *
  clear s3 f3 HX8 HN8 hL
  have HCH := Lib.hid (fin_two HX9.out HIA.out.1 HDT.out.lt HN9.out rfl)
  clear HX9 HN9
  go_wp2_with fail
  refine HCH.out.mono ?_
  rintro e w10 (⟨rfl, h1, h2⟩ | ⟨rfl, h1, h2⟩)
  rotate_left
  · exact ⟨rfl, .no (HR9.out.trans (if_pos h1)) h2⟩
  have HRZ : Hid (RR = .ok (Op.touch u9 [c.ati, c.toi], Op.told (Op.touch u9 [c.ati, c.toi]) (Op.rep0 c) c.ati)) := HR9.out.trans (if_neg h1)
  have HRE := Lib.hid (report_any h2 HIA.out.1)
  clear h1 h2 HCH HR9
  generalize Op.touch u9 [c.ati, c.toi] = v at *
  go_wp2_with fail
  refine HRE.out.mono ?_
  rintro e w11 ⟨rfl, h1, h2⟩
  have HX11 := Lib.hid h1
  clear h1 h2 HRE
  go_wp2_with fail
  go_end0
  exact .ok HRZ.out HX11.out (RM.none rfl rfl)
theorem fileE_at (t : Op.TT) (i gn : Nat) : Op.fileE t i gn = if Op.thingE t i gn ≠ 0 then 69 else if (t.s i).kind = 2 then 63 else if (t.s i).kind ≠ 1 then 64 else 0 := rfl
/-- A thing's error, as refuseUnlessFile tells it. -/
theorem fileE_thing {t : Op.TT} {i gn : Nat} (h : Op.thingE t i gn = 0) (ho : (t.s i).kind ≤ 3) : Op.fileE t i gn = if (t.s i).kind = 2 then 63 else if (t.s i).kind = 3 then 64 else 0 := by
  have hk := (Op.thing_ok h).2.1
  rw [fileE_at, if_neg (by rw [h]; decide)]
  by_cases h2 : (t.s i).kind = 2
  · rw [if_pos h2, if_pos h2]
  · rw [if_neg h2, if_neg h2]
    by_cases h3 : (t.s i).kind = 3
    · rw [if_pos h3, if_pos (by omega)]
    · rw [if_neg h3, if_neg (by omega)]
end
end Go.Proofs.YtpbpdnjlomhkdaaGreat
