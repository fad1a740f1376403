/-
  Contract of package slot's Get (layer 11).
-/
import Derived.Test.YtbeahhijmgkfhaaLPut
namespace Go.Proofs.Ytbeahhijmgkfhaa
open Go.RowKit Go.Shelf

section
variable (l : List UInt8)
def Sl.p1 := rdN 4 (l, 0)
def Sl.p2 := rdN 4 (Sl.p1 l).1
def Sl.p3 := rdN 4 (Sl.p2 l).1
def Sl.p4 := rdN 4 (Sl.p3 l).1
def Sl.p5 := rdN 4 (Sl.p4 l).1
def Sl.p6 := rdN 8 (Sl.p5 l).1
def Sl.p7 := rdN 8 (Sl.p6 l).1
def Sl.p8 := rdN 8 (Sl.p7 l).1
def Sl.p9 := rdO 768 (Sl.p8 l).1
theorem Sl.all_p : Sl.slotC.rd (l, 0) = ((Sl.p9 l).1, Sl.tup ⟨(Sl.p1 l).2, (Sl.p2 l).2, (Sl.p3 l).2, (Sl.p4 l).2, (Sl.p5 l).2, (Sl.p6 l).2, (Sl.p7 l).2, (Sl.p8 l).2, (Sl.p9 l).2⟩) := by
  unfold Sl.slotC
  simp only [seq_rd]
  rfl
theorem Sl.bad_p : Sl.slotC.bad l = endOf (Sl.p9 l).1.1 (Sl.p9 l).1.2 := by
  unfold Cd.bad
  rw [Sl.all_p l]
theorem Sl.rd_p : Sl.rd l = ⟨(Sl.p1 l).2, (Sl.p2 l).2, (Sl.p3 l).2, (Sl.p4 l).2, (Sl.p5 l).2, (Sl.p6 l).2, (Sl.p7 l).2, (Sl.p8 l).2, (Sl.p9 l).2⟩ := by
  unfold Sl.rd
  rw [Sl.all_p l]
  rfl
end
theorem BS.keepS {K : Nat → Prop} {w w' : World} {A : Option Addr} {n : Nat} {l : List UInt8} (h : BS w A n l) (hk : Keep K w w') (hA : 0 < n → ∀ ad, A = some ad → K ad.block) : BS w' A n l := by
  refine ⟨h.1, fun hn => ?_⟩
  obtain ⟨b, o, rfl, hc⟩ := h.2 hn
  refine ⟨b, o, rfl, fun j hj => ?_⟩
  rw [← hc j hj]
  exact World.cell?_of_block (hk.block b (hA hn _ rfl))
theorem Sl.rd_wide (l : List UInt8) (h : Sl.slotC.bad l = 0) : Fits (Sl.rd l) := by
  obtain ⟨_, h5⟩ := Sl.slotC.bad_back l h
  obtain ⟨h1, h2, h3, _⟩ := (Sl.c_ok_iff (Sl.rd l)).1 h5
  exact ⟨h1, h2, h3⟩

set_option maxRecDepth 100000 in
set_option maxHeartbeats 4000000 in
theorem getS_any (l : List UInt8) (A : Option Addr) (n cp : Nat) (w : World) (h : BS w A n l) (hn : n ≤ 2000) :
    Calls Try.prog 17 #[.slice A n cp] w (GetSQ (Sl.got l) (Sl.err l) w) := by
  have HL := Lib.hid h
  clear h
  go_enter Try.func17, Try.ntmps17
  go_upto_region 1 with (refine wpList_alloc_any rfl 26 rfl _ zero_Sl ?_; intro w1 hb1 hs1 hw1)
  go_upto_region 2 with (refine wpList_alloc_any rfl 26 rfl _ zero_Sl ?_; intro w2 hb2 hs2 hw2)
  have hl2 := HL.out.below (hw1.trans (hw2.mono (by omega)))
  have B1 := Lib.hid hb1
  have B2 := Lib.hid hs1
  have B3 := Lib.hid hw1
  have B4 := Lib.hid hb2
  have B5 := Lib.hid hs2
  have B6 := Lib.hid hw2
  clear hb1 hs1 hw1 hb2 hs2 hw2 HL
  go_wp2_with fail
  refine (newReader_any A n cp l w2 hl2 (by omega)).mono ?_
  rintro e v0 ⟨q, rfl, hrd, hb3, hq⟩
  have H0 : Hid (GG w q w.heap.size w1.heap.size 26 (sc Sl.zero (.slice none 0 0)) (sc Sl.zero (.slice none 0 0)) (l, 0) v0) := GG.start B1.out B2.out B3.out B4.out B5.out B6.out hrd hb3 hq (by decide)
  clear B1 B2 B3 B4 B5 B6 hrd hb3 hq hl2
  go_wp2_with fail
  refine (u32r _ q _ _ H0.out.rd).mono ?_
  rintro e v1 ⟨rfl, hr, hgr⟩
  have H1 := Lib.hid (H0.out.read (s' := (Sl.p1 l).1) hr hgr)
  clear hr hgr H0
  go_upto_region 4 with (refine wpList_store_cell rfl 22 (.tmp 11) (.tmp 10) rfl _ 0 (.int .u32 ((Sl.p1 l).2 : Int)) rfl rfl 26 _ H1.out.var (by kernel_rfl) rfl (by simp [sc]) rfl ?_; intro x1 hb _ hk)
  have H2 : Hid (GG w q w.heap.size w1.heap.size 26 (sc Sl.zero (.slice none 0 0)) (sc ⟨(Sl.p1 l).2, 0, 0, 0, 0, 0, 0, 0, []⟩ (.slice none 0 0)) (Sl.p1 l).1 x1) := H1.out.set hb hk
  clear hb hk H1
  go_wp2_with fail
  refine (u32r _ q _ _ H2.out.rd).mono ?_
  rintro e v2 ⟨rfl, hr, hgr⟩
  have H3 := Lib.hid (H2.out.read (s' := (Sl.p2 l).1) hr hgr)
  clear hr hgr H2
  go_upto_region 5 with (refine wpList_store_cell rfl 22 (.tmp 14) (.tmp 13) rfl _ 1 (.int .u32 ((Sl.p2 l).2 : Int)) rfl rfl 26 _ H3.out.var (by kernel_rfl) rfl (by simp [sc]) rfl ?_; intro x2 hb _ hk)
  have H4 : Hid (GG w q w.heap.size w1.heap.size 26 (sc Sl.zero (.slice none 0 0)) (sc ⟨(Sl.p1 l).2, (Sl.p2 l).2, 0, 0, 0, 0, 0, 0, []⟩ (.slice none 0 0)) (Sl.p2 l).1 x2) := H3.out.set hb hk
  clear hb hk H3
  go_wp2_with fail
  refine (u32r _ q _ _ H4.out.rd).mono ?_
  rintro e v3 ⟨rfl, hr, hgr⟩
  have H5 := Lib.hid (H4.out.read (s' := (Sl.p3 l).1) hr hgr)
  clear hr hgr H4
  go_upto_region 6 with (refine wpList_store_cell rfl 22 (.tmp 17) (.tmp 16) rfl _ 2 (.int .u32 ((Sl.p3 l).2 : Int)) rfl rfl 26 _ H5.out.var (by kernel_rfl) rfl (by simp [sc]) rfl ?_; intro x3 hb _ hk)
  have H6 : Hid (GG w q w.heap.size w1.heap.size 26 (sc Sl.zero (.slice none 0 0)) (sc ⟨(Sl.p1 l).2, (Sl.p2 l).2, (Sl.p3 l).2, 0, 0, 0, 0, 0, []⟩ (.slice none 0 0)) (Sl.p3 l).1 x3) := H5.out.set hb hk
  clear hb hk H5
  go_wp2_with fail
  refine (u32r _ q _ _ H6.out.rd).mono ?_
  rintro e v4 ⟨rfl, hr, hgr⟩
  have H7 := Lib.hid (H6.out.read (s' := (Sl.p4 l).1) hr hgr)
  clear hr hgr H6
  go_upto_region 7 with (refine wpList_store_cell rfl 22 (.tmp 20) (.tmp 19) rfl _ 3 (.int .u32 ((Sl.p4 l).2 : Int)) rfl rfl 26 _ H7.out.var (by kernel_rfl) rfl (by simp [sc]) rfl ?_; intro x4 hb _ hk)
  have H8 : Hid (GG w q w.heap.size w1.heap.size 26 (sc Sl.zero (.slice none 0 0)) (sc ⟨(Sl.p1 l).2, (Sl.p2 l).2, (Sl.p3 l).2, (Sl.p4 l).2, 0, 0, 0, 0, []⟩ (.slice none 0 0)) (Sl.p4 l).1 x4) := H7.out.set hb hk
  clear hb hk H7
  go_wp2_with fail
  refine (u32r _ q _ _ H8.out.rd).mono ?_
  rintro e v5 ⟨rfl, hr, hgr⟩
  have H9 := Lib.hid (H8.out.read (s' := (Sl.p5 l).1) hr hgr)
  clear hr hgr H8
  go_upto_region 8 with (refine wpList_store_cell rfl 22 (.tmp 23) (.tmp 22) rfl _ 4 (.int .u32 ((Sl.p5 l).2 : Int)) rfl rfl 26 _ H9.out.var (by kernel_rfl) rfl (by simp [sc]) rfl ?_; intro x5 hb _ hk)
  have H10 : Hid (GG w q w.heap.size w1.heap.size 26 (sc Sl.zero (.slice none 0 0)) (sc ⟨(Sl.p1 l).2, (Sl.p2 l).2, (Sl.p3 l).2, (Sl.p4 l).2, (Sl.p5 l).2, 0, 0, 0, []⟩ (.slice none 0 0)) (Sl.p5 l).1 x5) := H9.out.set hb hk
  clear hb hk H9
  go_wp2_with fail
  refine (u64r _ q _ _ H10.out.rd).mono ?_
  rintro e v6 ⟨rfl, hr, hgr⟩
  have H11 := Lib.hid (H10.out.read (s' := (Sl.p6 l).1) hr hgr)
  clear hr hgr H10
  go_upto_region 9 with (refine wpList_store_cell rfl 23 (.tmp 26) (.tmp 25) rfl _ 5 (.int .u64 ((Sl.p6 l).2 : Int)) rfl rfl 26 _ H11.out.var (by kernel_rfl) rfl (by simp [sc]) rfl ?_; intro x6 hb _ hk)
  have H12 : Hid (GG w q w.heap.size w1.heap.size 26 (sc Sl.zero (.slice none 0 0)) (sc ⟨(Sl.p1 l).2, (Sl.p2 l).2, (Sl.p3 l).2, (Sl.p4 l).2, (Sl.p5 l).2, (Sl.p6 l).2, 0, 0, []⟩ (.slice none 0 0)) (Sl.p6 l).1 x6) := H11.out.set hb hk
  clear hb hk H11
  go_wp2_with fail
  refine (u64r _ q _ _ H12.out.rd).mono ?_
  rintro e v7 ⟨rfl, hr, hgr⟩
  have H13 := Lib.hid (H12.out.read (s' := (Sl.p7 l).1) hr hgr)
  clear hr hgr H12
  go_upto_region 10 with (refine wpList_store_cell rfl 23 (.tmp 29) (.tmp 28) rfl _ 6 (.int .u64 ((Sl.p7 l).2 : Int)) rfl rfl 26 _ H13.out.var (by kernel_rfl) rfl (by simp [sc]) rfl ?_; intro x7 hb _ hk)
  have H14 : Hid (GG w q w.heap.size w1.heap.size 26 (sc Sl.zero (.slice none 0 0)) (sc ⟨(Sl.p1 l).2, (Sl.p2 l).2, (Sl.p3 l).2, (Sl.p4 l).2, (Sl.p5 l).2, (Sl.p6 l).2, (Sl.p7 l).2, 0, []⟩ (.slice none 0 0)) (Sl.p7 l).1 x7) := H13.out.set hb hk
  clear hb hk H13
  go_wp2_with fail
  refine (u64r _ q _ _ H14.out.rd).mono ?_
  rintro e v8 ⟨rfl, hr, hgr⟩
  have H15 := Lib.hid (H14.out.read (s' := (Sl.p8 l).1) hr hgr)
  clear hr hgr H14
  go_upto_region 11 with (refine wpList_store_cell rfl 23 (.tmp 32) (.tmp 31) rfl _ 7 (.int .u64 ((Sl.p8 l).2 : Int)) rfl rfl 26 _ H15.out.var (by kernel_rfl) rfl (by simp [sc]) rfl ?_; intro x8 hb _ hk)
  have H16 : Hid (GG w q w.heap.size w1.heap.size 26 (sc Sl.zero (.slice none 0 0)) (sc ⟨(Sl.p1 l).2, (Sl.p2 l).2, (Sl.p3 l).2, (Sl.p4 l).2, (Sl.p5 l).2, (Sl.p6 l).2, (Sl.p7 l).2, (Sl.p8 l).2, []⟩ (.slice none 0 0)) (Sl.p8 l).1 x8) := H15.out.set hb hk
  clear hb hk H15
  go_wp2_with fail
  refine (opaquer _ q _ _ 768 (by omega) (by omega) H16.out.rd).mono ?_
  rintro e v9 ⟨B9, d9, rfl, hbs, hr, hgr, hfr⟩
  have H17 := Lib.hid (H16.out.read (s' := (Sl.p9 l).1) hr hgr)
  have HF : Hid (∀ ad, B9 = some ad → ad.block ≠ w.heap.size ∧ ad.block ≠ w1.heap.size) := fun ad h => by have h1 := (hfr ad h).1; have h2 := H16.out.res.lt; have h3 := H16.out.var.lt; omega
  have HBS := Lib.hid hbs
  clear hfr hbs
  clear hr hgr H16
  go_upto_region 12 with (refine wpList_store_cell rfl 24 (.tmp 35) (.tmp 34) rfl _ 8 (.slice B9 (Sl.p9 l).2.length d9) rfl rfl 26 _ H17.out.var (by kernel_rfl) rfl (by simp [sc]) rfl ?_; intro x9 hb _ hk)
  have H18 : Hid (GG w q w.heap.size w1.heap.size 26 (sc Sl.zero (.slice none 0 0)) (sc ⟨(Sl.p1 l).2, (Sl.p2 l).2, (Sl.p3 l).2, (Sl.p4 l).2, (Sl.p5 l).2, (Sl.p6 l).2, (Sl.p7 l).2, (Sl.p8 l).2, (Sl.p9 l).2⟩ (.slice B9 (Sl.p9 l).2.length d9)) (Sl.p9 l).1 x9) := H17.out.set hb hk
  have HBX := Lib.hid (HBS.out.keepS hk (fun _ ad h => (HF.out ad h).2))
  clear hb hk H17 HBS
  have HLR : Hid (w.heap.size ≤ w1.heap.size ∧ w.heap.size ≠ w1.heap.size) := ⟨H18.out.lg, H18.out.rg⟩
  go_wp2_with fail
  refine (end_any _ q _ _ H18.out.rd).mono ?_
  rintro e v10 ⟨rfl, rfl⟩
  rw [← Sl.bad_p l]
  by_cases hbad : Sl.slotC.bad l = 0
  rotate_left
  · have hd : (Sl.slotC.bad l != 0) = true := by simpa using hbad
    have HE : Hid (Sl.err l = Sl.slotC.bad l) := if_pos hbad
    have HG : Hid (Sl.got l = Sl.zero) := if_neg (by rw [HE.out]; exact hbad)
    clear hbad
    generalize Sl.slotC.bad l = z at *
    go_wp2_with (first
      | (refine wpList_build rfl 26 #[] rfl (by show (Try.prog.built _ []).isSome = true; rw [built_Slz]; rfl) ?_; rw [show (Try.prog.built 26 (Array.map _ #[]).toList) = _ from built_Slz])
      | (refine wpList_store_part rfl 26 (.tmp 2) (.tmp 40) rfl w.heap.size 0 (sc Sl.zero (.slice none 0 0)) rfl rfl 26 _ H18.out.res size_Sl (by simp [sc]) (sc_row _ _ _ _) ?_
         intro y hb _ hk
         have HB := Lib.hid hb
         have HK := Lib.hid hk
         clear hb hk))
    exact bodyPost_ret (results_cell rfl _ y w.heap.size (.int .i64 z) HB.out size_Sl (by rfl) (by rfl) Try.underlying26) rfl (by
      rw [HE.out, HG.out]
      exact ⟨none, 0, 0, rfl, BS.nil, H18.out.bel.trans (HK.out.below2 (fun k hk => by omega))⟩)
  rw [hbad]
  have HFT := Lib.hid (Sl.rd_wide l hbad)
  have HOKR : Hid ((Sl.okS (Sl.rd l) = true → Sl.err l = 0 ∧ Sl.got l = Sl.rd l ∧ Sl.chkS (Sl.rd l) = 0) ∧ (¬ Sl.okS (Sl.rd l) = true → Sl.err l = 11 ∧ Sl.got l = Sl.zero ∧ Sl.chkS (Sl.rd l) = 1)) := by
    constructor
    · intro h
      have h1 : Sl.err l = 0 := by unfold Sl.err; rw [hbad, if_neg (by simp), if_pos h]
      exact ⟨h1, if_pos h1, if_pos h⟩
    · intro h
      have h1 : Sl.err l = 11 := by unfold Sl.err; rw [hbad, if_neg (by simp), if_neg h]
      exact ⟨h1, if_neg (by rw [h1]; decide), if_neg h⟩
  have HLN : Hid ((Sl.p9 l).2.length ≤ 768) := by
    obtain ⟨_, h5⟩ := Sl.slotC.bad_back l hbad
    have h6 := ((Sl.c_ok_iff (Sl.rd l)).1 h5).2.2.2
    rw [Sl.rd_p l] at h6
    exact h6
  rw [Sl.rd_p l] at HFT HOKR
  clear hbad
  go_wp2_with (refine wpList_load_part rfl 26 (.tmp 4) rfl _ 0 rfl _ Try.underlying26 rfl (sc ⟨(Sl.p1 l).2, (Sl.p2 l).2, (Sl.p3 l).2, (Sl.p4 l).2, (Sl.p5 l).2, (Sl.p6 l).2, (Sl.p7 l).2, (Sl.p8 l).2, (Sl.p9 l).2⟩ (.slice B9 (Sl.p9 l).2.length d9)) 26 _ H18.out.var size_Sl (fun j u hu => by rw [Nat.zero_add]; exact hu) ?_)
  refine (checkS_any _ B9 (Sl.p9 l).2.length d9 _ HFT.out HBX.out (Nat.le_trans HLN.out (by omega))).mono ?_
  rintro e x10 ⟨rfl, hb⟩
  have H19 := Lib.hid (H18.out.below hb)
  have HBY := Lib.hid (HBX.out.below hb)
  clear hb H18 HBX HFT
  obtain ⟨th, hth⟩ : ∃ t : Vl.Th, ⟨(Sl.p1 l).2, (Sl.p2 l).2, (Sl.p3 l).2, (Sl.p4 l).2, (Sl.p5 l).2, (Sl.p6 l).2, (Sl.p7 l).2, (Sl.p8 l).2, (Sl.p9 l).2⟩ = t := ⟨_, rfl⟩
  have HBZ : Hid (BS x10 B9 (Sl.p9 l).2.length th.dt) := by rw [← hth]; exact HBY.out
  rw [hth] at HOKR H19
  rw [hth]
  clear hth HBY
  by_cases hok : Sl.okS th = true
  rotate_left
  · obtain ⟨he, hg, hz⟩ := HOKR.out.2 hok
    have HE := Lib.hid he
    have HG := Lib.hid hg
    rw [hz]
    clear he hg hz hok HOKR
    go_wp2_with (first
      | (refine wpList_build rfl 26 #[] rfl (by show (Try.prog.built _ []).isSome = true; rw [built_Slz]; rfl) ?_; rw [show (Try.prog.built 26 (Array.map _ #[]).toList) = _ from built_Slz])
      | (refine wpList_store_part rfl 26 (.tmp 2) (.tmp 45) rfl w.heap.size 0 (sc Sl.zero (.slice none 0 0)) rfl rfl 26 _ H19.out.res size_Sl (by simp [sc]) (sc_row _ _ _ _) ?_
         intro y hb _ hk
         have HB := Lib.hid hb
         have HK := Lib.hid hk
         clear hb hk))
    exact bodyPost_ret (results_cell rfl _ y w.heap.size (.int .i64 11) HB.out size_Sl (by rfl) (by rfl) Try.underlying26) rfl (by
      rw [HE.out, HG.out]
      exact ⟨none, 0, 0, rfl, BS.nil, H19.out.bel.trans (HK.out.below2 (fun k hk => by omega))⟩)
  obtain ⟨he, hg, hz⟩ := HOKR.out.1 hok
  have HE := Lib.hid he
  have HG := Lib.hid hg
  rw [hz]
  clear he hg hz hok HOKR
  go_wp2_with (first
    | (refine wpList_load_part rfl 26 (.tmp 4) rfl _ 0 rfl _ Try.underlying26 rfl (sc th (.slice B9 (Sl.p9 l).2.length d9)) 26 _ H19.out.var size_Sl (fun j u hu => by rw [Nat.zero_add]; exact hu) ?_)
    | (refine wpList_store_part rfl 26 (.tmp 2) (.tmp 46) rfl w.heap.size 0 (sc th (.slice B9 (Sl.p9 l).2.length d9)) rfl rfl 26 _ H19.out.res size_Sl (by simp [sc]) (sc_row _ _ _ _) ?_
       intro y hb _ hk
       have HB := Lib.hid hb
       have HK := Lib.hid hk
       clear hb hk))
  exact bodyPost_ret (results_cell rfl _ y w.heap.size (.int .i64 0) HB.out size_Sl (by rfl) (by rfl) Try.underlying26) rfl (by
    rw [HE.out, HG.out]
    exact ⟨B9, _, d9, rfl, HBZ.out.keepS HK.out (fun _ ad h => (HF.out ad h).1), H19.out.bel.trans (HK.out.below2 (fun k hk => by omega))⟩)
end Go.Proofs.Ytbeahhijmgkfhaa
