/-
  Contract of package mark's Get (layer 15).
-/
import Derived.Test.YtjionpkflpnejaaMPut
namespace Go.Proofs.Ytjionpkflpnejaa
open Go.RowKit Go.Shelf

section
variable (l : List UInt8)
def Mk.p1 := rdB (l, 0)
def Mk.p2 := rdN 4 (Mk.p1 l).1
def Mk.p3 := rdN 4 (Mk.p2 l).1
def Mk.p4 := rdN 8 (Mk.p3 l).1
def Mk.p5 := rdN 8 (Mk.p4 l).1
def Mk.p6 := rdN 8 (Mk.p5 l).1
def Mk.p7 := rdN 8 (Mk.p6 l).1
def Mk.p8 := rdN 4 (Mk.p7 l).1
def Mk.p9 := rdN 4 (Mk.p8 l).1
theorem Mk.all_p : Mk.markC.rd (l, 0) = ((Mk.p9 l).1, Mk.tup ⟨(Mk.p1 l).2, (Mk.p2 l).2, (Mk.p3 l).2, (Mk.p4 l).2, (Mk.p5 l).2, (Mk.p6 l).2, (Mk.p7 l).2, (Mk.p8 l).2, (Mk.p9 l).2⟩) := by
  unfold Mk.markC
  simp only [seq_rd]
  rfl
theorem Mk.bad_p : Mk.markC.bad l = endOf (Mk.p9 l).1.1 (Mk.p9 l).1.2 := by
  unfold Cd.bad
  rw [Mk.all_p l]
theorem Mk.rd_p : Mk.rd l = ⟨(Mk.p1 l).2, (Mk.p2 l).2, (Mk.p3 l).2, (Mk.p4 l).2, (Mk.p5 l).2, (Mk.p6 l).2, (Mk.p7 l).2, (Mk.p8 l).2, (Mk.p9 l).2⟩ := by
  unfold Mk.rd
  rw [Mk.all_p l]
  rfl
end
/-- What an error says of the rest. -/
theorem Mk.err_bad (l : List UInt8) (hl : l ≠ []) (hb : Mk.markC.bad l ≠ 0) : Mk.err l = Mk.markC.bad l ∧ Mk.got l = Mk.zero := by
  have h : Mk.err l = Mk.markC.bad l := (if_neg hl).trans (if_pos hb)
  exact ⟨h, Mk.got_no l (by rw [h]; exact hb)⟩
theorem Mk.err_yes (l : List UInt8) (hl : l ≠ []) (hb : Mk.markC.bad l = 0) (h : Mk.okM (Mk.rd l) = true) (hz : Mk.rd l ≠ Mk.zero) : Mk.err l = 0 ∧ Mk.got l = Mk.rd l := by
  have h1 : Mk.err l = 0 := by
    unfold Mk.err
    rw [if_neg hl, if_neg (by simp [hb]), if_pos ⟨h, hz⟩]
  exact ⟨h1, if_pos ⟨hl, h1⟩⟩
theorem Mk.err_no (l : List UInt8) (hl : l ≠ []) (hb : Mk.markC.bad l = 0) (h : ¬ (Mk.okM (Mk.rd l) = true ∧ Mk.rd l ≠ Mk.zero)) : Mk.err l = 11 ∧ Mk.got l = Mk.zero := by
  have h1 : Mk.err l = 11 := by
    unfold Mk.err
    rw [if_neg hl, if_neg (by simp [hb]), if_neg h]
  exact ⟨h1, Mk.got_no l (by rw [h1]; decide)⟩
/-- While a state is read: the result's block r, the Reader q. -/
structure GM (w : World) (q r : Nat) (s : St) (W : World) : Prop where
  rd : Rd W q s.1 s.2
  res : Bw W r (mc Mk.zero) 25
  bel : Below w.heap.size w W
  lr : w.heap.size ≤ r
  lq : w.heap.size ≤ q
  qr : q ≠ r
theorem GM.read {w W W' : World} {q r : Nat} {s s' : St} (h : GM w q r s W) (hr : Rd W' q s'.1 s'.2) (hg : W.grownBy W' (some q)) : GM w q r s' W' :=
  ⟨hr, h.res.grown hg (fun e => h.qr (by injection e)),
    h.bel.trans ⟨hg.os, hg.tape, hg.output, hg.size, fun k hk => hg.block k (Nat.lt_of_lt_of_le hk h.bel.size) (fun e => by injection e with e; have := h.lq; omega)⟩, h.lr, h.lq, h.qr⟩
set_option maxRecDepth 100000 in
set_option maxHeartbeats 4000000 in
theorem getM_any (l : List UInt8) (A : Option Addr) (n cp : Nat) (w : World) (h : BS w A n l) (hn : n ≤ 2000) :
    Calls Try.prog 17 #[.slice A n cp] w fun e w' => e = .returned (.tuple #[.agg (mc (Mk.got l)).toArray, .int .i64 (Mk.err l)]) ∧ Below w.heap.size w w' := by
  have HL := Lib.hid h
  clear h
  by_cases hl : l = []
  · have h0 : n = 0 := by have := HL.out.1; rw [hl] at this; exact this.symm
    subst h0
    have HG : Hid (Mk.got l = Mk.zero ∧ Mk.err l = 0) := by rw [hl]; exact ⟨Mk.got_nil, Mk.err_nil⟩
    clear hl HL
    go_enter Try.func17, Try.ntmps17
    go_upto_region 1 with (refine wpList_alloc_any rfl 25 rfl _ zero_Mk ?_; intro w1 hb1 hs1 hw1)
    have HB1 : Hid (Bw w1 w.heap.size (mc Mk.zero) 25) := hb1
    have HW1 := Lib.hid hw1
    clear hb1 hs1 hw1
    go_wp2_with (first
      | (refine wpList_build rfl 25 #[] rfl (by show (Try.prog.built _ []).isSome = true; rw [built_Mkz]; rfl) ?_; rw [show (Try.prog.built 25 (Array.map _ #[]).toList) = _ from built_Mkz])
      | (refine wpList_store_part rfl 25 (.tmp 2) (.tmp 10) rfl w.heap.size 0 (mc Mk.zero) rfl rfl 25 _ HB1.out size_Mk (by simp [mc]) (mc_one _) ?_
         intro y hb _ hk
         have HB := Lib.hid hb
         have HK := Lib.hid hk
         clear hb hk))
    exact bodyPost_ret (results_cell rfl _ y w.heap.size (.int .i64 0) HB.out size_Mk (by rfl) (by rfl) Try.underlying25) rfl (by
      rw [HG.out.1, HG.out.2]
      exact ⟨rfl, HW1.out.trans (HK.out.below2 (fun k hk => by omega))⟩)
  have hn0 : ¬ n = 0 := fun e => hl (List.eq_nil_of_length_eq_zero (by rw [HL.out.1]; exact e))
  have HLN := Lib.hid hl
  clear hl
  have hd : ((n : Int) == 0) = false := by simp; omega
  go_enter Try.func17, Try.ntmps17
  go_upto_region 1 with (refine wpList_alloc_any rfl 25 rfl _ zero_Mk ?_; intro w1 hb1 hs1 hw1)
  have hl1 := HL.out.below hw1
  have HB1 : Hid (Bw w1 w.heap.size (mc Mk.zero) 25) := hb1
  have HW1 := Lib.hid hw1
  clear hb1 hs1 hw1 HL
  go_wp2_with fail
  refine (newReader_any A n cp l w1 hl1 (by omega)).mono ?_
  rintro e v0 ⟨q, rfl, hrd, hb3, hq⟩
  have H0 : Hid (GM w q w.heap.size (l, 0) v0) := ⟨hrd, HB1.out.below hb3, HW1.out.trans (hb3.mono HW1.out.size), Nat.le_refl _, by have := HW1.out.size; omega, by have := HB1.out.lt; omega⟩
  clear HB1 HW1 hrd hb3 hq hl1 hd hn0
  go_wp2_with fail
  refine (show Calls Try.prog 35 #[.pointer (some ⟨q, 0, none⟩)] v0 (RdPost v0 q (.bool (Mk.p1 l).2) (Mk.p1 l).1) from boolr _ q _ _ H0.out.rd).mono ?_
  rintro e v1 ⟨rfl, hr, hgr⟩
  have H1 := Lib.hid (H0.out.read (s' := (Mk.p1 l).1) hr hgr)
  clear hr hgr H0
  go_wp2_with fail
  refine (show Calls Try.prog 36 #[.pointer (some ⟨q, 0, none⟩)] v1 (RdPost v1 q (.int .u32 ((Mk.p2 l).2 : Int)) (Mk.p2 l).1) from u32r _ q _ _ H1.out.rd).mono ?_
  rintro e v2 ⟨rfl, hr, hgr⟩
  have H2 := Lib.hid (H1.out.read (s' := (Mk.p2 l).1) hr hgr)
  clear hr hgr H1
  go_wp2_with fail
  refine (show Calls Try.prog 36 #[.pointer (some ⟨q, 0, none⟩)] v2 (RdPost v2 q (.int .u32 ((Mk.p3 l).2 : Int)) (Mk.p3 l).1) from u32r _ q _ _ H2.out.rd).mono ?_
  rintro e v3 ⟨rfl, hr, hgr⟩
  have H3 := Lib.hid (H2.out.read (s' := (Mk.p3 l).1) hr hgr)
  clear hr hgr H2
  go_wp2_with fail
  refine (show Calls Try.prog 37 #[.pointer (some ⟨q, 0, none⟩)] v3 (RdPost v3 q (.int .u64 ((Mk.p4 l).2 : Int)) (Mk.p4 l).1) from u64r _ q _ _ H3.out.rd).mono ?_
  rintro e v4 ⟨rfl, hr, hgr⟩
  have H4 := Lib.hid (H3.out.read (s' := (Mk.p4 l).1) hr hgr)
  clear hr hgr H3
  go_wp2_with fail
  refine (show Calls Try.prog 37 #[.pointer (some ⟨q, 0, none⟩)] v4 (RdPost v4 q (.int .u64 ((Mk.p5 l).2 : Int)) (Mk.p5 l).1) from u64r _ q _ _ H4.out.rd).mono ?_
  rintro e v5 ⟨rfl, hr, hgr⟩
  have H5 := Lib.hid (H4.out.read (s' := (Mk.p5 l).1) hr hgr)
  clear hr hgr H4
  go_wp2_with fail
  refine (show Calls Try.prog 37 #[.pointer (some ⟨q, 0, none⟩)] v5 (RdPost v5 q (.int .u64 ((Mk.p6 l).2 : Int)) (Mk.p6 l).1) from u64r _ q _ _ H5.out.rd).mono ?_
  rintro e v6 ⟨rfl, hr, hgr⟩
  have H6 := Lib.hid (H5.out.read (s' := (Mk.p6 l).1) hr hgr)
  clear hr hgr H5
  go_wp2_with fail
  refine (show Calls Try.prog 37 #[.pointer (some ⟨q, 0, none⟩)] v6 (RdPost v6 q (.int .u64 ((Mk.p7 l).2 : Int)) (Mk.p7 l).1) from u64r _ q _ _ H6.out.rd).mono ?_
  rintro e v7 ⟨rfl, hr, hgr⟩
  have H7 := Lib.hid (H6.out.read (s' := (Mk.p7 l).1) hr hgr)
  clear hr hgr H6
  go_wp2_with fail
  refine (show Calls Try.prog 36 #[.pointer (some ⟨q, 0, none⟩)] v7 (RdPost v7 q (.int .u32 ((Mk.p8 l).2 : Int)) (Mk.p8 l).1) from u32r _ q _ _ H7.out.rd).mono ?_
  rintro e v8 ⟨rfl, hr, hgr⟩
  have H8 := Lib.hid (H7.out.read (s' := (Mk.p8 l).1) hr hgr)
  clear hr hgr H7
  go_wp2_with fail
  refine (show Calls Try.prog 36 #[.pointer (some ⟨q, 0, none⟩)] v8 (RdPost v8 q (.int .u32 ((Mk.p9 l).2 : Int)) (Mk.p9 l).1) from u32r _ q _ _ H8.out.rd).mono ?_
  rintro e v9 ⟨rfl, hr, hgr⟩
  have H9 := Lib.hid (H8.out.read (s' := (Mk.p9 l).1) hr hgr)
  clear hr hgr H8
  have hbu : Try.prog.built 25 [(0, .bool (Mk.p1 l).2), (1, .int .u32 ((Mk.p2 l).2 : Int)), (2, .int .u32 ((Mk.p3 l).2 : Int)), (3, .int .u64 ((Mk.p4 l).2 : Int)), (4, .int .u64 ((Mk.p5 l).2 : Int)), (5, .int .u64 ((Mk.p6 l).2 : Int)), (6, .int .u64 ((Mk.p7 l).2 : Int)), (7, .int .u32 ((Mk.p8 l).2 : Int)), (8, .int .u32 ((Mk.p9 l).2 : Int))] = some (mc (⟨(Mk.p1 l).2, (Mk.p2 l).2, (Mk.p3 l).2, (Mk.p4 l).2, (Mk.p5 l).2, (Mk.p6 l).2, (Mk.p7 l).2, (Mk.p8 l).2, (Mk.p9 l).2⟩ : Ms)).toArray := built_Mk (Mk.p1 l).2 ((Mk.p2 l).2 : Int) ((Mk.p3 l).2 : Int) ((Mk.p4 l).2 : Int) ((Mk.p5 l).2 : Int) ((Mk.p6 l).2 : Int) ((Mk.p7 l).2 : Int) ((Mk.p8 l).2 : Int) ((Mk.p9 l).2 : Int)
  go_upto_region 5 with (first
    | (refine wpList_alloc_any rfl 25 rfl _ zero_Mk ?_; intro x1 hb1 hs1 hw1)
    | (refine wpList_store_part rfl 25 (.tmp 5) (.tmp 31) rfl v9.heap.size 0 (mc (⟨(Mk.p1 l).2, (Mk.p2 l).2, (Mk.p3 l).2, (Mk.p4 l).2, (Mk.p5 l).2, (Mk.p6 l).2, (Mk.p7 l).2, (Mk.p8 l).2, (Mk.p9 l).2⟩ : Ms)) rfl rfl 25 _ hb1 size_Mk (by simp [mc]) (mc_one _) ?_
       intro x2 hb2 hs2 hk2))
  clear hbu
  obtain ⟨th, hth⟩ : ∃ t : Ms, (⟨(Mk.p1 l).2, (Mk.p2 l).2, (Mk.p3 l).2, (Mk.p4 l).2, (Mk.p5 l).2, (Mk.p6 l).2, (Mk.p7 l).2, (Mk.p8 l).2, (Mk.p9 l).2⟩ : Ms) = t := ⟨_, rfl⟩
  have HRD : Hid (Mk.rd l = th) := by show _ = _; rw [Mk.rd_p l]; exact hth
  have hb2 : Bw x2 v9.heap.size (mc th) 25 := by rw [← hth]; exact hb2
  clear hth
  have hbw : Below v9.heap.size v9 x2 := hw1.trans (hk2.below2 (fun k hk => by omega))
  have HV : Hid (Bw x2 v9.heap.size (mc th) 25) := hb2
  have HRR : Hid (Bw x2 w.heap.size (mc Mk.zero) 25) := H9.out.res.below hbw
  have HRX : Hid (Rd x2 q (Mk.p9 l).1.1 (Mk.p9 l).1.2) := H9.out.rd.kept hbw
  have HBX : Hid (Below w.heap.size w x2) := H9.out.bel.trans (hbw.mono H9.out.bel.size)
  have HNE : Hid (w.heap.size ≠ v9.heap.size ∧ w.heap.size ≤ v9.heap.size) := ⟨by have := H9.out.res.lt; omega, H9.out.bel.size⟩
  clear hb1 hs1 hw1 hb2 hs2 hk2 hbw H9
  generalize v9.heap.size = g at *
  go_wp2_with fail
  refine (end_any _ q _ _ HRX.out).mono ?_
  rintro e v10 ⟨rfl, rfl⟩
  rw [← Mk.bad_p l]
  by_cases hbad : Mk.markC.bad l = 0
  rotate_left
  · have hd : (Mk.markC.bad l != 0) = true := by simpa using hbad
    have HE := Lib.hid (Mk.err_bad l HLN.out hbad)
    clear hbad
    generalize Mk.markC.bad l = z at *
    go_wp2_with (first
      | (refine wpList_build rfl 25 #[] rfl (by show (Try.prog.built _ []).isSome = true; rw [built_Mkz]; rfl) ?_; rw [show (Try.prog.built 25 (Array.map _ #[]).toList) = _ from built_Mkz])
      | (refine wpList_store_part rfl 25 (.tmp 2) (.tmp 36) rfl w.heap.size 0 (mc Mk.zero) rfl rfl 25 _ HRR.out size_Mk (by simp [mc]) (mc_one _) ?_
         intro y hb _ hk
         have HB := Lib.hid hb
         have HK := Lib.hid hk
         clear hb hk))
    exact bodyPost_ret (results_cell rfl _ y w.heap.size (.int .i64 z) HB.out size_Mk (by rfl) (by rfl) Try.underlying25) rfl (by
      rw [HE.out.1, HE.out.2]
      exact ⟨rfl, HBX.out.trans (HK.out.below2 (fun k hk => by omega))⟩)
  rw [hbad]
  have HBD := Lib.hid hbad
  clear hbad HRX
  go_wp2_with (refine wpList_load_part rfl 25 (.tmp 5) rfl _ 0 rfl _ Try.underlying25 rfl (mc th) 25 _ HV.out size_Mk (fun j u hu => by rw [Nat.zero_add]; exact hu) ?_)
  refine (checkM_any th _).mono ?_
  rintro e x3 ⟨rfl, hb⟩
  have HV3 := Lib.hid (HV.out.below hb)
  have HR3 := Lib.hid (HRR.out.below hb)
  have HB3 := Lib.hid (HBX.out.trans (hb.mono HBX.out.size))
  clear hb HV HRR HBX
  have e0 := HV3.out.cell 0 _ rfl
  have e1 := HV3.out.cell 1 _ rfl
  have e2 := HV3.out.cell 2 _ rfl
  have e3 := HV3.out.cell 3 _ rfl
  have e4 := HV3.out.cell 4 _ rfl
  have e5 := HV3.out.cell 5 _ rfl
  have e6 := HV3.out.cell 6 _ rfl
  have e7 := HV3.out.cell 7 _ rfl
  have e8 := HV3.out.cell 8 _ rfl
  have hbz : Try.prog.built 25 [] = some #[.bool false, .int .u32 0, .int .u32 0, .int .u64 0, .int .u64 0, .int .u64 0, .int .u64 0, .int .u32 0, .int .u32 0] := built_Mkz
  by_cases hok : Mk.okM th = true
  rotate_left
  · have HE := Lib.hid (Mk.err_no l HLN.out HBD.out (by rw [HRD.out]; exact fun h => hok h.1))
    rw [show Mk.chkM th = 1 from if_neg hok]
    clear hok
    go_wp2_with (first
      | (refine wpList_build rfl 25 #[] rfl (by show (Try.prog.built _ []).isSome = true; rw [built_Mkz]; rfl) ?_; rw [show (Try.prog.built 25 (Array.map _ #[]).toList) = _ from built_Mkz])
      | (refine wpList_store_part rfl 25 (.tmp 2) (.tmp 46) rfl w.heap.size 0 (mc Mk.zero) rfl rfl 25 _ HR3.out size_Mk (by simp [mc]) (mc_one _) ?_
         intro y hb _ hk
         have HB := Lib.hid hb
         have HK := Lib.hid hk
         clear hb hk))
    exact bodyPost_ret (results_cell rfl _ y w.heap.size (.int .i64 11) HB.out size_Mk (by rfl) (by rfl) Try.underlying25) rfl (by
      rw [HE.out.1, HE.out.2]
      exact ⟨rfl, HB3.out.trans (HK.out.below2 (fun k hk => by omega))⟩)
  rw [show Mk.chkM th = 0 from if_pos hok]
  have heq : ∀ W : World, (binOp .eql 25 (.agg #[.bool th.ow, .int .u32 (th.ph : Int), .int .u32 (th.pr : Int), .int .u64 (th.ep : Int), .int .u64 (th.sq : Int), .int .u64 (th.fr : Int), .int .u64 (th.gl : Int), .int .u32 (th.nx : Int), .int .u32 (th.rn : Int)]) (.agg #[.bool false, .int .u32 0, .int .u32 0, .int .u64 0, .int .u64 0, .int .u64 0, .int .u64 0, .int .u32 0, .int .u32 0])).run Try.prog W = .ok (.bool (decide (th = Mk.zero))) W := mEq th Mk.zero
  by_cases hzr : th = Mk.zero
  · have HE := Lib.hid (Mk.err_no l HLN.out HBD.out (by rw [HRD.out]; exact fun h => h.2 hzr))
    rw [decide_eq_true hzr] at heq
    clear hok hzr
    go_wp2_with (first
      | (refine wpList_build rfl 25 #[] rfl (by show (Try.prog.built _ []).isSome = true; rw [built_Mkz]; rfl) ?_; rw [show (Try.prog.built 25 (Array.map _ #[]).toList) = _ from built_Mkz])
      | (refine wpList_store_part rfl 25 (.tmp 2) (.tmp 46) rfl w.heap.size 0 (mc Mk.zero) rfl rfl 25 _ HR3.out size_Mk (by simp [mc]) (mc_one _) ?_
         intro y hb _ hk
         have HB := Lib.hid hb
         have HK := Lib.hid hk
         clear hb hk))
    exact bodyPost_ret (results_cell rfl _ y w.heap.size (.int .i64 11) HB.out size_Mk (by rfl) (by rfl) Try.underlying25) rfl (by
      rw [HE.out.1, HE.out.2]
      exact ⟨rfl, HB3.out.trans (HK.out.below2 (fun k hk => by omega))⟩)
  have HE := Lib.hid (Mk.err_yes l HLN.out HBD.out (by rw [HRD.out]; exact hok) (by rw [HRD.out]; exact hzr))
  rw [decide_eq_false hzr] at heq
  clear hok hzr
  go_wp2_with (first
    | (refine wpList_load_part rfl 25 (.tmp 5) rfl _ 0 rfl _ Try.underlying25 rfl (mc th) 25 _ HV3.out size_Mk (fun j u hu => by rw [Nat.zero_add]; exact hu) ?_)
    | (refine wpList_store_part rfl 25 (.tmp 2) (.tmp 47) rfl w.heap.size 0 (mc th) rfl rfl 25 _ HR3.out size_Mk (by simp [mc]) (mc_one _) ?_
       intro y hb _ hk
       have HB := Lib.hid hb
       have HK := Lib.hid hk
       clear hb hk))
  exact bodyPost_ret (results_cell rfl _ y w.heap.size (.int .i64 0) HB.out size_Mk (by rfl) (by rfl) Try.underlying25) rfl (by
    rw [HE.out.1, HE.out.2, HRD.out]
    exact ⟨rfl, HB3.out.trans (HK.out.below2 (fun k hk => by omega))⟩)
end Go.Proofs.Ytjionpkflpnejaa
