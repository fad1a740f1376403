/-
  Contract of package mark's Get (layer 15).
  What DirRemoves needs of entries, plain: the letters that are there, in order (layer 8).
  DirRemoves walked (layer 8).
  What DirAdds needs of entries, plain (layer 8).
  Contracts of the reference's Name and Find (layer 8).
  Contract of the reference's May (layer 8).
  Contract of the document's ReadOpaque.
  Contract of the reference's Get (layer 8).
  Frames, slices as they lie in a cell, slices of writes: what layers 5 and above share (the texts of layer 5 hold the same: where they are laid, this one is not).
  Transactions, plain: blocks as they were, what was put, what changes (layer 10). Nothing of the program is named here.
  A transaction in memory (layer 10): its struct, its blocks' slices, its map; what leaves it as it is.
  The document's Get, walked (layer 15).
  Contract of the law's stateOf (layer 15).
  States that came in (layer 15).
  Small contracts of layer 10: bytes.Clone, bytes.Equal, maps.Clone, a map of slices asked and written, Len, has.
  A map of slices asked and written; Len, has, Get, Put (layer 10).
-/
import Derived.Test.YtjionpkflpnejaaMQ4
import Derived.BigQuiet
import Derived.Test.YtjionpkflpnejaaProg
import Derived.Deep.RegionHeld3
import Derived.Deep.RegionLaw
import Derived.Deep.LoopGhost
import Derived.Deep.DeepMust
import Derived.KernelRfl
import Derived.Lib.SlBytesConst
import Derived.Lib.SlBytesRow
import Derived.Deep.RegionWith
import Derived.Test.YtjionpkflpnejaaShelf
import Derived.Shelf.SlMaps.Clone
import Derived.Deep.QuietTactic
import Derived.Deep.RegionHeld
import Derived.IntWalk
namespace Go.Proofs.Ytjionpkflpnejaa
open Go.RowKit Go.Shelf

section
variable (l : List UInt8)
def Mk.p1 := rdB (l, 0)
def Mk.p2 := rdN 4 (Mk.p1 l).1
def Mk.p3 := rdN 4 (Mk.p2 l).1
def Mk.p4 := rdN 8 (Mk.p3 l).1
def Mk.p5 := rdN 8 (Mk.p4 l).1
def Mk.p6 := rdN 8 (Mk.p5 l).1
def Mk.p7 := rdN 8 (Mk.p6 l).1
def Mk.p8 := rdN 4 (Mk.p7 l).1
def Mk.p9 := rdN 4 (Mk.p8 l).1
theorem Mk.all_p : Mk.markC.rd (l, 0) = ((Mk.p9 l).1, Mk.tup ⟨(Mk.p1 l).2, (Mk.p2 l).2, (Mk.p3 l).2, (Mk.p4 l).2, (Mk.p5 l).2, (Mk.p6 l).2, (Mk.p7 l).2, (Mk.p8 l).2, (Mk.p9 l).2⟩) := by
  unfold Mk.markC
  simp only [seq_rd]
  rfl
theorem Mk.bad_p : Mk.markC.bad l = endOf (Mk.p9 l).1.1 (Mk.p9 l).1.2 := by
  unfold Cd.bad
  rw [Mk.all_p l]
theorem Mk.rd_p : Mk.rd l = ⟨(Mk.p1 l).2, (Mk.p2 l).2, (Mk.p3 l).2, (Mk.p4 l).2, (Mk.p5 l).2, (Mk.p6 l).2, (Mk.p7 l).2, (Mk.p8 l).2, (Mk.p9 l).2⟩ := by
  unfold Mk.rd
  rw [Mk.all_p l]
  rfl
end
/-- What an error says of the rest. -/
theorem Mk.err_bad (l : List UInt8) (hl : l ≠ []) (hb : Mk.markC.bad l ≠ 0) : Mk.err l = Mk.markC.bad l ∧ Mk.got l = Mk.zero := by
  have h : Mk.err l = Mk.markC.bad l := (if_neg hl).trans (if_pos hb)
  exact ⟨h, Mk.got_no l (by rw [h]; exact hb)⟩
theorem Mk.err_yes (l : List UInt8) (hl : l ≠ []) (hb : Mk.markC.bad l = 0) (h : Mk.okM (Mk.rd l) = true) (hz : Mk.rd l ≠ Mk.zero) : Mk.err l = 0 ∧ Mk.got l = Mk.rd l := by
  have h1 : Mk.err l = 0 := by
    unfold Mk.err
    rw [if_neg hl, if_neg (by simp [hb]), if_pos ⟨h, hz⟩]
  exact ⟨h1, if_pos ⟨hl, h1⟩⟩
theorem Mk.err_no (l : List UInt8) (hl : l ≠ []) (hb : Mk.markC.bad l = 0) (h : ¬ (Mk.okM (Mk.rd l) = true ∧ Mk.rd l ≠ Mk.zero)) : Mk.err l = 11 ∧ Mk.got l = Mk.zero := by
  have h1 : Mk.err l = 11 := by
    unfold Mk.err
    rw [if_neg hl, if_neg (by simp [hb]), if_neg h]
  exact ⟨h1, Mk.got_no l (by rw [h1]; decide)⟩
/-- While a state is read: the result's block r, the Reader q. -/
structure GM (w : World) (q r : Nat) (s : St) (W : World) : Prop where
  rd : Rd W q s.1 s.2
  res : Bw W r (mc Mk.zero) 25
  bel : Below w.heap.size w W
  lr : w.heap.size ≤ r
  lq : w.heap.size ≤ q
  qr : q ≠ r
theorem GM.read {w W W' : World} {q r : Nat} {s s' : St} (h : GM w q r s W) (hr : Rd W' q s'.1 s'.2) (hg : W.grownBy W' (some q)) : GM w q r s' W' :=
  ⟨hr, h.res.grown hg (fun e => h.qr (by injection e)),
    h.bel.trans ⟨hg.os, hg.tape, hg.output, hg.size, fun k hk => hg.block k (Nat.lt_of_lt_of_le hk h.bel.size) (fun e => by injection e with e; have := h.lq; omega)⟩, h.lr, h.lq, h.qr⟩
set_option maxRecDepth 100000 in
set_option maxHeartbeats 4000000 in
theorem getM_any (l : List UInt8) (A : Option Addr) (n cp : Nat) (w : World) (h : BS w A n l) (hn : n ≤ 2000) :
    Calls Try.prog 17 #[.slice A n cp] w fun e w' => e = .returned (.tuple #[.agg (mc (Mk.got l)).toArray, .int .i64 (Mk.err l)]) ∧ Below w.heap.size w w' := by
  have HL := Lib.hid h
  clear h
  by_cases hl : l = []
  · have h0 : n = 0 := by have := HL.out.1; rw [hl] at this; exact this.symm
    subst h0
    have HG : Hid (Mk.got l = Mk.zero ∧ Mk.err l = 0) := by rw [hl]; exact ⟨Mk.got_nil, Mk.err_nil⟩
    clear hl HL
    go_enter Try.func17, Try.ntmps17
    go_upto_region 1 with (refine wpList_alloc_any rfl 25 rfl _ zero_Mk ?_; intro w1 hb1 hs1 hw1)
    have HB1 : Hid (Bw w1 w.heap.size (mc Mk.zero) 25) := hb1
    have HW1 := Lib.hid hw1
    clear hb1 hs1 hw1
    go_wp2_with (first
      | (refine wpList_build rfl 25 #[] rfl (by show (Try.prog.built _ []).isSome = true; rw [built_Mkz]; rfl) ?_; rw [show (Try.prog.built 25 (Array.map _ #[]).toList) = _ from built_Mkz])
      | (refine wpList_store_part rfl 25 (.tmp 2) (.tmp 10) rfl w.heap.size 0 (mc Mk.zero) rfl rfl 25 _ HB1.out size_Mk (by simp [mc]) (mc_one _) ?_
         intro y hb _ hk
         have HB := Lib.hid hb
         have HK := Lib.hid hk
         clear hb hk))
    exact bodyPost_ret (results_cell rfl _ y w.heap.size (.int .i64 0) HB.out size_Mk (by rfl) (by rfl) Try.underlying25) rfl (by
      rw [HG.out.1, HG.out.2]
      exact ⟨rfl, HW1.out.trans (HK.out.below2 (fun k hk => by omega))⟩)
  have hn0 : ¬ n = 0 := fun e => hl (List.eq_nil_of_length_eq_zero (by rw [HL.out.1]; exact e))
  have HLN := Lib.hid hl
  clear hl
  have hd : ((n : Int) == 0) = false := by simp; omega
  go_enter Try.func17, Try.ntmps17
  go_upto_region 1 with (refine wpList_alloc_any rfl 25 rfl _ zero_Mk ?_; intro w1 hb1 hs1 hw1)
  have hl1 := HL.out.below hw1
  have HB1 : Hid (Bw w1 w.heap.size (mc Mk.zero) 25) := hb1
  have HW1 := Lib.hid hw1
  clear hb1 hs1 hw1 HL
  go_wp2_with fail
  refine (newReader_any A n cp l w1 hl1 (by omega)).mono ?_
  rintro e v0 ⟨q, rfl, hrd, hb3, hq⟩
  have H0 : Hid (GM w q w.heap.size (l, 0) v0) := ⟨hrd, HB1.out.below hb3, HW1.out.trans (hb3.mono HW1.out.size), Nat.le_refl _, by have := HW1.out.size; omega, by have := HB1.out.lt; omega⟩
  clear HB1 HW1 hrd hb3 hq hl1 hd hn0
  go_wp2_with fail
  refine (show Calls Try.prog 35 #[.pointer (some ⟨q, 0, none⟩)] v0 (RdPost v0 q (.bool (Mk.p1 l).2) (Mk.p1 l).1) from boolr _ q _ _ H0.out.rd).mono ?_
  rintro e v1 ⟨rfl, hr, hgr⟩
  have H1 := Lib.hid (H0.out.read (s' := (Mk.p1 l).1) hr hgr)
  clear hr hgr H0
  go_wp2_with fail
  refine (show Calls Try.prog 36 #[.pointer (some ⟨q, 0, none⟩)] v1 (RdPost v1 q (.int .u32 ((Mk.p2 l).2 : Int)) (Mk.p2 l).1) from u32r _ q _ _ H1.out.rd).mono ?_
  rintro e v2 ⟨rfl, hr, hgr⟩
  have H2 := Lib.hid (H1.out.read (s' := (Mk.p2 l).1) hr hgr)
  clear hr hgr H1
  go_wp2_with fail
  refine (show Calls Try.prog 36 #[.pointer (some ⟨q, 0, none⟩)] v2 (RdPost v2 q (.int .u32 ((Mk.p3 l).2 : Int)) (Mk.p3 l).1) from u32r _ q _ _ H2.out.rd).mono ?_
  rintro e v3 ⟨rfl, hr, hgr⟩
  have H3 := Lib.hid (H2.out.read (s' := (Mk.p3 l).1) hr hgr)
  clear hr hgr H2
  go_wp2_with fail
  refine (show Calls Try.prog 37 #[.pointer (some ⟨q, 0, none⟩)] v3 (RdPost v3 q (.int .u64 ((Mk.p4 l).2 : Int)) (Mk.p4 l).1) from u64r _ q _ _ H3.out.rd).mono ?_
  rintro e v4 ⟨rfl, hr, hgr⟩
  have H4 := Lib.hid (H3.out.read (s' := (Mk.p4 l).1) hr hgr)
  clear hr hgr H3
  go_wp2_with fail
  refine (show Calls Try.prog 37 #[.pointer (some ⟨q, 0, none⟩)] v4 (RdPost v4 q (.int .u64 ((Mk.p5 l).2 : Int)) (Mk.p5 l).1) from u64r _ q _ _ H4.out.rd).mono ?_
  rintro e v5 ⟨rfl, hr, hgr⟩
  have H5 := Lib.hid (H4.out.read (s' := (Mk.p5 l).1) hr hgr)
  clear hr hgr H4
  go_wp2_with fail
  refine (show Calls Try.prog 37 #[.pointer (some ⟨q, 0, none⟩)] v5 (RdPost v5 q (.int .u64 ((Mk.p6 l).2 : Int)) (Mk.p6 l).1) from u64r _ q _ _ H5.out.rd).mono ?_
  rintro e v6 ⟨rfl, hr, hgr⟩
  have H6 := Lib.hid (H5.out.read (s' := (Mk.p6 l).1) hr hgr)
  clear hr hgr H5
  go_wp2_with fail
  refine (show Calls Try.prog 37 #[.pointer (some ⟨q, 0, none⟩)] v6 (RdPost v6 q (.int .u64 ((Mk.p7 l).2 : Int)) (Mk.p7 l).1) from u64r _ q _ _ H6.out.rd).mono ?_
  rintro e v7 ⟨rfl, hr, hgr⟩
  have H7 := Lib.hid (H6.out.read (s' := (Mk.p7 l).1) hr hgr)
  clear hr hgr H6
  go_wp2_with fail
  refine (show Calls Try.prog 36 #[.pointer (some ⟨q, 0, none⟩)] v7 (RdPost v7 q (.int .u32 ((Mk.p8 l).2 : Int)) (Mk.p8 l).1) from u32r _ q _ _ H7.out.rd).mono ?_
  rintro e v8 ⟨rfl, hr, hgr⟩
  have H8 := Lib.hid (H7.out.read (s' := (Mk.p8 l).1) hr hgr)
  clear hr hgr H7
  go_wp2_with fail
  refine (show Calls Try.prog 36 #[.pointer (some ⟨q, 0, none⟩)] v8 (RdPost v8 q (.int .u32 ((Mk.p9 l).2 : Int)) (Mk.p9 l).1) from u32r _ q _ _ H8.out.rd).mono ?_
  rintro e v9 ⟨rfl, hr, hgr⟩
  have H9 := Lib.hid (H8.out.read (s' := (Mk.p9 l).1) hr hgr)
  clear hr hgr H8
  have hbu : Try.prog.built 25 [(0, .bool (Mk.p1 l).2), (1, .int .u32 ((Mk.p2 l).2 : Int)), (2, .int .u32 ((Mk.p3 l).2 : Int)), (3, .int .u64 ((Mk.p4 l).2 : Int)), (4, .int .u64 ((Mk.p5 l).2 : Int)), (5, .int .u64 ((Mk.p6 l).2 : Int)), (6, .int .u64 ((Mk.p7 l).2 : Int)), (7, .int .u32 ((Mk.p8 l).2 : Int)), (8, .int .u32 ((Mk.p9 l).2 : Int))] = some (mc (⟨(Mk.p1 l).2, (Mk.p2 l).2, (Mk.p3 l).2, (Mk.p4 l).2, (Mk.p5 l).2, (Mk.p6 l).2, (Mk.p7 l).2, (Mk.p8 l).2, (Mk.p9 l).2⟩ : Ms)).toArray := built_Mk (Mk.p1 l).2 ((Mk.p2 l).2 : Int) ((Mk.p3 l).2 : Int) ((Mk.p4 l).2 : Int) ((Mk.p5 l).2 : Int) ((Mk.p6 l).2 : Int) ((Mk.p7 l).2 : Int) ((Mk.p8 l).2 : Int) ((Mk.p9 l).2 : Int)
  go_upto_region 5 with (first
    | (refine wpList_alloc_any rfl 25 rfl _ zero_Mk ?_; intro x1 hb1 hs1 hw1)
    | (refine wpList_store_part rfl 25 (.tmp 5) (.tmp 31) rfl v9.heap.size 0 (mc (⟨(Mk.p1 l).2, (Mk.p2 l).2, (Mk.p3 l).2, (Mk.p4 l).2, (Mk.p5 l).2, (Mk.p6 l).2, (Mk.p7 l).2, (Mk.p8 l).2, (Mk.p9 l).2⟩ : Ms)) rfl rfl 25 _ hb1 size_Mk (by simp [mc]) (mc_one _) ?_
       intro x2 hb2 hs2 hk2))
  clear hbu
  obtain ⟨th, hth⟩ : ∃ t : Ms, (⟨(Mk.p1 l).2, (Mk.p2 l).2, (Mk.p3 l).2, (Mk.p4 l).2, (Mk.p5 l).2, (Mk.p6 l).2, (Mk.p7 l).2, (Mk.p8 l).2, (Mk.p9 l).2⟩ : Ms) = t := ⟨_, rfl⟩
  have HRD : Hid (Mk.rd l = th) := by show _ = _; rw [Mk.rd_p l]; exact hth
  have hb2 : Bw x2 v9.heap.size (mc th) 25 := by rw [← hth]; exact hb2
  clear hth
  have hbw : Below v9.heap.size v9 x2 := hw1.trans (hk2.below2 (fun k hk => by omega))
  have HV : Hid (Bw x2 v9.heap.size (mc th) 25) := hb2
  have HRR : Hid (Bw x2 w.heap.size (mc Mk.zero) 25) := H9.out.res.below hbw
  have HRX : Hid (Rd x2 q (Mk.p9 l).1.1 (Mk.p9 l).1.2) := H9.out.rd.kept hbw
  have HBX : Hid (Below w.heap.size w x2) := H9.out.bel.trans (hbw.mono H9.out.bel.size)
  have HNE : Hid (w.heap.size ≠ v9.heap.size ∧ w.heap.size ≤ v9.heap.size) := ⟨by have := H9.out.res.lt; omega, H9.out.bel.size⟩
  clear hb1 hs1 hw1 hb2 hs2 hk2 hbw H9
  generalize v9.heap.size = g at *
  go_wp2_with fail
  refine (end_any _ q _ _ HRX.out).mono ?_
  rintro e v10 ⟨rfl, rfl⟩
  rw [← Mk.bad_p l]
  by_cases hbad : Mk.markC.bad l = 0
  rotate_left
  · have hd : (Mk.markC.bad l != 0) = true := by simpa using hbad
    have HE := Lib.hid (Mk.err_bad l HLN.out hbad)
    clear hbad
    generalize Mk.markC.bad l = z at *
    go_wp2_with (first
      | (refine wpList_build rfl 25 #[] rfl (by show (Try.prog.built _ []).isSome = true; rw [built_Mkz]; rfl) ?_; rw [show (Try.prog.built 25 (Array.map _ #[]).toList) = _ from built_Mkz])
      | (refine wpList_store_part rfl 25 (.tmp 2) (.tmp 36) rfl w.heap.size 0 (mc Mk.zero) rfl rfl 25 _ HRR.out size_Mk (by simp [mc]) (mc_one _) ?_
         intro y hb _ hk
         have HB := Lib.hid hb
         have HK := Lib.hid hk
         clear hb hk))
    exact bodyPost_ret (results_cell rfl _ y w.heap.size (.int .i64 z) HB.out size_Mk (by rfl) (by rfl) Try.underlying25) rfl (by
      rw [HE.out.1, HE.out.2]
      exact ⟨rfl, HBX.out.trans (HK.out.below2 (fun k hk => by omega))⟩)
  rw [hbad]
  have HBD := Lib.hid hbad
  clear hbad HRX
  go_wp2_with (refine wpList_load_part rfl 25 (.tmp 5) rfl _ 0 rfl _ Try.underlying25 rfl (mc th) 25 _ HV.out size_Mk (fun j u hu => by rw [Nat.zero_add]; exact hu) ?_)
  refine (checkM_any th _).mono ?_
  rintro e x3 ⟨rfl, hb⟩
  have HV3 := Lib.hid (HV.out.below hb)
  have HR3 := Lib.hid (HRR.out.below hb)
  have HB3 := Lib.hid (HBX.out.trans (hb.mono HBX.out.size))
  clear hb HV HRR HBX
  have e0 := HV3.out.cell 0 _ rfl
  have e1 := HV3.out.cell 1 _ rfl
  have e2 := HV3.out.cell 2 _ rfl
  have e3 := HV3.out.cell 3 _ rfl
  have e4 := HV3.out.cell 4 _ rfl
  have e5 := HV3.out.cell 5 _ rfl
  have e6 := HV3.out.cell 6 _ rfl
  have e7 := HV3.out.cell 7 _ rfl
  have e8 := HV3.out.cell 8 _ rfl
  have hbz : Try.prog.built 25 [] = some #[.bool false, .int .u32 0, .int .u32 0, .int .u64 0, .int .u64 0, .int .u64 0, .int .u64 0, .int .u32 0, .int .u32 0] := built_Mkz
  by_cases hok : Mk.okM th = true
  rotate_left
  · have HE := Lib.hid (Mk.err_no l HLN.out HBD.out (by rw [HRD.out]; exact fun h => hok h.1))
    rw [show Mk.chkM th = 1 from if_neg hok]
    clear hok
    go_wp2_with (first
      | (refine wpList_build rfl 25 #[] rfl (by show (Try.prog.built _ []).isSome = true; rw [built_Mkz]; rfl) ?_; rw [show (Try.prog.built 25 (Array.map _ #[]).toList) = _ from built_Mkz])
      | (refine wpList_store_part rfl 25 (.tmp 2) (.tmp 46) rfl w.heap.size 0 (mc Mk.zero) rfl rfl 25 _ HR3.out size_Mk (by simp [mc]) (mc_one _) ?_
         intro y hb _ hk
         have HB := Lib.hid hb
         have HK := Lib.hid hk
         clear hb hk))
    exact bodyPost_ret (results_cell rfl _ y w.heap.size (.int .i64 11) HB.out size_Mk (by rfl) (by rfl) Try.underlying25) rfl (by
      rw [HE.out.1, HE.out.2]
      exact ⟨rfl, HB3.out.trans (HK.out.below2 (fun k hk => by omega))⟩)
  rw [show Mk.chkM th = 0 from if_pos hok]
  have heq : ∀ W : World, (binOp .eql 25 (.agg #[.bool th.ow, .int .u32 (th.ph : Int), .int .u32 (th.pr : Int), .int .u64 (th.ep : Int), .int .u64 (th.sq : Int), .int .u64 (th.fr : Int), .int .u64 (th.gl : Int), .int .u32 (th.nx : Int), .int .u32 (th.rn : Int)]) (.agg #[.bool false, .int .u32 0, .int .u32 0, .int .u64 0, .int .u64 0, .int .u64 0, .int .u64 0, .int .u32 0, .int .u32 0])).run Try.prog W = .ok (.bool (decide (th = Mk.zero))) W := mEq th Mk.zero
  by_cases hzr : th = Mk.zero
  · have HE := Lib.hid (Mk.err_no l HLN.out HBD.out (by rw [HRD.out]; exact fun h => h.2 hzr))
    rw [decide_eq_true hzr] at heq
    clear hok hzr
    go_wp2_with (first
      | (refine wpList_build rfl 25 #[] rfl (by show (Try.prog.built _ []).isSome = true; rw [built_Mkz]; rfl) ?_; rw [show (Try.prog.built 25 (Array.map _ #[]).toList) = _ from built_Mkz])
      | (refine wpList_store_part rfl 25 (.tmp 2) (.tmp 46) rfl w.heap.size 0 (mc Mk.zero) rfl rfl 25 _ HR3.out size_Mk (by simp [mc]) (mc_one _) ?_
         intro y hb _ hk
         have HB := Lib.hid hb
         have HK := Lib.hid hk
         clear hb hk))
    exact bodyPost_ret (results_cell rfl _ y w.heap.size (.int .i64 11) HB.out size_Mk (by rfl) (by rfl) Try.underlying25) rfl (by
      rw [HE.out.1, HE.out.2]
      exact ⟨rfl, HB3.out.trans (HK.out.below2 (fun k hk => by omega))⟩)
  have HE := Lib.hid (Mk.err_yes l HLN.out HBD.out (by rw [HRD.out]; exact hok) (by rw [HRD.out]; exact hzr))
  rw [decide_eq_false hzr] at heq
  clear hok hzr
  go_wp2_with (first
    | (refine wpList_load_part rfl 25 (.tmp 5) rfl _ 0 rfl _ Try.underlying25 rfl (mc th) 25 _ HV3.out size_Mk (fun j u hu => by rw [Nat.zero_add]; exact hu) ?_)
    | (refine wpList_store_part rfl 25 (.tmp 2) (.tmp 47) rfl w.heap.size 0 (mc th) rfl rfl 25 _ HR3.out size_Mk (by simp [mc]) (mc_one _) ?_
       intro y hb _ hk
       have HB := Lib.hid hb
       have HK := Lib.hid hk
       clear hb hk))
  exact bodyPost_ret (results_cell rfl _ y w.heap.size (.int .i64 0) HB.out size_Mk (by rfl) (by rfl) Try.underlying25) rfl (by
    rw [HE.out.1, HE.out.2, HRD.out]
    exact ⟨rfl, HB3.out.trans (HK.out.below2 (fun k hk => by omega))⟩)
end Go.Proofs.Ytjionpkflpnejaa

namespace Go.Proofs.Ytjionpkflpnejaa

/-- The first place of a name, of entries of one name and none of it. -/
theorem fnd_none {es : List En} {nm : List UInt8} (h : ∀ e ∈ es, e.nm ≠ nm) : fnd es nm = -1 := by
  unfold fnd
  rw [if_neg]
  rw [List.findIdx_lt_length]
  rintro ⟨e, he, hn⟩
  exact h e he (by simpa using hn)
theorem fnd_mid {xs ys : List En} {e : En} (h : ∀ x ∈ xs, x.nm ≠ e.nm) : fnd (xs ++ e :: ys) e.nm = (xs.length : Int) := by
  have h1 : (xs ++ e :: ys).findIdx (fun x => x.nm == e.nm) = xs.length := by
    rw [List.findIdx_append]
    have h2 : xs.findIdx (fun x => x.nm == e.nm) = xs.length := by
      rw [List.findIdx_eq_length]
      intro x hx
      simpa using h x hx
    rw [h2, if_neg (by omega), List.findIdx_cons]
    simp
  unfold fnd
  rw [h1, if_pos (by simp)]
theorem rem_mid {xs ys : List En} {e : En} (h : ∀ x ∈ xs, x.nm ≠ e.nm) : remE (xs ++ e :: ys) e.nm = 0 ∧ remL (xs ++ e :: ys) e.nm = xs ++ ys := by
  have h1 := fnd_mid (ys := ys) h
  refine ⟨by unfold remE; rw [h1, if_neg (by omega)], ?_⟩
  unfold remL
  rw [h1, if_neg (by omega), Int.toNat_natCast]
  simp
theorem rem_none {es : List En} {nm : List UInt8} (h : ∀ e ∈ es, e.nm ≠ nm) : remE es nm = 60 := by
  unfold remE
  rw [fnd_none h, if_pos (by omega)]
/-- The letters that are there. -/
def mkE (i : Nat) : En := ⟨i + 5, 0, 0, [nb i]⟩
def ltr (p : Nat → Bool) (n : Nat) : List En := ((List.range n).filter p).map mkE
theorem ltr_zero (p : Nat → Bool) : ltr p 0 = [] := rfl
theorem ltr_succ (p : Nat → Bool) (n : Nat) : ltr p (n + 1) = ltr p n ++ if p n then [mkE n] else [] := by
  unfold ltr
  rw [List.range_succ, List.filter_append, List.map_append]
  cases h : p n <;> simp [List.filter, h]
theorem ltr_congr {p q : Nat → Bool} {n : Nat} (h : ∀ i, i < n → p i = q i) : ltr p n = ltr q n := by
  unfold ltr
  congr 1
  apply List.filter_congr
  intro i hi
  exact h i (List.mem_range.1 hi)
theorem ltr_mem {p : Nat → Bool} {n : Nat} {e : En} (h : e ∈ ltr p n) : ∃ i, i < n ∧ p i = true ∧ e = mkE i := by
  unfold ltr at h
  obtain ⟨i, h1, h2⟩ := List.mem_map.1 h
  obtain ⟨h3, h4⟩ := List.mem_filter.1 h1
  exact ⟨i, List.mem_range.1 h3, h4, h2.symm⟩
theorem ltr_len (p : Nat → Bool) (n : Nat) : (ltr p n).length ≤ n := by
  unfold ltr
  rw [List.length_map]
  exact Nat.le_trans (List.length_filter_le _ _) (by simp)
theorem ltr_split (p : Nat → Bool) {k : Nat} : ∀ n, k < n → ∃ ys, ltr p n = ltr p k ++ (if p k then [mkE k] else []) ++ ys ∧ ltr (upd p k false) n = ltr p k ++ ys
  | 0, h => absurd h (by omega)
  | n + 1, h => by
    by_cases hk : k = n
    · subst hk
      refine ⟨[], by rw [ltr_succ, List.append_nil], ?_⟩
      rw [ltr_succ, List.append_nil]
      rw [ltr_congr (q := p) (fun i hi => by simp only [upd]; rw [if_neg (by omega)])]
      simp [upd]
    · obtain ⟨ys, h1, h2⟩ := ltr_split p (k := k) n (by omega)
      refine ⟨ys ++ if p n then [mkE n] else [], ?_, ?_⟩
      · rw [ltr_succ, h1, List.append_assoc]
      · rw [ltr_succ, h2, List.append_assoc]
        have : upd p k false n = p n := by simp only [upd]; rw [if_neg (by omega)]
        rw [this]
theorem mkE_wide {i : Nat} (h : i < 1000) : (mkE i).Wide := ⟨by show i + 5 < _; omega, by show 0 < _; omega, by show 0 < _; omega⟩
theorem ltr_wide {p : Nat → Bool} {n : Nat} (hn : n ≤ 1000) : ∀ x ∈ ltr p n, x.Wide := by
  intro x hx
  obtain ⟨i, h1, _, rfl⟩ := ltr_mem hx
  exact mkE_wide (by omega)
theorem ltr_other {p : Nat → Bool} {n k : Nat} (hn : n ≤ k) (hk : k < 100) : ∀ x ∈ ltr p n, x.nm ≠ (mkE k).nm := by
  intro x hx e
  obtain ⟨i, h1, _, rfl⟩ := ltr_mem hx
  have : nb i = nb k := by simpa [mkE] using e
  have := nb_inj (by omega) hk this
  omega
theorem ltr_rem (p : Nat → Bool) {k n : Nat} (hk : k < n) (hn : n ≤ 100) : remE (ltr p n) [nb k] = (if p k then 0 else 60) ∧ (p k = true → remL (ltr p n) [nb k] = ltr (upd p k false) n) := by
  obtain ⟨ys, h1, h2⟩ := ltr_split p n hk
  cases hp : p k
  · refine ⟨?_, fun h => by cases h⟩
    rw [if_neg (by simp)]
    apply rem_none
    intro e he hne
    obtain ⟨i, h3, h4, rfl⟩ := ltr_mem he
    have h5 : nb i = nb k := by simpa [mkE] using hne
    have := nb_inj (by omega) (by omega) h5
    subst this
    rw [hp] at h4
    cases h4
  · rw [hp, if_pos rfl, List.append_assoc] at h1
    have := rem_mid (xs := ltr p k) (ys := ys) (e := mkE k) (ltr_other (Nat.le_refl _) (by omega))
    rw [h1, h2]
    refine ⟨?_, fun _ => this.2⟩
    rw [if_pos rfl]
    exact this.1
/-- What comes at place i, behind those ahead of it. -/
theorem ltr_at (p : Nat → Bool) {k n : Nat} (hk : k < n) (hp : p k = true) : ∃ hj : (ltr p k).length < (ltr p n).length, (ltr p n)[(ltr p k).length] = mkE k := by
  obtain ⟨ys, h1, _⟩ := ltr_split p n hk
  rw [hp, if_pos rfl] at h1
  have h2 : (ltr p k).length < (ltr p n).length := by rw [h1]; simp
  refine ⟨h2, ?_⟩
  simp [h1]
theorem lastCk_snoc (es : List En) (e : En) : lastCk (es ++ [e]) = e.ck := by
  unfold lastCk lastAt
  simp
theorem lastCk_lt {es : List En} {b : Nat} (hb : 0 < b) (h : ∀ e ∈ es, e.ck < b) : lastCk es < b := by
  unfold lastCk lastAt
  split
  · exact hb
  · rename_i h0
    rw [List.getD_eq_getElem?_getD, List.getElem?_eq_getElem (by omega)]
    exact h _ (List.getElem_mem _)
theorem add_ok {es : List En} {e : En} (h1 : nameOk e.nm = true) (h2 : ∀ x ∈ es, x.nm ≠ e.nm) (h3 : lastCk es < e.ck) : addE es e = 0 ∧ addL es e = es ++ [e] := by
  have : addE es e = 0 := by
    unfold addE
    rw [if_neg (by rw [h1]; simp), fnd_none h2, if_neg (by omega), if_neg (by omega)]
  exact ⟨this, if_pos this⟩
theorem ltr_add (k : Nat) (hk : k < 100) (p : Nat → Bool) (hp : p k = true) : addE (ltr p k) (mkE k) = 0 ∧ addL (ltr p k) (mkE k) = ltr p (k + 1) := by
  have := add_ok (es := ltr p k) (e := mkE k) (nb_ok hk) (ltr_other (Nat.le_refl _) hk) (lastCk_lt (by show 0 < k + 5; omega) fun e he => by
    obtain ⟨i, h1, _, rfl⟩ := ltr_mem he
    show i + 5 < k + 5
    omega)
  refine ⟨this.1, ?_⟩
  rw [this.2, ltr_succ, hp, if_pos rfl]
end Go.Proofs.Ytjionpkflpnejaa

namespace Go.Proofs.Ytjionpkflpnejaa
open Go.RowKit Go.Shelf

theorem upd_lt (k : Nat) : upd (fun i => decide (i < k)) k true = fun i => decide (i < k + 1) := by
  funext i
  simp only [upd]
  split
  · rename_i h; rw [h]; simp
  · rename_i h
    exact decide_eq_decide.2 (by omega)
theorem ltr_init (k n : Nat) (h : k ≤ n) : ltr (fun i => decide (i < k)) n = ltr (fun i => decide (i < k)) k := by
  induction n with
  | zero => obtain rfl : k = 0 := by omega
            rfl
  | succ n ih =>
    by_cases hk : k = n + 1
    · rw [hk]
    · rw [ltr_succ, ih (by omega), decide_eq_false (by omega)]
      simp
theorem wrap_u8 {x : Int} (h : 0 ≤ x) (h2 : x < 256) : IntKind.u8.wrap x = x := IntWalk.u8_in _ (by omega)
theorem wrap_u64 {x : Int} (h : 0 ≤ x) (h2 : x < 18446744073709551616) : IntKind.u64.wrap x = x := IntWalk.u64_in _ (by omega)

end Go.Proofs.Ytjionpkflpnejaa

namespace Go.Proofs.Ytjionpkflpnejaa

theorem getD_app_lt {es : List En} {e : En} {k : Nat} (h : k < es.length) : (es ++ [e]).getD k default = es.getD k default := by
  rw [List.getD_eq_getElem?_getD, List.getD_eq_getElem?_getD, List.getElem?_append_left h]
theorem lastAt_app {es : List En} {e : En} {k : Nat} (h : k ≤ es.length) : lastAt (es ++ [e]) k = lastAt es k := by
  unfold lastAt
  split
  · rfl
  · rename_i h0
    rw [getD_app_lt (by omega)]
theorem okB_snoc {es : List En} {e : En} (h : okB es = true) (h1 : nameOk e.nm = true) (h2 : ∀ x ∈ es, x.nm ≠ e.nm) (h3 : lastCk es < e.ck) : okB (es ++ [e]) = true := by
  unfold okB at h ⊢
  rw [Bool.and_eq_true, List.all_eq_true, decide_eq_true_eq] at h ⊢
  obtain ⟨ha, hn⟩ := h
  refine ⟨fun k hk => ?_, ?_⟩
  · have hk' : k < es.length + 1 := by simpa using hk
    unfold stepOk
    by_cases hl : k < es.length
    · have := ha k (List.mem_range.2 hl)
      unfold stepOk at this
      rw [getD_app_lt hl, lastAt_app (by omega)]
      exact this
    · obtain rfl : k = es.length := by omega
      rw [lastAt_app (Nat.le_refl _)]
      have : (es ++ [e]).getD es.length default = e := by simp [List.getD_eq_getElem?_getD]
      rw [this, h1]
      simpa [lastCk] using h3
  · rw [List.map_append, List.nodup_append]
    refine ⟨hn, by simp, ?_⟩
    intro a ha' b hb
    obtain ⟨x, hx, rfl⟩ := List.mem_map.1 ha'
    simp only [List.map_cons, List.map_nil, List.mem_singleton] at hb
    rw [hb]
    exact h2 x hx
theorem fnd_some {es : List En} {nm : List UInt8} (h : ∃ e ∈ es, e.nm = nm) : 0 ≤ fnd es nm := by
  obtain ⟨e, he, hn⟩ := h
  unfold fnd
  rw [if_pos]
  · omega
  · rw [List.findIdx_lt_length]
    exact ⟨e, he, by simpa using hn⟩
theorem encs_le2 {m : Nat} : ∀ es : List En, (∀ e ∈ es, e.nm.length ≤ m) → (encs es).length ≤ es.length * (23 + m)
  | [], _ => Nat.zero_le _
  | e :: r, h => by
    have ih := encs_le2 r fun x hx => h x (List.mem_cons_of_mem _ hx)
    have h1 := h e (List.mem_cons_self ..)
    have h2 : pad e.nm.length ≤ 3 := by unfold pad; omega
    rw [encs_cons, List.length_append, enc1_length, List.length_cons, Nat.succ_mul]
    omega
theorem okB_nil : okB [] = true := rfl
/-- What DirAdds knows: the entries, and which letters are there. -/
structure AI (i : Nat) (p : Nat → Bool) (es : List En) : Prop where
  ok : okB es = true
  wide : ∀ e ∈ es, e.Wide
  last : lastCk es ≤ i
  len : es.length ≤ i
  has : ∀ k, k < 26 → (p k = true ↔ ∃ e ∈ es, e.nm = [nb k])
def addX (i k : Nat) : En := ⟨i + 1, i, 0, [nb k]⟩
theorem AI.nil : AI 0 (fun _ => false) [] := ⟨rfl, (fun e h => by cases h), Nat.le_refl _, Nat.le_refl _, fun k _ => ⟨fun h => by (cases h), fun ⟨e, h, _⟩ => by cases h⟩⟩
theorem AI.skip {i : Nat} {p : Nat → Bool} {es : List En} (h : AI i p es) : AI (i + 1) p es := ⟨h.ok, h.wide, by have := h.last; omega, by have := h.len; omega, h.has⟩
theorem addX_wide {i k : Nat} (h : i < 1000) : (addX i k).Wide := ⟨by show i + 1 < _; omega, by show i < _; omega, by show 0 < _; omega⟩
theorem AI.old {i k : Nat} {p : Nat → Bool} {es : List En} (h : AI i p es) (hk : k < 26) (hp : p k = true) : addE es (addX i k) = 61 ∧ addL es (addX i k) = [] := by
  have : addE es (addX i k) = 61 := by
    unfold addE
    rw [if_neg (by rw [show (addX i k).nm = [nb k] from rfl, nb_ok (by omega)]; simp), if_pos (show 0 ≤ fnd es (addX i k).nm from fnd_some ((h.has k hk).1 hp))]
  refine ⟨this, ?_⟩
  unfold addL
  rw [this, if_neg (by omega)]
theorem AI.new {i k : Nat} {p : Nat → Bool} {es : List En} (h : AI i p es) (hk : k < 26) (hi : i < 1000) (hp : p k = false) :
    addE es (addX i k) = 0 ∧ addL es (addX i k) = es ++ [addX i k] ∧ fnd (es ++ [addX i k]) [nb k] = (es.length : Int) ∧ fnd es [nb k] = -1 ∧ AI (i + 1) (upd p k true) (es ++ [addX i k]) := by
  have hno : ∀ x ∈ es, x.nm ≠ (addX i k).nm := fun x hx e => by
    have := (h.has k hk).2 ⟨x, hx, e⟩
    rw [hp] at this
    cases this
  have hlt : lastCk es < (addX i k).ck := by
    have := h.last
    show lastCk es < i + 1
    omega
  have hok := nb_ok (g := k) (by omega)
  obtain ⟨a1, a2⟩ := add_ok (e := addX i k) hok hno hlt
  refine ⟨a1, a2, fnd_mid (ys := []) hno, fnd_none hno, okB_snoc h.ok hok hno hlt, ?_, ?_, ?_, ?_⟩
  · intro e he
    rcases List.mem_append.1 he with h1 | h1
    · exact h.wide e h1
    · rw [List.mem_singleton.1 h1]
      exact addX_wide hi
  · rw [lastCk_snoc]
    exact Nat.le_refl _
  · have := h.len
    rw [List.length_append]
    simp
    exact this
  · intro j hj
    by_cases hjk : j = k
    · subst hjk
      simp only [upd, if_true, true_iff]
      exact ⟨addX i j, by simp, rfl⟩
    · simp only [upd, if_neg hjk]
      rw [h.has j hj]
      constructor
      · rintro ⟨e, he, hn⟩
        exact ⟨e, List.mem_append_left _ he, hn⟩
      · rintro ⟨e, he, hn⟩
        rcases List.mem_append.1 he with h1 | h1
        · exact ⟨e, h1, hn⟩
        · rw [List.mem_singleton.1 h1] at hn
          have : nb k = nb j := by simpa [addX] using hn
          exact absurd (nb_inj (by omega) (by omega) this).symm hjk
theorem put_len {es : List En} (h : okB es = true) {n : Nat} (hn : es.length ≤ n) : (putE es).length ≤ n * 47 := by
  have h1 := encs_le2 es (okB_names es h)
  have : putE es = encs es := if_pos h
  rw [this]
  have h2 : es.length * (23 + 24) ≤ n * 47 := Nat.mul_le_mul_right _ hn
  omega
theorem chk_ok {es : List En} (h : okB es = true) : chkE es = 0 := if_pos h
end Go.Proofs.Ytjionpkflpnejaa

namespace Go.Proofs.Ytjionpkflpnejaa
open Go.RowKit Go.Shelf

theorem parts_mono {l : List UInt8} {k : Nat} (h : parts (l.take k) = true) : parts l = true := by
  unfold parts at h ⊢
  rw [List.any_eq_true] at h ⊢
  obtain ⟨x, hx, h2⟩ := h
  exact ⟨x, List.mem_of_mem_take hx, h2⟩
theorem nameE_parts {l : List UInt8} (h : parts l = true) : nameE l = 67 := by
  unfold nameE
  rw [nameOk_head, h]
  simp
theorem nameE_head {l : List UInt8} (h : headOk l = false) : nameE l = 67 := by
  unfold nameE
  rw [nameOk_head, h]
  simp
theorem nameE_ok {l : List UInt8} (h : headOk l = true) (h2 : parts l = false) : nameE l = 0 := by
  unfold nameE
  rw [nameOk_head, h, h2]
  simp

theorem fnd_at {es : List En} {nm : List UInt8} {k : Nat} (hk : k < es.length) (hno : ∀ x ∈ es.take k, x.nm ≠ nm) (he : es[k].nm = nm) : fnd es nm = (k : Int) := by
  have h1 : es = es.take k ++ es[k] :: es.drop (k + 1) := by
    rw [List.getElem_cons_drop]
    exact (List.take_append_drop k es).symm
  have h2 := fnd_mid (xs := es.take k) (ys := es.drop (k + 1)) (e := es[k]) (by rw [he]; exact hno)
  rw [← h1, he, List.length_take, Nat.min_eq_left (Nat.le_of_lt hk)] at h2
  exact h2

end Go.Proofs.Ytjionpkflpnejaa

namespace Go.Proofs.Ytjionpkflpnejaa
open Go.RowKit Go.Shelf

theorem lastAt_next {es : List En} {k : Nat} (hk : k < es.length) : lastAt es (k + 1) = es[k].ck := by
  unfold lastAt
  rw [if_neg (by omega), List.getD_eq_getElem?_getD, show k + 1 - 1 = k by omega, List.getElem?_eq_getElem hk]
  rfl
theorem okB_before {es : List En} (h : okB es = true) {k : Nat} (hk : k < es.length) : ∀ x ∈ es.take k, x.nm ≠ es[k].nm := by
  have h1 : es = es.take k ++ es[k] :: es.drop (k + 1) := by
    rw [List.getElem_cons_drop]
    exact (List.take_append_drop k es).symm
  unfold okB at h
  rw [Bool.and_eq_true, decide_eq_true_eq] at h
  have h2 := h.2
  generalize es[k] = e at *
  rw [h1, List.map_append, List.nodup_append] at h2
  intro x hx
  exact h2.2.2 x.nm (List.mem_map_of_mem hx) e.nm (by simp)
theorem fnd_before {es : List En} {nm : List UInt8} {k : Nat} (h : fnd es nm = (k : Int)) : ∀ x ∈ es.take k, x.nm ≠ nm := by
  unfold fnd at h
  split at h
  · have h1 : es.findIdx (fun e => e.nm == nm) = k := by omega
    intro x hx e
    obtain ⟨j, hj, rfl⟩ := List.getElem_of_mem hx
    rw [List.length_take] at hj
    rw [List.getElem_take] at e
    have := List.not_of_lt_findIdx (p := fun e : En => e.nm == nm) (xs := es) (i := j) (by omega)
    simp [e] at this
  · omega
theorem lastCk_take {es : List En} {k : Nat} (hk : k ≤ es.length) : lastCk (es.take k) = lastAt es k := by
  unfold lastCk
  rw [List.length_take, Nat.min_eq_left hk]
  unfold lastAt
  split
  · rfl
  · rename_i h0
    rw [List.getD_eq_getElem?_getD, List.getD_eq_getElem?_getD, List.getElem?_take_of_lt (by omega)]
/-- One entry more that may be. -/
theorem okB_more {es : List En} {k : Nat} (hk : k < es.length) (h : okB (es.take k) = true) (h1 : nameOk es[k].nm = true) (h2 : fnd es es[k].nm = (k : Int)) (h3 : lastAt es k < es[k].ck) : okB (es.take (k + 1)) = true := by
  rw [List.take_succ_eq_append_getElem hk]
  exact okB_snoc h h1 (fnd_before h2) (by rw [lastCk_take (by omega)]; exact h3)
theorem okB_bad {es : List En} {k : Nat} (hk : k < es.length) (h : ¬ (nameOk es[k].nm = true ∧ lastAt es k < es[k].ck ∧ fnd es es[k].nm = (k : Int))) : okB es = false := by
  cases ho : okB es
  · rfl
  · have h1 := okB_at es ho k hk
    exact absurd ⟨h1.1, h1.2, fnd_at hk (okB_before ho hk) rfl⟩ h
theorem fnd_zero {es : List En} (h : 0 < es.length) : fnd es es[0].nm = ((0 : Nat) : Int) := fnd_at h (fun x hx => by cases hx) rfl

end Go.Proofs.Ytjionpkflpnejaa

namespace Go.Proofs.Ytjionpkflpnejaa
open Go.RowKit

theorem rdN4_lt (s : St) : (rdN 4 s).2 < 4294967296 := by
  unfold rdN
  split
  · simp
  · split
    · simp
    · simp only
      have h1 := num_lt (s.1.take 4)
      have h2 : (s.1.take 4).length ≤ 4 := by rw [List.length_take]; omega
      have := Nat.pow_le_pow_right (n := 256) (by omega) h2
      omega

end Go.Proofs.Ytjionpkflpnejaa

namespace Go.Proofs.Ytjionpkflpnejaa
open Go.RowKit Go.Shelf

theorem size_R : (Try.prog.info? 77).map (·.size) = some 2 := by kernel_rfl
theorem zero_R : (Try.prog.info? 77).bind (·.zero) = some (.agg #[.string (txt []), .int .i64 0]) := by kernel_rfl
theorem built_R (b : ByteArray) : Try.prog.built 77 [(0, .string b)] = some #[.string b, .int .i64 0] := by kernel_rfl
section
variable {w W W' : World} {q g : Nat} {s s' : List UInt8} {er er' : Int} {es : List En} {A : Option Addr} {c : Nat} {e e' : En}
end

end Go.Proofs.Ytjionpkflpnejaa

namespace Go.Proofs.Ytjionpkflpnejaa
open Go.RowKit

/-- All that is not of S is as it was. -/
def Fr (S : Nat → Prop) (w w' : World) : Prop := Keep (fun k => k < w.heap.size ∧ ¬ S k) w w'

theorem Fr.refl (S : Nat → Prop) (w : World) : Fr S w w := Keep.refl _ _
theorem Fr.trans {S S' : Nat → Prop} {w w1 w2 : World} (h : Fr S w w1) (h2 : Fr S' w1 w2) (hS : ∀ k, S' k → S k ∨ w.heap.size ≤ k) : Fr S w w2 :=
  Keep.trans h (h2.mono fun k hk => ⟨Nat.lt_of_lt_of_le hk.1 h.size, fun h' => by rcases hS k h' with h' | h'; exact hk.2 h'; omega⟩)
theorem Fr.of_below {S : Nat → Prop} {w w' : World} (h : Below w.heap.size w w') : Fr S w w' := (Keep.of_below h).mono fun _ hk => hk.1
theorem Fr.mono {S S' : Nat → Prop} {w w' : World} (h : Fr S w w') (hS : ∀ k, S k → S' k) : Fr S' w w' := Keep.mono h fun k hk => ⟨hk.1, fun h' => hk.2 (hS k h')⟩
theorem Fr.below {S : Nat → Prop} {w w' : World} (h : Fr S w w') {B : Nat} (hB : B ≤ w.heap.size) (hS : ∀ k, S k → B ≤ k) : Below B w w' :=
  Keep.below (Keep.mono h fun k hk => ⟨Nat.lt_of_lt_of_le hk hB, fun h' => by have := hS k h'; omega⟩)

theorem BS.keepK {K : Nat → Prop} {w w' : World} {A : Option Addr} {n : Nat} {l : List UInt8} (h : BS w A n l) (hk : Keep K w w') (hA : 0 < n → ∀ ad, A = some ad → K ad.block) : BS w' A n l :=
  ⟨h.1, fun hn => by
    obtain ⟨b, o, e, hc⟩ := h.2 hn
    exact ⟨b, o, e, fun j hj => (World.cell?_of_block (hk.block b (hA hn _ e))).trans (hc j hj)⟩⟩

/-- A slice as it lies in a cell. -/
structure Sl where
  a : Option Addr
  n : Nat
  c : Nat
def Sl.v (x : Sl) : Value := .slice x.a x.n x.c
/-- A slice of writes, of blocks X. -/
def WS (w : World) (X : Nat → Prop) (A : Option Addr) (n : Nat) (l : List (Int × List UInt8)) : Prop :=
  l.length = n ∧ (0 < n → ∃ b o, A = some ⟨b, o, none⟩ ∧ X b ∧ ∀ k (h : k < l.length), ∃ x : Sl, w.cell? ⟨b, o + k * 2, none⟩ = some (.int .i64 l[k].1) ∧ w.cell? ⟨b, o + k * 2 + 1, none⟩ = some (.slice x.a x.n x.c) ∧ BS w x.a x.n l[k].2 ∧ x.n ≤ x.c ∧ (0 < x.n → ∀ ad, x.a = some ad → X ad.block))
section
variable {w w' : World} {X : Nat → Prop} {A : Option Addr} {n : Nat} {l : List (Int × List UInt8)}
theorem WS.nil : WS w X A 0 [] := ⟨rfl, fun h => absurd h (by omega)⟩
theorem WS.keepK (h : WS w X A n l) (hk : Keep X w w') : WS w' X A n l := by
  refine ⟨h.1, fun hn => ?_⟩
  obtain ⟨b, o, e, hX, hc⟩ := h.2 hn
  refine ⟨b, o, e, hX, fun k hk' => ?_⟩
  obtain ⟨x, h1, h2, h3, h4, h5⟩ := hc k hk'
  exact ⟨x, (World.cell?_of_block (a := ⟨b, o + k * 2, none⟩) (hk.block b hX)).trans h1, (World.cell?_of_block (a := ⟨b, o + k * 2 + 1, none⟩) (hk.block b hX)).trans h2, h3.keepK hk h5, h4, h5⟩
theorem WS.fr (h : WS w X A n l) {T : Nat → Prop} (hf : Fr T w w') (hd : ∀ k, X k → k < w.heap.size ∧ ¬ T k) : WS w' X A n l := h.keepK (Keep.mono hf hd)
theorem WS.mono (h : WS w X A n l) {Y : Nat → Prop} (hY : ∀ k, X k → Y k) : WS w Y A n l := by
  refine ⟨h.1, fun hn => ?_⟩
  obtain ⟨b, o, e, hX, hc⟩ := h.2 hn
  refine ⟨b, o, e, hY b hX, fun k hk' => ?_⟩
  obtain ⟨x, h1, h2, h3, h4, h5⟩ := hc k hk'
  exact ⟨x, h1, h2, h3, h4, fun hn ad e => hY _ (h5 hn ad e)⟩
theorem WS.at (h : WS w X A n l) (k : Nat) (hk : k < n) : ∃ b o x, ∃ hl : k < l.length, A = some ⟨b, o, none⟩ ∧ X b ∧ w.cell? ⟨b, o + k * 2, none⟩ = some (.int .i64 l[k].1) ∧ w.cell? ⟨b, o + k * 2 + 1, none⟩ = some (.slice (Sl.a x) x.n x.c) ∧ BS w x.a x.n l[k].2 ∧ x.n ≤ x.c ∧ (0 < x.n → ∀ ad, x.a = some ad → X ad.block) := by
  have hl : k < l.length := by rw [h.1]; exact hk
  obtain ⟨b, o, e, hX, hc⟩ := h.2 (by omega)
  obtain ⟨x, h1, h2, h3, h4, h5⟩ := hc k hl
  exact ⟨b, o, x, hl, e, hX, h1, h2, h3, h4, h5⟩
end

theorem Own.new {w w' : World} {A : Option Addr} {n c : Nat} {l : List UInt8} (h : Own w w' A n c l) : ∀ ad, A = some ad → w.heap.size ≤ ad.block := by
  intro ad e
  rcases h.1.2 with ⟨h1, _⟩ | ⟨g, cap, cur, h1, h2, _⟩
  · injection h1 with h1 _ _
    rw [h1] at e
    cases e
  · injection h1 with h1 _ _
    rw [h1] at e
    cases e
    exact h2
/-- A write as cells. -/
def wv (i : Int) (x : Sl) : List Value := [.int .i64 i, .slice x.a x.n x.c]
theorem size_wr : (Try.prog.info? 70).map (·.size) = some 2 := by kernel_rfl
theorem zero_wr : (Try.prog.info? 70).bind (·.zero) = some (.agg (wv 0 ⟨none, 0, 0⟩).toArray) := by kernel_rfl
theorem wv_one (i : Int) (x : Sl) : (wv i x).toArray.all (·.oneCell') = true := by simp [wv, Value.oneCell']
theorem WS.news {w : World} {b o : Nat} {i : Int} {x : Sl} (h1 : w.cell? ⟨b, o, none⟩ = some (.int .i64 i)) (h2 : w.cell? ⟨b, o + 1, none⟩ = some (.slice x.a x.n x.c)) : ∀ j u, (wv i x)[j]? = some u → w.cell? ((⟨b, o, none⟩ : Addr).add j) = some u := by
  intro j u hu
  rw [add_plain]
  match j with
  | 0 => simp [wv] at hu; subst hu; exact h1
  | 1 => simp [wv] at hu; subst hu; exact h2
  | n + 2 => simp [wv] at hu

/-- The cells of writes. -/
def wcs : List (Nat × List UInt8) → List Sl → List Value
  | x :: l, s :: r => wv x.1 s ++ wcs l r
  | _, _ => []
theorem wcs_len : ∀ (l : List (Nat × List UInt8)) (sl : List Sl), sl.length = l.length → (wcs l sl).length = l.length * 2
  | [], _, _ => by simp [wcs]
  | x :: l, [], h => by simp at h
  | x :: l, s :: r, h => by
    have := wcs_len l r (by simpa using h)
    simp only [wcs, List.length_append, this, List.length_cons]
    simp [wv]
    omega
theorem wcs_snoc : ∀ (l : List (Nat × List UInt8)) (sl : List Sl) (x : Nat × List UInt8) (s : Sl), sl.length = l.length → wcs (l ++ [x]) (sl ++ [s]) = wcs l sl ++ wv x.1 s
  | [], [], x, s, _ => by simp [wcs]
  | [], _ :: _, _, _, h => by simp at h
  | _ :: _, [], _, _, h => by simp at h
  | y :: l, t :: r, x, s, h => by
    simp only [List.cons_append, wcs, wcs_snoc l r x s (by simpa using h), List.append_assoc]
theorem wcs_get : ∀ (l : List (Nat × List UInt8)) (sl : List Sl) (h : sl.length = l.length) (k : Nat) (hk : k < l.length), (wcs l sl)[k * 2]? = some (.int .i64 (l[k].1 : Int)) ∧ (wcs l sl)[k * 2 + 1]? = some (.slice (sl[k]'(by omega)).a (sl[k]'(by omega)).n (sl[k]'(by omega)).c)
  | [], _, _, k, hk => by simp at hk
  | _ :: _, [], h, _, _ => by simp at h
  | x :: l, s :: r, h, k, hk => by
    match k with
    | 0 => simp [wcs, wv]
    | k + 1 =>
      have := wcs_get l r (by simpa using h) k (by simpa using hk)
      simp only [wcs]
      rw [show (k + 1) * 2 = k * 2 + 2 by omega, List.getElem?_append_right (by simp [wv]), List.getElem?_append_right (by simp [wv])]
      simpa [wv] using this
/-- Writes in a row of the call's own. -/
structure WR (W : World) (base : Nat) (A : Option Addr) (c : Nat) (l : List (Nat × List UInt8)) (sl : List Sl) : Prop where
  len : sl.length = l.length
  row : W.ownsRow base 70 2 (.slice A l.length c) l.length (wcs l sl)
  bs : ∀ i (h : i < sl.length), BS W sl[i].a sl[i].n (l[i]'(by rw [← len]; exact h)).2
  cap : ∀ i (h : i < sl.length), sl[i].n ≤ sl[i].c
  own : ∀ i (h : i < sl.length), 0 < sl[i].n → ∀ ad, sl[i].a = some ad → base ≤ ad.block
  off : ∀ i (h : i < sl.length), 0 < sl[i].n → ∀ ad, sl[i].a = some ad → (Value.slice A l.length c).ownBlock ≠ some ad.block
theorem WR.ws {W : World} {base : Nat} {A : Option Addr} {c : Nat} {l : List (Nat × List UInt8)} {sl : List Sl} (h : WR W base A c l sl) : WS W (fun k => base ≤ k) A l.length (l.map fun x => ((x.1 : Int), x.2)) := by
  refine ⟨by simp, fun hn => ?_⟩
  rcases h.row.2 with ⟨h1, h2⟩ | ⟨g, cap, cur, h1, h2, h3, h4, h5, h6, h7⟩
  · omega
  · injection h1 with h1 _ _
    refine ⟨g, 0, h1, h2, fun k hk => ?_⟩
    have hkl : k < l.length := by simpa using hk
    obtain ⟨w1, w2⟩ := wcs_get l sl h.len k hkl
    have cell : ∀ j v, j < l.length * 2 → (wcs l sl)[j]? = some v → W.cell? ⟨g, 0 + j, none⟩ = some v := fun j v hj hv => by
      rw [Nat.zero_add, cell_of_row _ _ _ _ _ _ h3]
      rw [← h7, List.getElem?_take, if_pos hj] at hv
      simpa using hv
    refine ⟨sl[k]'(by rw [h.len]; exact hkl), ?_, ?_, ?_, h.cap k (by rw [h.len]; exact hkl), h.own k (by rw [h.len]; exact hkl)⟩
    · rw [cell _ _ (by omega) w1]
      simp
    · rw [Nat.add_assoc, cell _ _ (by omega) w2]
    · simpa using h.bs k (by rw [h.len]; exact hkl)
theorem WR.nil (W : World) (base : Nat) : WR W base none 0 [] [] := ⟨rfl, World.ownsRow_nil _ _ _ _, fun i h => by simp at h, fun i h => by simp at h, fun i h => by simp at h, fun i h => by simp at h⟩
/-- A row's block is a row of writes; bytes are bytes: whatever else is written leaves them. -/
theorem WR.keep {W W' : World} {base : Nat} {A : Option Addr} {c : Nat} {l : List (Nat × List UInt8)} {sl : List Sl} (h : WR W base A c l sl) (T : Nat → Prop) (hf : Fr T W W') (hT : ∀ k, T k → ∀ cur, W.heap[k]? ≠ some (.cells cur 70 (0, 0))) (hB : ∀ k, T k → ∀ o z, W.cell? ⟨k, o, none⟩ ≠ some (.int .u8 z)) : WR W' base A c l sl := by
  refine ⟨h.len, ⟨h.row.1, ?_⟩, fun i hi => ?_, h.cap, h.own, h.off⟩
  · rcases h.row.2 with h1 | ⟨g, cap, cur, h1, h2, h3, h4⟩
    · exact .inl h1
    · exact .inr ⟨g, cap, cur, h1, h2, (hf.block g ⟨(Array.getElem?_eq_some_iff.1 h3).1, fun hg => hT g hg cur h3⟩).trans h3, h4⟩
  · obtain ⟨b1, b2⟩ := h.bs i hi
    refine ⟨b1, fun hn => ?_⟩
    obtain ⟨b, o, e, hc⟩ := b2 hn
    refine ⟨b, o, e, fun j hj => ?_⟩
    rw [← hc j hj]
    exact World.cell?_of_block (hf.block b ⟨World.block_lt_of_cell? W _ (hc j hj), fun hb => hB b hb _ _ (hc j hj)⟩)

theorem WR.append {w7 w8 : World} {base : Nat} {A A' : Option Addr} {c c' : Nat} {l : List (Nat × List UInt8)} {sl : List Sl} {x : Nat × List UInt8} {s : Sl} (h : WR w7 base A c l sl) (h8 : w8.ownsRow base 70 2 (.slice A' (l.length + 1) c') (l.length + 1) (wcs l sl ++ wv x.1 s)) (hg : w7.grownBy w8 (Value.slice A l.length c).ownBlock)
    (hat : (Value.slice A' (l.length + 1) c').ownBlock = (Value.slice A l.length c).ownBlock ∨ (Value.slice A' (l.length + 1) c').ownBlock = some w7.heap.size) (hb : BS w7 s.a s.n x.2) (hc : s.n ≤ s.c) (hs : 0 < s.n → ∀ ad, s.a = some ad → base ≤ ad.block ∧ (Value.slice A l.length c).ownBlock ≠ some ad.block) : WR w8 base A' c' (l ++ [x]) (sl ++ [s]) := by
  have keepB : ∀ (a : Option Addr) (n : Nat) (b : List UInt8), BS w7 a n b → (0 < n → ∀ ad, a = some ad → (Value.slice A l.length c).ownBlock ≠ some ad.block) → BS w8 a n b := fun a n b hB ho =>
    ⟨hB.1, fun hn => by
      obtain ⟨bb, o, e, hcell⟩ := hB.2 hn
      exact ⟨bb, o, e, fun j hj => (World.cell?_of_block (hg.block bb (World.block_lt_of_cell? w7 _ (hcell j hj)) (fun e' => ho hn _ e e'.symm))).trans (hcell j hj)⟩⟩
  have offB : ∀ (a : Option Addr) (n : Nat) (b : List UInt8), BS w7 a n b → (0 < n → ∀ ad, a = some ad → (Value.slice A l.length c).ownBlock ≠ some ad.block) → (0 < n → ∀ ad, a = some ad → (Value.slice A' (l.length + 1) c').ownBlock ≠ some ad.block) := fun a n b hB ho hn ad e => by
    rcases hat with h1 | h1
    · rw [h1]; exact ho hn ad e
    · rw [h1]
      have := hB.lt_block hn ad e
      simp
      omega
  have hlen : (sl ++ [s]).length = (l ++ [x]).length := by simp [h.len]
  refine ⟨hlen, ?_, fun i hi => ?_, fun i hi => ?_, fun i hi h0 ad e => ?_, fun i hi h0 ad e => ?_⟩
  · rw [List.length_append, wcs_snoc _ _ _ _ h.len]; exact h8
  · by_cases hi' : i < sl.length
    · simp only [List.getElem_append_left hi', List.getElem_append_left (show i < l.length by rw [← h.len]; exact hi')]
      exact keepB _ _ _ (h.bs i hi') (h.off i hi')
    · obtain rfl : i = sl.length := by simp at hi; omega
      have e1 : (sl ++ [s])[sl.length]'hi = s := by simp
      have e2 : ∀ hh, (l ++ [x])[sl.length]'hh = x := by intro hh; simp [h.len]
      rw [e1, e2]
      exact keepB _ _ _ hb fun hn ad e => (hs hn ad e).2
  · by_cases hi' : i < sl.length
    · simp only [List.getElem_append_left hi']; exact h.cap i hi'
    · obtain rfl : i = sl.length := by simp at hi; omega
      have e1 : (sl ++ [s])[sl.length]'hi = s := by simp
      rw [e1]; exact hc
  · by_cases hi' : i < sl.length
    · simp only [List.getElem_append_left hi'] at h0 e; exact h.own i hi' h0 ad e
    · obtain rfl : i = sl.length := by simp at hi; omega
      have e1 : (sl ++ [s])[sl.length]'hi = s := by simp
      rw [e1] at h0 e; exact (hs h0 ad e).1
  · rw [List.length_append]
    show (Value.slice A' (l.length + 1) c').ownBlock ≠ _
    by_cases hi' : i < sl.length
    · simp only [List.getElem_append_left hi'] at h0 e; exact offB _ _ _ (h.bs i hi') (h.off i hi') h0 ad e
    · obtain rfl : i = sl.length := by simp at hi; omega
      have e1 : (sl ++ [s])[sl.length]'hi = s := by simp
      rw [e1] at h0 e; exact offB _ _ _ hb (fun hn ad e => (hs hn ad e).2) h0 ad e
theorem fr_grown {W W' : World} {v : Value} (hg : W.grownBy W' v.ownBlock) : Fr (fun i => v.ownBlock = some i) W W' := ⟨hg.os, hg.tape, hg.output, hg.size, fun i hi => hg.block i hi.1 (fun e => hi.2 e.symm)⟩
theorem WR.below {W W' : World} {base : Nat} {A : Option Addr} {c : Nat} {sl : List Sl} {l : List (Nat × List UInt8)} (h : WR W base A c l sl) (hb : Below W.heap.size W W') : WR W' base A c l sl := h.keep (fun _ => False) (Fr.of_below hb) (fun _ h => h.elim) (fun _ h => h.elim)
theorem WR.place {W : World} {base : Nat} {A : Option Addr} {c : Nat} {sl : List Sl} {l : List (Nat × List UInt8)} (h : WR W base A c l sl) (b : Nat) (e : (Value.slice A l.length c).ownBlock = some b) : base ≤ b ∧ b < W.heap.size := by
  rcases h.row.2 with ⟨h0, _⟩ | ⟨g, cap, cur, h1, h2, h3, h4⟩
  · rw [h0] at e; cases e
  · rw [h1] at e
    obtain rfl : g = b := by simpa [Value.ownBlock] using e
    exact ⟨h2, (Array.getElem?_eq_some_iff.1 h3).1⟩
end Go.Proofs.Ytjionpkflpnejaa

namespace Go.Proofs.Ytjionpkflpnejaa

/-- A transaction: the blocks as they were, and what was put. -/
structure TX where
  l : List (List UInt8)
  p : Nat → Option (List UInt8)
namespace TX
def new (l : List (List UInt8)) : TX := ⟨l, fun _ => none⟩
def was (X : TX) (i : Nat) : List UInt8 := X.l.getD i []
def get (X : TX) (i : Nat) : List UInt8 := (X.p i).getD (X.was i)
def put (X : TX) (i : Nat) (b : List UInt8) : TX := { X with p := fun j => if j = i then some b else X.p j }
def take (X Y : TX) : TX := { X with p := Y.p }
/-- Does block i change? -/
def chg (X : TX) (i : Nat) : Bool := decide (X.get i ≠ X.was i)
/-- The changes of the first k blocks. -/
def chs (X : TX) : Nat → List (Nat × List UInt8)
  | 0 => []
  | k + 1 => X.chs k ++ if X.chg k then [(k, X.get k)] else []
theorem chs_yes {X : TX} {k : Nat} (h : X.chg k = true) : X.chs (k + 1) = X.chs k ++ [(k, X.get k)] := by simp [chs, h]
theorem chs_no {X : TX} {k : Nat} (h : X.chg k = false) : X.chs (k + 1) = X.chs k := by simp [chs, h]
theorem chs_len (X : TX) : ∀ k, (X.chs k).length ≤ k
  | 0 => Nat.le_refl _
  | k + 1 => by
    have := chs_len X k
    cases h : X.chg k
    · rw [chs_no h]; omega
    · rw [chs_yes h, List.length_append]; simp; omega
theorem chg_of {X : TX} {i : Nat} {b : List UInt8} (h : X.p i = some b) : X.chg i = decide (b ≠ X.was i) := by simp [chg, get, h]
theorem chg_none {X : TX} {i : Nat} (h : X.p i = none) : X.chg i = false := by simp [chg, get, h]
theorem get_of {X : TX} {i : Nat} {b : List UInt8} (h : X.p i = some b) : X.get i = b := by simp [get, h]
theorem get_none {X : TX} {i : Nat} (h : X.p i = none) : X.get i = X.was i := by simp [get, h]
theorem get_put (X : TX) (i j : Nat) (b : List UInt8) : (X.put i b).get j = if j = i then b else X.get j := by
  unfold get put
  by_cases h : j = i
  · simp [h]
  · simp [h, was]
theorem was_put (X : TX) (i j : Nat) (b : List UInt8) : (X.put i b).was j = X.was j := rfl
theorem get_new (l : List (List UInt8)) (j : Nat) : (new l).get j = (new l).was j := rfl
/-- Two of the same blocks that have the same puts are the same. -/
theorem chs_congr {X Y : TX} (h : ∀ i, X.chg i = Y.chg i) (hg : ∀ i, X.get i = Y.get i) : ∀ k, X.chs k = Y.chs k
  | 0 => rfl
  | k + 1 => by simp only [chs, chs_congr h hg k, h k, hg k]
/-- All that changes, as it is told, is at its place. -/
theorem chs_at (X : TX) : ∀ (k : Nat) (j : Nat), j < k → X.chg j = true → (X.chs k)[(X.chs j).length]? = some (j, X.get j)
  | 0, j, h, _ => absurd h (Nat.not_lt_zero _)
  | k + 1, j, h, hc => by
    by_cases e : j = k
    · subst e
      rw [chs_yes hc, List.getElem?_append_right (Nat.le_refl _)]
      simp
    · have ih := chs_at X k j (by omega) hc
      have hl := (List.getElem?_eq_some_iff.1 ih).1
      cases hk : X.chg k
      · rw [chs_no hk]; exact ih
      · rw [chs_yes hk, List.getElem?_append_left hl]; exact ih
end TX
end Go.Proofs.Ytjionpkflpnejaa

namespace Go.Proofs.Ytjionpkflpnejaa
open Go.RowKit

/-- As many bytes as a slice that is read may have, at most. -/
def big47 : Nat := 140737488355328
theorem le_big47 {n : Nat} (h : n ≤ 1000000) : n ≤ big47 := by unfold big47; omega
/-- A slice of bytes in a cell, its bytes of S. -/
structure BC (w : World) (S : Nat → Prop) (x : Sl) (l : List UInt8) : Prop where
  bs : BS w x.a x.n l
  few : x.n ≤ big47
  cap : x.n ≤ x.c
  own : 0 < x.n → ∀ ad, x.a = some ad → S ad.block
/-- Such a slice, or none. -/
def OC (w : World) (S : Nat → Prop) : Option Value → Option (List UInt8) → Prop
  | none, none => True
  | some v, some l => ∃ x : Sl, v = x.v ∧ BC w S x l
  | _, _ => False
/-- Block m is a map from numbers to slices of bytes. -/
def PM (w : World) (m : Nat) (S : Nat → Prop) (p : Nat → Option (List UInt8)) : Prop :=
  ∃ es clock, w.heap[m]? = some (.map es clock) ∧ (∀ e ∈ es.toList, ∃ i : Int, e.key = .int .i64 i) ∧ ∀ i : Nat, OC w S (look es.toList (i : Int)) (p i)
/-- A slice that reads as rows of bytes, in a block of slices. -/
def BR (w : World) (S : Nat → Prop) (x : Sl) (l : List (List UInt8)) : Prop :=
  l.length = x.n ∧ x.n ≤ x.c ∧ ∃ g, ∃ rl : List Sl, x.a = some ⟨g, 0, none⟩ ∧ S g ∧ rl.length = l.length ∧ w.heap[g]? = some (.cells (rl.map Sl.v).toArray 27 (0, 0)) ∧ ∀ i (h : i < rl.length), BC w S rl[i] (l.getD i [])
/-- At block p lies a transaction, its map at m, its rows in the slice x, all of S. -/
structure Tq (w : World) (p m : Nat) (x : Sl) (S : Nat → Prop) (X : TX) : Prop where
  cells : w.heap[p]? = some (.cells #[x.v, .map (some m)] 62 (0, 0))
  rows : BR w S x X.l
  puts : PM w m S X.p
  sp : S p
  sm : S m
/-- A block that is a map, or a transaction's two cells. -/
def Dull (w : World) (k : Nat) : Prop := (∃ es c, w.heap[k]? = some (.map es c)) ∨ ∃ (x : Sl) (m : Nat), w.heap[k]? = some (.cells #[x.v, .map (some m)] 62 (0, 0))
/-- Of the old blocks at most those of Q have changed, and those were dull. -/
def Ch (Q : Nat → Prop) (w w' : World) : Prop := Fr Q w w' ∧ ∀ k, Q k → Dull w k

theorem Dull.cell {w : World} {k : Nat} (h : Dull w k) (o : Nat) : w.cell? ⟨k, o, none⟩ = none ∨ (∃ x : Sl, w.cell? ⟨k, o, none⟩ = some x.v) ∨ ∃ m, w.cell? ⟨k, o, none⟩ = some (.map (some m)) := by
  rcases h with ⟨es, c, h⟩ | ⟨x, m, h⟩
  · left; simp [World.cell?, h]
  · rw [cell_of_row _ _ _ _ _ _ h]
    match o with
    | 0 => exact .inr (.inl ⟨x, rfl⟩)
    | 1 => exact .inr (.inr ⟨m, rfl⟩)
    | n + 2 => left; simp
theorem Dull.no_int {w : World} {k : Nat} (h : Dull w k) (o : Nat) (q : IntKind) (z : Int) : w.cell? ⟨k, o, none⟩ ≠ some (.int q z) := by
  rcases h.cell o with e | ⟨x, e⟩ | ⟨m, e⟩ <;> rw [e] <;> simp [Sl.v]
theorem Dull.no_bool {w : World} {k : Nat} (h : Dull w k) (o : Nat) (z : Bool) : w.cell? ⟨k, o, none⟩ ≠ some (.bool z) := by
  rcases h.cell o with e | ⟨x, e⟩ | ⟨m, e⟩ <;> rw [e] <;> simp [Sl.v]
theorem Dull.no_str {w : World} {k : Nat} (h : Dull w k) (o : Nat) (z : ByteArray) : w.cell? ⟨k, o, none⟩ ≠ some (.string z) := by
  rcases h.cell o with e | ⟨x, e⟩ | ⟨m, e⟩ <;> rw [e] <;> simp [Sl.v]
theorem Dull.no_row {w : World} {k : Nat} (h : Dull w k) (cs : Array Value) (t : TypeId) (ht : t ≠ 62) : w.heap[k]? ≠ some (.cells cs t (0, 0)) := by
  rcases h with ⟨es, c, h⟩ | ⟨x, m, h⟩ <;> rw [h] <;> simp
  exact fun _ e => ht e.symm

section
variable {w w' : World} {S T Q : Nat → Prop}
theorem Ch.of_below (h : Below w.heap.size w w') : Ch (fun _ => False) w w' := ⟨Fr.of_below h, fun _ h => h.elim⟩
theorem Ch.below (h : Ch Q w w') {B : Nat} (hB : B ≤ w.heap.size) (hQ : ∀ k, Q k → B ≤ k) : Below B w w' := h.1.below hB hQ
theorem Ch.size (h : Ch Q w w') : w.heap.size ≤ w'.heap.size := h.1.size
theorem BS.ch {A : Option Addr} {n : Nat} {l : List UInt8} (h : BS w A n l) (hc : Ch Q w w') : BS w' A n l :=
  ⟨h.1, fun hn => by
    obtain ⟨b, o, e, hcell⟩ := h.2 hn
    refine ⟨b, o, e, fun j hj => ?_⟩
    rw [← hcell j hj]
    exact World.cell?_of_block (hc.1.block b ⟨World.block_lt_of_cell? w _ (hcell j hj), fun hq => (hc.2 b hq).no_int _ _ _ (hcell j hj)⟩)⟩
theorem BC.ch {x : Sl} {l : List UInt8} (h : BC w S x l) (hc : Ch Q w w') : BC w' S x l := ⟨h.bs.ch hc, h.few, h.cap, h.own⟩
theorem BC.keep {x : Sl} {l : List UInt8} (h : BC w S x l) (hk : ∀ k, S k → k < w.heap.size → w'.heap[k]? = w.heap[k]?) : BC w' S x l :=
  ⟨⟨h.bs.1, fun hn => by
    obtain ⟨b, o, e, hcell⟩ := h.bs.2 hn
    refine ⟨b, o, e, fun j hj => ?_⟩
    rw [← hcell j hj]
    exact World.cell?_of_block (hk b (h.own hn _ e) (World.block_lt_of_cell? w _ (hcell j hj)))⟩, h.few, h.cap, h.own⟩
theorem BC.mono {x : Sl} {l : List UInt8} (h : BC w S x l) (hS : ∀ k, S k → T k) : BC w T x l := ⟨h.bs, h.few, h.cap, fun h0 ad e => hS _ (h.own h0 ad e)⟩
theorem OC.imp {v : Option Value} {l : Option (List UInt8)} (h : OC w S v l) (f : ∀ x b, BC w S x b → BC w' T x b) : OC w' T v l := by
  cases v with
  | none => cases l with
    | none => trivial
    | some b => exact h.elim
  | some v => cases l with
    | none => exact h.elim
    | some b => obtain ⟨x, e, hb⟩ := h; exact ⟨x, e, f x b hb⟩
theorem PM.imp {m : Nat} {p : Nat → Option (List UInt8)} (h : PM w m S p) (hm : w'.heap[m]? = w.heap[m]?) (f : ∀ x b, BC w S x b → BC w' T x b) : PM w' m T p := by
  obtain ⟨es, c, h1, h2, h3⟩ := h
  exact ⟨es, c, hm.trans h1, h2, fun i => (h3 i).imp f⟩
theorem PM.lt {m : Nat} {p : Nat → Option (List UInt8)} (h : PM w m S p) : m < w.heap.size := by
  obtain ⟨es, c, h1, _⟩ := h
  exact (Array.getElem?_eq_some_iff.1 h1).1
theorem PM.dull {m : Nat} {p : Nat → Option (List UInt8)} (h : PM w m S p) : Dull w m := by
  obtain ⟨es, c, h1, _⟩ := h
  exact .inl ⟨es, c, h1⟩
theorem BR.imp {x : Sl} {l : List (List UInt8)} (h : BR w S x l) (hS : ∀ k, S k → T k) (hg : ∀ g cs, S g → w.heap[g]? = some (.cells cs 27 (0, 0)) → w'.heap[g]? = w.heap[g]?) (f : ∀ x b, BC w S x b → BC w' T x b) : BR w' T x l := by
  obtain ⟨h1, h2, g, rl, h3, h4, h5, h6, h7⟩ := h
  exact ⟨h1, h2, g, rl, h3, hS g h4, h5, (hg g _ h4 h6).trans h6, fun i hi => f _ _ (h7 i hi)⟩
variable {p m : Nat} {x : Sl} {X : TX}
theorem Tq.plt (h : Tq w p m x S X) : p < w.heap.size := (Array.getElem?_eq_some_iff.1 h.cells).1
theorem Tq.mlt (h : Tq w p m x S X) : m < w.heap.size := h.puts.lt
theorem Tq.ne (h : Tq w p m x S X) : m ≠ p := by
  rintro rfl
  obtain ⟨es, c, h1, _⟩ := h.puts
  rw [h.cells] at h1
  simp at h1
theorem Tq.dull (h : Tq w p m x S X) : Dull w p := .inr ⟨x, m, h.cells⟩
theorem Tq.ch (h : Tq w p m x S X) (hc : Ch Q w w') (hp : ¬ Q p) (hm : ¬ Q m) : Tq w' p m x S X :=
  ⟨(hc.1.block p ⟨h.plt, hp⟩).trans h.cells, h.rows.imp (fun _ h => h) (fun g cs _ hg => hc.1.block g ⟨(Array.getElem?_eq_some_iff.1 hg).1, fun hq => (hc.2 g hq).no_row cs _ (by decide) hg⟩) (fun _ _ hb => hb.ch hc),
    h.puts.imp (hc.1.block m ⟨h.mlt, hm⟩) fun _ _ hb => hb.ch hc, h.sp, h.sm⟩
theorem Tq.keep (h : Tq w p m x S X) (hk : ∀ k, S k → k < w.heap.size → w'.heap[k]? = w.heap[k]?) : Tq w' p m x S X :=
  ⟨(hk p h.sp h.plt).trans h.cells, h.rows.imp (fun _ h => h) (fun g _ hs hg => hk g hs (Array.getElem?_eq_some_iff.1 hg).1) (fun _ _ hb => hb.keep hk), h.puts.imp (hk m h.sm h.mlt) fun _ _ hb => hb.keep hk, h.sp, h.sm⟩
theorem Tq.below (h : Tq w p m x S X) (hb : Below w.heap.size w w') : Tq w' p m x S X := h.keep fun k _ hk => hb.block k hk
theorem Tq.drew (h : Tq w p m x S X) : Tq w.drew p m x S X := h.below (Below.refl _ _).drew
theorem Tq.drewN (h : Tq w p m x S X) (n : Nat) : Tq (w.drewN n) p m x S X := h.keep fun _ _ _ => rfl
theorem Tq.mono (h : Tq w p m x S X) (hS : ∀ k, S k → T k) : Tq w p m x T X :=
  ⟨h.cells, h.rows.imp hS (fun _ _ _ _ => rfl) (fun _ _ hb => hb.mono hS), h.puts.imp rfl fun _ _ hb => hb.mono hS, hS _ h.sp, hS _ h.sm⟩
theorem Tq.c0 (h : Tq w p m x S X) : w.cell? ⟨p, 0, none⟩ = some (.slice x.a x.n x.c) := by rw [cell_of_row _ _ _ _ _ _ h.cells]; rfl
theorem Tq.c1 (h : Tq w p m x S X) : w.cell? ⟨p, 1, none⟩ = some (.map (some m)) := by rw [cell_of_row _ _ _ _ _ _ h.cells]; rfl
theorem Tq.froz (h : Tq w p m x S X) (k : Nat) : w.frozen? ⟨p, k, none⟩ = false := by simp [World.frozen?, h.cells]
theorem Tq.len (h : Tq w p m x S X) : X.l.length = x.n := h.rows.1
/-- Row i. -/
theorem BR.at {l : List (List UInt8)} (h : BR w S x l) {i : Nat} (hi : i < x.n) : ∃ g y, x.a = some ⟨g, 0, none⟩ ∧ w.cell? ⟨g, i, none⟩ = some (.slice (Sl.a y) y.n y.c) ∧ BC w S y (l.getD i []) := by
  obtain ⟨h1, h2, g, rl, h3, h4, h5, h6, h7⟩ := h
  have hr : i < rl.length := by omega
  exact ⟨g, rl[i], h3, by rw [cell_of_row _ _ _ _ _ _ h6]; simp [hr, Sl.v], h7 i hr⟩
end
end Go.Proofs.Ytjionpkflpnejaa

namespace Go.Proofs.Ytjionpkflpnejaa
open Go.RowKit Go.Shelf

set_option maxRecDepth 100000 in
set_option maxHeartbeats 8000000 in
theorem refGetM_any (l : List UInt8) (w : World) :
    Calls Try.prog 18 #[.string (txt l)] w fun e w' => e = .returned (.tuple #[.agg (mc (Mk.got l)).toArray, .int .i64 (Mk.err l)]) ∧ Below w.heap.size w w' := by
  by_cases hl : l = []
  · subst hl
    have HG : Hid (Mk.got [] = Mk.zero ∧ Mk.err [] = 0) := ⟨Mk.got_nil, Mk.err_nil⟩
    have hd : (txt []).toList.isEmpty = true := by rw [txt_toList]; rfl
    go_enter Try.func18, Try.ntmps18
    go_upto_region 1 with (refine wpList_alloc_any rfl 33 rfl _ zero_M15 ?_; intro w1 hb1 hs1 hw1)
    have HB1 : Hid (Bw w1 w.heap.size (mc Mk.zero) 33) := hb1
    have HW1 := Lib.hid hw1
    clear hb1 hs1 hw1
    go_wp2_with (first
      | (refine Did.list rfl (did_build 33 #[] rfl (mc Mk.zero).toArray (by exact built_M15z)) ?_)
      | (refine wpList_store_part rfl 33 (.tmp 2) (.tmp 12) rfl w.heap.size 0 (mc Mk.zero) rfl rfl 33 _ HB1.out size_M15 (by simp [mc]) (mc_one _) ?_
         intro y hb _ hk
         have HB := Lib.hid hb
         have HK := Lib.hid hk
         clear hb hk))
    exact bodyPost_ret (results_cell rfl _ y w.heap.size (.int .i64 0) HB.out size_M15 (by rfl) (by rfl) Try.underlying33) rfl (by
      rw [HG.out.1, HG.out.2]
      exact ⟨rfl, HW1.out.trans (HK.out.below2 (fun k hk => by omega))⟩)
  have hd : (txt l).toList.isEmpty = false := by rw [txt_toList]; simpa using hl
  have HLN := Lib.hid hl
  clear hl
  go_enter Try.func18, Try.ntmps18
  go_upto_region 1 with (refine wpList_alloc_any rfl 33 rfl _ zero_M15 ?_; intro w1 hb1 hs1 hw1)
  have A1 : Hid (Bw w1 w.heap.size (mc Mk.zero) 33) := hb1
  have A2 := Lib.hid hs1
  have A3 := Lib.hid hw1
  clear hb1 hs1 hw1
  go_upto_region 4 with (first
    | (refine Did.list rfl (did_build 33 #[] rfl (mc Mk.zero).toArray (by exact built_M15z)) ?_)
    | (refine wpList_alloc_any rfl 33 rfl _ zero_M15 ?_; intro w2 hb2 hs2 hw2)
    | (refine wpList_store_part rfl 33 (.tmp 4) (.tmp 13) rfl w1.heap.size 0 (mc Mk.zero) rfl rfl 33 _ hb2 size_M15 (by simp [mc]) (mc_one _) ?_
       intro w3 hb3 hs3 hk3))
  clear hd
  have A4 : Hid (Bw w3 w1.heap.size (mc Mk.zero) 33) := hb3
  have A5 : Hid (Bw w3 w.heap.size (mc Mk.zero) 33) := (hk3.block _ (by have := A2.out; omega)).trans ((hw2.block _ (by have := A2.out; omega)).trans A1.out)
  have A6 : Hid (Below w.heap.size w w3) := A3.out.trans ((hw2.mono A3.out.size).trans (hk3.below2 (fun j hj => by have := A2.out; omega)))
  have A7 : Hid (w3.heap.size = w.heap.size + 2) := by show _ = _; have := A2.out; omega
  clear hb2 hs2 hw2 hb3 hs3 hk3
  go_wp2_with (refine Did.list rfl (did_build 77 #[(0, .tmp 15)] rfl _ (built_R1 (txt l))) ?_)
  refine (refReadBool l 0 w3).mono ?_
  rintro e w4 ⟨rfl, hb4⟩
  have A8 := Lib.hid (A4.out.below hb4)
  have A9 := Lib.hid (A5.out.below hb4)
  have B1 := Lib.hid (A6.out.trans (hb4.mono A6.out.size))
  have B2 : Hid (w.heap.size + 2 ≤ w4.heap.size) := by show _ ≤ _; have := hb4.size; have := A7.out; omega
  clear hb4 A4 A5 A6 A7
  go_upto_region 5 with (first
    | (refine wpList_alloc_any rfl 77 rfl _ zero_R ?_; intro w5 hb5 hs5 hw5)
    | (refine wpList_store_part rfl 77 (.tmp 5) (.tmp 18) rfl w4.heap.size 0 (rv (Mk.p1 l).1) rfl rfl 77 [.string (txt []), .int .i64 0] hb5 size_R (by simp [rv]) (rv_one _) ?_
       intro w6 hb6 hs6 hk6))
  have H0 : Hid (GH w w.heap.size w1.heap.size w4.heap.size 33 (mc Mk.zero) (mc Mk.zero) (Mk.p1 l).1 w6) := by
    have h2 := A2.out
    have h3 := B2.out
    refine ⟨hb6, (A9.out.below hw5).keep hk6 (by omega), (A8.out.below hw5).keep hk6 (by omega), B1.out.trans ((hw5.mono B1.out.size).trans (hk6.below2 (fun j hj => by omega))), Nat.le_refl _, by omega, by omega, by omega, by omega, by omega⟩
  clear hb5 hs5 hw5 hb6 hs6 hk6 A1 A2 A3 A8 A9 B1 B2
  generalize w1.heap.size = g at *
  generalize w4.heap.size = k at *
  go_upto_region 6 with (refine wpList_store_cell rfl 4 (.tmp 21) (.tmp 20) rfl _ 0 (.bool (Mk.p1 l).2) rfl rfl 33 _ H0.out.var (by kernel_rfl) rfl (by simp [mc]) rfl ?_; intro z0 hb _ hk)
  have H1 : Hid (GH w w.heap.size g k 33 (mc Mk.zero) (mc ⟨(Mk.p1 l).2, 0, 0, 0, 0, 0, 0, 0, 0⟩) (Mk.p1 l).1 z0) := H0.out.set hb hk
  clear hb hk H0
  go_wp2_with (refine wpList_load_part rfl 77 (.tmp 5) rfl _ 0 rfl _ Try.underlying77 rfl (rv (Mk.p1 l).1) 77 _ H1.out.rd size_R (fun j u hu => by rw [Nat.zero_add]; exact hu) ?_)
  refine (refRead32 _ _ _).mono ?_
  rintro e v1 ⟨rfl, hb⟩
  have H2 := Lib.hid (H1.out.below hb)
  clear hb H1
  go_upto_region 7 with (refine wpList_store_part rfl 77 (.tmp 5) (.tmp 25) rfl k 0 (rv (Mk.p2 l).1) rfl rfl 77 _ H2.out.rd size_R (by simp [rv]) (rv_one _) ?_; intro y1 hb _ hk)
  have H3 : Hid (GH w w.heap.size g k 33 (mc Mk.zero) (mc ⟨(Mk.p1 l).2, 0, 0, 0, 0, 0, 0, 0, 0⟩) (Mk.p2 l).1 y1) := H2.out.read hb hk
  clear hb hk H2
  go_upto_region 8 with (refine wpList_store_cell rfl 22 (.tmp 28) (.tmp 27) rfl _ 1 (.int .u32 ((Mk.p2 l).2 : Int)) rfl rfl 33 _ H3.out.var (by kernel_rfl) rfl (by simp [mc]) rfl ?_; intro z1 hb _ hk)
  have H4 : Hid (GH w w.heap.size g k 33 (mc Mk.zero) (mc ⟨(Mk.p1 l).2, (Mk.p2 l).2, 0, 0, 0, 0, 0, 0, 0⟩) (Mk.p2 l).1 z1) := H3.out.set hb hk
  clear hb hk H3
  go_wp2_with (refine wpList_load_part rfl 77 (.tmp 5) rfl _ 0 rfl _ Try.underlying77 rfl (rv (Mk.p2 l).1) 77 _ H4.out.rd size_R (fun j u hu => by rw [Nat.zero_add]; exact hu) ?_)
  refine (refRead32 _ _ _).mono ?_
  rintro e v2 ⟨rfl, hb⟩
  have H5 := Lib.hid (H4.out.below hb)
  clear hb H4
  go_upto_region 9 with (refine wpList_store_part rfl 77 (.tmp 5) (.tmp 32) rfl k 0 (rv (Mk.p3 l).1) rfl rfl 77 _ H5.out.rd size_R (by simp [rv]) (rv_one _) ?_; intro y2 hb _ hk)
  have H6 : Hid (GH w w.heap.size g k 33 (mc Mk.zero) (mc ⟨(Mk.p1 l).2, (Mk.p2 l).2, 0, 0, 0, 0, 0, 0, 0⟩) (Mk.p3 l).1 y2) := H5.out.read hb hk
  clear hb hk H5
  go_upto_region 10 with (refine wpList_store_cell rfl 22 (.tmp 35) (.tmp 34) rfl _ 2 (.int .u32 ((Mk.p3 l).2 : Int)) rfl rfl 33 _ H6.out.var (by kernel_rfl) rfl (by simp [mc]) rfl ?_; intro z2 hb _ hk)
  have H7 : Hid (GH w w.heap.size g k 33 (mc Mk.zero) (mc ⟨(Mk.p1 l).2, (Mk.p2 l).2, (Mk.p3 l).2, 0, 0, 0, 0, 0, 0⟩) (Mk.p3 l).1 z2) := H6.out.set hb hk
  clear hb hk H6
  go_wp2_with (refine wpList_load_part rfl 77 (.tmp 5) rfl _ 0 rfl _ Try.underlying77 rfl (rv (Mk.p3 l).1) 77 _ H7.out.rd size_R (fun j u hu => by rw [Nat.zero_add]; exact hu) ?_)
  refine (refRead64 _ _ _).mono ?_
  rintro e v3 ⟨rfl, hb⟩
  have H8 := Lib.hid (H7.out.below hb)
  clear hb H7
  go_upto_region 11 with (refine wpList_store_part rfl 77 (.tmp 5) (.tmp 39) rfl k 0 (rv (Mk.p4 l).1) rfl rfl 77 _ H8.out.rd size_R (by simp [rv]) (rv_one _) ?_; intro y3 hb _ hk)
  have H9 : Hid (GH w w.heap.size g k 33 (mc Mk.zero) (mc ⟨(Mk.p1 l).2, (Mk.p2 l).2, (Mk.p3 l).2, 0, 0, 0, 0, 0, 0⟩) (Mk.p4 l).1 y3) := H8.out.read hb hk
  clear hb hk H8
  go_upto_region 12 with (refine wpList_store_cell rfl 23 (.tmp 42) (.tmp 41) rfl _ 3 (.int .u64 ((Mk.p4 l).2 : Int)) rfl rfl 33 _ H9.out.var (by kernel_rfl) rfl (by simp [mc]) rfl ?_; intro z3 hb _ hk)
  have H10 : Hid (GH w w.heap.size g k 33 (mc Mk.zero) (mc ⟨(Mk.p1 l).2, (Mk.p2 l).2, (Mk.p3 l).2, (Mk.p4 l).2, 0, 0, 0, 0, 0⟩) (Mk.p4 l).1 z3) := H9.out.set hb hk
  clear hb hk H9
  go_wp2_with (refine wpList_load_part rfl 77 (.tmp 5) rfl _ 0 rfl _ Try.underlying77 rfl (rv (Mk.p4 l).1) 77 _ H10.out.rd size_R (fun j u hu => by rw [Nat.zero_add]; exact hu) ?_)
  refine (refRead64 _ _ _).mono ?_
  rintro e v4 ⟨rfl, hb⟩
  have H11 := Lib.hid (H10.out.below hb)
  clear hb H10
  go_upto_region 13 with (refine wpList_store_part rfl 77 (.tmp 5) (.tmp 46) rfl k 0 (rv (Mk.p5 l).1) rfl rfl 77 _ H11.out.rd size_R (by simp [rv]) (rv_one _) ?_; intro y4 hb _ hk)
  have H12 : Hid (GH w w.heap.size g k 33 (mc Mk.zero) (mc ⟨(Mk.p1 l).2, (Mk.p2 l).2, (Mk.p3 l).2, (Mk.p4 l).2, 0, 0, 0, 0, 0⟩) (Mk.p5 l).1 y4) := H11.out.read hb hk
  clear hb hk H11
  go_upto_region 14 with (refine wpList_store_cell rfl 23 (.tmp 49) (.tmp 48) rfl _ 4 (.int .u64 ((Mk.p5 l).2 : Int)) rfl rfl 33 _ H12.out.var (by kernel_rfl) rfl (by simp [mc]) rfl ?_; intro z4 hb _ hk)
  have H13 : Hid (GH w w.heap.size g k 33 (mc Mk.zero) (mc ⟨(Mk.p1 l).2, (Mk.p2 l).2, (Mk.p3 l).2, (Mk.p4 l).2, (Mk.p5 l).2, 0, 0, 0, 0⟩) (Mk.p5 l).1 z4) := H12.out.set hb hk
  clear hb hk H12
  go_wp2_with (refine wpList_load_part rfl 77 (.tmp 5) rfl _ 0 rfl _ Try.underlying77 rfl (rv (Mk.p5 l).1) 77 _ H13.out.rd size_R (fun j u hu => by rw [Nat.zero_add]; exact hu) ?_)
  refine (refRead64 _ _ _).mono ?_
  rintro e v5 ⟨rfl, hb⟩
  have H14 := Lib.hid (H13.out.below hb)
  clear hb H13
  go_upto_region 15 with (refine wpList_store_part rfl 77 (.tmp 5) (.tmp 53) rfl k 0 (rv (Mk.p6 l).1) rfl rfl 77 _ H14.out.rd size_R (by simp [rv]) (rv_one _) ?_; intro y5 hb _ hk)
  have H15 : Hid (GH w w.heap.size g k 33 (mc Mk.zero) (mc ⟨(Mk.p1 l).2, (Mk.p2 l).2, (Mk.p3 l).2, (Mk.p4 l).2, (Mk.p5 l).2, 0, 0, 0, 0⟩) (Mk.p6 l).1 y5) := H14.out.read hb hk
  clear hb hk H14
  go_upto_region 16 with (refine wpList_store_cell rfl 23 (.tmp 56) (.tmp 55) rfl _ 5 (.int .u64 ((Mk.p6 l).2 : Int)) rfl rfl 33 _ H15.out.var (by kernel_rfl) rfl (by simp [mc]) rfl ?_; intro z5 hb _ hk)
  have H16 : Hid (GH w w.heap.size g k 33 (mc Mk.zero) (mc ⟨(Mk.p1 l).2, (Mk.p2 l).2, (Mk.p3 l).2, (Mk.p4 l).2, (Mk.p5 l).2, (Mk.p6 l).2, 0, 0, 0⟩) (Mk.p6 l).1 z5) := H15.out.set hb hk
  clear hb hk H15
  go_wp2_with (refine wpList_load_part rfl 77 (.tmp 5) rfl _ 0 rfl _ Try.underlying77 rfl (rv (Mk.p6 l).1) 77 _ H16.out.rd size_R (fun j u hu => by rw [Nat.zero_add]; exact hu) ?_)
  refine (refRead64 _ _ _).mono ?_
  rintro e v6 ⟨rfl, hb⟩
  have H17 := Lib.hid (H16.out.below hb)
  clear hb H16
  go_upto_region 17 with (refine wpList_store_part rfl 77 (.tmp 5) (.tmp 60) rfl k 0 (rv (Mk.p7 l).1) rfl rfl 77 _ H17.out.rd size_R (by simp [rv]) (rv_one _) ?_; intro y6 hb _ hk)
  have H18 : Hid (GH w w.heap.size g k 33 (mc Mk.zero) (mc ⟨(Mk.p1 l).2, (Mk.p2 l).2, (Mk.p3 l).2, (Mk.p4 l).2, (Mk.p5 l).2, (Mk.p6 l).2, 0, 0, 0⟩) (Mk.p7 l).1 y6) := H17.out.read hb hk
  clear hb hk H17
  go_upto_region 18 with (refine wpList_store_cell rfl 23 (.tmp 63) (.tmp 62) rfl _ 6 (.int .u64 ((Mk.p7 l).2 : Int)) rfl rfl 33 _ H18.out.var (by kernel_rfl) rfl (by simp [mc]) rfl ?_; intro z6 hb _ hk)
  have H19 : Hid (GH w w.heap.size g k 33 (mc Mk.zero) (mc ⟨(Mk.p1 l).2, (Mk.p2 l).2, (Mk.p3 l).2, (Mk.p4 l).2, (Mk.p5 l).2, (Mk.p6 l).2, (Mk.p7 l).2, 0, 0⟩) (Mk.p7 l).1 z6) := H18.out.set hb hk
  clear hb hk H18
  go_wp2_with (refine wpList_load_part rfl 77 (.tmp 5) rfl _ 0 rfl _ Try.underlying77 rfl (rv (Mk.p7 l).1) 77 _ H19.out.rd size_R (fun j u hu => by rw [Nat.zero_add]; exact hu) ?_)
  refine (refRead32 _ _ _).mono ?_
  rintro e v7 ⟨rfl, hb⟩
  have H20 := Lib.hid (H19.out.below hb)
  clear hb H19
  go_upto_region 19 with (refine wpList_store_part rfl 77 (.tmp 5) (.tmp 67) rfl k 0 (rv (Mk.p8 l).1) rfl rfl 77 _ H20.out.rd size_R (by simp [rv]) (rv_one _) ?_; intro y7 hb _ hk)
  have H21 : Hid (GH w w.heap.size g k 33 (mc Mk.zero) (mc ⟨(Mk.p1 l).2, (Mk.p2 l).2, (Mk.p3 l).2, (Mk.p4 l).2, (Mk.p5 l).2, (Mk.p6 l).2, (Mk.p7 l).2, 0, 0⟩) (Mk.p8 l).1 y7) := H20.out.read hb hk
  clear hb hk H20
  go_upto_region 20 with (refine wpList_store_cell rfl 22 (.tmp 70) (.tmp 69) rfl _ 7 (.int .u32 ((Mk.p8 l).2 : Int)) rfl rfl 33 _ H21.out.var (by kernel_rfl) rfl (by simp [mc]) rfl ?_; intro z7 hb _ hk)
  have H22 : Hid (GH w w.heap.size g k 33 (mc Mk.zero) (mc ⟨(Mk.p1 l).2, (Mk.p2 l).2, (Mk.p3 l).2, (Mk.p4 l).2, (Mk.p5 l).2, (Mk.p6 l).2, (Mk.p7 l).2, (Mk.p8 l).2, 0⟩) (Mk.p8 l).1 z7) := H21.out.set hb hk
  clear hb hk H21
  go_wp2_with (refine wpList_load_part rfl 77 (.tmp 5) rfl _ 0 rfl _ Try.underlying77 rfl (rv (Mk.p8 l).1) 77 _ H22.out.rd size_R (fun j u hu => by rw [Nat.zero_add]; exact hu) ?_)
  refine (refRead32 _ _ _).mono ?_
  rintro e v8 ⟨rfl, hb⟩
  have H23 := Lib.hid (H22.out.below hb)
  clear hb H22
  go_upto_region 21 with (refine wpList_store_part rfl 77 (.tmp 5) (.tmp 74) rfl k 0 (rv (Mk.p9 l).1) rfl rfl 77 _ H23.out.rd size_R (by simp [rv]) (rv_one _) ?_; intro y8 hb _ hk)
  have H24 : Hid (GH w w.heap.size g k 33 (mc Mk.zero) (mc ⟨(Mk.p1 l).2, (Mk.p2 l).2, (Mk.p3 l).2, (Mk.p4 l).2, (Mk.p5 l).2, (Mk.p6 l).2, (Mk.p7 l).2, (Mk.p8 l).2, 0⟩) (Mk.p9 l).1 y8) := H23.out.read hb hk
  clear hb hk H23
  go_upto_region 22 with (refine wpList_store_cell rfl 22 (.tmp 77) (.tmp 76) rfl _ 8 (.int .u32 ((Mk.p9 l).2 : Int)) rfl rfl 33 _ H24.out.var (by kernel_rfl) rfl (by simp [mc]) rfl ?_; intro z8 hb _ hk)
  have H25 : Hid (GH w w.heap.size g k 33 (mc Mk.zero) (mc ⟨(Mk.p1 l).2, (Mk.p2 l).2, (Mk.p3 l).2, (Mk.p4 l).2, (Mk.p5 l).2, (Mk.p6 l).2, (Mk.p7 l).2, (Mk.p8 l).2, (Mk.p9 l).2⟩) (Mk.p9 l).1 z8) := H24.out.set hb hk
  clear hb hk H24
  have HLR : Hid (w.heap.size ≤ g ∧ w.heap.size ≠ g) := ⟨H25.out.lg, H25.out.rg⟩
  obtain ⟨th, hth⟩ : ∃ t : Ms, (⟨(Mk.p1 l).2, (Mk.p2 l).2, (Mk.p3 l).2, (Mk.p4 l).2, (Mk.p5 l).2, (Mk.p6 l).2, (Mk.p7 l).2, (Mk.p8 l).2, (Mk.p9 l).2⟩ : Ms) = t := ⟨_, rfl⟩
  have HRD : Hid (Mk.rd l = th) := by show _ = _; rw [Mk.rd_p l]; exact hth
  rw [hth] at H25
  clear hth
  go_wp2_with (refine wpList_load_part rfl 77 (.tmp 5) rfl _ 0 rfl _ Try.underlying77 rfl (rv (Mk.p9 l).1) 77 _ H25.out.rd size_R (fun j u hu => by rw [Nat.zero_add]; exact hu) ?_)
  refine (refEnd _ _ _).mono ?_
  rintro e w9 ⟨rfl, hb⟩
  have HF := Lib.hid (H25.out.below hb)
  clear hb H25
  rw [← Mk.bad_p l]
  by_cases hbad : Mk.markC.bad l = 0
  rotate_left
  · have hd : (Mk.markC.bad l != 0) = true := by simpa using hbad
    have HE := Lib.hid (Mk.err_bad l HLN.out hbad)
    clear hbad
    generalize Mk.markC.bad l = z at *
    go_wp2_with (first
      | (refine Did.list rfl (did_build 33 #[] rfl (mc Mk.zero).toArray (by exact built_M15z)) ?_)
      | (refine wpList_store_part rfl 33 (.tmp 2) (.tmp 82) rfl w.heap.size 0 (mc Mk.zero) rfl rfl 33 _ HF.out.res size_M15 (by simp [mc]) (mc_one _) ?_
         intro y hb _ hk
         have HB := Lib.hid hb
         have HK := Lib.hid hk
         clear hb hk))
    exact bodyPost_ret (results_cell rfl _ y w.heap.size (.int .i64 z) HB.out size_M15 (by rfl) (by rfl) Try.underlying33) rfl (by
      rw [HE.out.1, HE.out.2]
      exact ⟨rfl, HF.out.bel.trans (HK.out.below2 (fun k hk => by omega))⟩)
  rw [hbad]
  have HBD := Lib.hid hbad
  clear hbad
  go_wp2_with (refine wpList_load_part rfl 33 (.tmp 4) rfl _ 0 rfl _ Try.underlying33 rfl (mc th) 33 _ HF.out.var size_M15 (fun j u hu => by rw [Nat.zero_add]; exact hu) ?_)
  refine (refCheckM_any th _).mono ?_
  rintro e x3 ⟨rfl, hb⟩
  have HH := Lib.hid (HF.out.below hb)
  clear hb HF
  have e0 := HH.out.var.cell 0 _ rfl
  have e1 := HH.out.var.cell 1 _ rfl
  have e2 := HH.out.var.cell 2 _ rfl
  have e3 := HH.out.var.cell 3 _ rfl
  have e4 := HH.out.var.cell 4 _ rfl
  have e5 := HH.out.var.cell 5 _ rfl
  have e6 := HH.out.var.cell 6 _ rfl
  have e7 := HH.out.var.cell 7 _ rfl
  have e8 := HH.out.var.cell 8 _ rfl
  have hbz : Try.prog.built 33 [] = some #[.bool false, .int .u32 0, .int .u32 0, .int .u64 0, .int .u64 0, .int .u64 0, .int .u64 0, .int .u32 0, .int .u32 0] := built_M15z
  by_cases hok : Mk.okM th = true
  rotate_left
  · have HE := Lib.hid (Mk.err_no l HLN.out HBD.out (by rw [HRD.out]; exact fun h => hok h.1))
    rw [show Mk.chkM th = 1 from if_neg hok]
    clear hok
    go_wp2_with (first
      | (refine Did.list rfl (did_build 33 #[] rfl (mc Mk.zero).toArray (by exact built_M15z)) ?_)
      | (refine wpList_store_part rfl 33 (.tmp 2) (.tmp 92) rfl w.heap.size 0 (mc Mk.zero) rfl rfl 33 _ HH.out.res size_M15 (by simp [mc]) (mc_one _) ?_
         intro y hb _ hk
         have HB := Lib.hid hb
         have HK := Lib.hid hk
         clear hb hk))
    exact bodyPost_ret (results_cell rfl _ y w.heap.size (.int .i64 11) HB.out size_M15 (by rfl) (by rfl) Try.underlying33) rfl (by
      rw [HE.out.1, HE.out.2]
      exact ⟨rfl, HH.out.bel.trans (HK.out.below2 (fun k hk => by omega))⟩)
  rw [show Mk.chkM th = 0 from if_pos hok]
  have heq : ∀ W : World, (binOp .eql 33 (.agg #[.bool th.ow, .int .u32 (th.ph : Int), .int .u32 (th.pr : Int), .int .u64 (th.ep : Int), .int .u64 (th.sq : Int), .int .u64 (th.fr : Int), .int .u64 (th.gl : Int), .int .u32 (th.nx : Int), .int .u32 (th.rn : Int)]) (.agg #[.bool false, .int .u32 0, .int .u32 0, .int .u64 0, .int .u64 0, .int .u64 0, .int .u64 0, .int .u32 0, .int .u32 0])).run Try.prog W = .ok (.bool (decide (th = Mk.zero))) W := rEq th Mk.zero
  by_cases hzr : th = Mk.zero
  · have HE := Lib.hid (Mk.err_no l HLN.out HBD.out (by rw [HRD.out]; exact fun h => h.2 hzr))
    rw [decide_eq_true hzr] at heq
    clear hok hzr
    go_wp2_with (first
      | (refine Did.list rfl (did_build 33 #[] rfl (mc Mk.zero).toArray (by exact built_M15z)) ?_)
      | (refine wpList_store_part rfl 33 (.tmp 2) (.tmp 92) rfl w.heap.size 0 (mc Mk.zero) rfl rfl 33 _ HH.out.res size_M15 (by simp [mc]) (mc_one _) ?_
         intro y hb _ hk
         have HB := Lib.hid hb
         have HK := Lib.hid hk
         clear hb hk))
    exact bodyPost_ret (results_cell rfl _ y w.heap.size (.int .i64 11) HB.out size_M15 (by rfl) (by rfl) Try.underlying33) rfl (by
      rw [HE.out.1, HE.out.2]
      exact ⟨rfl, HH.out.bel.trans (HK.out.below2 (fun k hk => by omega))⟩)
  have HE := Lib.hid (Mk.err_yes l HLN.out HBD.out (by rw [HRD.out]; exact hok) (by rw [HRD.out]; exact hzr))
  rw [decide_eq_false hzr] at heq
  clear hok hzr
  go_wp2_with (first
    | (refine wpList_load_part rfl 33 (.tmp 4) rfl _ 0 rfl _ Try.underlying33 rfl (mc th) 33 _ HH.out.var size_M15 (fun j u hu => by rw [Nat.zero_add]; exact hu) ?_)
    | (refine wpList_store_part rfl 33 (.tmp 2) (.tmp 93) rfl w.heap.size 0 (mc th) rfl rfl 33 _ HH.out.res size_M15 (by simp [mc]) (mc_one _) ?_
       intro y hb _ hk
       have HB := Lib.hid hb
       have HK := Lib.hid hk
       clear hb hk))
  exact bodyPost_ret (results_cell rfl _ y w.heap.size (.int .i64 0) HB.out size_M15 (by rfl) (by rfl) Try.underlying33) rfl (by
    rw [HE.out.1, HE.out.2, HRD.out]
    exact ⟨rfl, HH.out.bel.trans (HK.out.below2 (fun k hk => by omega))⟩)
end Go.Proofs.Ytjionpkflpnejaa

namespace Go.Proofs.Ytjionpkflpnejaa
open Go.RowKit Go.Shelf

set_option maxRecDepth 100000 in
set_option maxHeartbeats 400000 in
theorem stateOf_any (s : Ms) (w : World) : Calls Try.prog 10 #[.agg (mc s).toArray] w fun e w' => e = .returned (.agg (mc s).toArray) ∧ Below w.heap.size w w' := by
  go_enter Try.func10, Try.ntmps10
  go_upto_region 1 with (refine wpList_alloc_any rfl 33 rfl _ zero_M15 ?_; intro w1 hb1 hs1 hw1)
  have hb0 : Below w.heap.size w (w.alloc (.cells (mc s).toArray 25)) := (Below.refl _ w).alloc (Nat.le_refl _) _
  have hsz : (w.alloc (.cells (mc s).toArray 25)).heap.size = w.heap.size + 1 := by simp
  have HB : Hid (Bw w1 w.heap.size (mc s) 25) := (hw1.block _ (by omega)).trans (heap_alloc_new w _)
  have HW : Hid (Below w.heap.size w w1) := hb0.trans (hw1.mono (by omega))
  have HR : Hid (Bw w1 (w.heap.size + 1) (mc Mk.zero) 33) := by rw [← hsz]; exact hb1
  rw [hsz]
  clear hb1 hs1 hw1 hb0 hsz
  have e0 := HB.out.cell 0 _ rfl
  have e1 := HB.out.cell 1 _ rfl
  have e2 := HB.out.cell 2 _ rfl
  have e3 := HB.out.cell 3 _ rfl
  have e4 := HB.out.cell 4 _ rfl
  have e5 := HB.out.cell 5 _ rfl
  have e6 := HB.out.cell 6 _ rfl
  have e7 := HB.out.cell 7 _ rfl
  have e8 := HB.out.cell 8 _ rfl
  have hbf : Try.prog.built 33 [(0, .bool s.ow), (1, .int .u32 (s.ph : Int)), (2, .int .u32 (s.pr : Int)), (3, .int .u64 (s.ep : Int)), (4, .int .u64 (s.sq : Int)), (5, .int .u64 (s.fr : Int)), (6, .int .u64 (s.gl : Int)), (7, .int .u32 (s.nx : Int)), (8, .int .u32 (s.rn : Int))] = some (mc s).toArray := built_M15 _ _ _ _ _ _ _ _ _
  have HQ : Hid (w.heap.size ≤ w.heap.size + 1) := Nat.le_succ _
  generalize hq : w.heap.size + 1 = q at *
  clear hq
  go_wp2_with (refine wpList_store_part rfl 33 (.tmp 2) (.tmp 21) rfl q 0 (mc s) rfl rfl 33 _ HR.out size_M15 (by simp [mc]) (mc_one _) ?_
               intro y hb _ hk
               have HY := Lib.hid hb
               have HK := Lib.hid hk
               clear hb hk)
  exact bodyPost_ret (results_one rfl _ y q HY.out size_M15 (by rfl) Try.underlying33) rfl ⟨rfl, HW.out.trans (HK.out.below2 (fun k hk => by have := HQ.out; omega))⟩
end Go.Proofs.Ytjionpkflpnejaa

namespace Go.Proofs.Ytjionpkflpnejaa
open Go.ChangeShapes Go.WideShapes Go.ChangeAt Go.RowKit

theorem atNine {cs : List Value} (h : cs.length = 9) : ∃ a b c d e f g i j, cs = [a, b, c, d, e, f, g, i, j] := by
  match cs, h with
  | [a, b, c, d, e, f, g, i, j], _ => exact ⟨a, b, c, d, e, f, g, i, j, rfl⟩
set_option maxRecDepth 100000 in
theorem state_in {H : Type} {enc : TypeId × Value → H} {W : World} {base : Nat} {v : Value} {d : DataW H} {p : List MemPlace} (hv : Value.okWide Try.prog W .any base 25 v)
    (h : DataW.Trod enc Try.prog W 0 (fun _ => true) true 25 v d p) : ∃ s : Ms, v = .agg (mc s).toArray ∧ s.Wide := by
  obtain ⟨cs, rfl, hsz⟩ := okWide_struct Try.underlying25 hv
  have hN : Try.prog.cellsOf 25 = 9 := by kernel_rfl
  obtain ⟨cl⟩ := cs
  obtain ⟨v0, v1, v2, v3, v4, v5, v6, v7, v8, rfl⟩ := atNine (cs := cl) (by simpa using hsz.trans hN)
  obtain ⟨fuel, ht⟩ := h
  obtain ⟨ys, n', _, _, _, hyl, hg⟩ := DataW.trod_struct Try.underlying25 ht
  have k0 : DataW.trod enc Try.prog W 0 (fun _ => true) true n' 4 [v0] = ys[0]? := hg 0 _ rfl
  have k1 : DataW.trod enc Try.prog W 0 (fun _ => true) true n' 22 [v1] = ys[1]? := hg 1 _ rfl
  have k2 : DataW.trod enc Try.prog W 0 (fun _ => true) true n' 22 [v2] = ys[2]? := hg 2 _ rfl
  have k3 : DataW.trod enc Try.prog W 0 (fun _ => true) true n' 23 [v3] = ys[3]? := hg 3 _ rfl
  have k4 : DataW.trod enc Try.prog W 0 (fun _ => true) true n' 23 [v4] = ys[4]? := hg 4 _ rfl
  have k5 : DataW.trod enc Try.prog W 0 (fun _ => true) true n' 23 [v5] = ys[5]? := hg 5 _ rfl
  have k6 : DataW.trod enc Try.prog W 0 (fun _ => true) true n' 23 [v6] = ys[6]? := hg 6 _ rfl
  have k7 : DataW.trod enc Try.prog W 0 (fun _ => true) true n' 22 [v7] = ys[7]? := hg 7 _ rfl
  have k8 : DataW.trod enc Try.prog W 0 (fun _ => true) true n' 22 [v8] = ys[8]? := hg 8 _ rfl
  have hys : ys.length = 9 := hyl
  obtain ⟨y0, e0⟩ : ∃ y, ys[0]? = some y := ⟨_, List.getElem?_eq_getElem (by omega)⟩
  obtain ⟨y1, e1⟩ : ∃ y, ys[1]? = some y := ⟨_, List.getElem?_eq_getElem (by omega)⟩
  obtain ⟨y2, e2⟩ : ∃ y, ys[2]? = some y := ⟨_, List.getElem?_eq_getElem (by omega)⟩
  obtain ⟨y3, e3⟩ : ∃ y, ys[3]? = some y := ⟨_, List.getElem?_eq_getElem (by omega)⟩
  obtain ⟨y4, e4⟩ : ∃ y, ys[4]? = some y := ⟨_, List.getElem?_eq_getElem (by omega)⟩
  obtain ⟨y5, e5⟩ : ∃ y, ys[5]? = some y := ⟨_, List.getElem?_eq_getElem (by omega)⟩
  obtain ⟨y6, e6⟩ : ∃ y, ys[6]? = some y := ⟨_, List.getElem?_eq_getElem (by omega)⟩
  obtain ⟨y7, e7⟩ : ∃ y, ys[7]? = some y := ⟨_, List.getElem?_eq_getElem (by omega)⟩
  obtain ⟨y8, e8⟩ : ∃ y, ys[8]? = some y := ⟨_, List.getElem?_eq_getElem (by omega)⟩
  obtain ⟨a0, rfl⟩ := bool_cell Try.underlying4 (k0.trans e0)
  obtain ⟨a1, rfl, b1⟩ := u32_cell Try.underlying22 (k1.trans e1)
  obtain ⟨a2, rfl, b2⟩ := u32_cell Try.underlying22 (k2.trans e2)
  obtain ⟨a3, rfl, b3⟩ := u64_cell Try.underlying23 (k3.trans e3)
  obtain ⟨a4, rfl, b4⟩ := u64_cell Try.underlying23 (k4.trans e4)
  obtain ⟨a5, rfl, b5⟩ := u64_cell Try.underlying23 (k5.trans e5)
  obtain ⟨a6, rfl, b6⟩ := u64_cell Try.underlying23 (k6.trans e6)
  obtain ⟨a7, rfl, b7⟩ := u32_cell Try.underlying22 (k7.trans e7)
  obtain ⟨a8, rfl, b8⟩ := u32_cell Try.underlying22 (k8.trans e8)
  exact ⟨⟨a0, a1, a2, a3, a4, a5, a6, a7, a8⟩, rfl, ⟨b1, b2, b3, b4, b5, b6, b7, b8⟩⟩
end Go.Proofs.Ytjionpkflpnejaa

namespace Go.Proofs.Ytjionpkflpnejaa
open Go.RowKit

/-- A row of the call's own may be written. -/
theorem Own.soft {w w' : World} {A : Option Addr} {n c : Nat} {l : List UInt8} (h : Own w w' A n c l) : ∀ ad, A = some ad → ∀ j, w'.frozen? ⟨ad.block, j, none⟩ = false := by
  intro ad e j
  rcases h.1.2 with ⟨h1, _⟩ | ⟨g, cap, cur, h1, _, h3, _⟩
  · injection h1 with h1 _ _
    rw [h1] at e
    cases e
  · injection h1 with h1 _ _
    rw [h1] at e
    cases e
    simp [World.frozen?, h3]
theorem clone_big (A : Option Addr) (n c : Nat) (l : List UInt8) (w : World) (h : BS w A n l) (hn : n ≤ big47) :
    Calls Try.prog 27 #[.slice A n c] w fun e w' => ∃ A' c', e = .returned (.slice A' n c') ∧ BS w' A' n l ∧ n ≤ c' ∧ (∀ ad, A' = some ad → w.heap.size ≤ ad.block) ∧ Below w.heap.size w w' ∧ (∀ ad, A' = some ad → ∀ j, w'.frozen? ⟨ad.block, j, none⟩ = false) := by
  rcases A with _ | ad
  · have h0 : n = 0 := by
      rcases Nat.eq_zero_or_pos n with h0 | h0
      · exact h0
      · obtain ⟨b, o, h, _⟩ := h.2 h0
        cases h
    subst h0
    obtain rfl : l = [] := List.eq_nil_of_length_eq_zero h.1
    refine (Try.bytes_Clone_nil 0 c w).mono ?_
    rintro e w' ⟨rfl, rfl⟩
    exact ⟨none, 0, rfl, BS.nil, Nat.le_refl _, fun ad e => by (cases e), Below.refl _ _, fun ad e => by (cases e)⟩
  · have hl := h.1
    refine (Try.bytes_Clone_at ad n c (l.map fun b => (b.toNat : Int)) w (by simpa using hl) (by exact hn) (fun i hi => ?_)).mono ?_
    · rw [h.news rfl i (.int .u8 ((l[i]'(by omega)).toNat : Int)) (bc_get l i (by omega))]
      simp [hl, hi]
    · rintro e w' ⟨v, rfl, ho, _, hb⟩
      have e1 : ((l.map fun b => (b.toNat : Int)).map (Value.int .u8)) = bc l := by simp [bc]
      rw [e1] at ho
      have hv : ∃ A' c', v = .slice A' n c' := by
        rcases ho.2 with ⟨h6, h7⟩ | ⟨g, cap, cur, h6, _⟩
        · exact ⟨none, 0, by rw [h6, h7]⟩
        · exact ⟨_, _, h6⟩
      obtain ⟨A', c', rfl⟩ := hv
      have hO : Own w w' A' n c' l := ⟨ho, hb⟩
      exact ⟨A', c', rfl, hO.bs, hO.cap, hO.new, hb, hO.soft⟩

set_option maxRecDepth 100000 in
set_option maxHeartbeats 1000000 in
theorem equal_any (A B : Option Addr) (n m c d : Nat) (k l : List UInt8) (w : World) (h : BS w A n k) (g : BS w B m l) :
    Calls Try.prog 33 #[.slice A n c, .slice B m d] w fun e w' => e = .returned (.bool (decide (k = l))) ∧ w' = w := by
  have v1 := run_convert_bs w A n c k h
  have v2 := run_convert_bs w B m d l g
  have e : ((txt k).toList == (txt l).toList) = decide (k = l) := by
    by_cases hk : k = l
    · subst hk; simp
    · have : ¬ (txt k).toList = (txt l).toList := by rw [txt_toList, txt_toList]; exact hk
      simp [hk, this]
  clear h g
  go_enter Try.func33, Try.ntmps33
  go_wp2
  go_ret
  exact ⟨by rw [← e]; rfl, rfl⟩

end Go.Proofs.Ytjionpkflpnejaa

namespace Go.Proofs.Ytjionpkflpnejaa
open Go.RowKit

section
variable {w : World} {m : Nat} {S : Nat → Prop} {p : Nat → Option (List UInt8)}
theorem PM.none_at (h : PM w m S p) (i : Nat) (hi : p i = none) : (Instr.lookup 60 (.map (some m)) (.int .i64 (i : Int)) true).run Try.prog w = .ok (.tuple #[.slice none 0 0, .bool false]) w := by
  obtain ⟨es, c, hb, hk, hp⟩ := h
  have ho := hp i
  have hik : MapKept.IsKey (.int .i64) (.int .i64 (i : Int)) := by simp [MapKept.IsKey]
  have hz := Try.zeroValue27 w
  rcases findNow_spec (i : Int) es.toList 0 hk with ⟨h1, h2⟩ | ⟨n, v, h1, h2, _⟩
  · simp [Instr.lookup, run_underlying Try.underlying60, MapKept.run_getObj_map hb, MapKept.run_checkKey Try.underlying3 hik, MapKept.run_findKey Try.underlying3 h2, hz, Result.andThen]
  · rw [h1, hi] at ho
    exact ho.elim
theorem PM.some_at (h : PM w m S p) (i : Nat) {b : List UInt8} (hi : p i = some b) : ∃ x : Sl, (Instr.lookup 60 (.map (some m)) (.int .i64 (i : Int)) true).run Try.prog w = .ok (.tuple #[.slice x.a x.n x.c, .bool true]) w ∧ BC w S x b := by
  obtain ⟨es, c, hb, hk, hp⟩ := h
  have ho := hp i
  have hik : MapKept.IsKey (.int .i64) (.int .i64 (i : Int)) := by simp [MapKept.IsKey]
  rcases findNow_spec (i : Int) es.toList 0 hk with ⟨h1, h2⟩ | ⟨n, v, h1, h2, _⟩
  · rw [h1, hi] at ho
    exact ho.elim
  · rw [h1, hi] at ho
    obtain ⟨x, rfl, hx⟩ := ho
    exact ⟨x, by simp [Instr.lookup, run_underlying Try.underlying60, MapKept.run_getObj_map hb, MapKept.run_checkKey Try.underlying3 hik, MapKept.run_findKey Try.underlying3 h2, Result.andThen, Sl.v], hx⟩
theorem PM.update (h : PM w m S p) (i : Nat) (x : Sl) (b : List UInt8) (hx : BC w S x b) :
    ∃ w', (Instr.mapUpdate 60 (.map (some m)) (.int .i64 (i : Int)) (.slice x.a x.n x.c)).run Try.prog w = .ok () w' ∧ PM w' m S (fun j => if j = i then some b else p j) ∧ Ch (· = m) w w' ∧ w'.heap.size = w.heap.size := by
  have hd := h.dull
  obtain ⟨es, c, hb, hkeys, hF⟩ := h
  have hik : MapKept.IsKey (.int .i64) (.int .i64 (i : Int)) := by simp [MapKept.IsKey]
  have gb : ∀ o : Obj, Ch (· = m) w { w with heap := w.heap.setIfInBounds m o } := fun o => ⟨⟨rfl, rfl, rfl, by simp, fun j hj => by
    simp only [Array.getElem?_setIfInBounds]
    rw [if_neg (fun e => hj.2 e.symm)]⟩, fun k hk => by rw [hk]; exact hd⟩
  rcases findNow_spec (i : Int) es.toList 0 hkeys with ⟨h1, h2⟩ | ⟨n, v, h1, h2, h3, h4, h5⟩
  · refine ⟨{ w with heap := w.heap.setIfInBounds m (.map (es.push { key := .int .i64 (i : Int), val := x.v, born := c }) (c + 1)) }, ?_, ⟨_, _, (MapKept.heap_set hb).1, ?_, ?_⟩, gb _, by simp⟩
    · simp [Instr.mapUpdate, run_underlying Try.underlying60, MapKept.run_getObj_map hb, MapKept.run_checkKey Try.underlying3 hik, MapKept.run_findKey Try.underlying3 h2, MapKept.run_setObj_map _ hb, Result.andThen, Sl.v]
    · intro e he
      simp only [Array.toList_push, List.mem_append, List.mem_singleton] at he
      rcases he with he | rfl
      · exact hkeys e he
      · exact ⟨i, rfl⟩
    · intro j
      have happ : ∀ (A : List MapEntry) (x : MapEntry), look (A ++ [x]) (j : Int) = (look A (j : Int)).or (if keyI x.key = some (j : Int) then some x.val else none) := by
        intro A x
        induction A with
        | nil => simp [look]
        | cons y A ih => simp only [List.cons_append, look, ih]; split <;> simp
      rw [Array.toList_push, happ]
      by_cases e1 : j = i
      · subst e1
        simp only [h1, keyI, if_true, Option.none_or]
        exact ⟨x, rfl, hx.ch (gb _)⟩
      · have e2 : ¬ (i : Int) = (j : Int) := fun e => e1 (by omega)
        simp only [keyI, Option.some.injEq, if_neg e2, if_neg e1, Option.or_none]
        exact (hF j).imp fun _ _ hb => hb.ch (gb _)
  · have hes : ((es[n]?).map (·.key)).getD (.int .i64 (i : Int)) = .int .i64 (i : Int) := by
      have : es[n]? = es.toList[n]? := by simp
      rw [this, h4]
      rfl
    refine ⟨{ w with heap := w.heap.setIfInBounds m (.map (es.modify n fun e => { e with key := .int .i64 (i : Int), val := x.v }) c) }, ?_, ⟨_, _, (MapKept.heap_set hb).1, ?_, ?_⟩, gb _, by simp⟩
    · simp [Instr.mapUpdate, run_underlying Try.underlying60, MapKept.run_getObj_map hb, MapKept.run_checkKey Try.underlying3 hik, MapKept.run_findKey Try.underlying3 h2, MapKept.run_setObj_map _ hb, Result.andThen, hes, MapKept.run_keyThatStays hik, Sl.v]
    · intro e he
      rw [Array.toList_modify] at he
      obtain ⟨j, hj⟩ := List.mem_iff_getElem?.1 he
      rw [List.getElem?_modify] at hj
      obtain ⟨x, hx, rfl⟩ := Option.map_eq_some_iff.1 hj
      by_cases hnj : n = j
      · rw [if_pos hnj]
        exact ⟨i, rfl⟩
      · rw [if_neg hnj]
        exact hkeys x (List.mem_of_getElem? hx)
    · intro j
      rw [Array.toList_modify, h5]
      by_cases e1 : j = i
      · subst e1
        simp only [if_true]
        exact ⟨x, rfl, hx.ch (gb _)⟩
      · have e2 : ¬ (j : Int) = (i : Int) := fun e => e1 (by omega)
        simp only [if_neg e2, if_neg e1]
        exact (hF j).imp fun _ _ hb => hb.ch (gb _)
end

section
variable {w : World} {p m : Nat} {x : Sl} {S : Nat → Prop} {X : TX}
set_option maxHeartbeats 400000 in
theorem tlen_nil (w : World) : Calls Try.prog 32 #[.pointer none] w fun e w' => e = .returned (.int .i64 0) ∧ w' = w := by
  go_enter Try.func32, Try.ntmps32
  go_wp2
  go_ret
  exact ⟨rfl, rfl⟩
set_option maxHeartbeats 400000 in
theorem tlen_any (h : Tq w p m x S X) : Calls Try.prog 32 #[.pointer (some ⟨p, 0, none⟩)] w fun e w' => e = .returned (.int .i64 (x.n : Int)) ∧ w' = w := by
  have h0 := h.c0
  clear h
  go_enter Try.func32, Try.ntmps32
  go_wp2
  go_ret
  exact ⟨rfl, rfl⟩
/-- Is there a block i? -/
def hasB (n : Nat) (i : Int) : Bool := decide (0 ≤ i) && decide (i < (n : Int))
set_option maxHeartbeats 400000 in
theorem has_any (h : Tq w p m x S X) (i : Int) : Calls Try.prog 45 #[.pointer (some ⟨p, 0, none⟩), .int .i64 i] w fun e w' => e = .returned (.bool (hasB x.n i)) ∧ w' = w := by
  have HC := Lib.hid (tlen_any h)
  clear h
  by_cases h0 : 0 ≤ i
  · by_cases h1 : i < (x.n : Int)
    · have HE : Hid (hasB x.n i = true) := by show _ = _; simp [hasB, h0, h1]
      have hd : decide (i < (x.n : Int)) = true := by simpa using h1
      go_enter Try.func45, Try.ntmps45
      go_wp2_with fail
      refine HC.out.mono ?_
      rintro e w' ⟨rfl, rfl⟩
      go_wp2
      go_ret
      rw [HE.out]
      exact ⟨rfl, rfl⟩
    · have HE : Hid (hasB x.n i = false) := by show _ = _; simp [hasB, h1]
      have hd : decide (i < (x.n : Int)) = false := by simpa using h1
      go_enter Try.func45, Try.ntmps45
      go_wp2_with fail
      refine HC.out.mono ?_
      rintro e w' ⟨rfl, rfl⟩
      go_wp2
      go_ret
      rw [HE.out]
      exact ⟨rfl, rfl⟩
  · have HE : Hid (hasB x.n i = false) := by show _ = _; simp [hasB, h0]
    go_enter Try.func45, Try.ntmps45
    go_wp2
    go_ret
    rw [HE.out]
    exact ⟨rfl, rfl⟩
set_option maxHeartbeats 400000 in
theorem has_nil (i : Int) (w : World) : Calls Try.prog 45 #[.pointer none, .int .i64 i] w fun e w' => e = .returned (.bool false) ∧ w' = w := by
  have HC := Lib.hid (tlen_nil w)
  by_cases h0 : 0 ≤ i
  · have hd : decide (i < 0) = false := by simp; omega
    go_enter Try.func45, Try.ntmps45
    go_wp2_with fail
    refine HC.out.mono ?_
    rintro e w' ⟨rfl, rfl⟩
    go_wp2
    go_ret
    exact ⟨rfl, rfl⟩
  · go_enter Try.func45, Try.ntmps45
    go_wp2
    go_ret
    exact ⟨rfl, rfl⟩
/-- What Get hands back: bytes of its own. -/
def GotB (w : World) (l : List UInt8) (e : Ending) (w' : World) : Prop := ∃ A n c, e = .returned (.slice A n c) ∧ BS w' A n l ∧ n ≤ c ∧ n ≤ big47 ∧ (∀ ad, A = some ad → w.heap.size ≤ ad.block) ∧ Below w.heap.size w w' ∧ ∀ ad, A = some ad → ∀ j, w'.frozen? ⟨ad.block, j, none⟩ = false
set_option maxHeartbeats 1000000 in
theorem get_no (h : Tq w p m x S X) (i : Int) (hi : hasB x.n i = false) : Calls Try.prog 29 #[.pointer (some ⟨p, 0, none⟩), .int .i64 i] w (GotB w []) := by
  have HC := Lib.hid (has_any h i)
  rw [hi] at HC
  clear h hi
  go_enter Try.func29, Try.ntmps29
  go_wp2_with fail
  refine HC.out.mono ?_
  rintro e w' ⟨rfl, rfl⟩
  go_wp2
  go_ret
  exact ⟨none, 0, 0, rfl, BS.nil, Nat.le_refl _, Nat.zero_le _, (fun _ e => by cases e), Below.refl _ _, (fun _ e => by cases e)⟩
set_option maxHeartbeats 1000000 in
theorem get_nil (i : Int) (w : World) : Calls Try.prog 29 #[.pointer none, .int .i64 i] w fun e w' => e = .returned (.slice none 0 0) ∧ w' = w := by
  have HC := Lib.hid (has_nil i w)
  go_enter Try.func29, Try.ntmps29
  go_wp2_with fail
  refine HC.out.mono ?_
  rintro e w' ⟨rfl, rfl⟩
  go_wp2
  go_ret
  exact ⟨rfl, rfl⟩
theorem hasB_nat {n i : Nat} (h : i < n) : hasB n (i : Int) = true := by simp [hasB, h]
set_option maxHeartbeats 1000000 in
theorem get_ok (h : Tq w p m x S X) (i : Nat) (hi : i < x.n) : Calls Try.prog 29 #[.pointer (some ⟨p, 0, none⟩), .int .i64 (i : Int)] w (GotB w (X.get i)) := by
  have HC := Lib.hid (has_any h (i : Int))
  rw [hasB_nat hi] at HC
  have c0 := h.c0
  have c1 := h.c1
  cases hp : X.p i with
  | none =>
    have hl := h.puts.none_at i hp
    obtain ⟨g, y, hxa, hg, hb⟩ := h.rows.at hi
    have HB := Lib.hid hb
    have HE : Hid (X.get i = X.l.getD i []) := TX.get_none hp
    clear h hp hb
    rw [hxa] at c0
    clear hxa
    go_enter Try.func29, Try.ntmps29
    go_wp2_with fail
    refine HC.out.mono ?_
    rintro e w' ⟨rfl, rfl⟩
    go_wp2_with fail
    refine (clone_big y.a y.n y.c _ w' HB.out.bs HB.out.few).mono ?_
    rintro e w2 ⟨A, c, rfl, h1, h2, h3, h4, h5⟩
    have HH : Hid (GotB w' (X.get i) (.returned (.slice A y.n c)) w2) := by
      show GotB _ _ _ _
      rw [HE.out]
      exact ⟨A, _, c, rfl, h1, h2, HB.out.few, h3, h4, h5⟩
    clear h1 h2 h3 h4 h5
    go_wp2_with fail
    go_ret
    exact HH.out
  | some b =>
    obtain ⟨y, hl, hb⟩ := h.puts.some_at i hp
    have HB := Lib.hid hb
    have HE : Hid (X.get i = b) := TX.get_of hp
    clear h hp hb
    go_enter Try.func29, Try.ntmps29
    go_wp2_with fail
    refine HC.out.mono ?_
    rintro e w' ⟨rfl, rfl⟩
    go_wp2_with fail
    refine (clone_big y.a y.n y.c _ w' HB.out.bs HB.out.few).mono ?_
    rintro e w2 ⟨A, c, rfl, h1, h2, h3, h4, h5⟩
    have HH : Hid (GotB w' (X.get i) (.returned (.slice A y.n c)) w2) := by
      show GotB _ _ _ _
      rw [HE.out]
      exact ⟨A, _, c, rfl, h1, h2, HB.out.few, h3, h4, h5⟩
    clear h1 h2 h3 h4 h5
    go_wp2_with fail
    go_ret
    exact HH.out
end
end Go.Proofs.Ytjionpkflpnejaa
