/-
  Contract of package call's GetCall (layer 9).
-/
import Derived.Test.YtobhmjokoicpoaaDoorKPutR
import Derived.Test.YtobhmjokoicpoaaDoorEKit
namespace Go.Proofs.YtobhmjokoicpoaaDoor
open Go.RowKit

/-- While a call or a reply is read: the result's block r, the variable's block g, the Reader q. -/
structure GG (w : World) (q r g : Nat) (t : TypeId) (z cs : List Value) (s : St) (W : World) : Prop where
  rd : Rd W q s.1 s.2
  res : Bw W r z t
  var : Bw W g cs t
  bel : Below w.heap.size w W
  lr : w.heap.size ≤ r
  lg : w.heap.size ≤ g
  lq : w.heap.size ≤ q
  rg : r ≠ g
  qr : q ≠ r
  qg : q ≠ g
  nt : t ≠ 5
section
variable {w W W' : World} {q r g : Nat} {t : TypeId} {z cs cs' : List Value} {s s' : St}
theorem GG.read (h : GG w q r g t z cs s W) (hr : Rd W' q s'.1 s'.2) (hg : W.grownBy W' (some q)) : GG w q r g t z cs s' W' :=
  ⟨hr, h.res.grown hg (fun e => h.qr (by injection e)), h.var.grown hg (fun e => h.qg (by injection e)),
    h.bel.trans ⟨hg.os, hg.tape, hg.output, hg.size, fun k hk => hg.block k (Nat.lt_of_lt_of_le hk h.bel.size) (fun e => by injection e with e; have := h.lq; omega)⟩, h.lr, h.lg, h.lq, h.rg, h.qr, h.qg, h.nt⟩
theorem GG.set (h : GG w q r g t z cs s W) (hb : Bw W' g cs' t) (hk : Keep (· ≠ g) W W') : GG w q r g t z cs' s W' := by
  have lg := h.lg
  exact ⟨h.rd.off h.var h.nt h.qg (fun k _ hn => hk.block k hn), h.res.keep hk h.rg, hb, h.bel.trans (hk.below2 (fun k hk => by omega)), h.lr, h.lg, h.lq, h.rg, h.qr, h.qg, h.nt⟩
theorem GG.below (h : GG w q r g t z cs s W) (hb : Below W.heap.size W W') : GG w q r g t z cs s W' :=
  ⟨h.rd.kept hb, h.res.below hb, h.var.below hb, h.bel.trans (hb.mono h.bel.size), h.lr, h.lg, h.lq, h.rg, h.qr, h.qg, h.nt⟩
theorem GG.start {w1 w2 w3 : World} {l : List UInt8} (h1 : w1.heap[w.heap.size]? = some (.cells z.toArray t (0, 0))) (s1 : w1.heap.size = w.heap.size + 1) (b1 : Below w.heap.size w w1)
    (h2 : w2.heap[w1.heap.size]? = some (.cells z.toArray t (0, 0))) (s2 : w2.heap.size = w1.heap.size + 1) (b2 : Below w1.heap.size w1 w2) (h : Rd w3 q l 0) (b3 : Below w2.heap.size w2 w3) (hq : w2.heap.size ≤ q) (hn : t ≠ 5) : GG w q w.heap.size w1.heap.size t z z (l, 0) w3 := by
  exact ⟨h, (b3.block _ (by omega)).trans ((b2.block _ (by omega)).trans h1), (b3.block _ (by omega)).trans h2, b1.trans ((b2.mono (by omega)).trans (b3.mono (by omega))), Nat.le_refl _, by omega, by omega, by omega, by omega, by omega, hn⟩
end

theorem seq_rd {α β : Type} (A : Cd α) (B : Cd β) (s : St) : (A.seq B).rd s = ((B.rd (A.rd s).1).1, ((A.rd s).2, (B.rd (A.rd s).1).2)) := rfl
section
variable (l : List UInt8)
def Cl.q1 := rdN 4 (l, 0)
def Cl.q2 := rdN 4 (Cl.q1 l).1
def Cl.q3 := rdN 4 (Cl.q2 l).1
def Cl.q4 := cH.rd (Cl.q3 l).1
def Cl.q5 := rdO 64 (Cl.q4 l).1
def Cl.q6 := cH.rd (Cl.q5 l).1
def Cl.q7 := rdO 64 (Cl.q6 l).1
def Cl.q8 := rdN 8 (Cl.q7 l).1
def Cl.q9 := rdN 8 (Cl.q8 l).1
def Cl.q10 := rdN 4 (Cl.q9 l).1
def Cl.q11 := rdN 4 (Cl.q10 l).1
def Cl.q12 := rdO 1024 (Cl.q11 l).1
theorem Cl.all_q : callC.rd (l, 0) = ((Cl.q12 l).1, (Cl.mk (Cl.q1 l).2 (Cl.q2 l).2 (Cl.q3 l).2 (Cl.q4 l).2.1 (Cl.q4 l).2.2 (Cl.q5 l).2 (Cl.q6 l).2.1 (Cl.q6 l).2.2 (Cl.q7 l).2 (Cl.q8 l).2 (Cl.q9 l).2 (Cl.q10 l).2 (Cl.q11 l).2 (Cl.q12 l).2).tup) := by
  unfold callC
  simp only [seq_rd]
  rfl
theorem Cl.bad_q : callC.bad l = endOf (Cl.q12 l).1.1 (Cl.q12 l).1.2 := by
  unfold Cd.bad
  rw [Cl.all_q l]
theorem Cl.rd_q : Cl.rd l = ⟨(Cl.q1 l).2, (Cl.q2 l).2, (Cl.q3 l).2, (Cl.q4 l).2.1, (Cl.q4 l).2.2, (Cl.q5 l).2, (Cl.q6 l).2.1, (Cl.q6 l).2.2, (Cl.q7 l).2, (Cl.q8 l).2, (Cl.q9 l).2, (Cl.q10 l).2, (Cl.q11 l).2, (Cl.q12 l).2⟩ := by
  unfold Cl.rd
  rw [Cl.all_q l]
  rfl
end
theorem built_Call : Tryd.prog.built 28 [] = some (cc Cl.zero (.slice none 0 0)).toArray := by kernel_rfl
theorem cc_one (c : Cl) (A : Option Addr) (n cp : Nat) : ∀ v ∈ cc c (.slice A n cp), v.oneCell' = true := by
  intro v hv
  simp only [cc, List.mem_cons, List.not_mem_nil, or_false] at hv
  rcases hv with rfl | rfl | rfl | rfl | rfl | rfl | rfl | rfl | rfl | rfl | rfl | rfl | rfl | rfl <;> rfl
/-- What GetCall hands back. -/
def GetQ (c : Cl) (z : Int) (w : World) (e : Ending) (w' : World) : Prop := ∃ A n cp, e = .returned (.tuple #[.agg (cc c (.slice A n cp)).toArray, .int .i64 z]) ∧ BS w' A n c.dt ∧ Below w.heap.size w w'

set_option maxRecDepth 100000 in
set_option maxHeartbeats 4000000 in
theorem getCall_any (A : Option Addr) (n cp : Nat) (l : List UInt8) (w : World) (h : BS w A n l) (hn : n ≤ 10000000) :
    Calls Tryd.prog 13 #[.slice A n cp] w (GetQ (Cl.got l) (Cl.err l) w) := by
  have HL := Lib.hid h
  clear h
  go_enter Tryd.func13, Tryd.ntmps13
  go_upto_region 1 with (refine wpList_alloc_any rfl 28 rfl _ zero_C ?_; intro w1 hb1 hs1 hw1)
  go_upto_region 2 with (refine wpList_alloc_any rfl 28 rfl _ zero_C ?_; intro w2 hb2 hs2 hw2)
  have hl2 := HL.out.below (hw1.trans (hw2.mono (by omega)))
  have B1 := Lib.hid hb1
  have B2 := Lib.hid hs1
  have B3 := Lib.hid hw1
  have B4 := Lib.hid hb2
  have B5 := Lib.hid hs2
  have B6 := Lib.hid hw2
  clear hb1 hs1 hw1 hb2 hs2 hw2 HL
  go_wp2_with fail
  refine (newReader_any A n cp l w2 hl2 (by omega)).mono ?_
  rintro e v0 ⟨q, rfl, hrd, hb3, hq⟩
  have H0 : Hid (GG w q w.heap.size w1.heap.size 28 (cc Cl.zero (.slice none 0 0)) (cc Cl.zero (.slice none 0 0)) (l, 0) v0) := GG.start B1.out B2.out B3.out B4.out B5.out B6.out hrd hb3 hq (by decide)
  clear B1 B2 B3 B4 B5 B6 hrd hb3 hq hl2
  go_wp2_with fail
  refine (u32r _ q _ _ H0.out.rd).mono ?_
  rintro e v1 ⟨rfl, hr, hgr⟩
  have H1 := Lib.hid (H0.out.read (s' := (Cl.q1 l).1) hr hgr)
  clear hr hgr H0
  go_upto_region 4 with (refine wpList_store_cell rfl 22 (.tmp 11) (.tmp 10) rfl _ 0 (.int .u32 ((Cl.q1 l).2 : Int)) rfl rfl 28 _ H1.out.var (by kernel_rfl) rfl (by simp [cc]) rfl ?_; intro x1 hb _ hk)
  have H2 : Hid (GG w q w.heap.size w1.heap.size 28 (cc Cl.zero (.slice none 0 0)) (cc ⟨(Cl.q1 l).2, 0, 0, 0, 0, [], 0, 0, [], 0, 0, 0, 0, []⟩ (.slice none 0 0)) (Cl.q1 l).1 x1) := H1.out.set hb hk
  clear hb hk H1
  go_wp2_with fail
  refine (u32r _ q _ _ H2.out.rd).mono ?_
  rintro e v2 ⟨rfl, hr, hgr⟩
  have H3 := Lib.hid (H2.out.read (s' := (Cl.q2 l).1) hr hgr)
  clear hr hgr H2
  go_upto_region 5 with (refine wpList_store_cell rfl 22 (.tmp 14) (.tmp 13) rfl _ 1 (.int .u32 ((Cl.q2 l).2 : Int)) rfl rfl 28 _ H3.out.var (by kernel_rfl) rfl (by simp [cc]) rfl ?_; intro x2 hb _ hk)
  have H4 : Hid (GG w q w.heap.size w1.heap.size 28 (cc Cl.zero (.slice none 0 0)) (cc ⟨(Cl.q1 l).2, (Cl.q2 l).2, 0, 0, 0, [], 0, 0, [], 0, 0, 0, 0, []⟩ (.slice none 0 0)) (Cl.q2 l).1 x2) := H3.out.set hb hk
  clear hb hk H3
  go_wp2_with fail
  refine (u32r _ q _ _ H4.out.rd).mono ?_
  rintro e v3 ⟨rfl, hr, hgr⟩
  have H5 := Lib.hid (H4.out.read (s' := (Cl.q3 l).1) hr hgr)
  clear hr hgr H4
  go_upto_region 6 with (refine wpList_store_cell rfl 22 (.tmp 17) (.tmp 16) rfl _ 2 (.int .u32 ((Cl.q3 l).2 : Int)) rfl rfl 28 _ H5.out.var (by kernel_rfl) rfl (by simp [cc]) rfl ?_; intro x3 hb _ hk)
  have H6 : Hid (GG w q w.heap.size w1.heap.size 28 (cc Cl.zero (.slice none 0 0)) (cc ⟨(Cl.q1 l).2, (Cl.q2 l).2, (Cl.q3 l).2, 0, 0, [], 0, 0, [], 0, 0, 0, 0, []⟩ (.slice none 0 0)) (Cl.q3 l).1 x3) := H5.out.set hb hk
  clear hb hk H5
  go_wp2_with fail
  refine (getHandle_any _ q _ H6.out.rd).mono ?_
  rintro e v4 ⟨rfl, hr, hgr⟩
  have H7 := Lib.hid (H6.out.read (s' := (Cl.q4 l).1) hr hgr)
  clear hr hgr H6
  go_upto_region 7 with (refine wpList_store_part rfl 24 (.tmp 20) (.tmp 19) rfl _ 3 (hc (Cl.q4 l).2.1 (Cl.q4 l).2.2) rfl rfl 28 _ H7.out.var size_H (by simp [cc, hc]) (hc_one _ _) ?_; intro x4 hb _ hk)
  have H8 : Hid (GG w q w.heap.size w1.heap.size 28 (cc Cl.zero (.slice none 0 0)) (cc ⟨(Cl.q1 l).2, (Cl.q2 l).2, (Cl.q3 l).2, (Cl.q4 l).2.1, (Cl.q4 l).2.2, [], 0, 0, [], 0, 0, 0, 0, []⟩ (.slice none 0 0)) (Cl.q4 l).1 x4) := H7.out.set hb hk
  clear hb hk H7
  go_wp2_with fail
  refine (opaquer _ q _ _ 64 (by omega) (by omega) H8.out.rd).mono ?_
  rintro e v5 ⟨B5, d5, rfl, hbs, hr, hgr, _⟩
  have H9 := Lib.hid (H8.out.read (s' := (Cl.q5 l).1) hr hgr)
  clear hr hgr H8
  go_upto_region 8 with (first | (refine wpList_conv_bs rfl (.tmp 22) rfl B5 _ d5 (Cl.q5 l).2 rfl hbs ?_) | (refine wpList_store_cell rfl 9 (.tmp 24) (.tmp 23) rfl _ 5 (.string (txt (Cl.q5 l).2)) rfl rfl 28 _ H9.out.var (by kernel_rfl) rfl (by simp [cc]) rfl ?_; intro x5 hb _ hk))
  have H10 : Hid (GG w q w.heap.size w1.heap.size 28 (cc Cl.zero (.slice none 0 0)) (cc ⟨(Cl.q1 l).2, (Cl.q2 l).2, (Cl.q3 l).2, (Cl.q4 l).2.1, (Cl.q4 l).2.2, (Cl.q5 l).2, 0, 0, [], 0, 0, 0, 0, []⟩ (.slice none 0 0)) (Cl.q5 l).1 x5) := H9.out.set hb hk
  clear hb hk H9 hbs
  go_wp2_with fail
  refine (getHandle_any _ q _ H10.out.rd).mono ?_
  rintro e v6 ⟨rfl, hr, hgr⟩
  have H11 := Lib.hid (H10.out.read (s' := (Cl.q6 l).1) hr hgr)
  clear hr hgr H10
  go_upto_region 9 with (refine wpList_store_part rfl 24 (.tmp 27) (.tmp 26) rfl _ 6 (hc (Cl.q6 l).2.1 (Cl.q6 l).2.2) rfl rfl 28 _ H11.out.var size_H (by simp [cc, hc]) (hc_one _ _) ?_; intro x6 hb _ hk)
  have H12 : Hid (GG w q w.heap.size w1.heap.size 28 (cc Cl.zero (.slice none 0 0)) (cc ⟨(Cl.q1 l).2, (Cl.q2 l).2, (Cl.q3 l).2, (Cl.q4 l).2.1, (Cl.q4 l).2.2, (Cl.q5 l).2, (Cl.q6 l).2.1, (Cl.q6 l).2.2, [], 0, 0, 0, 0, []⟩ (.slice none 0 0)) (Cl.q6 l).1 x6) := H11.out.set hb hk
  clear hb hk H11
  go_wp2_with fail
  refine (opaquer _ q _ _ 64 (by omega) (by omega) H12.out.rd).mono ?_
  rintro e v7 ⟨B7, d7, rfl, hbs, hr, hgr, _⟩
  have H13 := Lib.hid (H12.out.read (s' := (Cl.q7 l).1) hr hgr)
  clear hr hgr H12
  go_upto_region 10 with (first | (refine wpList_conv_bs rfl (.tmp 29) rfl B7 _ d7 (Cl.q7 l).2 rfl hbs ?_) | (refine wpList_store_cell rfl 9 (.tmp 31) (.tmp 30) rfl _ 8 (.string (txt (Cl.q7 l).2)) rfl rfl 28 _ H13.out.var (by kernel_rfl) rfl (by simp [cc]) rfl ?_; intro x7 hb _ hk))
  have H14 : Hid (GG w q w.heap.size w1.heap.size 28 (cc Cl.zero (.slice none 0 0)) (cc ⟨(Cl.q1 l).2, (Cl.q2 l).2, (Cl.q3 l).2, (Cl.q4 l).2.1, (Cl.q4 l).2.2, (Cl.q5 l).2, (Cl.q6 l).2.1, (Cl.q6 l).2.2, (Cl.q7 l).2, 0, 0, 0, 0, []⟩ (.slice none 0 0)) (Cl.q7 l).1 x7) := H13.out.set hb hk
  clear hb hk H13 hbs
  go_wp2_with fail
  refine (u64r _ q _ _ H14.out.rd).mono ?_
  rintro e v8 ⟨rfl, hr, hgr⟩
  have H15 := Lib.hid (H14.out.read (s' := (Cl.q8 l).1) hr hgr)
  clear hr hgr H14
  go_upto_region 11 with (refine wpList_store_cell rfl 25 (.tmp 34) (.tmp 33) rfl _ 9 (.int .u64 ((Cl.q8 l).2 : Int)) rfl rfl 28 _ H15.out.var (by kernel_rfl) rfl (by simp [cc]) rfl ?_; intro x8 hb _ hk)
  have H16 : Hid (GG w q w.heap.size w1.heap.size 28 (cc Cl.zero (.slice none 0 0)) (cc ⟨(Cl.q1 l).2, (Cl.q2 l).2, (Cl.q3 l).2, (Cl.q4 l).2.1, (Cl.q4 l).2.2, (Cl.q5 l).2, (Cl.q6 l).2.1, (Cl.q6 l).2.2, (Cl.q7 l).2, (Cl.q8 l).2, 0, 0, 0, []⟩ (.slice none 0 0)) (Cl.q8 l).1 x8) := H15.out.set hb hk
  clear hb hk H15
  go_wp2_with fail
  refine (u64r _ q _ _ H16.out.rd).mono ?_
  rintro e v9 ⟨rfl, hr, hgr⟩
  have H17 := Lib.hid (H16.out.read (s' := (Cl.q9 l).1) hr hgr)
  clear hr hgr H16
  go_upto_region 12 with (refine wpList_store_cell rfl 25 (.tmp 37) (.tmp 36) rfl _ 10 (.int .u64 ((Cl.q9 l).2 : Int)) rfl rfl 28 _ H17.out.var (by kernel_rfl) rfl (by simp [cc]) rfl ?_; intro x9 hb _ hk)
  have H18 : Hid (GG w q w.heap.size w1.heap.size 28 (cc Cl.zero (.slice none 0 0)) (cc ⟨(Cl.q1 l).2, (Cl.q2 l).2, (Cl.q3 l).2, (Cl.q4 l).2.1, (Cl.q4 l).2.2, (Cl.q5 l).2, (Cl.q6 l).2.1, (Cl.q6 l).2.2, (Cl.q7 l).2, (Cl.q8 l).2, (Cl.q9 l).2, 0, 0, []⟩ (.slice none 0 0)) (Cl.q9 l).1 x9) := H17.out.set hb hk
  clear hb hk H17
  go_wp2_with fail
  refine (u32r _ q _ _ H18.out.rd).mono ?_
  rintro e v10 ⟨rfl, hr, hgr⟩
  have H19 := Lib.hid (H18.out.read (s' := (Cl.q10 l).1) hr hgr)
  clear hr hgr H18
  go_upto_region 13 with (refine wpList_store_cell rfl 22 (.tmp 40) (.tmp 39) rfl _ 11 (.int .u32 ((Cl.q10 l).2 : Int)) rfl rfl 28 _ H19.out.var (by kernel_rfl) rfl (by simp [cc]) rfl ?_; intro x10 hb _ hk)
  have H20 : Hid (GG w q w.heap.size w1.heap.size 28 (cc Cl.zero (.slice none 0 0)) (cc ⟨(Cl.q1 l).2, (Cl.q2 l).2, (Cl.q3 l).2, (Cl.q4 l).2.1, (Cl.q4 l).2.2, (Cl.q5 l).2, (Cl.q6 l).2.1, (Cl.q6 l).2.2, (Cl.q7 l).2, (Cl.q8 l).2, (Cl.q9 l).2, (Cl.q10 l).2, 0, []⟩ (.slice none 0 0)) (Cl.q10 l).1 x10) := H19.out.set hb hk
  clear hb hk H19
  go_wp2_with fail
  refine (u32r _ q _ _ H20.out.rd).mono ?_
  rintro e v11 ⟨rfl, hr, hgr⟩
  have H21 := Lib.hid (H20.out.read (s' := (Cl.q11 l).1) hr hgr)
  clear hr hgr H20
  go_upto_region 14 with (refine wpList_store_cell rfl 22 (.tmp 43) (.tmp 42) rfl _ 12 (.int .u32 ((Cl.q11 l).2 : Int)) rfl rfl 28 _ H21.out.var (by kernel_rfl) rfl (by simp [cc]) rfl ?_; intro x11 hb _ hk)
  have H22 : Hid (GG w q w.heap.size w1.heap.size 28 (cc Cl.zero (.slice none 0 0)) (cc ⟨(Cl.q1 l).2, (Cl.q2 l).2, (Cl.q3 l).2, (Cl.q4 l).2.1, (Cl.q4 l).2.2, (Cl.q5 l).2, (Cl.q6 l).2.1, (Cl.q6 l).2.2, (Cl.q7 l).2, (Cl.q8 l).2, (Cl.q9 l).2, (Cl.q10 l).2, (Cl.q11 l).2, []⟩ (.slice none 0 0)) (Cl.q11 l).1 x11) := H21.out.set hb hk
  clear hb hk H21
  go_wp2_with fail
  refine (opaquer _ q _ _ 1024 (by omega) (by omega) H22.out.rd).mono ?_
  rintro e v12 ⟨B12, d12, rfl, hbs, hr, hgr, hfr⟩
  have H23 := Lib.hid (H22.out.read (s' := (Cl.q12 l).1) hr hgr)
  have HF : Hid (∀ ad, B12 = some ad → ad.block ≠ w.heap.size ∧ ad.block ≠ w1.heap.size) := fun ad h => by have h1 := (hfr ad h).1; have h2 := H22.out.res.lt; have h3 := H22.out.var.lt; omega
  have HBS := Lib.hid hbs
  clear hfr hbs
  clear hr hgr H22
  go_upto_region 15 with (refine wpList_store_cell rfl 26 (.tmp 46) (.tmp 45) rfl _ 13 (.slice B12 (Cl.q12 l).2.length d12) rfl rfl 28 _ H23.out.var (by kernel_rfl) rfl (by simp [cc]) rfl ?_; intro x12 hb _ hk)
  have H24 : Hid (GG w q w.heap.size w1.heap.size 28 (cc Cl.zero (.slice none 0 0)) (cc ⟨(Cl.q1 l).2, (Cl.q2 l).2, (Cl.q3 l).2, (Cl.q4 l).2.1, (Cl.q4 l).2.2, (Cl.q5 l).2, (Cl.q6 l).2.1, (Cl.q6 l).2.2, (Cl.q7 l).2, (Cl.q8 l).2, (Cl.q9 l).2, (Cl.q10 l).2, (Cl.q11 l).2, (Cl.q12 l).2⟩ (.slice B12 (Cl.q12 l).2.length d12)) (Cl.q12 l).1 x12) := H23.out.set hb hk
  have HBX := Lib.hid (HBS.out.keepLt hk (fun _ ad h => (HF.out ad h).2))
  clear hb hk H23
  have HLR : Hid (w.heap.size ≤ w1.heap.size ∧ w.heap.size ≠ w1.heap.size) := ⟨H24.out.lg, H24.out.rg⟩
  go_wp2_with fail
  refine (end_any _ q _ _ H24.out.rd).mono ?_
  rintro e v13 ⟨rfl, rfl⟩
  rw [← Cl.bad_q l]
  by_cases hbad : callC.bad l = 0
  rotate_left
  · have hd : (callC.bad l != 0) = true := by simpa using hbad
    have HE : Hid (Cl.err l = callC.bad l) := if_pos hbad
    have HG : Hid (Cl.got l = Cl.zero) := if_neg (by rw [HE.out]; exact hbad)
    clear hbad
    generalize callC.bad l = z at *
    go_wp2_with (first
      | (refine wpList_build rfl 28 #[] rfl (by show (Tryd.prog.built _ []).isSome = true; rw [built_Call]; rfl) ?_; rw [show (Tryd.prog.built 28 (Array.map _ #[]).toList) = _ from built_Call])
      | (refine wpList_store_part rfl 28 (.tmp 2) (.tmp 51) rfl w.heap.size 0 (cc Cl.zero (.slice none 0 0)) rfl rfl 28 _ H24.out.res size_C (by simp [cc]) (cc_one _ _ _ _) ?_
         intro y hb _ hk
         have HB := Lib.hid hb
         have HK := Lib.hid hk
         clear hb hk))
    exact bodyPost_ret (results_cell rfl _ y w.heap.size (.int .i64 z) HB.out size_C (by rfl) (by rfl) Tryd.underlying28) rfl (by
      rw [HE.out, HG.out]
      exact ⟨none, 0, 0, rfl, BS.nil, H24.out.bel.trans (HK.out.below2 (fun k hk => by omega))⟩)
  rw [hbad]
  have HBAD := Lib.hid hbad
  clear hbad
  have hc2 := H24.out.var.cell 2 _ rfl
  go_wp2_with fail
  refine (opOk_any _ _).mono ?_
  rintro e v14 ⟨rfl, rfl⟩
  have hq3 : (Cl.rd l).op = (Cl.q3 l).2 := by rw [Cl.rd_q l]
  by_cases hop : opOk (Cl.q3 l).2 = true
  rotate_left
  · have hop' : opOk (Cl.q3 l).2 = false := by simpa using hop
    have HE : Hid (Cl.err l = 11) := by
      show _ = _
      unfold Cl.err
      rw [HBAD.out, if_neg (by simp), hq3, hop']
      rfl
    have HG : Hid (Cl.got l = Cl.zero) := if_neg (by rw [HE.out]; decide)
    rw [hop']
    clear hop hop' hc2 hq3
    go_wp2_with (first
      | (refine wpList_build rfl 28 #[] rfl (by show (Tryd.prog.built _ []).isSome = true; rw [built_Call]; rfl) ?_; rw [show (Tryd.prog.built 28 (Array.map _ #[]).toList) = _ from built_Call])
      | (refine wpList_store_part rfl 28 (.tmp 2) (.tmp 57) rfl w.heap.size 0 (cc Cl.zero (.slice none 0 0)) rfl rfl 28 _ H24.out.res size_C (by simp [cc]) (cc_one _ _ _ _) ?_
         intro y hb _ hk
         have HB := Lib.hid hb
         have HK := Lib.hid hk
         clear hb hk))
    exact bodyPost_ret (results_cell rfl _ y w.heap.size (.int .i64 11) HB.out size_C (by rfl) (by rfl) Tryd.underlying28) rfl (by
      rw [HE.out, HG.out]
      exact ⟨none, 0, 0, rfl, BS.nil, H24.out.bel.trans (HK.out.below2 (fun k hk => by omega))⟩)
  have HE : Hid (Cl.err l = 0) := by
    show _ = _
    unfold Cl.err
    rw [HBAD.out, if_neg (by simp), hq3, if_pos hop]
  have HG : Hid (Cl.got l = ⟨(Cl.q1 l).2, (Cl.q2 l).2, (Cl.q3 l).2, (Cl.q4 l).2.1, (Cl.q4 l).2.2, (Cl.q5 l).2, (Cl.q6 l).2.1, (Cl.q6 l).2.2, (Cl.q7 l).2, (Cl.q8 l).2, (Cl.q9 l).2, (Cl.q10 l).2, (Cl.q11 l).2, (Cl.q12 l).2⟩) := by
    show _ = _
    unfold Cl.got
    rw [if_pos HE.out, Cl.rd_q l]
  rw [hop]
  clear hop hc2 hq3
  go_wp2_with (first
    | (refine wpList_load_part rfl 28 (.tmp 4) rfl _ 0 rfl _ Tryd.underlying28 rfl (cc ⟨(Cl.q1 l).2, (Cl.q2 l).2, (Cl.q3 l).2, (Cl.q4 l).2.1, (Cl.q4 l).2.2, (Cl.q5 l).2, (Cl.q6 l).2.1, (Cl.q6 l).2.2, (Cl.q7 l).2, (Cl.q8 l).2, (Cl.q9 l).2, (Cl.q10 l).2, (Cl.q11 l).2, (Cl.q12 l).2⟩ (.slice B12 (Cl.q12 l).2.length d12)) 28 _ H24.out.var size_C (fun j u hu => by rw [Nat.zero_add]; exact hu) ?_)
    | (refine wpList_store_part rfl 28 (.tmp 2) (.tmp 58) rfl w.heap.size 0 (cc ⟨(Cl.q1 l).2, (Cl.q2 l).2, (Cl.q3 l).2, (Cl.q4 l).2.1, (Cl.q4 l).2.2, (Cl.q5 l).2, (Cl.q6 l).2.1, (Cl.q6 l).2.2, (Cl.q7 l).2, (Cl.q8 l).2, (Cl.q9 l).2, (Cl.q10 l).2, (Cl.q11 l).2, (Cl.q12 l).2⟩ (.slice B12 (Cl.q12 l).2.length d12)) rfl rfl 28 _ H24.out.res size_C (by simp [cc]) (cc_one _ _ _ _) ?_
       intro y hb _ hk
       have HB := Lib.hid hb
       have HK := Lib.hid hk
       clear hb hk))
  exact bodyPost_ret (results_cell rfl _ y w.heap.size (.int .i64 0) HB.out size_C (by rfl) (by rfl) Tryd.underlying28) rfl (by
    rw [HE.out, HG.out]
    exact ⟨B12, _, d12, rfl, HBX.out.keepLt HK.out (fun _ ad h => (HF.out ad h).1), H24.out.bel.trans (HK.out.below2 (fun k hk => by omega))⟩)
end Go.Proofs.YtobhmjokoicpoaaDoor
