/-
  Contract of package call's GetReply (layer 9).
-/
import Derived.Test.YtobhmjokoicpoaaDoorKGet
namespace Go.Proofs.YtobhmjokoicpoaaDoor
open Go.RowKit

section
variable (l : List UInt8)
def Rp.q1 := rdN 4 (l, 0)
def Rp.q2 := rdN 4 (Rp.q1 l).1
def Rp.q3 := rdN 4 (Rp.q2 l).1
def Rp.q4 := cH.rd (Rp.q3 l).1
def Rp.q5 := cA.rd (Rp.q4 l).1
def Rp.q6 := rdO 1024 (Rp.q5 l).1
def Rp.q7 := rdO 2048 (Rp.q6 l).1
def Rp.q8 := rdB (Rp.q7 l).1
def Rp.q9 := rdN 8 (Rp.q8 l).1
def Rp.q10 := rdN 4 (Rp.q9 l).1
theorem Rp.all_q : replyC.rd (l, 0) = ((Rp.q10 l).1, ((Rp.q1 l).2, (Rp.q2 l).2, (Rp.q3 l).2, (Rp.q4 l).2, (Rp.q5 l).2, (Rp.q6 l).2, (Rp.q7 l).2, (Rp.q8 l).2, (Rp.q9 l).2, (Rp.q10 l).2)) := by
  unfold replyC
  simp only [seq_rd]
  rfl
theorem Rp.bad_q : replyC.bad l = endOf (Rp.q10 l).1.1 (Rp.q10 l).1.2 := by
  unfold Cd.bad
  rw [Rp.all_q l]
theorem Rp.rd_q : Rp.rd l = ((Rp.q1 l).2, (Rp.q2 l).2, (Rp.q3 l).2, (Rp.q4 l).2, (Rp.q5 l).2, (Rp.q6 l).2, (Rp.q7 l).2, (Rp.q8 l).2, (Rp.q9 l).2, (Rp.q10 l).2) := by
  unfold Rp.rd
  rw [Rp.all_q l]
end
theorem built_Reply : Tryd.prog.built 48 [] = some (rc Rp.zero (.slice none 0 0) (.slice none 0 0)).toArray := by kernel_rfl
theorem rc_one (r : Rp) (A : Option Addr) (n cp : Nat) (B : Option Addr) (m cq : Nat) : ∀ v ∈ rc r (.slice A n cp) (.slice B m cq), v.oneCell' = true := by
  intro v hv
  simp only [rc, List.mem_cons, List.not_mem_nil, or_false] at hv
  rcases hv with rfl | rfl | rfl | rfl | rfl | rfl | rfl | rfl | rfl | rfl | rfl | rfl | rfl | rfl | rfl <;> rfl
theorem rc_nostr {w : World} {g : Nat} {t : TypeId} {r : Rp} {A : Option Addr} {n cp : Nat} {B : Option Addr} {m cq : Nat} (h : Bw w g (rc r (.slice A n cp) (.slice B m cq)) t) : ∀ o s, w.cell? ⟨g, o, none⟩ ≠ some (.string s) := fun o s hs => by
  rw [cell_of_row w g o _ _ (0, 0) h, List.getElem?_toArray] at hs
  have hm := List.mem_of_getElem? hs
  simp [rc] at hm
/-- What GetReply hands back. -/
def GetRQ (r : Rp) (z : Int) (w : World) (e : Ending) (w' : World) : Prop := ∃ A n cp B m cq, e = .returned (.tuple #[.agg (rc r (.slice A n cp) (.slice B m cq)).toArray, .int .i64 z]) ∧ BS w' A n r.dt ∧ ES w' B m r.es ∧ Below w.heap.size w w'

set_option maxRecDepth 100000 in
set_option maxHeartbeats 4000000 in
theorem getReply_any (A : Option Addr) (n cp : Nat) (l : List UInt8) (w : World) (h : BS w A n l) (hn : n ≤ 10000000) :
    Calls Tryd.prog 20 #[.slice A n cp] w (GetRQ (Rp.got l) (Rp.err l) w) := by
  have HL := Lib.hid h
  clear h
  go_enter Tryd.func20, Tryd.ntmps20
  go_upto_region 1 with (refine wpList_alloc_any rfl 48 rfl _ zero_Rp ?_; intro w1 hb1 hs1 hw1)
  go_upto_region 2 with (refine wpList_alloc_any rfl 48 rfl _ zero_Rp ?_; intro w2 hb2 hs2 hw2)
  have hl2 := HL.out.below (hw1.trans (hw2.mono (by omega)))
  have B1 := Lib.hid hb1
  have B2 := Lib.hid hs1
  have B3 := Lib.hid hw1
  have B4 := Lib.hid hb2
  have B5 := Lib.hid hs2
  have B6 := Lib.hid hw2
  clear hb1 hs1 hw1 hb2 hs2 hw2 HL
  go_wp2_with fail
  refine (newReader_any A n cp l w2 hl2 (by omega)).mono ?_
  rintro e v0 ⟨q, rfl, hrd, hb3, hq⟩
  have H0 : Hid (GG w q w.heap.size w1.heap.size 48 (rc Rp.zero (.slice none 0 0) (.slice none 0 0)) (rc Rp.zero (.slice none 0 0) (.slice none 0 0)) (l, 0) v0) := GG.start B1.out B2.out B3.out B4.out B5.out B6.out hrd hb3 hq (by decide)
  clear B1 B2 B3 B4 B5 B6 hrd hb3 hq hl2
  go_wp2_with fail
  refine (u32r _ q _ _ H0.out.rd).mono ?_
  rintro e v1 ⟨rfl, hr, hgr⟩
  have H1 := Lib.hid (H0.out.read (s' := (Rp.q1 l).1) hr hgr)
  clear hr hgr H0
  go_upto_region 4 with (refine wpList_store_cell rfl 22 (.tmp 13) (.tmp 12) rfl _ 0 (.int .u32 ((Rp.q1 l).2 : Int)) rfl rfl 48 _ H1.out.var (by kernel_rfl) rfl (by simp [rc]) rfl ?_; intro x1 hb _ hk)
  have H2 : Hid (GG w q w.heap.size w1.heap.size 48 (rc Rp.zero (.slice none 0 0) (.slice none 0 0)) (rc ⟨(Rp.q1 l).2, 0, 0, 0, 0, 0, 0, 0, 0, 0, [], [], false, 0, 0⟩ (.slice none 0 0) (.slice none 0 0)) (Rp.q1 l).1 x1) := H1.out.set hb hk
  clear hb hk H1
  go_wp2_with fail
  refine (u32r _ q _ _ H2.out.rd).mono ?_
  rintro e v2 ⟨rfl, hr, hgr⟩
  have H3 := Lib.hid (H2.out.read (s' := (Rp.q2 l).1) hr hgr)
  clear hr hgr H2
  go_upto_region 5 with (refine wpList_store_cell rfl 22 (.tmp 16) (.tmp 15) rfl _ 1 (.int .u32 ((Rp.q2 l).2 : Int)) rfl rfl 48 _ H3.out.var (by kernel_rfl) rfl (by simp [rc]) rfl ?_; intro x2 hb _ hk)
  have H4 : Hid (GG w q w.heap.size w1.heap.size 48 (rc Rp.zero (.slice none 0 0) (.slice none 0 0)) (rc ⟨(Rp.q1 l).2, (Rp.q2 l).2, 0, 0, 0, 0, 0, 0, 0, 0, [], [], false, 0, 0⟩ (.slice none 0 0) (.slice none 0 0)) (Rp.q2 l).1 x2) := H3.out.set hb hk
  clear hb hk H3
  go_wp2_with fail
  refine (u32r _ q _ _ H4.out.rd).mono ?_
  rintro e v3 ⟨rfl, hr, hgr⟩
  have H5 := Lib.hid (H4.out.read (s' := (Rp.q3 l).1) hr hgr)
  clear hr hgr H4
  have hwr : IntKind.i64.wrap ((Rp.q3 l).2 : Int) = ((Rp.q3 l).2 : Int) := by
    rw [IntWalk.i64_left]
    exact IntWalk.wrap64_in _ (by have : (Rp.q3 l).2 < 4294967296 := rdN_lt 4 _; omega)
  rw [show (rdN 4 ((Rp.q2 l).1.1, (Rp.q2 l).1.2)).2 = (Rp.q3 l).2 from rfl]
  go_upto_region 6 with (refine wpList_store_cell rfl 30 (.tmp 20) (.tmp 19) rfl _ 2 (.int .i64 ((Rp.q3 l).2 : Int)) rfl rfl 48 _ H5.out.var (by kernel_rfl) rfl (by simp [rc]) rfl ?_; intro x3 hb _ hk)
  have H6 : Hid (GG w q w.heap.size w1.heap.size 48 (rc Rp.zero (.slice none 0 0) (.slice none 0 0)) (rc ⟨(Rp.q1 l).2, (Rp.q2 l).2, ((Rp.q3 l).2 : Int), 0, 0, 0, 0, 0, 0, 0, [], [], false, 0, 0⟩ (.slice none 0 0) (.slice none 0 0)) (Rp.q3 l).1 x3) := H5.out.set hb hk
  clear hb hk H5 hwr
  go_wp2_with fail
  refine (getHandle_any _ q _ H6.out.rd).mono ?_
  rintro e v4 ⟨rfl, hr, hgr⟩
  have H7 := Lib.hid (H6.out.read (s' := (Rp.q4 l).1) hr hgr)
  clear hr hgr H6
  go_upto_region 7 with (refine wpList_store_part rfl 24 (.tmp 23) (.tmp 22) rfl _ 3 (hc (Rp.q4 l).2.1 (Rp.q4 l).2.2) rfl rfl 48 _ H7.out.var size_H (by simp [rc, hc]) (hc_one _ _) ?_; intro x4 hb _ hk)
  have H8 : Hid (GG w q w.heap.size w1.heap.size 48 (rc Rp.zero (.slice none 0 0) (.slice none 0 0)) (rc ⟨(Rp.q1 l).2, (Rp.q2 l).2, ((Rp.q3 l).2 : Int), (Rp.q4 l).2.1, (Rp.q4 l).2.2, 0, 0, 0, 0, 0, [], [], false, 0, 0⟩ (.slice none 0 0) (.slice none 0 0)) (Rp.q4 l).1 x4) := H7.out.set hb hk
  clear hb hk H7
  go_wp2_with fail
  refine (getAttr_any _ q _ H8.out.rd).mono ?_
  rintro e v5 ⟨rfl, hr, hgr⟩
  have H9 := Lib.hid (H8.out.read (s' := (Rp.q5 l).1) hr hgr)
  clear hr hgr H8
  go_upto_region 8 with (refine wpList_store_part rfl 45 (.tmp 26) (.tmp 25) rfl _ 5 (ac (Rp.q5 l).2.1 (Rp.q5 l).2.2.1 (Rp.q5 l).2.2.2.1 (Rp.q5 l).2.2.2.2.1 (Rp.q5 l).2.2.2.2.2) rfl rfl 48 _ H9.out.var size_At (by simp [rc, ac]) (ac_one _ _ _ _ _) ?_; intro x5 hb _ hk)
  have H10 : Hid (GG w q w.heap.size w1.heap.size 48 (rc Rp.zero (.slice none 0 0) (.slice none 0 0)) (rc ⟨(Rp.q1 l).2, (Rp.q2 l).2, ((Rp.q3 l).2 : Int), (Rp.q4 l).2.1, (Rp.q4 l).2.2, (Rp.q5 l).2.1, (Rp.q5 l).2.2.1, (Rp.q5 l).2.2.2.1, (Rp.q5 l).2.2.2.2.1, (Rp.q5 l).2.2.2.2.2, [], [], false, 0, 0⟩ (.slice none 0 0) (.slice none 0 0)) (Rp.q5 l).1 x5) := H9.out.set hb hk
  clear hb hk H9
  go_wp2_with fail
  refine (opaquer _ q _ _ 1024 (by omega) (by omega) H10.out.rd).mono ?_
  rintro e v6 ⟨D6, d6, rfl, hbs, hr, hgr, hfr⟩
  have H11 := Lib.hid (H10.out.read (s' := (Rp.q6 l).1) hr hgr)
  have HF6 : Hid (∀ ad, D6 = some ad → ad.block ≠ w.heap.size ∧ ad.block ≠ w1.heap.size) := fun ad h => by have h1 := (hfr ad h).1; have h2 := H10.out.res.lt; have h3 := H10.out.var.lt; omega
  have HX6 : Hid (BS v6 D6 (Rp.q6 l).2.length (Rp.q6 l).2) := hbs
  clear hr hgr H10 hbs hfr
  go_upto_region 9 with (refine wpList_store_cell rfl 26 (.tmp 29) (.tmp 28) rfl _ 10 (.slice D6 (Rp.q6 l).2.length d6) rfl rfl 48 _ H11.out.var (by kernel_rfl) rfl (by simp [rc]) rfl ?_; intro x6 hb _ hk)
  have H12 : Hid (GG w q w.heap.size w1.heap.size 48 (rc Rp.zero (.slice none 0 0) (.slice none 0 0)) (rc ⟨(Rp.q1 l).2, (Rp.q2 l).2, ((Rp.q3 l).2 : Int), (Rp.q4 l).2.1, (Rp.q4 l).2.2, (Rp.q5 l).2.1, (Rp.q5 l).2.2.1, (Rp.q5 l).2.2.2.1, (Rp.q5 l).2.2.2.2.1, (Rp.q5 l).2.2.2.2.2, (Rp.q6 l).2, [], false, 0, 0⟩ (.slice D6 (Rp.q6 l).2.length d6) (.slice none 0 0)) (Rp.q6 l).1 x6) := H11.out.set hb hk
  have HY6 := Lib.hid (HX6.out.keepLt hk (fun _ ad h => (HF6.out ad h).2))
  clear HX6
  have HX6 := HY6
  clear HY6
  clear hb hk H11
  go_wp2_with fail
  refine (opaquer _ q _ _ 2048 (by omega) (by omega) H12.out.rd).mono ?_
  rintro e v7 ⟨D7, d7, rfl, hbs, hr, hgr, hfr⟩
  have H13 := Lib.hid (H12.out.read (s' := (Rp.q7 l).1) hr hgr)
  have HF7 : Hid (∀ ad, D7 = some ad → ad.block ≠ w.heap.size ∧ ad.block ≠ w1.heap.size) := fun ad h => by have h1 := (hfr ad h).1; have h2 := H12.out.res.lt; have h3 := H12.out.var.lt; omega
  have HX7 : Hid (BS v7 D7 (Rp.q7 l).2.length (Rp.q7 l).2) := hbs
  have HY6 : Hid (BS v7 D6 (Rp.q6 l).2.length (Rp.q6 l).2) := HX6.out.rd H12.out.rd hgr
  clear HX6
  have HX6 := HY6
  clear HY6
  clear hr hgr H12 hbs hfr
  go_upto_region 10 with fail
  have H14 : Hid (GG w q w.heap.size w1.heap.size 48 (rc Rp.zero (.slice none 0 0) (.slice none 0 0)) (rc ⟨(Rp.q1 l).2, (Rp.q2 l).2, ((Rp.q3 l).2 : Int), (Rp.q4 l).2.1, (Rp.q4 l).2.2, (Rp.q5 l).2.1, (Rp.q5 l).2.2.1, (Rp.q5 l).2.2.2.1, (Rp.q5 l).2.2.2.2.1, (Rp.q5 l).2.2.2.2.2, (Rp.q6 l).2, [], false, 0, 0⟩ (.slice D6 (Rp.q6 l).2.length d6) (.slice none 0 0)) (Rp.q7 l).1 v7) := H13.out
  clear H13
  go_wp2_with fail
  refine (boolr _ q _ _ H14.out.rd).mono ?_
  rintro e v8 ⟨rfl, hr, hgr⟩
  have H15 := Lib.hid (H14.out.read (s' := (Rp.q8 l).1) hr hgr)
  have HY6 : Hid (BS v8 D6 (Rp.q6 l).2.length (Rp.q6 l).2) := HX6.out.rd H14.out.rd hgr
  clear HX6
  have HX6 := HY6
  clear HY6
  have HY7 : Hid (BS v8 D7 (Rp.q7 l).2.length (Rp.q7 l).2) := HX7.out.rd H14.out.rd hgr
  clear HX7
  have HX7 := HY7
  clear HY7
  clear hr hgr H14
  go_upto_region 11 with (refine wpList_store_cell rfl 4 (.tmp 34) (.tmp 33) rfl _ 12 (.bool (Rp.q8 l).2) rfl rfl 48 _ H15.out.var (by kernel_rfl) rfl (by simp [rc]) rfl ?_; intro x8 hb _ hk)
  have H16 : Hid (GG w q w.heap.size w1.heap.size 48 (rc Rp.zero (.slice none 0 0) (.slice none 0 0)) (rc ⟨(Rp.q1 l).2, (Rp.q2 l).2, ((Rp.q3 l).2 : Int), (Rp.q4 l).2.1, (Rp.q4 l).2.2, (Rp.q5 l).2.1, (Rp.q5 l).2.2.1, (Rp.q5 l).2.2.2.1, (Rp.q5 l).2.2.2.2.1, (Rp.q5 l).2.2.2.2.2, (Rp.q6 l).2, [], (Rp.q8 l).2, 0, 0⟩ (.slice D6 (Rp.q6 l).2.length d6) (.slice none 0 0)) (Rp.q8 l).1 x8) := H15.out.set hb hk
  have HY6 := Lib.hid (HX6.out.keepLt hk (fun _ ad h => (HF6.out ad h).2))
  clear HX6
  have HX6 := HY6
  clear HY6
  have HY7 := Lib.hid (HX7.out.keepLt hk (fun _ ad h => (HF7.out ad h).2))
  clear HX7
  have HX7 := HY7
  clear HY7
  clear hb hk H15
  go_wp2_with fail
  refine (u64r _ q _ _ H16.out.rd).mono ?_
  rintro e v9 ⟨rfl, hr, hgr⟩
  have H17 := Lib.hid (H16.out.read (s' := (Rp.q9 l).1) hr hgr)
  have HY6 : Hid (BS v9 D6 (Rp.q6 l).2.length (Rp.q6 l).2) := HX6.out.rd H16.out.rd hgr
  clear HX6
  have HX6 := HY6
  clear HY6
  have HY7 : Hid (BS v9 D7 (Rp.q7 l).2.length (Rp.q7 l).2) := HX7.out.rd H16.out.rd hgr
  clear HX7
  have HX7 := HY7
  clear HY7
  clear hr hgr H16
  go_upto_region 12 with (refine wpList_store_cell rfl 25 (.tmp 37) (.tmp 36) rfl _ 13 (.int .u64 ((Rp.q9 l).2 : Int)) rfl rfl 48 _ H17.out.var (by kernel_rfl) rfl (by simp [rc]) rfl ?_; intro x9 hb _ hk)
  have H18 : Hid (GG w q w.heap.size w1.heap.size 48 (rc Rp.zero (.slice none 0 0) (.slice none 0 0)) (rc ⟨(Rp.q1 l).2, (Rp.q2 l).2, ((Rp.q3 l).2 : Int), (Rp.q4 l).2.1, (Rp.q4 l).2.2, (Rp.q5 l).2.1, (Rp.q5 l).2.2.1, (Rp.q5 l).2.2.2.1, (Rp.q5 l).2.2.2.2.1, (Rp.q5 l).2.2.2.2.2, (Rp.q6 l).2, [], (Rp.q8 l).2, (Rp.q9 l).2, 0⟩ (.slice D6 (Rp.q6 l).2.length d6) (.slice none 0 0)) (Rp.q9 l).1 x9) := H17.out.set hb hk
  have HY6 := Lib.hid (HX6.out.keepLt hk (fun _ ad h => (HF6.out ad h).2))
  clear HX6
  have HX6 := HY6
  clear HY6
  have HY7 := Lib.hid (HX7.out.keepLt hk (fun _ ad h => (HF7.out ad h).2))
  clear HX7
  have HX7 := HY7
  clear HY7
  clear hb hk H17
  go_wp2_with fail
  refine (u32r _ q _ _ H18.out.rd).mono ?_
  rintro e v10 ⟨rfl, hr, hgr⟩
  have H19 := Lib.hid (H18.out.read (s' := (Rp.q10 l).1) hr hgr)
  have HY6 : Hid (BS v10 D6 (Rp.q6 l).2.length (Rp.q6 l).2) := HX6.out.rd H18.out.rd hgr
  clear HX6
  have HX6 := HY6
  clear HY6
  have HY7 : Hid (BS v10 D7 (Rp.q7 l).2.length (Rp.q7 l).2) := HX7.out.rd H18.out.rd hgr
  clear HX7
  have HX7 := HY7
  clear HY7
  clear hr hgr H18
  go_upto_region 13 with (refine wpList_store_cell rfl 22 (.tmp 40) (.tmp 39) rfl _ 14 (.int .u32 ((Rp.q10 l).2 : Int)) rfl rfl 48 _ H19.out.var (by kernel_rfl) rfl (by simp [rc]) rfl ?_; intro x10 hb _ hk)
  have H20 : Hid (GG w q w.heap.size w1.heap.size 48 (rc Rp.zero (.slice none 0 0) (.slice none 0 0)) (rc ⟨(Rp.q1 l).2, (Rp.q2 l).2, ((Rp.q3 l).2 : Int), (Rp.q4 l).2.1, (Rp.q4 l).2.2, (Rp.q5 l).2.1, (Rp.q5 l).2.2.1, (Rp.q5 l).2.2.2.1, (Rp.q5 l).2.2.2.2.1, (Rp.q5 l).2.2.2.2.2, (Rp.q6 l).2, [], (Rp.q8 l).2, (Rp.q9 l).2, (Rp.q10 l).2⟩ (.slice D6 (Rp.q6 l).2.length d6) (.slice none 0 0)) (Rp.q10 l).1 x10) := H19.out.set hb hk
  have HY6 := Lib.hid (HX6.out.keepLt hk (fun _ ad h => (HF6.out ad h).2))
  clear HX6
  have HX6 := HY6
  clear HY6
  have HY7 := Lib.hid (HX7.out.keepLt hk (fun _ ad h => (HF7.out ad h).2))
  clear HX7
  have HX7 := HY7
  clear HY7
  clear hb hk H19
  have HLR : Hid (w.heap.size ≤ w1.heap.size ∧ w.heap.size ≠ w1.heap.size) := ⟨H20.out.lg, H20.out.rg⟩
  go_wp2_with fail
  refine (end_any _ q _ _ H20.out.rd).mono ?_
  rintro e v13 ⟨rfl, rfl⟩
  rw [← Rp.bad_q l]
  by_cases hbad : replyC.bad l = 0
  rotate_left
  · have hd : (replyC.bad l != 0) = true := by simpa using hbad
    have HE : Hid (Rp.err l = replyC.bad l) := if_pos hbad
    have HG : Hid (Rp.got l = Rp.zero) := if_neg (by rw [HE.out]; exact hbad)
    clear hbad
    generalize replyC.bad l = z at *
    go_wp2_with (first
      | (refine wpList_build rfl 48 #[] rfl (by show (Tryd.prog.built _ []).isSome = true; rw [built_Reply]; rfl) ?_; rw [show (Tryd.prog.built 48 (Array.map _ #[]).toList) = _ from built_Reply])
      | (refine wpList_store_part rfl 48 (.tmp 2) (.tmp 45) rfl w.heap.size 0 (rc Rp.zero (.slice none 0 0) (.slice none 0 0)) rfl rfl 48 _ H20.out.res size_Rp (by simp [rc]) (rc_one _ _ _ _ _ _ _) ?_
         intro y hb _ hk
         have HB := Lib.hid hb
         have HK := Lib.hid hk
         clear hb hk))
    exact bodyPost_ret (results_cell rfl _ y w.heap.size (.int .i64 z) HB.out size_Rp (by rfl) (by rfl) Tryd.underlying48) rfl (by
      rw [HE.out, HG.out]
      exact ⟨none, 0, 0, none, 0, 0, rfl, BS.nil, ES.nil, H20.out.bel.trans (HK.out.below2 (fun k hk => by omega))⟩)
  rw [hbad]
  have HBAD := Lib.hid hbad
  have hrow : (Rp.rd l).row = (Rp.q7 l).2 := by rw [Rp.rd_q l]; rfl
  have hq3 : (Rp.rd l).2.2.1 = (Rp.q3 l).2 := by rw [Rp.rd_q l]
  have HERR : Hid (Rp.err l = if errE (Rp.q7 l).2 ≠ 0 then errE (Rp.q7 l).2 else if stOk ((Rp.q3 l).2 : Int) && decide ((gotE (Rp.q7 l).2).length ≤ 24) then 0 else 11) := by
    show _ = _
    unfold Rp.err
    rw [hbad, if_neg (by simp), hrow, hq3]
  have hl7 : (Rp.q7 l).2.length ≤ 10000000 := by
    obtain ⟨_, hb⟩ := replyC.bad_back l hbad
    have : (Rp.rd l).row.length ≤ 2048 := hb.2.2.2.2.2.2.1
    rw [hrow] at this
    omega
  clear hbad
  go_wp2_with fail
  refine (get_any D7 _ d7 (Rp.q7 l).2 _ HX7.out hl7).mono ?_
  rintro e v14 ⟨E, m, ce, rfl, hes, _, hbe⟩
  have H21 := Lib.hid (H20.out.below hbe)
  have HX8 : Hid (BS v14 D6 (Rp.q6 l).2.length (Rp.q6 l).2) := HX6.out.below hbe
  have hml : (gotE (Rp.q7 l).2).length = m := hes.1
  clear HX6 HX7 hbe H20 hl7
  go_upto_region 18 with (refine wpList_store_cell rfl 46 (.tmp 52) (.tmp 50) rfl _ 11 (.slice E m ce) rfl rfl 48 _ H21.out.var (by kernel_rfl) rfl (by simp [rc]) rfl ?_; intro x7 hb _ hk)
  have H22 : Hid (GG w q w.heap.size w1.heap.size 48 (rc Rp.zero (.slice none 0 0) (.slice none 0 0)) (rc ⟨(Rp.q1 l).2, (Rp.q2 l).2, ((Rp.q3 l).2 : Int), (Rp.q4 l).2.1, (Rp.q4 l).2.2, (Rp.q5 l).2.1, (Rp.q5 l).2.2.1, (Rp.q5 l).2.2.2.1, (Rp.q5 l).2.2.2.2.1, (Rp.q5 l).2.2.2.2.2, (Rp.q6 l).2, [], (Rp.q8 l).2, (Rp.q9 l).2, (Rp.q10 l).2⟩ (.slice D6 (Rp.q6 l).2.length d6) (.slice E m ce)) (Rp.q10 l).1 x7) := H21.out.set hb hk
  have HES := Lib.hid (hes.off (rc_nostr H21.out.var) hk)
  have HX9 := Lib.hid (HX8.out.keepLt hk (fun _ ad h => (HF6.out ad h).2))
  clear hb hk hes HX8 H21
  by_cases her : errE (Rp.q7 l).2 = 0
  rotate_left
  · have hd : (errE (Rp.q7 l).2 != 0) = true := by simpa using her
    have HE : Hid (Rp.err l = errE (Rp.q7 l).2) := by show _ = _; rw [HERR.out, if_pos her]
    have HG : Hid (Rp.got l = Rp.zero) := if_neg (by rw [HE.out]; exact her)
    clear her
    generalize errE (Rp.q7 l).2 = z at *
    go_wp2_with (first
      | (refine wpList_build rfl 48 #[] rfl (by show (Tryd.prog.built _ []).isSome = true; rw [built_Reply]; rfl) ?_; rw [show (Tryd.prog.built 48 (Array.map _ #[]).toList) = _ from built_Reply])
      | (refine wpList_store_part rfl 48 (.tmp 2) (.tmp 55) rfl w.heap.size 0 (rc Rp.zero (.slice none 0 0) (.slice none 0 0)) rfl rfl 48 _ H22.out.res size_Rp (by simp [rc]) (rc_one _ _ _ _ _ _ _) ?_
         intro y hb _ hk
         have HB := Lib.hid hb
         have HK := Lib.hid hk
         clear hb hk))
    exact bodyPost_ret (results_cell rfl _ y w.heap.size (.int .i64 z) HB.out size_Rp (by rfl) (by rfl) Tryd.underlying48) rfl (by
      rw [HE.out, HG.out]
      exact ⟨none, 0, 0, none, 0, 0, rfl, BS.nil, ES.nil, H22.out.bel.trans (HK.out.below2 (fun k hk => by omega))⟩)
  rw [her]
  have HERR1 : Hid (Rp.err l = if stOk ((Rp.q3 l).2 : Int) && decide (m ≤ 24) then 0 else 11) := by show _ = _; rw [HERR.out, her, if_neg (by simp), hml]
  clear her HERR hml
  have hc2 := H22.out.var.cell 2 _ rfl
  have hc11 := H22.out.var.cell 11 _ rfl
  go_wp2_with fail
  refine (status_any _ _).mono ?_
  rintro e v15 ⟨rfl, rfl⟩
  by_cases hst : stOk ((Rp.q3 l).2 : Int) = true
  rotate_left
  · have hst' : stOk ((Rp.q3 l).2 : Int) = false := by simpa using hst
    have HE : Hid (Rp.err l = 11) := by show _ = _; rw [HERR1.out, hst']; rfl
    have HG : Hid (Rp.got l = Rp.zero) := if_neg (by rw [HE.out]; decide)
    rw [hst']
    clear hst hst' hrow hq3
    go_wp2_with (first
      | (refine wpList_build rfl 48 #[] rfl (by show (Tryd.prog.built _ []).isSome = true; rw [built_Reply]; rfl) ?_; rw [show (Tryd.prog.built 48 (Array.map _ #[]).toList) = _ from built_Reply])
      | (refine wpList_store_part rfl 48 (.tmp 2) (.tmp 67) rfl w.heap.size 0 (rc Rp.zero (.slice none 0 0) (.slice none 0 0)) rfl rfl 48 _ H22.out.res size_Rp (by simp [rc]) (rc_one _ _ _ _ _ _ _) ?_
         intro y hb _ hk
         have HB := Lib.hid hb
         have HK := Lib.hid hk
         clear hb hk))
    exact bodyPost_ret (results_cell rfl _ y w.heap.size (.int .i64 11) HB.out size_Rp (by rfl) (by rfl) Tryd.underlying48) rfl (by
      rw [HE.out, HG.out]
      exact ⟨none, 0, 0, none, 0, 0, rfl, BS.nil, ES.nil, H22.out.bel.trans (HK.out.below2 (fun k hk => by omega))⟩)
  rw [hst]
  by_cases hm : m ≤ 24
  rotate_left
  · have hm' : (m : Int) > 24 := by omega
    have HE : Hid (Rp.err l = 11) := by show _ = _; rw [HERR1.out, hst, decide_eq_false hm]; rfl
    have HG : Hid (Rp.got l = Rp.zero) := if_neg (by rw [HE.out]; decide)
    clear hst hm hrow hq3
    go_wp2_with (first
      | (refine wpList_build rfl 48 #[] rfl (by show (Tryd.prog.built _ []).isSome = true; rw [built_Reply]; rfl) ?_; rw [show (Tryd.prog.built 48 (Array.map _ #[]).toList) = _ from built_Reply])
      | (refine wpList_store_part rfl 48 (.tmp 2) (.tmp 67) rfl w.heap.size 0 (rc Rp.zero (.slice none 0 0) (.slice none 0 0)) rfl rfl 48 _ H22.out.res size_Rp (by simp [rc]) (rc_one _ _ _ _ _ _ _) ?_
         intro y hb _ hk
         have HB := Lib.hid hb
         have HK := Lib.hid hk
         clear hb hk))
    exact bodyPost_ret (results_cell rfl _ y w.heap.size (.int .i64 11) HB.out size_Rp (by rfl) (by rfl) Tryd.underlying48) rfl (by
      rw [HE.out, HG.out]
      exact ⟨none, 0, 0, none, 0, 0, rfl, BS.nil, ES.nil, H22.out.bel.trans (HK.out.below2 (fun k hk => by omega))⟩)
  have hm' : ¬ (m : Int) > 24 := by omega
  have HE : Hid (Rp.err l = 0) := by show _ = _; rw [HERR1.out, hst, decide_eq_true hm]; rfl
  have HG : Hid (Rp.got l = ⟨(Rp.q1 l).2, (Rp.q2 l).2, ((Rp.q3 l).2 : Int), (Rp.q4 l).2.1, (Rp.q4 l).2.2, (Rp.q5 l).2.1, (Rp.q5 l).2.2.1, (Rp.q5 l).2.2.2.1, (Rp.q5 l).2.2.2.2.1, (Rp.q5 l).2.2.2.2.2, (Rp.q6 l).2, gotE (Rp.q7 l).2, (Rp.q8 l).2, (Rp.q9 l).2, (Rp.q10 l).2⟩) := by
    show _ = _
    unfold Rp.got
    rw [if_pos HE.out, hrow, Rp.rd_q l]
    rfl
  clear hst hm hrow hq3
  go_wp2_with (first
    | (refine wpList_load_part rfl 48 (.tmp 4) rfl _ 0 rfl _ Tryd.underlying48 rfl (rc ⟨(Rp.q1 l).2, (Rp.q2 l).2, ((Rp.q3 l).2 : Int), (Rp.q4 l).2.1, (Rp.q4 l).2.2, (Rp.q5 l).2.1, (Rp.q5 l).2.2.1, (Rp.q5 l).2.2.2.1, (Rp.q5 l).2.2.2.2.1, (Rp.q5 l).2.2.2.2.2, (Rp.q6 l).2, [], (Rp.q8 l).2, (Rp.q9 l).2, (Rp.q10 l).2⟩ (.slice D6 (Rp.q6 l).2.length d6) (.slice E m ce)) 48 _ H22.out.var size_Rp (fun j u hu => by rw [Nat.zero_add]; exact hu) ?_)
    | (refine wpList_store_part rfl 48 (.tmp 2) (.tmp 68) rfl w.heap.size 0 (rc ⟨(Rp.q1 l).2, (Rp.q2 l).2, ((Rp.q3 l).2 : Int), (Rp.q4 l).2.1, (Rp.q4 l).2.2, (Rp.q5 l).2.1, (Rp.q5 l).2.2.1, (Rp.q5 l).2.2.2.1, (Rp.q5 l).2.2.2.2.1, (Rp.q5 l).2.2.2.2.2, (Rp.q6 l).2, [], (Rp.q8 l).2, (Rp.q9 l).2, (Rp.q10 l).2⟩ (.slice D6 (Rp.q6 l).2.length d6) (.slice E m ce)) rfl rfl 48 _ H22.out.res size_Rp (by simp [rc]) (rc_one _ _ _ _ _ _ _) ?_
       intro y hb _ hk
       have HB := Lib.hid hb
       have HK := Lib.hid hk
       clear hb hk))
  exact bodyPost_ret (results_cell rfl _ y w.heap.size (.int .i64 0) HB.out size_Rp (by rfl) (by rfl) Tryd.underlying48) rfl (by
    rw [HE.out, HG.out]
    exact ⟨D6, _, d6, E, m, ce, rfl, HX9.out.keepLt HK.out (fun _ ad h => (HF6.out ad h).1), HES.out.off (rc_nostr H22.out.res) HK.out, H22.out.bel.trans (HK.out.below2 (fun k hk => by omega))⟩)
end Go.Proofs.YtobhmjokoicpoaaDoor
