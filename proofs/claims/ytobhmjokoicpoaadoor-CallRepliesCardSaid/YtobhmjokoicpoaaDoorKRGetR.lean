/-
  The document's GetReply, walked (layer 9).
-/
import Derived.Test.YtobhmjokoicpoaaDoorKRGet
import Derived.Test.YtobhmjokoicpoaaDoorKRPutR
namespace Go.Proofs.YtobhmjokoicpoaaDoor
open Go.RowKit Go.Shelf

theorem built_R9z : Tryd.prog.built 54 [] = some (rc Rp.zero (.string (txt [])) (.slice none 0 0)).toArray := by kernel_rfl
/-- Entries lie in no block of a reply of the reference. -/
theorem ES.offR {w w' : World} {A : Option Addr} {n : Nat} {es : List En} {g : Nat} {r : Rp} {s : ByteArray} {B : Option Addr} {m cq : Nat} {t : TypeId} (h : ES w A n es) (hg : Bw w g (rc r (.string s) (.slice B m cq)) t) (hk : Keep (· ≠ g) w w') : ES w' A n es := by
  refine ⟨h.1, fun hn => ?_⟩
  obtain ⟨b, o, e, hc⟩ := h.2 hn
  refine ⟨b, o, e, fun j hj i v hv => ?_⟩
  have hb : b ≠ g := by
    rintro rfl
    have c0 := hc j hj 0 _ rfl
    have c1 := hc j hj 1 _ rfl
    have c2 := hc j hj 2 _ rfl
    rw [cell_of_row w _ _ _ _ (0, 0) hg, List.getElem?_toArray] at c0 c1 c2
    generalize o + j * 4 = q at *
    match q with
    | 0 | 1 | 2 | 3 | 4 | 5 | 6 | 7 | 8 | 10 | 11 | 12 | 14 => simp [rc] at c0
    | 9 => simp [rc] at c1
    | 13 => simp [rc] at c2
    | q + 15 => simp [rc] at c0
  exact (World.cell?_of_block (hk.block b hb)).trans (hc j hj i v hv)

/-- What the document's GetReply hands back. -/
def GetRQ9 (r : Rp) (z : Int) (w : World) (e : Ending) (w' : World) : Prop := ∃ B m cq, e = .returned (.tuple #[.agg (rc r (.string (txt r.dt)) (.slice B m cq)).toArray, .int .i64 z]) ∧ ES w' B m r.es ∧ Below w.heap.size w w'

set_option maxRecDepth 100000 in
set_option maxHeartbeats 8000000 in
theorem refGetReply_any (l : List UInt8) (w : World) :
    Calls Tryd.prog 21 #[.string (txt l)] w (GetRQ9 (Rp.got l) (Rp.err l) w) := by
  go_enter Tryd.func21, Tryd.ntmps21
  go_upto_region 1 with (refine wpList_alloc_any rfl 54 rfl _ zero_R9 ?_; intro w1 hb1 hs1 hw1)
  have A1 := Lib.hid hb1
  have A2 := Lib.hid hs1
  have A3 := Lib.hid hw1
  clear hb1 hs1 hw1
  go_upto_region 2 with (first
    | (refine Did.list rfl (did_build 54 #[] rfl (rc Rp.zero (.string (txt [])) (.slice none 0 0)).toArray (by exact built_R9z)) ?_)
    | (refine wpList_alloc_any rfl 54 rfl _ zero_R9 ?_; intro w2 hb2 hs2 hw2)
    | (refine wpList_store_part rfl 54 (.tmp 4) (.tmp 15) rfl w1.heap.size 0 (rc Rp.zero (.string (txt [])) (.slice none 0 0)) rfl rfl 54 _ hb2 size_R9 (by simp [rc]) (rc_ones _ _ _ _ _) ?_
       intro w3 hb3 hs3 hk3))
  have A4 : Hid (Bw w3 w1.heap.size (rc Rp.zero (.string (txt [])) (.slice none 0 0)) 54) := hb3
  have A5 : Hid (Bw w3 w.heap.size (rc Rp.zero (.string (txt [])) (.slice none 0 0)) 54) := (hk3.block _ (by have := A2.out; omega)).trans ((hw2.block _ (by have := A2.out; omega)).trans A1.out)
  have A6 : Hid (Below w.heap.size w w3) := A3.out.trans ((hw2.mono A3.out.size).trans (hk3.below2 (fun j hj => by have := A2.out; omega)))
  have A7 : Hid (w3.heap.size = w.heap.size + 2) := by show _ = _; have := A2.out; omega
  clear hb2 hs2 hw2 hb3 hs3 hk3
  go_wp2_with (refine Did.list rfl (did_build 84 #[(0, .tmp 17)] rfl _ (built_R1 (txt l))) ?_)
  refine (refRead32 l 0 w3).mono ?_
  rintro e w4 ⟨rfl, hb4⟩
  have A8 := Lib.hid (A4.out.below hb4)
  have A9 := Lib.hid (A5.out.below hb4)
  have B1 := Lib.hid (A6.out.trans (hb4.mono A6.out.size))
  have B2 : Hid (w.heap.size + 2 ≤ w4.heap.size) := by show _ ≤ _; have := hb4.size; have := A7.out; omega
  clear hb4 A4 A5 A6 A7
  go_upto_region 3 with (first
    | (refine wpList_alloc_any rfl 84 rfl _ zero_R ?_; intro w5 hb5 hs5 hw5)
    | (refine wpList_store_part rfl 84 (.tmp 5) (.tmp 20) rfl w4.heap.size 0 (rv (Rp.q1 l).1) rfl rfl 84 [.string (txt []), .int .i64 0] hb5 size_R (by simp [rv]) (rv_one _) ?_
       intro w6 hb6 hs6 hk6))
  have H0 : Hid (GH w w.heap.size w1.heap.size w4.heap.size 54 (rc Rp.zero (.string (txt [])) (.slice none 0 0)) (rc Rp.zero (.string (txt [])) (.slice none 0 0)) (Rp.q1 l).1 w6) := by
    have h2 := A2.out
    have h3 := B2.out
    refine ⟨hb6, (A9.out.below hw5).keep hk6 (by omega), (A8.out.below hw5).keep hk6 (by omega), B1.out.trans ((hw5.mono B1.out.size).trans (hk6.below2 (fun j hj => by omega))), Nat.le_refl _, by omega, by omega, by omega, by omega, by omega⟩
  clear hb5 hs5 hw5 hb6 hs6 hk6 A1 A2 A3 A8 A9 B1 B2
  generalize w1.heap.size = g at *
  generalize w4.heap.size = k at *
  go_upto_region 4 with (refine wpList_store_cell rfl 22 (.tmp 23) (.tmp 22) rfl _ 0 (.int .u32 ((Rp.q1 l).2 : Int)) rfl rfl 54 _ H0.out.var (by kernel_rfl) rfl (by simp [rc]) rfl ?_; intro z0 hb _ hk)
  have H1 : Hid (GH w w.heap.size g k 54 (rc Rp.zero (.string (txt [])) (.slice none 0 0)) (rc ⟨(Rp.q1 l).2, 0, 0, 0, 0, 0, 0, 0, 0, 0, [], [], false, 0, 0⟩ (.string (txt [])) (.slice none 0 0)) (Rp.q1 l).1 z0) := H0.out.set hb hk
  clear hb hk H0
  go_wp2_with (refine wpList_load_part rfl 84 (.tmp 5) rfl _ 0 rfl _ Tryd.underlying84 rfl (rv (Rp.q1 l).1) 84 _ H1.out.rd size_R (fun j u hu => by rw [Nat.zero_add]; exact hu) ?_)
  refine (refRead32 _ _ _).mono ?_
  rintro e v1 ⟨rfl, hb⟩
  have H2 := Lib.hid (H1.out.below hb)
  clear hb H1
  go_upto_region 5 with (refine wpList_store_part rfl 84 (.tmp 5) (.tmp 27) rfl k 0 (rv (Rp.q2 l).1) rfl rfl 84 _ H2.out.rd size_R (by simp [rv]) (rv_one _) ?_; intro y1 hb _ hk)
  have H3 : Hid (GH w w.heap.size g k 54 (rc Rp.zero (.string (txt [])) (.slice none 0 0)) (rc ⟨(Rp.q1 l).2, 0, 0, 0, 0, 0, 0, 0, 0, 0, [], [], false, 0, 0⟩ (.string (txt [])) (.slice none 0 0)) (Rp.q2 l).1 y1) := H2.out.read hb hk
  clear hb hk H2
  go_upto_region 6 with (refine wpList_store_cell rfl 22 (.tmp 30) (.tmp 29) rfl _ 1 (.int .u32 ((Rp.q2 l).2 : Int)) rfl rfl 54 _ H3.out.var (by kernel_rfl) rfl (by simp [rc]) rfl ?_; intro z1 hb _ hk)
  have H4 : Hid (GH w w.heap.size g k 54 (rc Rp.zero (.string (txt [])) (.slice none 0 0)) (rc ⟨(Rp.q1 l).2, (Rp.q2 l).2, 0, 0, 0, 0, 0, 0, 0, 0, [], [], false, 0, 0⟩ (.string (txt [])) (.slice none 0 0)) (Rp.q2 l).1 z1) := H3.out.set hb hk
  clear hb hk H3
  go_wp2_with (refine wpList_load_part rfl 84 (.tmp 5) rfl _ 0 rfl _ Tryd.underlying84 rfl (rv (Rp.q2 l).1) 84 _ H4.out.rd size_R (fun j u hu => by rw [Nat.zero_add]; exact hu) ?_)
  refine (refRead32 _ _ _).mono ?_
  rintro e v2 ⟨rfl, hb⟩
  have H5 := Lib.hid (H4.out.below hb)
  clear hb H4
  go_upto_region 7 with (refine wpList_store_part rfl 84 (.tmp 5) (.tmp 34) rfl k 0 (rv (Rp.q3 l).1) rfl rfl 84 _ H5.out.rd size_R (by simp [rv]) (rv_one _) ?_; intro y2 hb _ hk)
  have H6 : Hid (GH w w.heap.size g k 54 (rc Rp.zero (.string (txt [])) (.slice none 0 0)) (rc ⟨(Rp.q1 l).2, (Rp.q2 l).2, 0, 0, 0, 0, 0, 0, 0, 0, [], [], false, 0, 0⟩ (.string (txt [])) (.slice none 0 0)) (Rp.q3 l).1 y2) := H5.out.read hb hk
  clear hb hk H5
  obtain ⟨sn, hsn⟩ : ∃ n, (rdN 4 ((Rp.q2 l).1.1, (Rp.q2 l).1.2)).2 = n := ⟨_, rfl⟩
  rw [hsn]
  have HSN : Hid ((Rp.q3 l).2 = sn) := hsn
  clear hsn
  go_wp2_with (refine wpList_load_part rfl 84 (.tmp 5) rfl _ 0 rfl _ Tryd.underlying84 rfl (rv (Rp.q3 l).1) 84 _ H6.out.rd size_R (fun j u hu => by rw [Nat.zero_add]; exact hu) ?_)
  refine (refRead32 _ _ _).mono ?_
  rintro e v3 ⟨rfl, hb⟩
  have H7 := Lib.hid (H6.out.below hb)
  clear hb H6
  go_upto_region 8 with (refine wpList_store_part rfl 84 (.tmp 5) (.tmp 39) rfl k 0 (rv (rdN 4 (Rp.q3 l).1).1) rfl rfl 84 _ H7.out.rd size_R (by simp [rv]) (rv_one _) ?_; intro y3 hb _ hk)
  have H8 : Hid (GH w w.heap.size g k 54 (rc Rp.zero (.string (txt [])) (.slice none 0 0)) (rc ⟨(Rp.q1 l).2, (Rp.q2 l).2, 0, 0, 0, 0, 0, 0, 0, 0, [], [], false, 0, 0⟩ (.string (txt [])) (.slice none 0 0)) (rdN 4 (Rp.q3 l).1).1 y3) := H7.out.read hb hk
  clear hb hk H7
  go_upto_region 9 with (refine wpList_store_cell rfl 22 (.tmp 43) (.tmp 41) rfl _ 3 (.int .u32 ((Rp.q4 l).2.1 : Int)) rfl rfl 54 _ H8.out.var (by kernel_rfl) rfl (by simp [rc]) rfl ?_; intro z3 hb _ hk)
  have H9 : Hid (GH w w.heap.size g k 54 (rc Rp.zero (.string (txt [])) (.slice none 0 0)) (rc ⟨(Rp.q1 l).2, (Rp.q2 l).2, 0, (Rp.q4 l).2.1, 0, 0, 0, 0, 0, 0, [], [], false, 0, 0⟩ (.string (txt [])) (.slice none 0 0)) (rdN 4 (Rp.q3 l).1).1 z3) := H8.out.set hb hk
  clear hb hk H8
  go_wp2_with (refine wpList_load_part rfl 84 (.tmp 5) rfl _ 0 rfl _ Tryd.underlying84 rfl (rv (rdN 4 (Rp.q3 l).1).1) 84 _ H9.out.rd size_R (fun j u hu => by rw [Nat.zero_add]; exact hu) ?_)
  refine (refRead32 _ _ _).mono ?_
  rintro e v4 ⟨rfl, hb⟩
  have H10 := Lib.hid (H9.out.below hb)
  clear hb H9
  go_upto_region 10 with (refine wpList_store_part rfl 84 (.tmp 5) (.tmp 47) rfl k 0 (rv (Rp.q4 l).1) rfl rfl 84 _ H10.out.rd size_R (by simp [rv]) (rv_one _) ?_; intro y4 hb _ hk)
  have H11 : Hid (GH w w.heap.size g k 54 (rc Rp.zero (.string (txt [])) (.slice none 0 0)) (rc ⟨(Rp.q1 l).2, (Rp.q2 l).2, 0, (Rp.q4 l).2.1, 0, 0, 0, 0, 0, 0, [], [], false, 0, 0⟩ (.string (txt [])) (.slice none 0 0)) (Rp.q4 l).1 y4) := H10.out.read hb hk
  clear hb hk H10
  go_upto_region 11 with (refine wpList_store_cell rfl 22 (.tmp 51) (.tmp 49) rfl _ 4 (.int .u32 ((Rp.q4 l).2.2 : Int)) rfl rfl 54 _ H11.out.var (by kernel_rfl) rfl (by simp [rc]) rfl ?_; intro z4 hb _ hk)
  have H12 : Hid (GH w w.heap.size g k 54 (rc Rp.zero (.string (txt [])) (.slice none 0 0)) (rc ⟨(Rp.q1 l).2, (Rp.q2 l).2, 0, (Rp.q4 l).2.1, (Rp.q4 l).2.2, 0, 0, 0, 0, 0, [], [], false, 0, 0⟩ (.string (txt [])) (.slice none 0 0)) (Rp.q4 l).1 z4) := H11.out.set hb hk
  clear hb hk H11
  go_wp2_with (refine wpList_load_part rfl 84 (.tmp 5) rfl _ 0 rfl _ Tryd.underlying84 rfl (rv (Rp.q4 l).1) 84 _ H12.out.rd size_R (fun j u hu => by rw [Nat.zero_add]; exact hu) ?_)
  refine (refRead32 _ _ _).mono ?_
  rintro e v5 ⟨rfl, hb⟩
  have H13 := Lib.hid (H12.out.below hb)
  clear hb H12
  go_upto_region 12 with (refine wpList_store_part rfl 84 (.tmp 5) (.tmp 55) rfl k 0 (rv (rdN 4 (Rp.q4 l).1).1) rfl rfl 84 _ H13.out.rd size_R (by simp [rv]) (rv_one _) ?_; intro y5 hb _ hk)
  have H14 : Hid (GH w w.heap.size g k 54 (rc Rp.zero (.string (txt [])) (.slice none 0 0)) (rc ⟨(Rp.q1 l).2, (Rp.q2 l).2, 0, (Rp.q4 l).2.1, (Rp.q4 l).2.2, 0, 0, 0, 0, 0, [], [], false, 0, 0⟩ (.string (txt [])) (.slice none 0 0)) (rdN 4 (Rp.q4 l).1).1 y5) := H13.out.read hb hk
  clear hb hk H13
  go_upto_region 13 with (refine wpList_store_cell rfl 22 (.tmp 59) (.tmp 57) rfl _ 5 (.int .u32 ((Rp.q5 l).2.1 : Int)) rfl rfl 54 _ H14.out.var (by kernel_rfl) rfl (by simp [rc]) rfl ?_; intro z5 hb _ hk)
  have H15 : Hid (GH w w.heap.size g k 54 (rc Rp.zero (.string (txt [])) (.slice none 0 0)) (rc ⟨(Rp.q1 l).2, (Rp.q2 l).2, 0, (Rp.q4 l).2.1, (Rp.q4 l).2.2, (Rp.q5 l).2.1, 0, 0, 0, 0, [], [], false, 0, 0⟩ (.string (txt [])) (.slice none 0 0)) (rdN 4 (Rp.q4 l).1).1 z5) := H14.out.set hb hk
  clear hb hk H14
  go_wp2_with (refine wpList_load_part rfl 84 (.tmp 5) rfl _ 0 rfl _ Tryd.underlying84 rfl (rv (rdN 4 (Rp.q4 l).1).1) 84 _ H15.out.rd size_R (fun j u hu => by rw [Nat.zero_add]; exact hu) ?_)
  refine (refRead32 _ _ _).mono ?_
  rintro e v6 ⟨rfl, hb⟩
  have H16 := Lib.hid (H15.out.below hb)
  clear hb H15
  go_upto_region 14 with (refine wpList_store_part rfl 84 (.tmp 5) (.tmp 63) rfl k 0 (rv (rdN 4 (rdN 4 (Rp.q4 l).1).1).1) rfl rfl 84 _ H16.out.rd size_R (by simp [rv]) (rv_one _) ?_; intro y6 hb _ hk)
  have H17 : Hid (GH w w.heap.size g k 54 (rc Rp.zero (.string (txt [])) (.slice none 0 0)) (rc ⟨(Rp.q1 l).2, (Rp.q2 l).2, 0, (Rp.q4 l).2.1, (Rp.q4 l).2.2, (Rp.q5 l).2.1, 0, 0, 0, 0, [], [], false, 0, 0⟩ (.string (txt [])) (.slice none 0 0)) (rdN 4 (rdN 4 (Rp.q4 l).1).1).1 y6) := H16.out.read hb hk
  clear hb hk H16
  go_upto_region 15 with (refine wpList_store_cell rfl 22 (.tmp 67) (.tmp 65) rfl _ 6 (.int .u32 ((Rp.q5 l).2.2.1 : Int)) rfl rfl 54 _ H17.out.var (by kernel_rfl) rfl (by simp [rc]) rfl ?_; intro z6 hb _ hk)
  have H18 : Hid (GH w w.heap.size g k 54 (rc Rp.zero (.string (txt [])) (.slice none 0 0)) (rc ⟨(Rp.q1 l).2, (Rp.q2 l).2, 0, (Rp.q4 l).2.1, (Rp.q4 l).2.2, (Rp.q5 l).2.1, (Rp.q5 l).2.2.1, 0, 0, 0, [], [], false, 0, 0⟩ (.string (txt [])) (.slice none 0 0)) (rdN 4 (rdN 4 (Rp.q4 l).1).1).1 z6) := H17.out.set hb hk
  clear hb hk H17
  go_wp2_with (refine wpList_load_part rfl 84 (.tmp 5) rfl _ 0 rfl _ Tryd.underlying84 rfl (rv (rdN 4 (rdN 4 (Rp.q4 l).1).1).1) 84 _ H18.out.rd size_R (fun j u hu => by rw [Nat.zero_add]; exact hu) ?_)
  refine (refRead32 _ _ _).mono ?_
  rintro e v7 ⟨rfl, hb⟩
  have H19 := Lib.hid (H18.out.below hb)
  clear hb H18
  go_upto_region 16 with (refine wpList_store_part rfl 84 (.tmp 5) (.tmp 71) rfl k 0 (rv (rdN 4 (rdN 4 (rdN 4 (Rp.q4 l).1).1).1).1) rfl rfl 84 _ H19.out.rd size_R (by simp [rv]) (rv_one _) ?_; intro y7 hb _ hk)
  have H20 : Hid (GH w w.heap.size g k 54 (rc Rp.zero (.string (txt [])) (.slice none 0 0)) (rc ⟨(Rp.q1 l).2, (Rp.q2 l).2, 0, (Rp.q4 l).2.1, (Rp.q4 l).2.2, (Rp.q5 l).2.1, (Rp.q5 l).2.2.1, 0, 0, 0, [], [], false, 0, 0⟩ (.string (txt [])) (.slice none 0 0)) (rdN 4 (rdN 4 (rdN 4 (Rp.q4 l).1).1).1).1 y7) := H19.out.read hb hk
  clear hb hk H19
  go_upto_region 17 with (refine wpList_store_cell rfl 22 (.tmp 75) (.tmp 73) rfl _ 7 (.int .u32 ((Rp.q5 l).2.2.2.1 : Int)) rfl rfl 54 _ H20.out.var (by kernel_rfl) rfl (by simp [rc]) rfl ?_; intro z7 hb _ hk)
  have H21 : Hid (GH w w.heap.size g k 54 (rc Rp.zero (.string (txt [])) (.slice none 0 0)) (rc ⟨(Rp.q1 l).2, (Rp.q2 l).2, 0, (Rp.q4 l).2.1, (Rp.q4 l).2.2, (Rp.q5 l).2.1, (Rp.q5 l).2.2.1, (Rp.q5 l).2.2.2.1, 0, 0, [], [], false, 0, 0⟩ (.string (txt [])) (.slice none 0 0)) (rdN 4 (rdN 4 (rdN 4 (Rp.q4 l).1).1).1).1 z7) := H20.out.set hb hk
  clear hb hk H20
  go_wp2_with (refine wpList_load_part rfl 84 (.tmp 5) rfl _ 0 rfl _ Tryd.underlying84 rfl (rv (rdN 4 (rdN 4 (rdN 4 (Rp.q4 l).1).1).1).1) 84 _ H21.out.rd size_R (fun j u hu => by rw [Nat.zero_add]; exact hu) ?_)
  refine (refRead32 _ _ _).mono ?_
  rintro e v8 ⟨rfl, hb⟩
  have H22 := Lib.hid (H21.out.below hb)
  clear hb H21
  go_upto_region 18 with (refine wpList_store_part rfl 84 (.tmp 5) (.tmp 79) rfl k 0 (rv (rdN 4 (rdN 4 (rdN 4 (rdN 4 (Rp.q4 l).1).1).1).1).1) rfl rfl 84 _ H22.out.rd size_R (by simp [rv]) (rv_one _) ?_; intro y8 hb _ hk)
  have H23 : Hid (GH w w.heap.size g k 54 (rc Rp.zero (.string (txt [])) (.slice none 0 0)) (rc ⟨(Rp.q1 l).2, (Rp.q2 l).2, 0, (Rp.q4 l).2.1, (Rp.q4 l).2.2, (Rp.q5 l).2.1, (Rp.q5 l).2.2.1, (Rp.q5 l).2.2.2.1, 0, 0, [], [], false, 0, 0⟩ (.string (txt [])) (.slice none 0 0)) (rdN 4 (rdN 4 (rdN 4 (rdN 4 (Rp.q4 l).1).1).1).1).1 y8) := H22.out.read hb hk
  clear hb hk H22
  go_upto_region 19 with (refine wpList_store_cell rfl 22 (.tmp 83) (.tmp 81) rfl _ 8 (.int .u32 ((Rp.q5 l).2.2.2.2.1 : Int)) rfl rfl 54 _ H23.out.var (by kernel_rfl) rfl (by simp [rc]) rfl ?_; intro z8 hb _ hk)
  have H24 : Hid (GH w w.heap.size g k 54 (rc Rp.zero (.string (txt [])) (.slice none 0 0)) (rc ⟨(Rp.q1 l).2, (Rp.q2 l).2, 0, (Rp.q4 l).2.1, (Rp.q4 l).2.2, (Rp.q5 l).2.1, (Rp.q5 l).2.2.1, (Rp.q5 l).2.2.2.1, (Rp.q5 l).2.2.2.2.1, 0, [], [], false, 0, 0⟩ (.string (txt [])) (.slice none 0 0)) (rdN 4 (rdN 4 (rdN 4 (rdN 4 (Rp.q4 l).1).1).1).1).1 z8) := H23.out.set hb hk
  clear hb hk H23
  go_wp2_with (refine wpList_load_part rfl 84 (.tmp 5) rfl _ 0 rfl _ Tryd.underlying84 rfl (rv (rdN 4 (rdN 4 (rdN 4 (rdN 4 (Rp.q4 l).1).1).1).1).1) 84 _ H24.out.rd size_R (fun j u hu => by rw [Nat.zero_add]; exact hu) ?_)
  refine (refRead64 _ _ _).mono ?_
  rintro e v9 ⟨rfl, hb⟩
  have H25 := Lib.hid (H24.out.below hb)
  clear hb H24
  go_upto_region 20 with (refine wpList_store_part rfl 84 (.tmp 5) (.tmp 87) rfl k 0 (rv (Rp.q5 l).1) rfl rfl 84 _ H25.out.rd size_R (by simp [rv]) (rv_one _) ?_; intro y9 hb _ hk)
  have H26 : Hid (GH w w.heap.size g k 54 (rc Rp.zero (.string (txt [])) (.slice none 0 0)) (rc ⟨(Rp.q1 l).2, (Rp.q2 l).2, 0, (Rp.q4 l).2.1, (Rp.q4 l).2.2, (Rp.q5 l).2.1, (Rp.q5 l).2.2.1, (Rp.q5 l).2.2.2.1, (Rp.q5 l).2.2.2.2.1, 0, [], [], false, 0, 0⟩ (.string (txt [])) (.slice none 0 0)) (Rp.q5 l).1 y9) := H25.out.read hb hk
  clear hb hk H25
  go_upto_region 21 with (refine wpList_store_cell rfl 25 (.tmp 91) (.tmp 89) rfl _ 9 (.int .u64 ((Rp.q5 l).2.2.2.2.2 : Int)) rfl rfl 54 _ H26.out.var (by kernel_rfl) rfl (by simp [rc]) rfl ?_; intro z9 hb _ hk)
  have H27 : Hid (GH w w.heap.size g k 54 (rc Rp.zero (.string (txt [])) (.slice none 0 0)) (rc ⟨(Rp.q1 l).2, (Rp.q2 l).2, 0, (Rp.q4 l).2.1, (Rp.q4 l).2.2, (Rp.q5 l).2.1, (Rp.q5 l).2.2.1, (Rp.q5 l).2.2.2.1, (Rp.q5 l).2.2.2.2.1, (Rp.q5 l).2.2.2.2.2, [], [], false, 0, 0⟩ (.string (txt [])) (.slice none 0 0)) (Rp.q5 l).1 z9) := H26.out.set hb hk
  clear hb hk H26
  go_wp2_with (refine wpList_load_part rfl 84 (.tmp 5) rfl _ 0 rfl _ Tryd.underlying84 rfl (rv (Rp.q5 l).1) 84 _ H27.out.rd size_R (fun j u hu => by rw [Nat.zero_add]; exact hu) ?_)
  refine (refReadOpaque _ _ 1024 _ (by omega) (by omega)).mono ?_
  rintro e v10 ⟨rfl, hb⟩
  have H28 := Lib.hid (H27.out.below hb)
  clear hb H27
  go_upto_region 22 with (refine wpList_store_part rfl 84 (.tmp 5) (.tmp 95) rfl k 0 (rv (Rp.q6 l).1) rfl rfl 84 _ H28.out.rd size_R (by simp [rv]) (rv_one _) ?_; intro y10 hb _ hk)
  have H29 : Hid (GH w w.heap.size g k 54 (rc Rp.zero (.string (txt [])) (.slice none 0 0)) (rc ⟨(Rp.q1 l).2, (Rp.q2 l).2, 0, (Rp.q4 l).2.1, (Rp.q4 l).2.2, (Rp.q5 l).2.1, (Rp.q5 l).2.2.1, (Rp.q5 l).2.2.2.1, (Rp.q5 l).2.2.2.2.1, (Rp.q5 l).2.2.2.2.2, [], [], false, 0, 0⟩ (.string (txt [])) (.slice none 0 0)) (Rp.q6 l).1 y10) := H28.out.read hb hk
  clear hb hk H28
  go_upto_region 23 with (refine wpList_store_cell rfl 9 (.tmp 98) (.tmp 97) rfl _ 10 (.string (txt (Rp.q6 l).2)) rfl rfl 54 _ H29.out.var (by kernel_rfl) rfl (by simp [rc]) rfl ?_; intro z10 hb _ hk)
  have H30 : Hid (GH w w.heap.size g k 54 (rc Rp.zero (.string (txt [])) (.slice none 0 0)) (rc ⟨(Rp.q1 l).2, (Rp.q2 l).2, 0, (Rp.q4 l).2.1, (Rp.q4 l).2.2, (Rp.q5 l).2.1, (Rp.q5 l).2.2.1, (Rp.q5 l).2.2.2.1, (Rp.q5 l).2.2.2.2.1, (Rp.q5 l).2.2.2.2.2, (Rp.q6 l).2, [], false, 0, 0⟩ (.string (txt (Rp.q6 l).2)) (.slice none 0 0)) (Rp.q6 l).1 z10) := H29.out.set hb hk
  clear hb hk H29
  go_wp2_with (refine wpList_load_part rfl 84 (.tmp 5) rfl _ 0 rfl _ Tryd.underlying84 rfl (rv (Rp.q6 l).1) 84 _ H30.out.rd size_R (fun j u hu => by rw [Nat.zero_add]; exact hu) ?_)
  refine (refReadOpaque _ _ 2048 _ (by omega) (by omega)).mono ?_
  rintro e v11 ⟨rfl, hb⟩
  have H31 := Lib.hid (H30.out.below hb)
  clear hb H30
  go_upto_region 24 with (refine wpList_store_part rfl 84 (.tmp 5) (.tmp 102) rfl k 0 (rv (Rp.q7 l).1) rfl rfl 84 _ H31.out.rd size_R (by simp [rv]) (rv_one _) ?_; intro y11 hb _ hk)
  have H32 : Hid (GH w w.heap.size g k 54 (rc Rp.zero (.string (txt [])) (.slice none 0 0)) (rc ⟨(Rp.q1 l).2, (Rp.q2 l).2, 0, (Rp.q4 l).2.1, (Rp.q4 l).2.2, (Rp.q5 l).2.1, (Rp.q5 l).2.2.1, (Rp.q5 l).2.2.2.1, (Rp.q5 l).2.2.2.2.1, (Rp.q5 l).2.2.2.2.2, (Rp.q6 l).2, [], false, 0, 0⟩ (.string (txt (Rp.q6 l).2)) (.slice none 0 0)) (Rp.q7 l).1 y11) := H31.out.read hb hk
  clear hb hk H31
  go_wp2_with (refine wpList_load_part rfl 84 (.tmp 5) rfl _ 0 rfl _ Tryd.underlying84 rfl (rv (Rp.q7 l).1) 84 _ H32.out.rd size_R (fun j u hu => by rw [Nat.zero_add]; exact hu) ?_)
  refine (refReadBool _ _ _).mono ?_
  rintro e v12 ⟨rfl, hb⟩
  have H33 := Lib.hid (H32.out.below hb)
  clear hb H32
  go_upto_region 25 with (refine wpList_store_part rfl 84 (.tmp 5) (.tmp 107) rfl k 0 (rv (Rp.q8 l).1) rfl rfl 84 _ H33.out.rd size_R (by simp [rv]) (rv_one _) ?_; intro y12 hb _ hk)
  have H34 : Hid (GH w w.heap.size g k 54 (rc Rp.zero (.string (txt [])) (.slice none 0 0)) (rc ⟨(Rp.q1 l).2, (Rp.q2 l).2, 0, (Rp.q4 l).2.1, (Rp.q4 l).2.2, (Rp.q5 l).2.1, (Rp.q5 l).2.2.1, (Rp.q5 l).2.2.2.1, (Rp.q5 l).2.2.2.2.1, (Rp.q5 l).2.2.2.2.2, (Rp.q6 l).2, [], false, 0, 0⟩ (.string (txt (Rp.q6 l).2)) (.slice none 0 0)) (Rp.q8 l).1 y12) := H33.out.read hb hk
  clear hb hk H33
  go_upto_region 26 with (refine wpList_store_cell rfl 4 (.tmp 110) (.tmp 109) rfl _ 12 (.bool (Rp.q8 l).2) rfl rfl 54 _ H34.out.var (by kernel_rfl) rfl (by simp [rc]) rfl ?_; intro z12 hb _ hk)
  have H35 : Hid (GH w w.heap.size g k 54 (rc Rp.zero (.string (txt [])) (.slice none 0 0)) (rc ⟨(Rp.q1 l).2, (Rp.q2 l).2, 0, (Rp.q4 l).2.1, (Rp.q4 l).2.2, (Rp.q5 l).2.1, (Rp.q5 l).2.2.1, (Rp.q5 l).2.2.2.1, (Rp.q5 l).2.2.2.2.1, (Rp.q5 l).2.2.2.2.2, (Rp.q6 l).2, [], (Rp.q8 l).2, 0, 0⟩ (.string (txt (Rp.q6 l).2)) (.slice none 0 0)) (Rp.q8 l).1 z12) := H34.out.set hb hk
  clear hb hk H34
  go_wp2_with (refine wpList_load_part rfl 84 (.tmp 5) rfl _ 0 rfl _ Tryd.underlying84 rfl (rv (Rp.q8 l).1) 84 _ H35.out.rd size_R (fun j u hu => by rw [Nat.zero_add]; exact hu) ?_)
  refine (refRead64 _ _ _).mono ?_
  rintro e v13 ⟨rfl, hb⟩
  have H36 := Lib.hid (H35.out.below hb)
  clear hb H35
  go_upto_region 27 with (refine wpList_store_part rfl 84 (.tmp 5) (.tmp 114) rfl k 0 (rv (Rp.q9 l).1) rfl rfl 84 _ H36.out.rd size_R (by simp [rv]) (rv_one _) ?_; intro y13 hb _ hk)
  have H37 : Hid (GH w w.heap.size g k 54 (rc Rp.zero (.string (txt [])) (.slice none 0 0)) (rc ⟨(Rp.q1 l).2, (Rp.q2 l).2, 0, (Rp.q4 l).2.1, (Rp.q4 l).2.2, (Rp.q5 l).2.1, (Rp.q5 l).2.2.1, (Rp.q5 l).2.2.2.1, (Rp.q5 l).2.2.2.2.1, (Rp.q5 l).2.2.2.2.2, (Rp.q6 l).2, [], (Rp.q8 l).2, 0, 0⟩ (.string (txt (Rp.q6 l).2)) (.slice none 0 0)) (Rp.q9 l).1 y13) := H36.out.read hb hk
  clear hb hk H36
  go_upto_region 28 with (refine wpList_store_cell rfl 25 (.tmp 117) (.tmp 116) rfl _ 13 (.int .u64 ((Rp.q9 l).2 : Int)) rfl rfl 54 _ H37.out.var (by kernel_rfl) rfl (by simp [rc]) rfl ?_; intro z13 hb _ hk)
  have H38 : Hid (GH w w.heap.size g k 54 (rc Rp.zero (.string (txt [])) (.slice none 0 0)) (rc ⟨(Rp.q1 l).2, (Rp.q2 l).2, 0, (Rp.q4 l).2.1, (Rp.q4 l).2.2, (Rp.q5 l).2.1, (Rp.q5 l).2.2.1, (Rp.q5 l).2.2.2.1, (Rp.q5 l).2.2.2.2.1, (Rp.q5 l).2.2.2.2.2, (Rp.q6 l).2, [], (Rp.q8 l).2, (Rp.q9 l).2, 0⟩ (.string (txt (Rp.q6 l).2)) (.slice none 0 0)) (Rp.q9 l).1 z13) := H37.out.set hb hk
  clear hb hk H37
  go_wp2_with (refine wpList_load_part rfl 84 (.tmp 5) rfl _ 0 rfl _ Tryd.underlying84 rfl (rv (Rp.q9 l).1) 84 _ H38.out.rd size_R (fun j u hu => by rw [Nat.zero_add]; exact hu) ?_)
  refine (refRead32 _ _ _).mono ?_
  rintro e v14 ⟨rfl, hb⟩
  have H39 := Lib.hid (H38.out.below hb)
  clear hb H38
  go_upto_region 29 with (refine wpList_store_part rfl 84 (.tmp 5) (.tmp 121) rfl k 0 (rv (Rp.q10 l).1) rfl rfl 84 _ H39.out.rd size_R (by simp [rv]) (rv_one _) ?_; intro y14 hb _ hk)
  have H40 : Hid (GH w w.heap.size g k 54 (rc Rp.zero (.string (txt [])) (.slice none 0 0)) (rc ⟨(Rp.q1 l).2, (Rp.q2 l).2, 0, (Rp.q4 l).2.1, (Rp.q4 l).2.2, (Rp.q5 l).2.1, (Rp.q5 l).2.2.1, (Rp.q5 l).2.2.2.1, (Rp.q5 l).2.2.2.2.1, (Rp.q5 l).2.2.2.2.2, (Rp.q6 l).2, [], (Rp.q8 l).2, (Rp.q9 l).2, 0⟩ (.string (txt (Rp.q6 l).2)) (.slice none 0 0)) (Rp.q10 l).1 y14) := H39.out.read hb hk
  clear hb hk H39
  go_upto_region 30 with (refine wpList_store_cell rfl 22 (.tmp 124) (.tmp 123) rfl _ 14 (.int .u32 ((Rp.q10 l).2 : Int)) rfl rfl 54 _ H40.out.var (by kernel_rfl) rfl (by simp [rc]) rfl ?_; intro z14 hb _ hk)
  have H41 : Hid (GH w w.heap.size g k 54 (rc Rp.zero (.string (txt [])) (.slice none 0 0)) (rc ⟨(Rp.q1 l).2, (Rp.q2 l).2, 0, (Rp.q4 l).2.1, (Rp.q4 l).2.2, (Rp.q5 l).2.1, (Rp.q5 l).2.2.1, (Rp.q5 l).2.2.2.1, (Rp.q5 l).2.2.2.2.1, (Rp.q5 l).2.2.2.2.2, (Rp.q6 l).2, [], (Rp.q8 l).2, (Rp.q9 l).2, (Rp.q10 l).2⟩ (.string (txt (Rp.q6 l).2)) (.slice none 0 0)) (Rp.q10 l).1 z14) := H40.out.set hb hk
  clear hb hk H40
  have HLR : Hid (w.heap.size ≤ g ∧ w.heap.size ≠ g) := ⟨H41.out.lg, H41.out.rg⟩
  go_wp2_with (refine wpList_load_part rfl 84 (.tmp 5) rfl _ 0 rfl _ Tryd.underlying84 rfl (rv (Rp.q10 l).1) 84 _ H41.out.rd size_R (fun j u hu => by rw [Nat.zero_add]; exact hu) ?_)
  refine (refEnd _ _ _).mono ?_
  rintro e w9 ⟨rfl, hb⟩
  have HF := Lib.hid (H41.out.below hb)
  clear hb H41
  rw [← Rp.bad_q l]
  by_cases hbad : replyC.bad l = 0
  rotate_left
  · have hd : (replyC.bad l != 0) = true := by simpa using hbad
    have HE : Hid (Rp.err l = replyC.bad l) := if_pos hbad
    have HG : Hid (Rp.got l = Rp.zero) := if_neg (by rw [HE.out]; exact hbad)
    clear hbad
    generalize replyC.bad l = z at *
    go_wp2_with (first
      | (refine Did.list rfl (did_build 54 #[] rfl (rc Rp.zero (.string (txt [])) (.slice none 0 0)).toArray (by exact built_R9z)) ?_)
      | (refine wpList_store_part rfl 54 (.tmp 2) (.tmp 129) rfl w.heap.size 0 (rc Rp.zero (.string (txt [])) (.slice none 0 0)) rfl rfl 54 _ HF.out.res size_R9 (by simp [rc]) (rc_ones _ _ _ _ _) ?_
         intro y hb _ hk
         have HB := Lib.hid hb
         have HK := Lib.hid hk
         clear hb hk))
    exact bodyPost_ret (results_cell rfl _ y w.heap.size (.int .i64 z) HB.out size_R9 (by rfl) (by rfl) Tryd.underlying54) rfl (by
      rw [HE.out, HG.out]
      exact ⟨none, 0, 0, rfl, ES.nil, HF.out.bel.trans (HK.out.below2 (fun k hk => by omega))⟩)
  have hrl : (Rp.q7 l).2.length ≤ 2048 := by
    have h1 := (replyC.bad_back l hbad).2.2.2.2.2.2.2.1
    rw [show (replyC.rd (l, 0)).2 = Rp.rd l from rfl, Rp.rd_q l] at h1
    exact h1
  have hrow : (Rp.rd l).row = (Rp.q7 l).2 := by rw [Rp.rd_q l]; rfl
  have hq3 : (Rp.rd l).2.2.1 = sn := by rw [Rp.rd_q l]; exact HSN.out
  have HQ3 : Hid (sn < 4294967296) := by
    have h1 := (replyC.bad_back l hbad).2.2.2.1
    rw [show (replyC.rd (l, 0)).2 = Rp.rd l from rfl, Rp.rd_q l] at h1
    have h2 : (Rp.q3 l).2 < 4294967296 := h1
    rw [HSN.out] at h2
    exact h2
  rw [hbad]
  have HERR : Hid (Rp.err l = if errE (Rp.q7 l).2 ≠ 0 then errE (Rp.q7 l).2 else if stOk (sn : Int) && decide ((gotE (Rp.q7 l).2).length ≤ 24) then 0 else 11) := by
    show _ = _
    unfold Rp.err
    rw [hbad, if_neg (by simp), hrow, hq3]
  clear hbad
  go_wp2_with fail
  refine (refGet_any (Rp.q7 l).2 w9 (by omega)).mono ?_
  rintro e wa ⟨E, m, ce, rfl, hes, _, hb⟩
  have HX := Lib.hid (HF.out.below hb)
  have HES := Lib.hid hes
  have hml : (gotE (Rp.q7 l).2).length = m := hes.1
  clear hb HF hes hrl
  by_cases her : errE (Rp.q7 l).2 = 0
  rotate_left
  · have hd : (errE (Rp.q7 l).2 != 0) = true := by simpa using her
    have HE : Hid (Rp.err l = errE (Rp.q7 l).2) := by show _ = _; rw [HERR.out, if_pos her]
    have HG : Hid (Rp.got l = Rp.zero) := if_neg (by rw [HE.out]; exact her)
    clear her hrow hq3
    generalize errE (Rp.q7 l).2 = z at *
    go_wp2_with (first
      | (refine Did.list rfl (did_build 54 #[] rfl (rc Rp.zero (.string (txt [])) (.slice none 0 0)).toArray (by exact built_R9z)) ?_)
      | (refine wpList_store_part rfl 54 (.tmp 2) (.tmp 138) rfl w.heap.size 0 (rc Rp.zero (.string (txt [])) (.slice none 0 0)) rfl rfl 54 _ HX.out.res size_R9 (by simp [rc]) (rc_ones _ _ _ _ _) ?_
         intro y hb _ hk
         have HB := Lib.hid hb
         have HK := Lib.hid hk
         clear hb hk))
    exact bodyPost_ret (results_cell rfl _ y w.heap.size (.int .i64 z) HB.out size_R9 (by rfl) (by rfl) Tryd.underlying54) rfl (by
      rw [HE.out, HG.out]
      exact ⟨none, 0, 0, rfl, ES.nil, HX.out.bel.trans (HK.out.below2 (fun k hk => by omega))⟩)
  rw [her]
  have HERR1 : Hid (Rp.err l = if stOk (sn : Int) && decide (m ≤ 24) then 0 else 11) := by show _ = _; rw [HERR.out, her, if_neg (by simp), hml]
  clear her HERR hml hq3
  have hq4 : wrap64 (sn : Int) = (sn : Int) := IntWalk.wrap64_in _ (by have := HQ3.out; omega)
  go_wp2_with fail
  refine (refStatus_any (sn : Int) _).mono ?_
  rintro e wb ⟨rfl, rfl⟩
  by_cases hst : stOk (sn : Int) = true
  rotate_left
  · have hst' : stOk (sn : Int) = false := by simpa using hst
    have HE : Hid (Rp.err l = 11) := by show _ = _; rw [HERR1.out, hst']; rfl
    have HG : Hid (Rp.got l = Rp.zero) := if_neg (by rw [HE.out]; decide)
    rw [hst']
    clear hst hst' hrow hq4
    go_wp2_with (first
      | (refine Did.list rfl (did_build 54 #[] rfl (rc Rp.zero (.string (txt [])) (.slice none 0 0)).toArray (by exact built_R9z)) ?_)
      | (refine wpList_store_part rfl 54 (.tmp 2) (.tmp 150) rfl w.heap.size 0 (rc Rp.zero (.string (txt [])) (.slice none 0 0)) rfl rfl 54 _ HX.out.res size_R9 (by simp [rc]) (rc_ones _ _ _ _ _) ?_
         intro y hb _ hk
         have HB := Lib.hid hb
         have HK := Lib.hid hk
         clear hb hk))
    exact bodyPost_ret (results_cell rfl _ y w.heap.size (.int .i64 11) HB.out size_R9 (by rfl) (by rfl) Tryd.underlying54) rfl (by
      rw [HE.out, HG.out]
      exact ⟨none, 0, 0, rfl, ES.nil, HX.out.bel.trans (HK.out.below2 (fun k hk => by omega))⟩)
  rw [hst]
  by_cases hm : m ≤ 24
  rotate_left
  · have hm' : decide ((24 : Int) < (m : Int)) = true := by simp; omega
    have HE : Hid (Rp.err l = 11) := by show _ = _; rw [HERR1.out, hst, decide_eq_false hm]; rfl
    have HG : Hid (Rp.got l = Rp.zero) := if_neg (by rw [HE.out]; decide)
    clear hst hm hrow hq4
    go_wp2_with (first
      | (refine Did.list rfl (did_build 54 #[] rfl (rc Rp.zero (.string (txt [])) (.slice none 0 0)).toArray (by exact built_R9z)) ?_)
      | (refine wpList_store_part rfl 54 (.tmp 2) (.tmp 150) rfl w.heap.size 0 (rc Rp.zero (.string (txt [])) (.slice none 0 0)) rfl rfl 54 _ HX.out.res size_R9 (by simp [rc]) (rc_ones _ _ _ _ _) ?_
         intro y hb _ hk
         have HB := Lib.hid hb
         have HK := Lib.hid hk
         clear hb hk))
    exact bodyPost_ret (results_cell rfl _ y w.heap.size (.int .i64 11) HB.out size_R9 (by rfl) (by rfl) Tryd.underlying54) rfl (by
      rw [HE.out, HG.out]
      exact ⟨none, 0, 0, rfl, ES.nil, HX.out.bel.trans (HK.out.below2 (fun k hk => by omega))⟩)
  have hm' : decide ((24 : Int) < (m : Int)) = false := by simp; omega
  have HE : Hid (Rp.err l = 0) := by show _ = _; rw [HERR1.out, hst, decide_eq_true hm]; rfl
  have HG : Hid (Rp.got l = ⟨(Rp.q1 l).2, (Rp.q2 l).2, (sn : Int), (Rp.q4 l).2.1, (Rp.q4 l).2.2, (Rp.q5 l).2.1, (Rp.q5 l).2.2.1, (Rp.q5 l).2.2.2.1, (Rp.q5 l).2.2.2.2.1, (Rp.q5 l).2.2.2.2.2, (Rp.q6 l).2, gotE (Rp.q7 l).2, (Rp.q8 l).2, (Rp.q9 l).2, (Rp.q10 l).2⟩) := by
    show _ = _
    unfold Rp.got
    rw [if_pos HE.out, hrow, Rp.rd_q l, ← HSN.out]
    rfl
  have hq5 : IntKind.i64.wrap (sn : Int) = (sn : Int) := by rw [IntWalk.i64_left]; exact hq4
  clear hst hm hrow
  go_upto_region 39 with fail
  clear hm'
  go_upto_region 40 with (refine wpList_store_cell rfl 30 (.tmp 153) (.tmp 152) rfl _ 2 (.int .i64 (sn : Int)) rfl rfl 54 _ HX.out.var (by kernel_rfl) rfl (by simp [rc]) rfl ?_; intro za hb _ hk)
  have HY : Hid (GH w w.heap.size g k 54 (rc Rp.zero (.string (txt [])) (.slice none 0 0)) (rc ⟨(Rp.q1 l).2, (Rp.q2 l).2, (sn : Int), (Rp.q4 l).2.1, (Rp.q4 l).2.2, (Rp.q5 l).2.1, (Rp.q5 l).2.2.1, (Rp.q5 l).2.2.2.1, (Rp.q5 l).2.2.2.2.1, (Rp.q5 l).2.2.2.2.2, (Rp.q6 l).2, [], (Rp.q8 l).2, (Rp.q9 l).2, (Rp.q10 l).2⟩ (.string (txt (Rp.q6 l).2)) (.slice none 0 0)) (Rp.q10 l).1 za) := HX.out.set hb hk
  have HEY := Lib.hid (HES.out.offR HX.out.var hk)
  clear hb hk HX HES hq4 hq5
  go_upto_region 41 with (refine wpList_store_cell rfl 52 (.tmp 155) (.tmp 154) rfl _ 11 (.slice E m ce) rfl rfl 54 _ HY.out.var (by kernel_rfl) rfl (by simp [rc]) rfl ?_; intro zb hb _ hk)
  have HZ : Hid (GH w w.heap.size g k 54 (rc Rp.zero (.string (txt [])) (.slice none 0 0)) (rc ⟨(Rp.q1 l).2, (Rp.q2 l).2, (sn : Int), (Rp.q4 l).2.1, (Rp.q4 l).2.2, (Rp.q5 l).2.1, (Rp.q5 l).2.2.1, (Rp.q5 l).2.2.2.1, (Rp.q5 l).2.2.2.2.1, (Rp.q5 l).2.2.2.2.2, (Rp.q6 l).2, [], (Rp.q8 l).2, (Rp.q9 l).2, (Rp.q10 l).2⟩ (.string (txt (Rp.q6 l).2)) (.slice E m ce)) (Rp.q10 l).1 zb) := HY.out.set hb hk
  have HEZ := Lib.hid (HEY.out.offR HY.out.var hk)
  clear hb hk HY HEY
  go_wp2_with (first
    | (refine wpList_load_part rfl 54 (.tmp 4) rfl _ 0 rfl _ Tryd.underlying54 rfl (rc ⟨(Rp.q1 l).2, (Rp.q2 l).2, (sn : Int), (Rp.q4 l).2.1, (Rp.q4 l).2.2, (Rp.q5 l).2.1, (Rp.q5 l).2.2.1, (Rp.q5 l).2.2.2.1, (Rp.q5 l).2.2.2.2.1, (Rp.q5 l).2.2.2.2.2, (Rp.q6 l).2, [], (Rp.q8 l).2, (Rp.q9 l).2, (Rp.q10 l).2⟩ (.string (txt (Rp.q6 l).2)) (.slice E m ce)) 54 _ HZ.out.var size_R9 (fun j u hu => by rw [Nat.zero_add]; exact hu) ?_)
    | (refine wpList_store_part rfl 54 (.tmp 2) (.tmp 156) rfl w.heap.size 0 (rc ⟨(Rp.q1 l).2, (Rp.q2 l).2, (sn : Int), (Rp.q4 l).2.1, (Rp.q4 l).2.2, (Rp.q5 l).2.1, (Rp.q5 l).2.2.1, (Rp.q5 l).2.2.2.1, (Rp.q5 l).2.2.2.2.1, (Rp.q5 l).2.2.2.2.2, (Rp.q6 l).2, [], (Rp.q8 l).2, (Rp.q9 l).2, (Rp.q10 l).2⟩ (.string (txt (Rp.q6 l).2)) (.slice E m ce)) rfl rfl 54 _ HZ.out.res size_R9 (by simp [rc]) (rc_ones _ _ _ _ _) ?_
       intro y hb _ hk
       have HB := Lib.hid hb
       have HK := Lib.hid hk
       clear hb hk))
  exact bodyPost_ret (results_cell rfl _ y w.heap.size (.int .i64 0) HB.out size_R9 (by rfl) (by rfl) Tryd.underlying54) rfl (by
    rw [HE.out, HG.out]
    exact ⟨E, m, ce, rfl, HEZ.out.offR HZ.out.res HK.out, HZ.out.bel.trans (HK.out.below2 (fun k hk => by omega))⟩)
end Go.Proofs.YtobhmjokoicpoaaDoor
