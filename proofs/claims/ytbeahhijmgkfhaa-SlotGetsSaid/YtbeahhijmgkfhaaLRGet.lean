/-
  The document's Get, walked (layer 11).
-/
import Derived.Test.YtbeahhijmgkfhaaLRPut
namespace Go.Proofs.Ytbeahhijmgkfhaa
open Go.RowKit Go.Shelf

section
variable (l : List UInt8)
def Sl.q1 := rdN 4 (l, 0)
def Sl.q2 := rdN 4 (Sl.q1 l).1
def Sl.q3 := rdN 4 (Sl.q2 l).1
def Sl.q4 := rdN 4 (Sl.q3 l).1
def Sl.q5 := rdN 4 (Sl.q4 l).1
def Sl.q6 := rdN 8 (Sl.q5 l).1
def Sl.q7 := rdN 8 (Sl.q6 l).1
def Sl.q8 := rdN 8 (Sl.q7 l).1
def Sl.q9 := rdO 768 (Sl.q8 l).1
theorem Sl.all_q : Sl.slotC.rd (l, 0) = ((Sl.q9 l).1, Sl.tup ⟨(Sl.q1 l).2, (Sl.q2 l).2, (Sl.q3 l).2, (Sl.q4 l).2, (Sl.q5 l).2, (Sl.q6 l).2, (Sl.q7 l).2, (Sl.q8 l).2, (Sl.q9 l).2⟩) := by
  unfold Sl.slotC
  simp only [seq_rd]
  rfl
theorem Sl.bad_q : Sl.slotC.bad l = endOf (Sl.q9 l).1.1 (Sl.q9 l).1.2 := by
  unfold Cd.bad
  rw [Sl.all_q l]
theorem Sl.rd_q : Sl.rd l = ⟨(Sl.q1 l).2, (Sl.q2 l).2, (Sl.q3 l).2, (Sl.q4 l).2, (Sl.q5 l).2, (Sl.q6 l).2, (Sl.q7 l).2, (Sl.q8 l).2, (Sl.q9 l).2⟩ := by
  unfold Sl.rd
  rw [Sl.all_q l]
  rfl
end
set_option maxRecDepth 100000 in
set_option maxHeartbeats 8000000 in
theorem refGetS_any (l : List UInt8) (w : World) :
    Calls Try.prog 18 #[.string (txt l)] w fun e w' => e = .returned (.tuple #[.agg (sc (Sl.got l) (.string (txt (Sl.got l).dt))).toArray, .int .i64 (Sl.err l)]) ∧ Below w.heap.size w w' := by
  go_enter Try.func18, Try.ntmps18
  go_upto_region 1 with (refine wpList_alloc_any rfl 34 rfl _ zero_S11 ?_; intro w1 hb1 hs1 hw1)
  have A1 := Lib.hid hb1
  have A2 := Lib.hid hs1
  have A3 := Lib.hid hw1
  clear hb1 hs1 hw1
  go_upto_region 2 with (first
    | (refine Did.list rfl (did_build 34 #[] rfl (sc Sl.zero (.string (txt []))).toArray (by exact built_S11z)) ?_)
    | (refine wpList_alloc_any rfl 34 rfl _ zero_S11 ?_; intro w2 hb2 hs2 hw2)
    | (refine wpList_store_part rfl 34 (.tmp 4) (.tmp 10) rfl w1.heap.size 0 (sc Sl.zero (.string (txt []))) rfl rfl 34 _ hb2 size_S11 (by simp [sc]) (sc_str _ _) ?_
       intro w3 hb3 hs3 hk3))
  have A4 : Hid (Bw w3 w1.heap.size (sc Sl.zero (.string (txt []))) 34) := hb3
  have A5 : Hid (Bw w3 w.heap.size (sc Sl.zero (.string (txt []))) 34) := (hk3.block _ (by have := A2.out; omega)).trans ((hw2.block _ (by have := A2.out; omega)).trans A1.out)
  have A6 : Hid (Below w.heap.size w w3) := A3.out.trans ((hw2.mono A3.out.size).trans (hk3.below2 (fun j hj => by have := A2.out; omega)))
  have A7 : Hid (w3.heap.size = w.heap.size + 2) := by show _ = _; have := A2.out; omega
  clear hb2 hs2 hw2 hb3 hs3 hk3
  go_wp2_with (refine Did.list rfl (did_build 78 #[(0, .tmp 12)] rfl _ (built_R1 (txt l))) ?_)
  refine (refRead32 l 0 w3).mono ?_
  rintro e w4 ⟨rfl, hb4⟩
  have A8 := Lib.hid (A4.out.below hb4)
  have A9 := Lib.hid (A5.out.below hb4)
  have B1 := Lib.hid (A6.out.trans (hb4.mono A6.out.size))
  have B2 : Hid (w.heap.size + 2 ≤ w4.heap.size) := by show _ ≤ _; have := hb4.size; have := A7.out; omega
  clear hb4 A4 A5 A6 A7
  go_upto_region 3 with (first
    | (refine wpList_alloc_any rfl 78 rfl _ zero_R ?_; intro w5 hb5 hs5 hw5)
    | (refine wpList_store_part rfl 78 (.tmp 5) (.tmp 15) rfl w4.heap.size 0 (rv (Sl.q1 l).1) rfl rfl 78 [.string (txt []), .int .i64 0] hb5 size_R (by simp [rv]) (rv_one _) ?_
       intro w6 hb6 hs6 hk6))
  have H0 : Hid (GH w w.heap.size w1.heap.size w4.heap.size 34 (sc Sl.zero (.string (txt []))) (sc Sl.zero (.string (txt []))) (Sl.q1 l).1 w6) := by
    have h2 := A2.out
    have h3 := B2.out
    refine ⟨hb6, (A9.out.below hw5).keep hk6 (by omega), (A8.out.below hw5).keep hk6 (by omega), B1.out.trans ((hw5.mono B1.out.size).trans (hk6.below2 (fun j hj => by omega))), Nat.le_refl _, by omega, by omega, by omega, by omega, by omega⟩
  clear hb5 hs5 hw5 hb6 hs6 hk6 A1 A2 A3 A8 A9 B1 B2
  generalize w1.heap.size = g at *
  generalize w4.heap.size = k at *
  go_upto_region 4 with (refine wpList_store_cell rfl 22 (.tmp 18) (.tmp 17) rfl _ 0 (.int .u32 ((Sl.q1 l).2 : Int)) rfl rfl 34 _ H0.out.var (by kernel_rfl) rfl (by simp [sc]) rfl ?_; intro z0 hb _ hk)
  have H1 : Hid (GH w w.heap.size g k 34 (sc Sl.zero (.string (txt []))) (sc ⟨(Sl.q1 l).2, 0, 0, 0, 0, 0, 0, 0, []⟩ (.string (txt []))) (Sl.q1 l).1 z0) := H0.out.set hb hk
  clear hb hk H0
  go_wp2_with (refine wpList_load_part rfl 78 (.tmp 5) rfl _ 0 rfl _ Try.underlying78 rfl (rv (Sl.q1 l).1) 78 _ H1.out.rd size_R (fun j u hu => by rw [Nat.zero_add]; exact hu) ?_)
  refine (refRead32 _ _ _).mono ?_
  rintro e v1 ⟨rfl, hb⟩
  have H2 := Lib.hid (H1.out.below hb)
  clear hb H1
  go_upto_region 5 with (refine wpList_store_part rfl 78 (.tmp 5) (.tmp 22) rfl k 0 (rv (Sl.q2 l).1) rfl rfl 78 _ H2.out.rd size_R (by simp [rv]) (rv_one _) ?_; intro y1 hb _ hk)
  have H3 : Hid (GH w w.heap.size g k 34 (sc Sl.zero (.string (txt []))) (sc ⟨(Sl.q1 l).2, 0, 0, 0, 0, 0, 0, 0, []⟩ (.string (txt []))) (Sl.q2 l).1 y1) := H2.out.read hb hk
  clear hb hk H2
  go_upto_region 6 with (refine wpList_store_cell rfl 22 (.tmp 25) (.tmp 24) rfl _ 1 (.int .u32 ((Sl.q2 l).2 : Int)) rfl rfl 34 _ H3.out.var (by kernel_rfl) rfl (by simp [sc]) rfl ?_; intro z1 hb _ hk)
  have H4 : Hid (GH w w.heap.size g k 34 (sc Sl.zero (.string (txt []))) (sc ⟨(Sl.q1 l).2, (Sl.q2 l).2, 0, 0, 0, 0, 0, 0, []⟩ (.string (txt []))) (Sl.q2 l).1 z1) := H3.out.set hb hk
  clear hb hk H3
  go_wp2_with (refine wpList_load_part rfl 78 (.tmp 5) rfl _ 0 rfl _ Try.underlying78 rfl (rv (Sl.q2 l).1) 78 _ H4.out.rd size_R (fun j u hu => by rw [Nat.zero_add]; exact hu) ?_)
  refine (refRead32 _ _ _).mono ?_
  rintro e v2 ⟨rfl, hb⟩
  have H5 := Lib.hid (H4.out.below hb)
  clear hb H4
  go_upto_region 7 with (refine wpList_store_part rfl 78 (.tmp 5) (.tmp 29) rfl k 0 (rv (Sl.q3 l).1) rfl rfl 78 _ H5.out.rd size_R (by simp [rv]) (rv_one _) ?_; intro y2 hb _ hk)
  have H6 : Hid (GH w w.heap.size g k 34 (sc Sl.zero (.string (txt []))) (sc ⟨(Sl.q1 l).2, (Sl.q2 l).2, 0, 0, 0, 0, 0, 0, []⟩ (.string (txt []))) (Sl.q3 l).1 y2) := H5.out.read hb hk
  clear hb hk H5
  go_upto_region 8 with (refine wpList_store_cell rfl 22 (.tmp 32) (.tmp 31) rfl _ 2 (.int .u32 ((Sl.q3 l).2 : Int)) rfl rfl 34 _ H6.out.var (by kernel_rfl) rfl (by simp [sc]) rfl ?_; intro z2 hb _ hk)
  have H7 : Hid (GH w w.heap.size g k 34 (sc Sl.zero (.string (txt []))) (sc ⟨(Sl.q1 l).2, (Sl.q2 l).2, (Sl.q3 l).2, 0, 0, 0, 0, 0, []⟩ (.string (txt []))) (Sl.q3 l).1 z2) := H6.out.set hb hk
  clear hb hk H6
  go_wp2_with (refine wpList_load_part rfl 78 (.tmp 5) rfl _ 0 rfl _ Try.underlying78 rfl (rv (Sl.q3 l).1) 78 _ H7.out.rd size_R (fun j u hu => by rw [Nat.zero_add]; exact hu) ?_)
  refine (refRead32 _ _ _).mono ?_
  rintro e v3 ⟨rfl, hb⟩
  have H8 := Lib.hid (H7.out.below hb)
  clear hb H7
  go_upto_region 9 with (refine wpList_store_part rfl 78 (.tmp 5) (.tmp 36) rfl k 0 (rv (Sl.q4 l).1) rfl rfl 78 _ H8.out.rd size_R (by simp [rv]) (rv_one _) ?_; intro y3 hb _ hk)
  have H9 : Hid (GH w w.heap.size g k 34 (sc Sl.zero (.string (txt []))) (sc ⟨(Sl.q1 l).2, (Sl.q2 l).2, (Sl.q3 l).2, 0, 0, 0, 0, 0, []⟩ (.string (txt []))) (Sl.q4 l).1 y3) := H8.out.read hb hk
  clear hb hk H8
  go_upto_region 10 with (refine wpList_store_cell rfl 22 (.tmp 39) (.tmp 38) rfl _ 3 (.int .u32 ((Sl.q4 l).2 : Int)) rfl rfl 34 _ H9.out.var (by kernel_rfl) rfl (by simp [sc]) rfl ?_; intro z3 hb _ hk)
  have H10 : Hid (GH w w.heap.size g k 34 (sc Sl.zero (.string (txt []))) (sc ⟨(Sl.q1 l).2, (Sl.q2 l).2, (Sl.q3 l).2, (Sl.q4 l).2, 0, 0, 0, 0, []⟩ (.string (txt []))) (Sl.q4 l).1 z3) := H9.out.set hb hk
  clear hb hk H9
  go_wp2_with (refine wpList_load_part rfl 78 (.tmp 5) rfl _ 0 rfl _ Try.underlying78 rfl (rv (Sl.q4 l).1) 78 _ H10.out.rd size_R (fun j u hu => by rw [Nat.zero_add]; exact hu) ?_)
  refine (refRead32 _ _ _).mono ?_
  rintro e v4 ⟨rfl, hb⟩
  have H11 := Lib.hid (H10.out.below hb)
  clear hb H10
  go_upto_region 11 with (refine wpList_store_part rfl 78 (.tmp 5) (.tmp 43) rfl k 0 (rv (Sl.q5 l).1) rfl rfl 78 _ H11.out.rd size_R (by simp [rv]) (rv_one _) ?_; intro y4 hb _ hk)
  have H12 : Hid (GH w w.heap.size g k 34 (sc Sl.zero (.string (txt []))) (sc ⟨(Sl.q1 l).2, (Sl.q2 l).2, (Sl.q3 l).2, (Sl.q4 l).2, 0, 0, 0, 0, []⟩ (.string (txt []))) (Sl.q5 l).1 y4) := H11.out.read hb hk
  clear hb hk H11
  go_upto_region 12 with (refine wpList_store_cell rfl 22 (.tmp 46) (.tmp 45) rfl _ 4 (.int .u32 ((Sl.q5 l).2 : Int)) rfl rfl 34 _ H12.out.var (by kernel_rfl) rfl (by simp [sc]) rfl ?_; intro z4 hb _ hk)
  have H13 : Hid (GH w w.heap.size g k 34 (sc Sl.zero (.string (txt []))) (sc ⟨(Sl.q1 l).2, (Sl.q2 l).2, (Sl.q3 l).2, (Sl.q4 l).2, (Sl.q5 l).2, 0, 0, 0, []⟩ (.string (txt []))) (Sl.q5 l).1 z4) := H12.out.set hb hk
  clear hb hk H12
  go_wp2_with (refine wpList_load_part rfl 78 (.tmp 5) rfl _ 0 rfl _ Try.underlying78 rfl (rv (Sl.q5 l).1) 78 _ H13.out.rd size_R (fun j u hu => by rw [Nat.zero_add]; exact hu) ?_)
  refine (refRead64 _ _ _).mono ?_
  rintro e v5 ⟨rfl, hb⟩
  have H14 := Lib.hid (H13.out.below hb)
  clear hb H13
  go_upto_region 13 with (refine wpList_store_part rfl 78 (.tmp 5) (.tmp 50) rfl k 0 (rv (Sl.q6 l).1) rfl rfl 78 _ H14.out.rd size_R (by simp [rv]) (rv_one _) ?_; intro y5 hb _ hk)
  have H15 : Hid (GH w w.heap.size g k 34 (sc Sl.zero (.string (txt []))) (sc ⟨(Sl.q1 l).2, (Sl.q2 l).2, (Sl.q3 l).2, (Sl.q4 l).2, (Sl.q5 l).2, 0, 0, 0, []⟩ (.string (txt []))) (Sl.q6 l).1 y5) := H14.out.read hb hk
  clear hb hk H14
  go_upto_region 14 with (refine wpList_store_cell rfl 23 (.tmp 53) (.tmp 52) rfl _ 5 (.int .u64 ((Sl.q6 l).2 : Int)) rfl rfl 34 _ H15.out.var (by kernel_rfl) rfl (by simp [sc]) rfl ?_; intro z5 hb _ hk)
  have H16 : Hid (GH w w.heap.size g k 34 (sc Sl.zero (.string (txt []))) (sc ⟨(Sl.q1 l).2, (Sl.q2 l).2, (Sl.q3 l).2, (Sl.q4 l).2, (Sl.q5 l).2, (Sl.q6 l).2, 0, 0, []⟩ (.string (txt []))) (Sl.q6 l).1 z5) := H15.out.set hb hk
  clear hb hk H15
  go_wp2_with (refine wpList_load_part rfl 78 (.tmp 5) rfl _ 0 rfl _ Try.underlying78 rfl (rv (Sl.q6 l).1) 78 _ H16.out.rd size_R (fun j u hu => by rw [Nat.zero_add]; exact hu) ?_)
  refine (refRead64 _ _ _).mono ?_
  rintro e v6 ⟨rfl, hb⟩
  have H17 := Lib.hid (H16.out.below hb)
  clear hb H16
  go_upto_region 15 with (refine wpList_store_part rfl 78 (.tmp 5) (.tmp 57) rfl k 0 (rv (Sl.q7 l).1) rfl rfl 78 _ H17.out.rd size_R (by simp [rv]) (rv_one _) ?_; intro y6 hb _ hk)
  have H18 : Hid (GH w w.heap.size g k 34 (sc Sl.zero (.string (txt []))) (sc ⟨(Sl.q1 l).2, (Sl.q2 l).2, (Sl.q3 l).2, (Sl.q4 l).2, (Sl.q5 l).2, (Sl.q6 l).2, 0, 0, []⟩ (.string (txt []))) (Sl.q7 l).1 y6) := H17.out.read hb hk
  clear hb hk H17
  go_upto_region 16 with (refine wpList_store_cell rfl 23 (.tmp 60) (.tmp 59) rfl _ 6 (.int .u64 ((Sl.q7 l).2 : Int)) rfl rfl 34 _ H18.out.var (by kernel_rfl) rfl (by simp [sc]) rfl ?_; intro z6 hb _ hk)
  have H19 : Hid (GH w w.heap.size g k 34 (sc Sl.zero (.string (txt []))) (sc ⟨(Sl.q1 l).2, (Sl.q2 l).2, (Sl.q3 l).2, (Sl.q4 l).2, (Sl.q5 l).2, (Sl.q6 l).2, (Sl.q7 l).2, 0, []⟩ (.string (txt []))) (Sl.q7 l).1 z6) := H18.out.set hb hk
  clear hb hk H18
  go_wp2_with (refine wpList_load_part rfl 78 (.tmp 5) rfl _ 0 rfl _ Try.underlying78 rfl (rv (Sl.q7 l).1) 78 _ H19.out.rd size_R (fun j u hu => by rw [Nat.zero_add]; exact hu) ?_)
  refine (refRead64 _ _ _).mono ?_
  rintro e v7 ⟨rfl, hb⟩
  have H20 := Lib.hid (H19.out.below hb)
  clear hb H19
  go_upto_region 17 with (refine wpList_store_part rfl 78 (.tmp 5) (.tmp 64) rfl k 0 (rv (Sl.q8 l).1) rfl rfl 78 _ H20.out.rd size_R (by simp [rv]) (rv_one _) ?_; intro y7 hb _ hk)
  have H21 : Hid (GH w w.heap.size g k 34 (sc Sl.zero (.string (txt []))) (sc ⟨(Sl.q1 l).2, (Sl.q2 l).2, (Sl.q3 l).2, (Sl.q4 l).2, (Sl.q5 l).2, (Sl.q6 l).2, (Sl.q7 l).2, 0, []⟩ (.string (txt []))) (Sl.q8 l).1 y7) := H20.out.read hb hk
  clear hb hk H20
  go_upto_region 18 with (refine wpList_store_cell rfl 23 (.tmp 67) (.tmp 66) rfl _ 7 (.int .u64 ((Sl.q8 l).2 : Int)) rfl rfl 34 _ H21.out.var (by kernel_rfl) rfl (by simp [sc]) rfl ?_; intro z7 hb _ hk)
  have H22 : Hid (GH w w.heap.size g k 34 (sc Sl.zero (.string (txt []))) (sc ⟨(Sl.q1 l).2, (Sl.q2 l).2, (Sl.q3 l).2, (Sl.q4 l).2, (Sl.q5 l).2, (Sl.q6 l).2, (Sl.q7 l).2, (Sl.q8 l).2, []⟩ (.string (txt []))) (Sl.q8 l).1 z7) := H21.out.set hb hk
  clear hb hk H21
  go_wp2_with (refine wpList_load_part rfl 78 (.tmp 5) rfl _ 0 rfl _ Try.underlying78 rfl (rv (Sl.q8 l).1) 78 _ H22.out.rd size_R (fun j u hu => by rw [Nat.zero_add]; exact hu) ?_)
  refine (refReadOpaque _ _ 768 _ (by omega) (by omega)).mono ?_
  rintro e v8 ⟨rfl, hb⟩
  have H23 := Lib.hid (H22.out.below hb)
  clear hb H22
  go_upto_region 19 with (refine wpList_store_part rfl 78 (.tmp 5) (.tmp 71) rfl k 0 (rv (Sl.q9 l).1) rfl rfl 78 _ H23.out.rd size_R (by simp [rv]) (rv_one _) ?_; intro y8 hb _ hk)
  have H24 : Hid (GH w w.heap.size g k 34 (sc Sl.zero (.string (txt []))) (sc ⟨(Sl.q1 l).2, (Sl.q2 l).2, (Sl.q3 l).2, (Sl.q4 l).2, (Sl.q5 l).2, (Sl.q6 l).2, (Sl.q7 l).2, (Sl.q8 l).2, []⟩ (.string (txt []))) (Sl.q9 l).1 y8) := H23.out.read hb hk
  clear hb hk H23
  go_upto_region 20 with (refine wpList_store_cell rfl 9 (.tmp 74) (.tmp 73) rfl _ 8 (.string (txt (Sl.q9 l).2)) rfl rfl 34 _ H24.out.var (by kernel_rfl) rfl (by simp [sc]) rfl ?_; intro z8 hb _ hk)
  have H25 : Hid (GH w w.heap.size g k 34 (sc Sl.zero (.string (txt []))) (sc ⟨(Sl.q1 l).2, (Sl.q2 l).2, (Sl.q3 l).2, (Sl.q4 l).2, (Sl.q5 l).2, (Sl.q6 l).2, (Sl.q7 l).2, (Sl.q8 l).2, (Sl.q9 l).2⟩ (.string (txt (Sl.q9 l).2))) (Sl.q9 l).1 z8) := H24.out.set hb hk
  clear hb hk H24
  have HLR : Hid (w.heap.size ≤ g ∧ w.heap.size ≠ g) := ⟨H25.out.lg, H25.out.rg⟩
  go_wp2_with (refine wpList_load_part rfl 78 (.tmp 5) rfl _ 0 rfl _ Try.underlying78 rfl (rv (Sl.q9 l).1) 78 _ H25.out.rd size_R (fun j u hu => by rw [Nat.zero_add]; exact hu) ?_)
  refine (refEnd _ _ _).mono ?_
  rintro e w9 ⟨rfl, hb⟩
  have HF := Lib.hid (H25.out.below hb)
  clear hb H25
  rw [← Sl.bad_q l]
  by_cases hbad : Sl.slotC.bad l = 0
  rotate_left
  · have hd : (Sl.slotC.bad l != 0) = true := by simpa using hbad
    have HE : Hid (Sl.err l = Sl.slotC.bad l) := if_pos hbad
    have HG : Hid (Sl.got l = Sl.zero) := if_neg (by rw [HE.out]; exact hbad)
    clear hbad
    generalize Sl.slotC.bad l = z at *
    go_wp2_with (first
      | (refine Did.list rfl (did_build 34 #[] rfl (sc Sl.zero (.string (txt []))).toArray (by exact built_S11z)) ?_)
      | (refine wpList_store_part rfl 34 (.tmp 2) (.tmp 79) rfl w.heap.size 0 (sc Sl.zero (.string (txt []))) rfl rfl 34 _ HF.out.res size_S11 (by simp [sc]) (sc_str _ _) ?_
         intro y hb _ hk
         have HB := Lib.hid hb
         have HK := Lib.hid hk
         clear hb hk))
    exact bodyPost_ret (results_cell rfl _ y w.heap.size (.int .i64 z) HB.out size_S11 (by rfl) (by rfl) Try.underlying34) rfl (by
      rw [HE.out, HG.out]
      exact ⟨rfl, HF.out.bel.trans (HK.out.below2 (fun k hk => by omega))⟩)
  rw [hbad]
  have HBAD := Lib.hid hbad
  clear hbad
  have HERR : Hid (Sl.err l = if Sl.okS (Sl.rd l) then 0 else 11) := by
    show _ = _
    unfold Sl.err
    rw [HBAD.out, if_neg (by simp)]
  have HRD : Hid (Sl.rd l = ⟨(Sl.q1 l).2, (Sl.q2 l).2, (Sl.q3 l).2, (Sl.q4 l).2, (Sl.q5 l).2, (Sl.q6 l).2, (Sl.q7 l).2, (Sl.q8 l).2, (Sl.q9 l).2⟩) := Sl.rd_q l
  go_wp2_with (refine wpList_load_part rfl 34 (.tmp 4) rfl _ 0 rfl _ Try.underlying34 rfl (sc ⟨(Sl.q1 l).2, (Sl.q2 l).2, (Sl.q3 l).2, (Sl.q4 l).2, (Sl.q5 l).2, (Sl.q6 l).2, (Sl.q7 l).2, (Sl.q8 l).2, (Sl.q9 l).2⟩ (.string (txt (Sl.q9 l).2))) 34 _ HF.out.var size_S11 (fun j u hu => by rw [Nat.zero_add]; exact hu) ?_)
  refine (refCheckS_any ⟨(Sl.q1 l).2, (Sl.q2 l).2, (Sl.q3 l).2, (Sl.q4 l).2, (Sl.q5 l).2, (Sl.q6 l).2, (Sl.q7 l).2, (Sl.q8 l).2, (Sl.q9 l).2⟩ _).mono ?_
  rintro e w10 ⟨rfl, hb⟩
  have HH := Lib.hid (HF.out.below hb)
  clear hb HF
  rw [← HRD.out]
  by_cases hok : Sl.okS (Sl.rd l) = true
  rotate_left
  · have hc : Sl.chkS (Sl.rd l) = 1 := if_neg hok
    rw [hc]
    have HE : Hid (Sl.err l = 11) := by show _ = _; rw [HERR.out, if_neg hok]
    have HG : Hid (Sl.got l = Sl.zero) := if_neg (by rw [HE.out]; decide)
    clear hok hc
    go_wp2_with (first
      | (refine Did.list rfl (did_build 34 #[] rfl (sc Sl.zero (.string (txt []))).toArray (by exact built_S11z)) ?_)
      | (refine wpList_store_part rfl 34 (.tmp 2) (.tmp 84) rfl w.heap.size 0 (sc Sl.zero (.string (txt []))) rfl rfl 34 _ HH.out.res size_S11 (by simp [sc]) (sc_str _ _) ?_
         intro y hb _ hk
         have HB := Lib.hid hb
         have HK := Lib.hid hk
         clear hb hk))
    exact bodyPost_ret (results_cell rfl _ y w.heap.size (.int .i64 11) HB.out size_S11 (by rfl) (by rfl) Try.underlying34) rfl (by
      rw [HE.out, HG.out]
      exact ⟨rfl, HH.out.bel.trans (HK.out.below2 (fun k hk => by omega))⟩)
  have hc : Sl.chkS (Sl.rd l) = 0 := if_pos hok
  rw [hc]
  have HE : Hid (Sl.err l = 0) := by show _ = _; rw [HERR.out, if_pos hok]
  have HG : Hid (Sl.got l = ⟨(Sl.q1 l).2, (Sl.q2 l).2, (Sl.q3 l).2, (Sl.q4 l).2, (Sl.q5 l).2, (Sl.q6 l).2, (Sl.q7 l).2, (Sl.q8 l).2, (Sl.q9 l).2⟩) := by
    show _ = _
    unfold Sl.got
    rw [if_pos HE.out, HRD.out]
  clear hok hc
  go_wp2_with (first
    | (refine wpList_load_part rfl 34 (.tmp 4) rfl _ 0 rfl _ Try.underlying34 rfl (sc ⟨(Sl.q1 l).2, (Sl.q2 l).2, (Sl.q3 l).2, (Sl.q4 l).2, (Sl.q5 l).2, (Sl.q6 l).2, (Sl.q7 l).2, (Sl.q8 l).2, (Sl.q9 l).2⟩ (.string (txt (Sl.q9 l).2))) 34 _ HH.out.var size_S11 (fun j u hu => by rw [Nat.zero_add]; exact hu) ?_)
    | (refine wpList_store_part rfl 34 (.tmp 2) (.tmp 85) rfl w.heap.size 0 (sc ⟨(Sl.q1 l).2, (Sl.q2 l).2, (Sl.q3 l).2, (Sl.q4 l).2, (Sl.q5 l).2, (Sl.q6 l).2, (Sl.q7 l).2, (Sl.q8 l).2, (Sl.q9 l).2⟩ (.string (txt (Sl.q9 l).2))) rfl rfl 34 _ HH.out.res size_S11 (by simp [sc]) (sc_str _ _) ?_
       intro y hb _ hk
       have HB := Lib.hid hb
       have HK := Lib.hid hk
       clear hb hk))
  exact bodyPost_ret (results_cell rfl _ y w.heap.size (.int .i64 0) HB.out size_S11 (by rfl) (by rfl) Try.underlying34) rfl (by
    rw [HE.out, HG.out]
    exact ⟨rfl, HH.out.bel.trans (HK.out.below2 (fun k hk => by omega))⟩)
end Go.Proofs.Ytbeahhijmgkfhaa
