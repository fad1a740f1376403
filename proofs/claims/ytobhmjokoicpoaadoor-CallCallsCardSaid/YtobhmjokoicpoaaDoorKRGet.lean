/-
  The document's GetCall, walked (layer 9).
-/
import Derived.Test.YtobhmjokoicpoaaDoorKRPut
namespace Go.Proofs.YtobhmjokoicpoaaDoor
open Go.RowKit Go.Shelf

/-- The cells of the reference's reader. -/
def rv (s : St) : List Value := [.string (txt s.1), .int .i64 s.2]
theorem rv_one (s : St) : ∀ v ∈ rv s, v.oneCell' = true := by
  intro v hv
  simp only [rv, List.mem_cons, List.not_mem_nil, or_false] at hv
  rcases hv with rfl | rfl <;> rfl
/-- While the reference reads: the result's block r, the variable's block g, the reader's block k. -/
structure GH (w : World) (r g k : Nat) (t : TypeId) (z cs : List Value) (s : St) (W : World) : Prop where
  rd : Bw W k (rv s) 84
  res : Bw W r z t
  var : Bw W g cs t
  bel : Below w.heap.size w W
  lr : w.heap.size ≤ r
  lg : w.heap.size ≤ g
  lk : w.heap.size ≤ k
  rg : r ≠ g
  kr : k ≠ r
  kg : k ≠ g
section
variable {w W W' : World} {r g k : Nat} {t : TypeId} {z cs cs' : List Value} {s s' : St}
theorem GH.below (h : GH w r g k t z cs s W) (hb : Below W.heap.size W W') : GH w r g k t z cs s W' :=
  ⟨h.rd.below hb, h.res.below hb, h.var.below hb, h.bel.trans (hb.mono h.bel.size), h.lr, h.lg, h.lk, h.rg, h.kr, h.kg⟩
theorem GH.read (h : GH w r g k t z cs s W) (hb : Bw W' k (rv s') 84) (hk : Keep (· ≠ k) W W') : GH w r g k t z cs s' W' := by
  have lk := h.lk
  exact ⟨hb, h.res.keep hk (fun e => h.kr e.symm), h.var.keep hk (fun e => h.kg e.symm), h.bel.trans (hk.below2 (fun j hj => by omega)), h.lr, h.lg, h.lk, h.rg, h.kr, h.kg⟩
theorem GH.set (h : GH w r g k t z cs s W) (hb : Bw W' g cs' t) (hk : Keep (· ≠ g) W W') : GH w r g k t z cs' s W' := by
  have lg := h.lg
  exact ⟨h.rd.keep hk h.kg, h.res.keep hk h.rg, hb, h.bel.trans (hk.below2 (fun j hj => by omega)), h.lr, h.lg, h.lk, h.rg, h.kr, h.kg⟩
end
theorem built_C9z : Tryd.prog.built 36 [] = some (cc Cl.zero (.string (txt []))).toArray := by kernel_rfl
theorem built_R1 (s : ByteArray) : Tryd.prog.built 84 [(0, .string s)] = some #[.string s, .int .i64 0] := by kernel_rfl

set_option maxRecDepth 100000 in
set_option maxHeartbeats 8000000 in
theorem refGetCall_any (l : List UInt8) (w : World) :
    Calls Tryd.prog 14 #[.string (txt l)] w fun e w' => e = .returned (.tuple #[.agg (cc (Cl.got l) (.string (txt (Cl.got l).dt))).toArray, .int .i64 (Cl.err l)]) ∧ Below w.heap.size w w' := by
  go_enter Tryd.func14, Tryd.ntmps14
  go_upto_region 1 with (refine wpList_alloc_any rfl 36 rfl _ zero_C9 ?_; intro w1 hb1 hs1 hw1)
  have A1 := Lib.hid hb1
  have A2 := Lib.hid hs1
  have A3 := Lib.hid hw1
  clear hb1 hs1 hw1
  go_upto_region 2 with (first
    | (refine Did.list rfl (did_build 36 #[] rfl (cc Cl.zero (.string (txt []))).toArray (by exact built_C9z)) ?_)
    | (refine wpList_alloc_any rfl 36 rfl _ zero_C9 ?_; intro w2 hb2 hs2 hw2)
    | (refine wpList_store_part rfl 36 (.tmp 4) (.tmp 10) rfl w1.heap.size 0 (cc Cl.zero (.string (txt []))) rfl rfl 36 _ hb2 size_C9 (by simp [cc]) (cc_ones _ _) ?_
       intro w3 hb3 hs3 hk3))
  have A4 : Hid (Bw w3 w1.heap.size (cc Cl.zero (.string (txt []))) 36) := hb3
  have A5 : Hid (Bw w3 w.heap.size (cc Cl.zero (.string (txt []))) 36) := (hk3.block _ (by have := A2.out; omega)).trans ((hw2.block _ (by have := A2.out; omega)).trans A1.out)
  have A6 : Hid (Below w.heap.size w w3) := A3.out.trans ((hw2.mono A3.out.size).trans (hk3.below2 (fun j hj => by have := A2.out; omega)))
  have A7 : Hid (w3.heap.size = w.heap.size + 2) := by show _ = _; have := A2.out; omega
  clear hb2 hs2 hw2 hb3 hs3 hk3
  go_wp2_with (refine Did.list rfl (did_build 84 #[(0, .tmp 12)] rfl _ (built_R1 (txt l))) ?_)
  refine (refRead32 l 0 w3).mono ?_
  rintro e w4 ⟨rfl, hb4⟩
  have A8 := Lib.hid (A4.out.below hb4)
  have A9 := Lib.hid (A5.out.below hb4)
  have B1 := Lib.hid (A6.out.trans (hb4.mono A6.out.size))
  have B2 : Hid (w.heap.size + 2 ≤ w4.heap.size) := by show _ ≤ _; have := hb4.size; have := A7.out; omega
  clear hb4 A4 A5 A6 A7
  go_upto_region 3 with (first
    | (refine wpList_alloc_any rfl 84 rfl _ zero_R ?_; intro w5 hb5 hs5 hw5)
    | (refine wpList_store_part rfl 84 (.tmp 5) (.tmp 15) rfl w4.heap.size 0 (rv (Cl.q1 l).1) rfl rfl 84 [.string (txt []), .int .i64 0] hb5 size_R (by simp [rv]) (rv_one _) ?_
       intro w6 hb6 hs6 hk6))
  have H0 : Hid (GH w w.heap.size w1.heap.size w4.heap.size 36 (cc Cl.zero (.string (txt []))) (cc Cl.zero (.string (txt []))) (Cl.q1 l).1 w6) := by
    have h2 := A2.out
    have h3 := B2.out
    refine ⟨hb6, (A9.out.below hw5).keep hk6 (by omega), (A8.out.below hw5).keep hk6 (by omega), B1.out.trans ((hw5.mono B1.out.size).trans (hk6.below2 (fun j hj => by omega))), Nat.le_refl _, by omega, by omega, by omega, by omega, by omega⟩
  clear hb5 hs5 hw5 hb6 hs6 hk6 A1 A2 A3 A8 A9 B1 B2
  generalize w1.heap.size = g at *
  generalize w4.heap.size = k at *
  go_upto_region 4 with (refine wpList_store_cell rfl 22 (.tmp 18) (.tmp 17) rfl _ 0 (.int .u32 ((Cl.q1 l).2 : Int)) rfl rfl 36 _ H0.out.var (by kernel_rfl) rfl (by simp [cc]) rfl ?_; intro z0 hb _ hk)
  have H1 : Hid (GH w w.heap.size g k 36 (cc Cl.zero (.string (txt []))) (cc ⟨(Cl.q1 l).2, 0, 0, 0, 0, [], 0, 0, [], 0, 0, 0, 0, []⟩ (.string (txt []))) (Cl.q1 l).1 z0) := H0.out.set hb hk
  clear hb hk H0
  go_wp2_with (refine wpList_load_part rfl 84 (.tmp 5) rfl _ 0 rfl _ Tryd.underlying84 rfl (rv (Cl.q1 l).1) 84 _ H1.out.rd size_R (fun j u hu => by rw [Nat.zero_add]; exact hu) ?_)
  refine (refRead32 _ _ _).mono ?_
  rintro e v1 ⟨rfl, hb⟩
  have H2 := Lib.hid (H1.out.below hb)
  clear hb H1
  go_upto_region 5 with (refine wpList_store_part rfl 84 (.tmp 5) (.tmp 22) rfl k 0 (rv (Cl.q2 l).1) rfl rfl 84 _ H2.out.rd size_R (by simp [rv]) (rv_one _) ?_; intro y1 hb _ hk)
  have H3 : Hid (GH w w.heap.size g k 36 (cc Cl.zero (.string (txt []))) (cc ⟨(Cl.q1 l).2, 0, 0, 0, 0, [], 0, 0, [], 0, 0, 0, 0, []⟩ (.string (txt []))) (Cl.q2 l).1 y1) := H2.out.read hb hk
  clear hb hk H2
  go_upto_region 6 with (refine wpList_store_cell rfl 22 (.tmp 25) (.tmp 24) rfl _ 1 (.int .u32 ((Cl.q2 l).2 : Int)) rfl rfl 36 _ H3.out.var (by kernel_rfl) rfl (by simp [cc]) rfl ?_; intro z1 hb _ hk)
  have H4 : Hid (GH w w.heap.size g k 36 (cc Cl.zero (.string (txt []))) (cc ⟨(Cl.q1 l).2, (Cl.q2 l).2, 0, 0, 0, [], 0, 0, [], 0, 0, 0, 0, []⟩ (.string (txt []))) (Cl.q2 l).1 z1) := H3.out.set hb hk
  clear hb hk H3
  go_wp2_with (refine wpList_load_part rfl 84 (.tmp 5) rfl _ 0 rfl _ Tryd.underlying84 rfl (rv (Cl.q2 l).1) 84 _ H4.out.rd size_R (fun j u hu => by rw [Nat.zero_add]; exact hu) ?_)
  refine (refRead32 _ _ _).mono ?_
  rintro e v2 ⟨rfl, hb⟩
  have H5 := Lib.hid (H4.out.below hb)
  clear hb H4
  go_upto_region 7 with (refine wpList_store_part rfl 84 (.tmp 5) (.tmp 29) rfl k 0 (rv (Cl.q3 l).1) rfl rfl 84 _ H5.out.rd size_R (by simp [rv]) (rv_one _) ?_; intro y2 hb _ hk)
  have H6 : Hid (GH w w.heap.size g k 36 (cc Cl.zero (.string (txt []))) (cc ⟨(Cl.q1 l).2, (Cl.q2 l).2, 0, 0, 0, [], 0, 0, [], 0, 0, 0, 0, []⟩ (.string (txt []))) (Cl.q3 l).1 y2) := H5.out.read hb hk
  clear hb hk H5
  go_upto_region 8 with (refine wpList_store_cell rfl 22 (.tmp 32) (.tmp 31) rfl _ 2 (.int .u32 ((Cl.q3 l).2 : Int)) rfl rfl 36 _ H6.out.var (by kernel_rfl) rfl (by simp [cc]) rfl ?_; intro z2 hb _ hk)
  have H7 : Hid (GH w w.heap.size g k 36 (cc Cl.zero (.string (txt []))) (cc ⟨(Cl.q1 l).2, (Cl.q2 l).2, (Cl.q3 l).2, 0, 0, [], 0, 0, [], 0, 0, 0, 0, []⟩ (.string (txt []))) (Cl.q3 l).1 z2) := H6.out.set hb hk
  clear hb hk H6
  go_wp2_with (refine wpList_load_part rfl 84 (.tmp 5) rfl _ 0 rfl _ Tryd.underlying84 rfl (rv (Cl.q3 l).1) 84 _ H7.out.rd size_R (fun j u hu => by rw [Nat.zero_add]; exact hu) ?_)
  refine (refRead32 _ _ _).mono ?_
  rintro e v3 ⟨rfl, hb⟩
  have H8 := Lib.hid (H7.out.below hb)
  clear hb H7
  go_upto_region 9 with (refine wpList_store_part rfl 84 (.tmp 5) (.tmp 36) rfl k 0 (rv (rdN 4 (Cl.q3 l).1).1) rfl rfl 84 _ H8.out.rd size_R (by simp [rv]) (rv_one _) ?_; intro y3 hb _ hk)
  have H9 : Hid (GH w w.heap.size g k 36 (cc Cl.zero (.string (txt []))) (cc ⟨(Cl.q1 l).2, (Cl.q2 l).2, (Cl.q3 l).2, 0, 0, [], 0, 0, [], 0, 0, 0, 0, []⟩ (.string (txt []))) (rdN 4 (Cl.q3 l).1).1 y3) := H8.out.read hb hk
  clear hb hk H8
  go_upto_region 10 with (refine wpList_store_cell rfl 22 (.tmp 40) (.tmp 38) rfl _ 3 (.int .u32 ((Cl.q4 l).2.1 : Int)) rfl rfl 36 _ H9.out.var (by kernel_rfl) rfl (by simp [cc]) rfl ?_; intro z3 hb _ hk)
  have H10 : Hid (GH w w.heap.size g k 36 (cc Cl.zero (.string (txt []))) (cc ⟨(Cl.q1 l).2, (Cl.q2 l).2, (Cl.q3 l).2, (Cl.q4 l).2.1, 0, [], 0, 0, [], 0, 0, 0, 0, []⟩ (.string (txt []))) (rdN 4 (Cl.q3 l).1).1 z3) := H9.out.set hb hk
  clear hb hk H9
  go_wp2_with (refine wpList_load_part rfl 84 (.tmp 5) rfl _ 0 rfl _ Tryd.underlying84 rfl (rv (rdN 4 (Cl.q3 l).1).1) 84 _ H10.out.rd size_R (fun j u hu => by rw [Nat.zero_add]; exact hu) ?_)
  refine (refRead32 _ _ _).mono ?_
  rintro e v4 ⟨rfl, hb⟩
  have H11 := Lib.hid (H10.out.below hb)
  clear hb H10
  go_upto_region 11 with (refine wpList_store_part rfl 84 (.tmp 5) (.tmp 44) rfl k 0 (rv (Cl.q4 l).1) rfl rfl 84 _ H11.out.rd size_R (by simp [rv]) (rv_one _) ?_; intro y4 hb _ hk)
  have H12 : Hid (GH w w.heap.size g k 36 (cc Cl.zero (.string (txt []))) (cc ⟨(Cl.q1 l).2, (Cl.q2 l).2, (Cl.q3 l).2, (Cl.q4 l).2.1, 0, [], 0, 0, [], 0, 0, 0, 0, []⟩ (.string (txt []))) (Cl.q4 l).1 y4) := H11.out.read hb hk
  clear hb hk H11
  go_upto_region 12 with (refine wpList_store_cell rfl 22 (.tmp 48) (.tmp 46) rfl _ 4 (.int .u32 ((Cl.q4 l).2.2 : Int)) rfl rfl 36 _ H12.out.var (by kernel_rfl) rfl (by simp [cc]) rfl ?_; intro z4 hb _ hk)
  have H13 : Hid (GH w w.heap.size g k 36 (cc Cl.zero (.string (txt []))) (cc ⟨(Cl.q1 l).2, (Cl.q2 l).2, (Cl.q3 l).2, (Cl.q4 l).2.1, (Cl.q4 l).2.2, [], 0, 0, [], 0, 0, 0, 0, []⟩ (.string (txt []))) (Cl.q4 l).1 z4) := H12.out.set hb hk
  clear hb hk H12
  go_wp2_with (refine wpList_load_part rfl 84 (.tmp 5) rfl _ 0 rfl _ Tryd.underlying84 rfl (rv (Cl.q4 l).1) 84 _ H13.out.rd size_R (fun j u hu => by rw [Nat.zero_add]; exact hu) ?_)
  refine (refReadOpaque _ _ 64 _ (by omega) (by omega)).mono ?_
  rintro e v5 ⟨rfl, hb⟩
  have H14 := Lib.hid (H13.out.below hb)
  clear hb H13
  go_upto_region 13 with (refine wpList_store_part rfl 84 (.tmp 5) (.tmp 52) rfl k 0 (rv (Cl.q5 l).1) rfl rfl 84 _ H14.out.rd size_R (by simp [rv]) (rv_one _) ?_; intro y5 hb _ hk)
  have H15 : Hid (GH w w.heap.size g k 36 (cc Cl.zero (.string (txt []))) (cc ⟨(Cl.q1 l).2, (Cl.q2 l).2, (Cl.q3 l).2, (Cl.q4 l).2.1, (Cl.q4 l).2.2, [], 0, 0, [], 0, 0, 0, 0, []⟩ (.string (txt []))) (Cl.q5 l).1 y5) := H14.out.read hb hk
  clear hb hk H14
  go_upto_region 14 with (refine wpList_store_cell rfl 9 (.tmp 55) (.tmp 54) rfl _ 5 (.string (txt (Cl.q5 l).2)) rfl rfl 36 _ H15.out.var (by kernel_rfl) rfl (by simp [cc]) rfl ?_; intro z5 hb _ hk)
  have H16 : Hid (GH w w.heap.size g k 36 (cc Cl.zero (.string (txt []))) (cc ⟨(Cl.q1 l).2, (Cl.q2 l).2, (Cl.q3 l).2, (Cl.q4 l).2.1, (Cl.q4 l).2.2, (Cl.q5 l).2, 0, 0, [], 0, 0, 0, 0, []⟩ (.string (txt []))) (Cl.q5 l).1 z5) := H15.out.set hb hk
  clear hb hk H15
  go_wp2_with (refine wpList_load_part rfl 84 (.tmp 5) rfl _ 0 rfl _ Tryd.underlying84 rfl (rv (Cl.q5 l).1) 84 _ H16.out.rd size_R (fun j u hu => by rw [Nat.zero_add]; exact hu) ?_)
  refine (refRead32 _ _ _).mono ?_
  rintro e v6 ⟨rfl, hb⟩
  have H17 := Lib.hid (H16.out.below hb)
  clear hb H16
  go_upto_region 15 with (refine wpList_store_part rfl 84 (.tmp 5) (.tmp 59) rfl k 0 (rv (rdN 4 (Cl.q5 l).1).1) rfl rfl 84 _ H17.out.rd size_R (by simp [rv]) (rv_one _) ?_; intro y6 hb _ hk)
  have H18 : Hid (GH w w.heap.size g k 36 (cc Cl.zero (.string (txt []))) (cc ⟨(Cl.q1 l).2, (Cl.q2 l).2, (Cl.q3 l).2, (Cl.q4 l).2.1, (Cl.q4 l).2.2, (Cl.q5 l).2, 0, 0, [], 0, 0, 0, 0, []⟩ (.string (txt []))) (rdN 4 (Cl.q5 l).1).1 y6) := H17.out.read hb hk
  clear hb hk H17
  go_upto_region 16 with (refine wpList_store_cell rfl 22 (.tmp 63) (.tmp 61) rfl _ 6 (.int .u32 ((Cl.q6 l).2.1 : Int)) rfl rfl 36 _ H18.out.var (by kernel_rfl) rfl (by simp [cc]) rfl ?_; intro z6 hb _ hk)
  have H19 : Hid (GH w w.heap.size g k 36 (cc Cl.zero (.string (txt []))) (cc ⟨(Cl.q1 l).2, (Cl.q2 l).2, (Cl.q3 l).2, (Cl.q4 l).2.1, (Cl.q4 l).2.2, (Cl.q5 l).2, (Cl.q6 l).2.1, 0, [], 0, 0, 0, 0, []⟩ (.string (txt []))) (rdN 4 (Cl.q5 l).1).1 z6) := H18.out.set hb hk
  clear hb hk H18
  go_wp2_with (refine wpList_load_part rfl 84 (.tmp 5) rfl _ 0 rfl _ Tryd.underlying84 rfl (rv (rdN 4 (Cl.q5 l).1).1) 84 _ H19.out.rd size_R (fun j u hu => by rw [Nat.zero_add]; exact hu) ?_)
  refine (refRead32 _ _ _).mono ?_
  rintro e v7 ⟨rfl, hb⟩
  have H20 := Lib.hid (H19.out.below hb)
  clear hb H19
  go_upto_region 17 with (refine wpList_store_part rfl 84 (.tmp 5) (.tmp 67) rfl k 0 (rv (Cl.q6 l).1) rfl rfl 84 _ H20.out.rd size_R (by simp [rv]) (rv_one _) ?_; intro y7 hb _ hk)
  have H21 : Hid (GH w w.heap.size g k 36 (cc Cl.zero (.string (txt []))) (cc ⟨(Cl.q1 l).2, (Cl.q2 l).2, (Cl.q3 l).2, (Cl.q4 l).2.1, (Cl.q4 l).2.2, (Cl.q5 l).2, (Cl.q6 l).2.1, 0, [], 0, 0, 0, 0, []⟩ (.string (txt []))) (Cl.q6 l).1 y7) := H20.out.read hb hk
  clear hb hk H20
  go_upto_region 18 with (refine wpList_store_cell rfl 22 (.tmp 71) (.tmp 69) rfl _ 7 (.int .u32 ((Cl.q6 l).2.2 : Int)) rfl rfl 36 _ H21.out.var (by kernel_rfl) rfl (by simp [cc]) rfl ?_; intro z7 hb _ hk)
  have H22 : Hid (GH w w.heap.size g k 36 (cc Cl.zero (.string (txt []))) (cc ⟨(Cl.q1 l).2, (Cl.q2 l).2, (Cl.q3 l).2, (Cl.q4 l).2.1, (Cl.q4 l).2.2, (Cl.q5 l).2, (Cl.q6 l).2.1, (Cl.q6 l).2.2, [], 0, 0, 0, 0, []⟩ (.string (txt []))) (Cl.q6 l).1 z7) := H21.out.set hb hk
  clear hb hk H21
  go_wp2_with (refine wpList_load_part rfl 84 (.tmp 5) rfl _ 0 rfl _ Tryd.underlying84 rfl (rv (Cl.q6 l).1) 84 _ H22.out.rd size_R (fun j u hu => by rw [Nat.zero_add]; exact hu) ?_)
  refine (refReadOpaque _ _ 64 _ (by omega) (by omega)).mono ?_
  rintro e v8 ⟨rfl, hb⟩
  have H23 := Lib.hid (H22.out.below hb)
  clear hb H22
  go_upto_region 19 with (refine wpList_store_part rfl 84 (.tmp 5) (.tmp 75) rfl k 0 (rv (Cl.q7 l).1) rfl rfl 84 _ H23.out.rd size_R (by simp [rv]) (rv_one _) ?_; intro y8 hb _ hk)
  have H24 : Hid (GH w w.heap.size g k 36 (cc Cl.zero (.string (txt []))) (cc ⟨(Cl.q1 l).2, (Cl.q2 l).2, (Cl.q3 l).2, (Cl.q4 l).2.1, (Cl.q4 l).2.2, (Cl.q5 l).2, (Cl.q6 l).2.1, (Cl.q6 l).2.2, [], 0, 0, 0, 0, []⟩ (.string (txt []))) (Cl.q7 l).1 y8) := H23.out.read hb hk
  clear hb hk H23
  go_upto_region 20 with (refine wpList_store_cell rfl 9 (.tmp 78) (.tmp 77) rfl _ 8 (.string (txt (Cl.q7 l).2)) rfl rfl 36 _ H24.out.var (by kernel_rfl) rfl (by simp [cc]) rfl ?_; intro z8 hb _ hk)
  have H25 : Hid (GH w w.heap.size g k 36 (cc Cl.zero (.string (txt []))) (cc ⟨(Cl.q1 l).2, (Cl.q2 l).2, (Cl.q3 l).2, (Cl.q4 l).2.1, (Cl.q4 l).2.2, (Cl.q5 l).2, (Cl.q6 l).2.1, (Cl.q6 l).2.2, (Cl.q7 l).2, 0, 0, 0, 0, []⟩ (.string (txt []))) (Cl.q7 l).1 z8) := H24.out.set hb hk
  clear hb hk H24
  go_wp2_with (refine wpList_load_part rfl 84 (.tmp 5) rfl _ 0 rfl _ Tryd.underlying84 rfl (rv (Cl.q7 l).1) 84 _ H25.out.rd size_R (fun j u hu => by rw [Nat.zero_add]; exact hu) ?_)
  refine (refRead64 _ _ _).mono ?_
  rintro e v9 ⟨rfl, hb⟩
  have H26 := Lib.hid (H25.out.below hb)
  clear hb H25
  go_upto_region 21 with (refine wpList_store_part rfl 84 (.tmp 5) (.tmp 82) rfl k 0 (rv (Cl.q8 l).1) rfl rfl 84 _ H26.out.rd size_R (by simp [rv]) (rv_one _) ?_; intro y9 hb _ hk)
  have H27 : Hid (GH w w.heap.size g k 36 (cc Cl.zero (.string (txt []))) (cc ⟨(Cl.q1 l).2, (Cl.q2 l).2, (Cl.q3 l).2, (Cl.q4 l).2.1, (Cl.q4 l).2.2, (Cl.q5 l).2, (Cl.q6 l).2.1, (Cl.q6 l).2.2, (Cl.q7 l).2, 0, 0, 0, 0, []⟩ (.string (txt []))) (Cl.q8 l).1 y9) := H26.out.read hb hk
  clear hb hk H26
  go_upto_region 22 with (refine wpList_store_cell rfl 25 (.tmp 85) (.tmp 84) rfl _ 9 (.int .u64 ((Cl.q8 l).2 : Int)) rfl rfl 36 _ H27.out.var (by kernel_rfl) rfl (by simp [cc]) rfl ?_; intro z9 hb _ hk)
  have H28 : Hid (GH w w.heap.size g k 36 (cc Cl.zero (.string (txt []))) (cc ⟨(Cl.q1 l).2, (Cl.q2 l).2, (Cl.q3 l).2, (Cl.q4 l).2.1, (Cl.q4 l).2.2, (Cl.q5 l).2, (Cl.q6 l).2.1, (Cl.q6 l).2.2, (Cl.q7 l).2, (Cl.q8 l).2, 0, 0, 0, []⟩ (.string (txt []))) (Cl.q8 l).1 z9) := H27.out.set hb hk
  clear hb hk H27
  go_wp2_with (refine wpList_load_part rfl 84 (.tmp 5) rfl _ 0 rfl _ Tryd.underlying84 rfl (rv (Cl.q8 l).1) 84 _ H28.out.rd size_R (fun j u hu => by rw [Nat.zero_add]; exact hu) ?_)
  refine (refRead64 _ _ _).mono ?_
  rintro e v10 ⟨rfl, hb⟩
  have H29 := Lib.hid (H28.out.below hb)
  clear hb H28
  go_upto_region 23 with (refine wpList_store_part rfl 84 (.tmp 5) (.tmp 89) rfl k 0 (rv (Cl.q9 l).1) rfl rfl 84 _ H29.out.rd size_R (by simp [rv]) (rv_one _) ?_; intro y10 hb _ hk)
  have H30 : Hid (GH w w.heap.size g k 36 (cc Cl.zero (.string (txt []))) (cc ⟨(Cl.q1 l).2, (Cl.q2 l).2, (Cl.q3 l).2, (Cl.q4 l).2.1, (Cl.q4 l).2.2, (Cl.q5 l).2, (Cl.q6 l).2.1, (Cl.q6 l).2.2, (Cl.q7 l).2, (Cl.q8 l).2, 0, 0, 0, []⟩ (.string (txt []))) (Cl.q9 l).1 y10) := H29.out.read hb hk
  clear hb hk H29
  go_upto_region 24 with (refine wpList_store_cell rfl 25 (.tmp 92) (.tmp 91) rfl _ 10 (.int .u64 ((Cl.q9 l).2 : Int)) rfl rfl 36 _ H30.out.var (by kernel_rfl) rfl (by simp [cc]) rfl ?_; intro z10 hb _ hk)
  have H31 : Hid (GH w w.heap.size g k 36 (cc Cl.zero (.string (txt []))) (cc ⟨(Cl.q1 l).2, (Cl.q2 l).2, (Cl.q3 l).2, (Cl.q4 l).2.1, (Cl.q4 l).2.2, (Cl.q5 l).2, (Cl.q6 l).2.1, (Cl.q6 l).2.2, (Cl.q7 l).2, (Cl.q8 l).2, (Cl.q9 l).2, 0, 0, []⟩ (.string (txt []))) (Cl.q9 l).1 z10) := H30.out.set hb hk
  clear hb hk H30
  go_wp2_with (refine wpList_load_part rfl 84 (.tmp 5) rfl _ 0 rfl _ Tryd.underlying84 rfl (rv (Cl.q9 l).1) 84 _ H31.out.rd size_R (fun j u hu => by rw [Nat.zero_add]; exact hu) ?_)
  refine (refRead32 _ _ _).mono ?_
  rintro e v11 ⟨rfl, hb⟩
  have H32 := Lib.hid (H31.out.below hb)
  clear hb H31
  go_upto_region 25 with (refine wpList_store_part rfl 84 (.tmp 5) (.tmp 96) rfl k 0 (rv (Cl.q10 l).1) rfl rfl 84 _ H32.out.rd size_R (by simp [rv]) (rv_one _) ?_; intro y11 hb _ hk)
  have H33 : Hid (GH w w.heap.size g k 36 (cc Cl.zero (.string (txt []))) (cc ⟨(Cl.q1 l).2, (Cl.q2 l).2, (Cl.q3 l).2, (Cl.q4 l).2.1, (Cl.q4 l).2.2, (Cl.q5 l).2, (Cl.q6 l).2.1, (Cl.q6 l).2.2, (Cl.q7 l).2, (Cl.q8 l).2, (Cl.q9 l).2, 0, 0, []⟩ (.string (txt []))) (Cl.q10 l).1 y11) := H32.out.read hb hk
  clear hb hk H32
  go_upto_region 26 with (refine wpList_store_cell rfl 22 (.tmp 99) (.tmp 98) rfl _ 11 (.int .u32 ((Cl.q10 l).2 : Int)) rfl rfl 36 _ H33.out.var (by kernel_rfl) rfl (by simp [cc]) rfl ?_; intro z11 hb _ hk)
  have H34 : Hid (GH w w.heap.size g k 36 (cc Cl.zero (.string (txt []))) (cc ⟨(Cl.q1 l).2, (Cl.q2 l).2, (Cl.q3 l).2, (Cl.q4 l).2.1, (Cl.q4 l).2.2, (Cl.q5 l).2, (Cl.q6 l).2.1, (Cl.q6 l).2.2, (Cl.q7 l).2, (Cl.q8 l).2, (Cl.q9 l).2, (Cl.q10 l).2, 0, []⟩ (.string (txt []))) (Cl.q10 l).1 z11) := H33.out.set hb hk
  clear hb hk H33
  go_wp2_with (refine wpList_load_part rfl 84 (.tmp 5) rfl _ 0 rfl _ Tryd.underlying84 rfl (rv (Cl.q10 l).1) 84 _ H34.out.rd size_R (fun j u hu => by rw [Nat.zero_add]; exact hu) ?_)
  refine (refRead32 _ _ _).mono ?_
  rintro e v12 ⟨rfl, hb⟩
  have H35 := Lib.hid (H34.out.below hb)
  clear hb H34
  go_upto_region 27 with (refine wpList_store_part rfl 84 (.tmp 5) (.tmp 103) rfl k 0 (rv (Cl.q11 l).1) rfl rfl 84 _ H35.out.rd size_R (by simp [rv]) (rv_one _) ?_; intro y12 hb _ hk)
  have H36 : Hid (GH w w.heap.size g k 36 (cc Cl.zero (.string (txt []))) (cc ⟨(Cl.q1 l).2, (Cl.q2 l).2, (Cl.q3 l).2, (Cl.q4 l).2.1, (Cl.q4 l).2.2, (Cl.q5 l).2, (Cl.q6 l).2.1, (Cl.q6 l).2.2, (Cl.q7 l).2, (Cl.q8 l).2, (Cl.q9 l).2, (Cl.q10 l).2, 0, []⟩ (.string (txt []))) (Cl.q11 l).1 y12) := H35.out.read hb hk
  clear hb hk H35
  go_upto_region 28 with (refine wpList_store_cell rfl 22 (.tmp 106) (.tmp 105) rfl _ 12 (.int .u32 ((Cl.q11 l).2 : Int)) rfl rfl 36 _ H36.out.var (by kernel_rfl) rfl (by simp [cc]) rfl ?_; intro z12 hb _ hk)
  have H37 : Hid (GH w w.heap.size g k 36 (cc Cl.zero (.string (txt []))) (cc ⟨(Cl.q1 l).2, (Cl.q2 l).2, (Cl.q3 l).2, (Cl.q4 l).2.1, (Cl.q4 l).2.2, (Cl.q5 l).2, (Cl.q6 l).2.1, (Cl.q6 l).2.2, (Cl.q7 l).2, (Cl.q8 l).2, (Cl.q9 l).2, (Cl.q10 l).2, (Cl.q11 l).2, []⟩ (.string (txt []))) (Cl.q11 l).1 z12) := H36.out.set hb hk
  clear hb hk H36
  go_wp2_with (refine wpList_load_part rfl 84 (.tmp 5) rfl _ 0 rfl _ Tryd.underlying84 rfl (rv (Cl.q11 l).1) 84 _ H37.out.rd size_R (fun j u hu => by rw [Nat.zero_add]; exact hu) ?_)
  refine (refReadOpaque _ _ 1024 _ (by omega) (by omega)).mono ?_
  rintro e v13 ⟨rfl, hb⟩
  have H38 := Lib.hid (H37.out.below hb)
  clear hb H37
  go_upto_region 29 with (refine wpList_store_part rfl 84 (.tmp 5) (.tmp 110) rfl k 0 (rv (Cl.q12 l).1) rfl rfl 84 _ H38.out.rd size_R (by simp [rv]) (rv_one _) ?_; intro y13 hb _ hk)
  have H39 : Hid (GH w w.heap.size g k 36 (cc Cl.zero (.string (txt []))) (cc ⟨(Cl.q1 l).2, (Cl.q2 l).2, (Cl.q3 l).2, (Cl.q4 l).2.1, (Cl.q4 l).2.2, (Cl.q5 l).2, (Cl.q6 l).2.1, (Cl.q6 l).2.2, (Cl.q7 l).2, (Cl.q8 l).2, (Cl.q9 l).2, (Cl.q10 l).2, (Cl.q11 l).2, []⟩ (.string (txt []))) (Cl.q12 l).1 y13) := H38.out.read hb hk
  clear hb hk H38
  go_upto_region 30 with (refine wpList_store_cell rfl 9 (.tmp 113) (.tmp 112) rfl _ 13 (.string (txt (Cl.q12 l).2)) rfl rfl 36 _ H39.out.var (by kernel_rfl) rfl (by simp [cc]) rfl ?_; intro z13 hb _ hk)
  have H40 : Hid (GH w w.heap.size g k 36 (cc Cl.zero (.string (txt []))) (cc ⟨(Cl.q1 l).2, (Cl.q2 l).2, (Cl.q3 l).2, (Cl.q4 l).2.1, (Cl.q4 l).2.2, (Cl.q5 l).2, (Cl.q6 l).2.1, (Cl.q6 l).2.2, (Cl.q7 l).2, (Cl.q8 l).2, (Cl.q9 l).2, (Cl.q10 l).2, (Cl.q11 l).2, (Cl.q12 l).2⟩ (.string (txt (Cl.q12 l).2))) (Cl.q12 l).1 z13) := H39.out.set hb hk
  clear hb hk H39
  have HLR : Hid (w.heap.size ≤ g ∧ w.heap.size ≠ g) := ⟨H40.out.lg, H40.out.rg⟩
  go_wp2_with (refine wpList_load_part rfl 84 (.tmp 5) rfl _ 0 rfl _ Tryd.underlying84 rfl (rv (Cl.q12 l).1) 84 _ H40.out.rd size_R (fun j u hu => by rw [Nat.zero_add]; exact hu) ?_)
  refine (refEnd _ _ _).mono ?_
  rintro e w9 ⟨rfl, hb⟩
  have HF := Lib.hid (H40.out.below hb)
  clear hb H40
  rw [← Cl.bad_q l]
  by_cases hbad : callC.bad l = 0
  rotate_left
  · have hd : (callC.bad l != 0) = true := by simpa using hbad
    have HE : Hid (Cl.err l = callC.bad l) := if_pos hbad
    have HG : Hid (Cl.got l = Cl.zero) := if_neg (by rw [HE.out]; exact hbad)
    clear hbad
    generalize callC.bad l = z at *
    go_wp2_with (first
      | (refine Did.list rfl (did_build 36 #[] rfl (cc Cl.zero (.string (txt []))).toArray (by exact built_C9z)) ?_)
      | (refine wpList_store_part rfl 36 (.tmp 2) (.tmp 118) rfl w.heap.size 0 (cc Cl.zero (.string (txt []))) rfl rfl 36 _ HF.out.res size_C9 (by simp [cc]) (cc_ones _ _) ?_
         intro y hb _ hk
         have HB := Lib.hid hb
         have HK := Lib.hid hk
         clear hb hk))
    exact bodyPost_ret (results_cell rfl _ y w.heap.size (.int .i64 z) HB.out size_C9 (by rfl) (by rfl) Tryd.underlying36) rfl (by
      rw [HE.out, HG.out]
      exact ⟨rfl, HF.out.bel.trans (HK.out.below2 (fun k hk => by omega))⟩)
  rw [hbad]
  have HBAD := Lib.hid hbad
  clear hbad
  have hc2 := HF.out.var.cell 2 _ rfl
  have hq3 : (Cl.rd l).op = (Cl.q3 l).2 := by rw [Cl.rd_q l]
  have HERR : Hid (Cl.err l = if opOk (Cl.q3 l).2 then 0 else 11) := by
    show _ = _
    unfold Cl.err
    rw [HBAD.out, if_neg (by simp), hq3]
  clear hq3
  by_cases h0 : ¬ 1 ≤ (Cl.q3 l).2
  · have hop : opOk (Cl.q3 l).2 = false := by unfold opOk; simp; omega
    have HE : Hid (Cl.err l = 11) := by show _ = _; rw [HERR.out, hop]; rfl
    have HG : Hid (Cl.got l = Cl.zero) := if_neg (by rw [HE.out]; decide)
    have g0 : decide (((Cl.q3 l).2 : Int) < 1) = true := by simp; omega
    clear hop h0
    go_wp2_with (first
      | (refine Did.list rfl (did_build 36 #[] rfl (cc Cl.zero (.string (txt []))).toArray (by exact built_C9z)) ?_)
      | (refine wpList_store_part rfl 36 (.tmp 2) (.tmp 128) rfl w.heap.size 0 (cc Cl.zero (.string (txt []))) rfl rfl 36 _ HF.out.res size_C9 (by simp [cc]) (cc_ones _ _) ?_
         intro y hb _ hk
         have HB := Lib.hid hb
         have HK := Lib.hid hk
         clear hb hk))
    exact bodyPost_ret (results_cell rfl _ y w.heap.size (.int .i64 11) HB.out size_C9 (by rfl) (by rfl) Tryd.underlying36) rfl (by
      rw [HE.out, HG.out]
      exact ⟨rfl, HF.out.bel.trans (HK.out.below2 (fun k hk => by omega))⟩)
  by_cases h1 : ¬ (Cl.q3 l).2 ≤ 16
  · have hop : opOk (Cl.q3 l).2 = false := by unfold opOk; simp; omega
    have HE : Hid (Cl.err l = 11) := by show _ = _; rw [HERR.out, hop]; rfl
    have HG : Hid (Cl.got l = Cl.zero) := if_neg (by rw [HE.out]; decide)
    have g0 : decide (((Cl.q3 l).2 : Int) < 1) = false := by simp; omega
    have g1 : decide ((16 : Int) < ((Cl.q3 l).2 : Int)) = true := by simp; omega
    clear hop h1
    go_wp2_with (first
      | (refine Did.list rfl (did_build 36 #[] rfl (cc Cl.zero (.string (txt []))).toArray (by exact built_C9z)) ?_)
      | (refine wpList_store_part rfl 36 (.tmp 2) (.tmp 128) rfl w.heap.size 0 (cc Cl.zero (.string (txt []))) rfl rfl 36 _ HF.out.res size_C9 (by simp [cc]) (cc_ones _ _) ?_
         intro y hb _ hk
         have HB := Lib.hid hb
         have HK := Lib.hid hk
         clear hb hk))
    exact bodyPost_ret (results_cell rfl _ y w.heap.size (.int .i64 11) HB.out size_C9 (by rfl) (by rfl) Tryd.underlying36) rfl (by
      rw [HE.out, HG.out]
      exact ⟨rfl, HF.out.bel.trans (HK.out.below2 (fun k hk => by omega))⟩)
  have hop : opOk (Cl.q3 l).2 = true := by unfold opOk; simp; omega
  have HE : Hid (Cl.err l = 0) := by show _ = _; rw [HERR.out, hop]; rfl
  have HG : Hid (Cl.got l = ⟨(Cl.q1 l).2, (Cl.q2 l).2, (Cl.q3 l).2, (Cl.q4 l).2.1, (Cl.q4 l).2.2, (Cl.q5 l).2, (Cl.q6 l).2.1, (Cl.q6 l).2.2, (Cl.q7 l).2, (Cl.q8 l).2, (Cl.q9 l).2, (Cl.q10 l).2, (Cl.q11 l).2, (Cl.q12 l).2⟩) := by
    show _ = _
    unfold Cl.got
    rw [if_pos HE.out, Cl.rd_q l]
  have g0 : decide (((Cl.q3 l).2 : Int) < 1) = false := by simp; omega
  have g1 : decide ((16 : Int) < ((Cl.q3 l).2 : Int)) = false := by simp; omega
  clear hop h0 h1
  go_wp2_with (first
    | (refine wpList_load_part rfl 36 (.tmp 4) rfl _ 0 rfl _ Tryd.underlying36 rfl (cc ⟨(Cl.q1 l).2, (Cl.q2 l).2, (Cl.q3 l).2, (Cl.q4 l).2.1, (Cl.q4 l).2.2, (Cl.q5 l).2, (Cl.q6 l).2.1, (Cl.q6 l).2.2, (Cl.q7 l).2, (Cl.q8 l).2, (Cl.q9 l).2, (Cl.q10 l).2, (Cl.q11 l).2, (Cl.q12 l).2⟩ (.string (txt (Cl.q12 l).2))) 36 _ HF.out.var size_C9 (fun j u hu => by rw [Nat.zero_add]; exact hu) ?_)
    | (refine wpList_store_part rfl 36 (.tmp 2) (.tmp 129) rfl w.heap.size 0 (cc ⟨(Cl.q1 l).2, (Cl.q2 l).2, (Cl.q3 l).2, (Cl.q4 l).2.1, (Cl.q4 l).2.2, (Cl.q5 l).2, (Cl.q6 l).2.1, (Cl.q6 l).2.2, (Cl.q7 l).2, (Cl.q8 l).2, (Cl.q9 l).2, (Cl.q10 l).2, (Cl.q11 l).2, (Cl.q12 l).2⟩ (.string (txt (Cl.q12 l).2))) rfl rfl 36 _ HF.out.res size_C9 (by simp [cc]) (cc_ones _ _) ?_
       intro y hb _ hk
       have HB := Lib.hid hb
       have HK := Lib.hid hk
       clear hb hk))
  exact bodyPost_ret (results_cell rfl _ y w.heap.size (.int .i64 0) HB.out size_C9 (by rfl) (by rfl) Tryd.underlying36) rfl (by
    rw [HE.out, HG.out]
    exact ⟨rfl, HF.out.bel.trans (HK.out.below2 (fun k hk => by omega))⟩)
end Go.Proofs.YtobhmjokoicpoaaDoor
