/-
  Contract of package mark's Put (layer 15).
-/
import Derived.Test.YtjionpkflpnejaaMCheck
namespace Go.Proofs.Ytjionpkflpnejaa
open Go.RowKit Go.Shelf

set_option maxRecDepth 100000 in
set_option maxHeartbeats 4000000 in
theorem putM_any (s : Ms) (w : World) (hw : s.Wide) : Calls Try.prog 8 #[.agg (mc s).toArray] w (PutQ (Mk.put s) (Mk.chkM s) w) := by
  have HWD := Lib.hid hw
  clear hw
  go_enter Try.func8, Try.ntmps8
  go_upto_region 1 with fail
  have HB0 : Hid (Bw (w.alloc (.cells (mc s).toArray 25)) w.heap.size (mc s) 25) := heap_alloc_new w _
  have HW0 : Hid (Below w.heap.size w (w.alloc (.cells (mc s).toArray 25))) := (Below.refl _ w).alloc (Nat.le_refl _) _
  have HZ0 : Hid (w.heap.size + 1 ≤ (w.alloc (.cells (mc s).toArray 25)).heap.size) := by show _ ≤ _; simp
  generalize w.alloc (.cells (mc s).toArray 25) = wa at *
  go_wp2_with (refine wpList_load_part rfl 25 (.tmp 1) rfl _ 0 rfl _ Try.underlying25 rfl (mc s) 25 _ HB0.out size_Mk (fun j u hu => by rw [Nat.zero_add]; exact hu) ?_)
  refine (checkM_any s wa).mono ?_
  rintro e w0 ⟨rfl, hb⟩
  have HBa := Lib.hid (HB0.out.below hb)
  have HWa := Lib.hid (HW0.out.trans (hb.mono HW0.out.size))
  have HZa : Hid (w.heap.size + 1 ≤ w0.heap.size) := Nat.le_trans HZ0.out hb.size
  clear hb HB0 HW0 HZ0
  by_cases hok : Mk.okM s = true
  rotate_left
  · have hz : Mk.chkM s = 1 := if_neg hok
    have HP : Hid (Mk.put s = []) := if_neg (fun h => hok h.1)
    have HE := Lib.hid hz
    rw [hz]
    clear hz hok
    go_wp2_with fail
    go_ret2
    rw [HP.out, HE.out]
    exact PutQ.no HWa.out
  have hz : Mk.chkM s = 0 := if_pos hok
  have HE := Lib.hid hz
  have heq : ∀ W : World, (binOp .eql 25 (.agg (mc s).toArray) (.agg #[.bool false, .int .u32 0, .int .u32 0, .int .u64 0, .int .u64 0, .int .u64 0, .int .u64 0, .int .u32 0, .int .u32 0])).run Try.prog W = .ok (.bool (decide (s = Mk.zero))) W := mEq s Mk.zero
  by_cases hzr : s = Mk.zero
  · have HP : Hid (Mk.put s = []) := if_neg (fun h => h.2 hzr)
    rw [decide_eq_true hzr] at heq
    rw [hz]
    clear hz hok hzr
    go_wp2_with (first
      | (refine wpList_load_part rfl 25 (.tmp 1) rfl _ 0 rfl _ Try.underlying25 rfl (mc s) 25 _ HBa.out size_Mk (fun j u hu => by rw [Nat.zero_add]; exact hu) ?_)
      | (refine Did.list rfl (did_build 25 #[] rfl (mc Mk.zero).toArray (by exact built_Mkz)) ?_))
    go_ret2
    rw [HP.out, HE.out]
    exact PutQ.no HWa.out
  have HP : Hid (Mk.put s = Mk.enc s) := if_pos ⟨hok, hzr⟩
  rw [decide_eq_false hzr] at heq
  rw [hz]
  clear hz hok hzr
  go_upto_region 6 with (first
      | (refine wpList_load_part rfl 25 (.tmp 1) rfl _ 0 rfl _ Try.underlying25 rfl (mc s) 25 _ HBa.out size_Mk (fun j u hu => by rw [Nat.zero_add]; exact hu) ?_)
      | (refine Did.list rfl (did_build 25 #[] rfl (mc Mk.zero).toArray (by exact built_Mkz)) ?_))
  clear heq
  have hf1 := HWD.out.hph
  have hf2 := HWD.out.hpr
  have hf3 := HWD.out.hep
  have hf4 := HWD.out.hsq
  have hf5 := HWD.out.hfr
  have hf6 := HWD.out.hgl
  have hf7 := HWD.out.hnx
  have hf8 := HWD.out.hrn
  have hn0 := newWriter_wr w0 (fun k => k < w.heap.size ∨ k = w.heap.size) (fun k hk => by have := HZa.out; omega)
  go_wp2_with fail
  refine (newWriter_any w0).mono ?_
  rintro e w1 ⟨rfl, hw1⟩
  have HR1 : Hid (Wr (fun k => k < w.heap.size ∨ k = w.heap.size) w1 w0.heap.size []) := by rw [← hw1]; exact hn0
  have hb1 : Below w0.heap.size w0 w1 := by rw [← hw1]; exact (Below.refl _ w0).alloc (Nat.le_refl _) _
  have HB1 := Lib.hid (HBa.out.below hb1)
  have HN1 := Lib.hid (HWa.out.trans (hb1.mono HWa.out.size))
  clear hn0 hw1 hb1 HBa HWa HZa
  generalize w0.heap.size = p at *
  have c1 := HB1.out.cell 0 _ rfl
  go_wp2_with fail
  refine (boolw _ _ p _ _ HR1.out (by simp)).mono ?_
  rintro e w2 ⟨rfl, hwr, hkp⟩
  have HR2 := Lib.hid hwr
  have HB2 := Lib.hid (HB1.out.keep hkp (.inr rfl))
  have HN2 := Lib.hid (HN1.out.trans (hkp.below2 (fun k hk => .inl hk)))
  clear hwr hkp HR1 HB1 HN1 c1
  have c2 := HB2.out.cell 1 _ rfl
  go_wp2_with fail
  refine (u32w _ _ p _ _ (by omega) HR2.out (by simp only [List.length_append, be_length, List.length_nil]; omega)).mono ?_
  rintro e w3 ⟨rfl, hwr, hkp⟩
  have HR3 := Lib.hid hwr
  have HB3 := Lib.hid (HB2.out.keep hkp (.inr rfl))
  have HN3 := Lib.hid (HN2.out.trans (hkp.below2 (fun k hk => .inl hk)))
  clear hwr hkp HR2 HB2 HN2 c2
  have c3 := HB3.out.cell 2 _ rfl
  go_wp2_with fail
  refine (u32w _ _ p _ _ (by omega) HR3.out (by simp only [List.length_append, be_length, List.length_nil]; omega)).mono ?_
  rintro e w4 ⟨rfl, hwr, hkp⟩
  have HR4 := Lib.hid hwr
  have HB4 := Lib.hid (HB3.out.keep hkp (.inr rfl))
  have HN4 := Lib.hid (HN3.out.trans (hkp.below2 (fun k hk => .inl hk)))
  clear hwr hkp HR3 HB3 HN3 c3
  have c4 := HB4.out.cell 3 _ rfl
  go_wp2_with fail
  refine (u64w _ _ p _ _ (by omega) HR4.out (by simp only [List.length_append, be_length, List.length_nil]; omega)).mono ?_
  rintro e w5 ⟨rfl, hwr, hkp⟩
  have HR5 := Lib.hid hwr
  have HB5 := Lib.hid (HB4.out.keep hkp (.inr rfl))
  have HN5 := Lib.hid (HN4.out.trans (hkp.below2 (fun k hk => .inl hk)))
  clear hwr hkp HR4 HB4 HN4 c4
  have c5 := HB5.out.cell 4 _ rfl
  go_wp2_with fail
  refine (u64w _ _ p _ _ (by omega) HR5.out (by simp only [List.length_append, be_length, List.length_nil]; omega)).mono ?_
  rintro e w6 ⟨rfl, hwr, hkp⟩
  have HR6 := Lib.hid hwr
  have HB6 := Lib.hid (HB5.out.keep hkp (.inr rfl))
  have HN6 := Lib.hid (HN5.out.trans (hkp.below2 (fun k hk => .inl hk)))
  clear hwr hkp HR5 HB5 HN5 c5
  have c6 := HB6.out.cell 5 _ rfl
  go_wp2_with fail
  refine (u64w _ _ p _ _ (by omega) HR6.out (by simp only [List.length_append, be_length, List.length_nil]; omega)).mono ?_
  rintro e w7 ⟨rfl, hwr, hkp⟩
  have HR7 := Lib.hid hwr
  have HB7 := Lib.hid (HB6.out.keep hkp (.inr rfl))
  have HN7 := Lib.hid (HN6.out.trans (hkp.below2 (fun k hk => .inl hk)))
  clear hwr hkp HR6 HB6 HN6 c6
  have c7 := HB7.out.cell 6 _ rfl
  go_wp2_with fail
  refine (u64w _ _ p _ _ (by omega) HR7.out (by simp only [List.length_append, be_length, List.length_nil]; omega)).mono ?_
  rintro e w8 ⟨rfl, hwr, hkp⟩
  have HR8 := Lib.hid hwr
  have HB8 := Lib.hid (HB7.out.keep hkp (.inr rfl))
  have HN8 := Lib.hid (HN7.out.trans (hkp.below2 (fun k hk => .inl hk)))
  clear hwr hkp HR7 HB7 HN7 c7
  have c8 := HB8.out.cell 7 _ rfl
  go_wp2_with fail
  refine (u32w _ _ p _ _ (by omega) HR8.out (by simp only [List.length_append, be_length, List.length_nil]; omega)).mono ?_
  rintro e w9 ⟨rfl, hwr, hkp⟩
  have HR9 := Lib.hid hwr
  have HB9 := Lib.hid (HB8.out.keep hkp (.inr rfl))
  have HN9 := Lib.hid (HN8.out.trans (hkp.below2 (fun k hk => .inl hk)))
  clear hwr hkp HR8 HB8 HN8 c8
  have c9 := HB9.out.cell 8 _ rfl
  go_wp2_with fail
  refine (u32w _ _ p _ _ (by omega) HR9.out (by simp only [List.length_append, be_length, List.length_nil]; omega)).mono ?_
  rintro e w10 ⟨rfl, hwr, hkp⟩
  have HR10 := Lib.hid hwr
  have HN10 := Lib.hid (HN9.out.trans (hkp.below2 (fun k hk => .inl hk)))
  clear hwr hkp HR9 HB9 HN9 c9
  have HT : Hid ([] ++ be 4 (b01 s.ow) ++ be 4 (s.ph : Int).toNat ++ be 4 (s.pr : Int).toNat ++ be 8 (s.ep : Int).toNat ++ be 8 (s.sq : Int).toNat ++ be 8 (s.fr : Int).toNat ++ be 8 (s.gl : Int).toNat ++ be 4 (s.nx : Int).toNat ++ be 4 (s.rn : Int).toNat = Mk.enc s) := by
    show _ = _
    rw [Mk.enc_eq]
    simp only [List.nil_append, List.append_assoc, Int.toNat_natCast]
  have hr := HR10.out
  rw [HT.out] at hr
  have HRZ := Lib.hid hr
  clear hr HR10
  go_wp2_with fail
  refine (out_any _ _ p _ HRZ.out (by rw [Mk.enc_length]; omega)).mono ?_
  rintro e w11 ⟨A3, c3, rfl, hown⟩
  have HO := Lib.hid hown
  clear hown
  go_wp2_with fail
  go_ret2
  rw [HP.out, HE.out]
  exact ⟨A3, (Mk.enc s).length, c3, rfl, own_base HO.out.1 HN10.out.size, HN10.out.trans (HO.out.2.mono HN10.out.size)⟩
end Go.Proofs.Ytjionpkflpnejaa
