/-
  Contract of package slot's Put (layer 11).
-/
import Derived.Test.YtbeahhijmgkfhaaLCheck
namespace Go.Proofs.Ytbeahhijmgkfhaa
open Go.RowKit Go.Shelf

set_option maxRecDepth 100000 in
set_option maxHeartbeats 4000000 in
theorem putS_any (s : Vl.Th) (A : Option Addr) (n cp : Nat) (w : World) (hf : Fits s) (h : BS w A n s.dt) (hn : n ≤ 1000) :
    Calls Try.prog 10 #[.agg (sc s (.slice A n cp)).toArray] w (PutQ (Sl.put s) (Sl.chkS s) w) := by
  have HBS := Lib.hid h
  have HN : Hid (s.dt.length = n) := h.1
  have HF := Lib.hid hf
  clear h hf
  go_enter Try.func10, Try.ntmps10
  go_upto_region 1 with fail
  have HB0 : Hid (Bw (w.alloc (.cells (sc s (.slice A n cp)).toArray 26)) w.heap.size (sc s (.slice A n cp)) 26) := heap_alloc_new w _
  have HW0 : Hid (Below w.heap.size w (w.alloc (.cells (sc s (.slice A n cp)).toArray 26))) := (Below.refl _ w).alloc (Nat.le_refl _) _
  have HZ0 : Hid (w.heap.size + 1 ≤ (w.alloc (.cells (sc s (.slice A n cp)).toArray 26)).heap.size) := by show _ ≤ _; simp
  generalize w.alloc (.cells (sc s (.slice A n cp)).toArray 26) = wa at *
  go_wp2_with (refine wpList_load_part rfl 26 (.tmp 1) rfl _ 0 rfl _ Try.underlying26 rfl (sc s (.slice A n cp)) 26 _ HB0.out size_Sl (fun j u hu => by rw [Nat.zero_add]; exact hu) ?_)
  refine (checkS_any s A n cp wa HF.out (HBS.out.below HW0.out) hn).mono ?_
  rintro e w0 ⟨rfl, hb⟩
  have HBa := Lib.hid (HB0.out.below hb)
  have HWa := Lib.hid (HW0.out.trans (hb.mono HW0.out.size))
  have HZa : Hid (w.heap.size + 1 ≤ w0.heap.size) := Nat.le_trans HZ0.out hb.size
  clear hb HB0 HW0 HZ0
  by_cases hok : Sl.okS s = true
  rotate_left
  · have hz : Sl.chkS s = 1 := if_neg hok
    have HP : Hid (Sl.put s = []) := if_neg hok
    have HE := Lib.hid hz
    rw [hz]
    clear hz hok
    go_wp2_with fail
    go_ret2
    rw [HP.out, HE.out]
    exact PutQ.no HWa.out
  have hz : Sl.chkS s = 0 := if_pos hok
  have HP : Hid (Sl.put s = Sl.enc s) := if_pos hok
  have HE := Lib.hid hz
  rw [hz]
  have HL : Hid ((Sl.enc s).length ≤ 816) := (Sl.enc_len s hok).2
  clear hz hok
  have hf1 := HF.out.ino
  have hf2 := HF.out.kind
  have hf3 := HF.out.wide.gen
  have hf4 := HF.out.wide.links
  have hf5 := HF.out.wide.mode
  have hf6 := HF.out.wide.change
  have hf7 := HF.out.wide.cookie
  have hf8 := HF.out.wide.verf
  have hn0 := newWriter_wr w0 (fun k => k < w.heap.size ∨ k = w.heap.size) (fun k hk => by have := HZa.out; omega)
  go_wp2_with fail
  refine (newWriter_any w0).mono ?_
  rintro e w1 ⟨rfl, hw1⟩
  have HR1 : Hid (Wr (fun k => k < w.heap.size ∨ k = w.heap.size) w1 w0.heap.size []) := by rw [← hw1]; exact hn0
  have hb1 : Below w0.heap.size w0 w1 := by rw [← hw1]; exact (Below.refl _ w0).alloc (Nat.le_refl _) _
  have HB1 := Lib.hid (HBa.out.below hb1)
  have HN1 := Lib.hid (HWa.out.trans (hb1.mono HWa.out.size))
  clear hn0 hw1 hb1 HBa HWa HZa
  generalize w0.heap.size = p at *
  have c1 := HB1.out.cell 0 _ rfl
  go_wp2_with fail
  refine (u32w _ _ p _ _ (by omega) HR1.out (by simp)).mono ?_
  rintro e w2 ⟨rfl, hwr, hkp⟩
  have HR2 := Lib.hid hwr
  have HB2 := Lib.hid (HB1.out.keep hkp (.inr rfl))
  have HN2 := Lib.hid (HN1.out.trans (hkp.below2 (fun k hk => .inl hk)))
  clear hwr hkp HR1 HB1 HN1 c1
  have c2 := HB2.out.cell 1 _ rfl
  go_wp2_with fail
  refine (u32w _ _ p _ _ (by omega) HR2.out (by simp only [List.length_append, be_length, List.length_nil]; omega)).mono ?_
  rintro e w3 ⟨rfl, hwr, hkp⟩
  have HR3 := Lib.hid hwr
  have HB3 := Lib.hid (HB2.out.keep hkp (.inr rfl))
  have HN3 := Lib.hid (HN2.out.trans (hkp.below2 (fun k hk => .inl hk)))
  clear hwr hkp HR2 HB2 HN2 c2
  have c3 := HB3.out.cell 2 _ rfl
  go_wp2_with fail
  refine (u32w _ _ p _ _ (by omega) HR3.out (by simp only [List.length_append, be_length, List.length_nil]; omega)).mono ?_
  rintro e w4 ⟨rfl, hwr, hkp⟩
  have HR4 := Lib.hid hwr
  have HB4 := Lib.hid (HB3.out.keep hkp (.inr rfl))
  have HN4 := Lib.hid (HN3.out.trans (hkp.below2 (fun k hk => .inl hk)))
  clear hwr hkp HR3 HB3 HN3 c3
  have c4 := HB4.out.cell 3 _ rfl
  go_wp2_with fail
  refine (u32w _ _ p _ _ (by omega) HR4.out (by simp only [List.length_append, be_length, List.length_nil]; omega)).mono ?_
  rintro e w5 ⟨rfl, hwr, hkp⟩
  have HR5 := Lib.hid hwr
  have HB5 := Lib.hid (HB4.out.keep hkp (.inr rfl))
  have HN5 := Lib.hid (HN4.out.trans (hkp.below2 (fun k hk => .inl hk)))
  clear hwr hkp HR4 HB4 HN4 c4
  have c5 := HB5.out.cell 4 _ rfl
  go_wp2_with fail
  refine (u32w _ _ p _ _ (by omega) HR5.out (by simp only [List.length_append, be_length, List.length_nil]; omega)).mono ?_
  rintro e w6 ⟨rfl, hwr, hkp⟩
  have HR6 := Lib.hid hwr
  have HB6 := Lib.hid (HB5.out.keep hkp (.inr rfl))
  have HN6 := Lib.hid (HN5.out.trans (hkp.below2 (fun k hk => .inl hk)))
  clear hwr hkp HR5 HB5 HN5 c5
  have c6 := HB6.out.cell 5 _ rfl
  go_wp2_with fail
  refine (u64w _ _ p _ _ (by omega) HR6.out (by simp only [List.length_append, be_length, List.length_nil]; omega)).mono ?_
  rintro e w7 ⟨rfl, hwr, hkp⟩
  have HR7 := Lib.hid hwr
  have HB7 := Lib.hid (HB6.out.keep hkp (.inr rfl))
  have HN7 := Lib.hid (HN6.out.trans (hkp.below2 (fun k hk => .inl hk)))
  clear hwr hkp HR6 HB6 HN6 c6
  have c7 := HB7.out.cell 6 _ rfl
  go_wp2_with fail
  refine (u64w _ _ p _ _ (by omega) HR7.out (by simp only [List.length_append, be_length, List.length_nil]; omega)).mono ?_
  rintro e w8 ⟨rfl, hwr, hkp⟩
  have HR8 := Lib.hid hwr
  have HB8 := Lib.hid (HB7.out.keep hkp (.inr rfl))
  have HN8 := Lib.hid (HN7.out.trans (hkp.below2 (fun k hk => .inl hk)))
  clear hwr hkp HR7 HB7 HN7 c7
  have c8 := HB8.out.cell 7 _ rfl
  go_wp2_with fail
  refine (u64w _ _ p _ _ (by omega) HR8.out (by simp only [List.length_append, be_length, List.length_nil]; omega)).mono ?_
  rintro e w9 ⟨rfl, hwr, hkp⟩
  have HR9 := Lib.hid hwr
  have HB9 := Lib.hid (HB8.out.keep hkp (.inr rfl))
  have HN9 := Lib.hid (HN8.out.trans (hkp.below2 (fun k hk => .inl hk)))
  clear hwr hkp HR8 HB8 HN8 c8
  have c9 := HB9.out.cell 8 _ rfl
  go_wp2_with fail
  refine (opaquew _ _ p _ _ _ _ s.dt HR9.out (HBS.out.below HN9.out) (fun hn ad h => .inl (HBS.out.lt_block hn ad h)) (by simp only [List.length_append, be_length, List.length_nil]; omega) (by omega)).mono ?_
  rintro e w10 ⟨rfl, hwr, hkp⟩
  have HR10 := Lib.hid hwr
  have HN10 := Lib.hid (HN9.out.trans (hkp.below2 (fun k hk => .inl hk)))
  clear hwr hkp HR9 HB9 HN9 c9
  have HT : Hid ([] ++ be 4 (s.ino : Int).toNat ++ be 4 (s.kind : Int).toNat ++ be 4 (s.gen : Int).toNat ++ be 4 (s.links : Int).toNat ++ be 4 (s.mode : Int).toNat ++ be 8 (s.change : Int).toNat ++ be 8 (s.cookie : Int).toNat ++ be 8 (s.verf : Int).toNat ++ opq s.dt = Sl.enc s) := by
    show _ = _
    rw [Sl.enc_eq]
    simp only [List.nil_append, List.append_assoc, Int.toNat_natCast]
  have hr := HR10.out
  rw [HT.out] at hr
  have HRZ := Lib.hid hr
  clear hr HR10
  go_wp2_with fail
  refine (out_any _ _ p _ HRZ.out (by have := HL.out; omega)).mono ?_
  rintro e w11 ⟨A3, c3, rfl, hown⟩
  have HO := Lib.hid hown
  clear hown
  go_wp2_with fail
  go_ret2
  rw [HP.out, HE.out]
  exact ⟨A3, (Sl.enc s).length, c3, rfl, own_base HO.out.1 HN10.out.size, HN10.out.trans (HO.out.2.mono HN10.out.size)⟩
end Go.Proofs.Ytbeahhijmgkfhaa
