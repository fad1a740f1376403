/-
  The document's Put, walked (layer 11).
-/
import Derived.Test.YtbeahhijmgkfhaaLRCheck
import Derived.Test.YtbeahhijmgkfhaaERPut
namespace Go.Proofs.Ytbeahhijmgkfhaa
open Go.RowKit Go.Shelf

theorem refuS_any (x : Nat) (w : World) (h : x < 4294967296) : Calls Try.prog 25 #[.int .u32 (x : Int)] w fun e w' => e = .returned (.string (txt (be 4 x))) ∧ Below w.heap.size w w' := by
  go_enter Try.func25, Try.ntmps25
  go_wp2_with fail
  refine (refU32 (x : Int) w (by omega) (by omega)).mono ?_
  rintro e w1 ⟨rfl, hb⟩
  rw [Int.toNat_natCast]
  go_wp2_with fail
  go_ret
  exact ⟨rfl, hb⟩

set_option maxRecDepth 100000 in
set_option maxHeartbeats 8000000 in
theorem refPutS_any (s : Vl.Th) (w : World) (hf : Fits s) :
    Calls Try.prog 11 #[.agg (sc s (.string (txt s.dt))).toArray] w fun e w' => e = .returned (.tuple #[.string (txt (Sl.put s)), .int .i64 (Sl.chkS s)]) ∧ Below w.heap.size w w' := by
  have HWD := Lib.hid hf
  clear hf
  go_enter Try.func11, Try.ntmps11
  go_upto_region 1 with fail
  have HB0 : Hid (Bw (w.alloc (.cells (sc s (.string (txt s.dt))).toArray 34)) w.heap.size (sc s (.string (txt s.dt))) 34) := heap_alloc_new w _
  have HW0 : Hid (Below w.heap.size w (w.alloc (.cells (sc s (.string (txt s.dt))).toArray 34))) := (Below.refl _ w).alloc (Nat.le_refl _) _
  generalize w.alloc (.cells (sc s (.string (txt s.dt))).toArray 34) = w0 at *
  go_wp2_with (refine wpList_load_part rfl 34 (.tmp 1) rfl w.heap.size 0 rfl _ Try.underlying34 rfl (sc s (.string (txt s.dt))) 34 _ HB0.out size_S11 (fun j u hu => by rw [Nat.zero_add]; exact hu) ?_)
  refine (refCheckS_any s w0).mono ?_
  rintro e w1 ⟨rfl, hb⟩
  have HB1 := Lib.hid (HB0.out.below hb)
  have HW1 := Lib.hid (HW0.out.trans (hb.mono HW0.out.size))
  clear hb HB0 HW0
  by_cases hok : Sl.okS s = true
  rotate_left
  · have HE : Hid (Sl.chkS s = 1) := if_neg hok
    have HP : Hid (Sl.put s = []) := if_neg hok
    rw [HE.out]
    clear hok
    go_wp2_with fail
    go_ret2
    exact ⟨by rw [HP.out, HE.out]; rfl, HW1.out⟩
  have HE : Hid (Sl.chkS s = 0) := if_pos hok
  have HP : Hid (Sl.put s = Sl.enc s) := if_pos hok
  have HO : Hid ((opq s.dt).length ≤ 775 ∧ s.dt.length ≤ 768) := by
    have h1 := Sl.opq_len s.dt
    have h2 := (Vl.okB_facts hok).2.2
    show _ ∧ _
    omega
  rw [HE.out]
  clear hok
  go_upto_region 4 with fail
  have HS0 : Hid ((fun W : World => Bw W w.heap.size (sc s (.string (txt s.dt))) 34) w1.drew) := HB1.out
  have HG0 : Hid (Below w.heap.size w w1.drew) := HW1.out.drew
  clear HB1 HW1
  refine wp_region_held_drew (S := fun W : World => Bw W w.heap.size (sc s (.string (txt s.dt))) 34) (by kernel_rfl) HS0.out (fun _ => ?_)
  change wpAnyH _ _ _ _ _ 37 (Array.replicate 37 false) _ _
  refine takeH (i := 0) 10 (.pointer (some ⟨w.heap.size, 0, none⟩)) rfl rfl (by kernel_rfl) (by kernel_rfl) (by kernel_rfl) (fun _ _ _ h => h) (.inl ⟨by rfl, fun W hW => by go_simp⟩) HS0.out ?_
  simp only [Act.put, List.setIfInBounds_toArray, List.set_cons_zero, List.set_cons_succ]
  refine takeH (i := 1) 11 (.int .u32 (s.ino : Int)) rfl rfl (by kernel_rfl) (by kernel_rfl) (by kernel_rfl) (fun _ _ _ h => h) (.inl ⟨by rfl, fun W hW => by (have hz := hW.cell 0 _ rfl; go_simp)⟩) HS0.out ?_
  simp only [Act.put, List.setIfInBounds_toArray, List.set_cons_zero, List.set_cons_succ]
  refine takeH (i := 3) 13 (.pointer (some ⟨w.heap.size, 1, none⟩)) rfl rfl (by kernel_rfl) (by kernel_rfl) (by kernel_rfl) (fun _ _ _ h => h) (.inl ⟨by rfl, fun W hW => by go_simp⟩) HS0.out ?_
  simp only [Act.put, List.setIfInBounds_toArray, List.set_cons_zero, List.set_cons_succ]
  refine takeH (i := 4) 14 (.int .u32 (s.kind : Int)) rfl rfl (by kernel_rfl) (by kernel_rfl) (by kernel_rfl) (fun _ _ _ h => h) (.inl ⟨by rfl, fun W hW => by (have hz := hW.cell 1 _ rfl; go_simp)⟩) HS0.out ?_
  simp only [Act.put, List.setIfInBounds_toArray, List.set_cons_zero, List.set_cons_succ]
  refine takeH (i := 7) 17 (.pointer (some ⟨w.heap.size, 2, none⟩)) rfl rfl (by kernel_rfl) (by kernel_rfl) (by kernel_rfl) (fun _ _ _ h => h) (.inl ⟨by rfl, fun W hW => by go_simp⟩) HS0.out ?_
  simp only [Act.put, List.setIfInBounds_toArray, List.set_cons_zero, List.set_cons_succ]
  refine takeH (i := 8) 18 (.int .u32 (s.gen : Int)) rfl rfl (by kernel_rfl) (by kernel_rfl) (by kernel_rfl) (fun _ _ _ h => h) (.inl ⟨by rfl, fun W hW => by (have hz := hW.cell 2 _ rfl; go_simp)⟩) HS0.out ?_
  simp only [Act.put, List.setIfInBounds_toArray, List.set_cons_zero, List.set_cons_succ]
  refine takeH (i := 11) 21 (.pointer (some ⟨w.heap.size, 3, none⟩)) rfl rfl (by kernel_rfl) (by kernel_rfl) (by kernel_rfl) (fun _ _ _ h => h) (.inl ⟨by rfl, fun W hW => by go_simp⟩) HS0.out ?_
  simp only [Act.put, List.setIfInBounds_toArray, List.set_cons_zero, List.set_cons_succ]
  refine takeH (i := 12) 22 (.int .u32 (s.links : Int)) rfl rfl (by kernel_rfl) (by kernel_rfl) (by kernel_rfl) (fun _ _ _ h => h) (.inl ⟨by rfl, fun W hW => by (have hz := hW.cell 3 _ rfl; go_simp)⟩) HS0.out ?_
  simp only [Act.put, List.setIfInBounds_toArray, List.set_cons_zero, List.set_cons_succ]
  refine takeH (i := 15) 25 (.pointer (some ⟨w.heap.size, 4, none⟩)) rfl rfl (by kernel_rfl) (by kernel_rfl) (by kernel_rfl) (fun _ _ _ h => h) (.inl ⟨by rfl, fun W hW => by go_simp⟩) HS0.out ?_
  simp only [Act.put, List.setIfInBounds_toArray, List.set_cons_zero, List.set_cons_succ]
  refine takeH (i := 16) 26 (.int .u32 (s.mode : Int)) rfl rfl (by kernel_rfl) (by kernel_rfl) (by kernel_rfl) (fun _ _ _ h => h) (.inl ⟨by rfl, fun W hW => by (have hz := hW.cell 4 _ rfl; go_simp)⟩) HS0.out ?_
  simp only [Act.put, List.setIfInBounds_toArray, List.set_cons_zero, List.set_cons_succ]
  refine takeH (i := 19) 29 (.pointer (some ⟨w.heap.size, 5, none⟩)) rfl rfl (by kernel_rfl) (by kernel_rfl) (by kernel_rfl) (fun _ _ _ h => h) (.inl ⟨by rfl, fun W hW => by go_simp⟩) HS0.out ?_
  simp only [Act.put, List.setIfInBounds_toArray, List.set_cons_zero, List.set_cons_succ]
  refine takeH (i := 20) 30 (.int .u64 (s.change : Int)) rfl rfl (by kernel_rfl) (by kernel_rfl) (by kernel_rfl) (fun _ _ _ h => h) (.inl ⟨by rfl, fun W hW => by (have hz := hW.cell 5 _ rfl; go_simp)⟩) HS0.out ?_
  simp only [Act.put, List.setIfInBounds_toArray, List.set_cons_zero, List.set_cons_succ]
  refine takeH (i := 23) 33 (.pointer (some ⟨w.heap.size, 6, none⟩)) rfl rfl (by kernel_rfl) (by kernel_rfl) (by kernel_rfl) (fun _ _ _ h => h) (.inl ⟨by rfl, fun W hW => by go_simp⟩) HS0.out ?_
  simp only [Act.put, List.setIfInBounds_toArray, List.set_cons_zero, List.set_cons_succ]
  refine takeH (i := 24) 34 (.int .u64 (s.cookie : Int)) rfl rfl (by kernel_rfl) (by kernel_rfl) (by kernel_rfl) (fun _ _ _ h => h) (.inl ⟨by rfl, fun W hW => by (have hz := hW.cell 6 _ rfl; go_simp)⟩) HS0.out ?_
  simp only [Act.put, List.setIfInBounds_toArray, List.set_cons_zero, List.set_cons_succ]
  refine takeH (i := 27) 37 (.pointer (some ⟨w.heap.size, 7, none⟩)) rfl rfl (by kernel_rfl) (by kernel_rfl) (by kernel_rfl) (fun _ _ _ h => h) (.inl ⟨by rfl, fun W hW => by go_simp⟩) HS0.out ?_
  simp only [Act.put, List.setIfInBounds_toArray, List.set_cons_zero, List.set_cons_succ]
  refine takeH (i := 28) 38 (.int .u64 (s.verf : Int)) rfl rfl (by kernel_rfl) (by kernel_rfl) (by kernel_rfl) (fun _ _ _ h => h) (.inl ⟨by rfl, fun W hW => by (have hz := hW.cell 7 _ rfl; go_simp)⟩) HS0.out ?_
  simp only [Act.put, List.setIfInBounds_toArray, List.set_cons_zero, List.set_cons_succ]
  refine takeH (i := 31) 41 (.pointer (some ⟨w.heap.size, 8, none⟩)) rfl rfl (by kernel_rfl) (by kernel_rfl) (by kernel_rfl) (fun _ _ _ h => h) (.inl ⟨by rfl, fun W hW => by go_simp⟩) HS0.out ?_
  simp only [Act.put, List.setIfInBounds_toArray, List.set_cons_zero, List.set_cons_succ]
  refine takeH (i := 32) 42 (.string (txt s.dt)) rfl rfl (by kernel_rfl) (by kernel_rfl) (by kernel_rfl) (fun _ _ _ h => h) (.inl ⟨by rfl, fun W hW => by (have hz := hW.cell 8 _ rfl; go_simp)⟩) HS0.out ?_
  simp only [Act.put, List.setIfInBounds_toArray, List.set_cons_zero, List.set_cons_succ]
  refine wpAnyH_ready (rs := [2]) (by kernel_rfl) (by simp) ?_
  refine AllReadyH.cons rfl (fun K hK => ?_) AllReadyH.nil
  go_simp
  refine (refuS_any s.ino _ HWD.out.ino).mono ?_
  rintro e wa1 ⟨rfl, hba1⟩
  have HGa1 := Lib.hid (HG0.out.trans (hba1.mono HG0.out.size))
  have HSa1 : Hid ((fun W : World => Bw W w.heap.size (sc s (.string (txt s.dt))) 34) wa1) := HS0.out.below hba1
  refine hK.out _ _ HSa1.out fun _ => ?_
  clear hK K hba1 HS0 HG0
  refine wpAnyH_ready (rs := [5]) (by kernel_rfl) (by simp) ?_
  refine AllReadyH.cons rfl (fun K hK => ?_) AllReadyH.nil
  go_simp
  refine (refuS_any s.kind _ HWD.out.kind).mono ?_
  rintro e wa2 ⟨rfl, hba2⟩
  have HGa2 := Lib.hid (HGa1.out.trans (hba2.mono HGa1.out.size))
  have HSa2 : Hid ((fun W : World => Bw W w.heap.size (sc s (.string (txt s.dt))) 34) wa2) := HSa1.out.below hba2
  refine hK.out _ _ HSa2.out fun _ => ?_
  clear hK K hba2 HSa1 HGa1
  obtain ⟨q1, hq⟩ : ∃ q, be 4 s.ino ++ be 4 s.kind = q := ⟨_, rfl⟩
  have HLq1 : Hid (q1.length ≤ 8) := by show _ ≤ _; rw [← hq, List.length_append, be_length, be_length]; omega
  have y : ¬ 9223372036854775807 < (txt (be 4 s.ino)).size + (txt (be 4 s.kind)).size := by have h9 := HLq1.out; rw [← hq, List.length_append] at h9; rw [txt_size, txt_size]; omega
  have z : txt (be 4 s.ino) ++ txt (be 4 s.kind) = txt q1 := by rw [txt_append, hq]
  have HQq1 := Lib.hid hq
  clear hq
  refine takeH (i := 6) 16 (.string (txt q1)) rfl rfl (by kernel_rfl) (by kernel_rfl) (by kernel_rfl) (fun _ _ _ h => h) (.inl ⟨by rfl, fun W hW => by go_simp⟩) HSa2.out ?_
  simp only [Act.put, List.setIfInBounds_toArray, List.set_cons_zero, List.set_cons_succ]
  clear y z
  refine wpAnyH_ready (rs := [9]) (by kernel_rfl) (by simp) ?_
  refine AllReadyH.cons rfl (fun K hK => ?_) AllReadyH.nil
  go_simp
  refine (refuS_any s.gen _ HWD.out.wide.gen).mono ?_
  rintro e wa3 ⟨rfl, hba3⟩
  have HGa3 := Lib.hid (HGa2.out.trans (hba3.mono HGa2.out.size))
  have HSa3 : Hid ((fun W : World => Bw W w.heap.size (sc s (.string (txt s.dt))) 34) wa3) := HSa2.out.below hba3
  refine hK.out _ _ HSa3.out fun _ => ?_
  clear hK K hba3 HSa2 HGa2
  obtain ⟨q2, hq⟩ : ∃ q, q1 ++ be 4 s.gen = q := ⟨_, rfl⟩
  have HLq2 : Hid (q2.length ≤ 12) := by show _ ≤ _; rw [← hq, List.length_append, be_length]; have := HLq1.out; omega
  have y : ¬ 9223372036854775807 < (txt (q1)).size + (txt (be 4 s.gen)).size := by have h9 := HLq2.out; rw [← hq, List.length_append] at h9; rw [txt_size, txt_size]; omega
  have z : txt (q1) ++ txt (be 4 s.gen) = txt q2 := by rw [txt_append, hq]
  have HQq2 := Lib.hid hq
  clear hq
  refine takeH (i := 10) 20 (.string (txt q2)) rfl rfl (by kernel_rfl) (by kernel_rfl) (by kernel_rfl) (fun _ _ _ h => h) (.inl ⟨by rfl, fun W hW => by go_simp⟩) HSa3.out ?_
  simp only [Act.put, List.setIfInBounds_toArray, List.set_cons_zero, List.set_cons_succ]
  clear y z
  refine wpAnyH_ready (rs := [13]) (by kernel_rfl) (by simp) ?_
  refine AllReadyH.cons rfl (fun K hK => ?_) AllReadyH.nil
  go_simp
  refine (refuS_any s.links _ HWD.out.wide.links).mono ?_
  rintro e wa4 ⟨rfl, hba4⟩
  have HGa4 := Lib.hid (HGa3.out.trans (hba4.mono HGa3.out.size))
  have HSa4 : Hid ((fun W : World => Bw W w.heap.size (sc s (.string (txt s.dt))) 34) wa4) := HSa3.out.below hba4
  refine hK.out _ _ HSa4.out fun _ => ?_
  clear hK K hba4 HSa3 HGa3
  obtain ⟨q3, hq⟩ : ∃ q, q2 ++ be 4 s.links = q := ⟨_, rfl⟩
  have HLq3 : Hid (q3.length ≤ 16) := by show _ ≤ _; rw [← hq, List.length_append, be_length]; have := HLq2.out; omega
  have y : ¬ 9223372036854775807 < (txt (q2)).size + (txt (be 4 s.links)).size := by have h9 := HLq3.out; rw [← hq, List.length_append] at h9; rw [txt_size, txt_size]; omega
  have z : txt (q2) ++ txt (be 4 s.links) = txt q3 := by rw [txt_append, hq]
  have HQq3 := Lib.hid hq
  clear hq
  refine takeH (i := 14) 24 (.string (txt q3)) rfl rfl (by kernel_rfl) (by kernel_rfl) (by kernel_rfl) (fun _ _ _ h => h) (.inl ⟨by rfl, fun W hW => by go_simp⟩) HSa4.out ?_
  simp only [Act.put, List.setIfInBounds_toArray, List.set_cons_zero, List.set_cons_succ]
  clear y z
  refine wpAnyH_ready (rs := [17]) (by kernel_rfl) (by simp) ?_
  refine AllReadyH.cons rfl (fun K hK => ?_) AllReadyH.nil
  go_simp
  refine (refuS_any s.mode _ HWD.out.wide.mode).mono ?_
  rintro e wa5 ⟨rfl, hba5⟩
  have HGa5 := Lib.hid (HGa4.out.trans (hba5.mono HGa4.out.size))
  have HSa5 : Hid ((fun W : World => Bw W w.heap.size (sc s (.string (txt s.dt))) 34) wa5) := HSa4.out.below hba5
  refine hK.out _ _ HSa5.out fun _ => ?_
  clear hK K hba5 HSa4 HGa4
  obtain ⟨q4, hq⟩ : ∃ q, q3 ++ be 4 s.mode = q := ⟨_, rfl⟩
  have HLq4 : Hid (q4.length ≤ 20) := by show _ ≤ _; rw [← hq, List.length_append, be_length]; have := HLq3.out; omega
  have y : ¬ 9223372036854775807 < (txt (q3)).size + (txt (be 4 s.mode)).size := by have h9 := HLq4.out; rw [← hq, List.length_append] at h9; rw [txt_size, txt_size]; omega
  have z : txt (q3) ++ txt (be 4 s.mode) = txt q4 := by rw [txt_append, hq]
  have HQq4 := Lib.hid hq
  clear hq
  refine takeH (i := 18) 28 (.string (txt q4)) rfl rfl (by kernel_rfl) (by kernel_rfl) (by kernel_rfl) (fun _ _ _ h => h) (.inl ⟨by rfl, fun W hW => by go_simp⟩) HSa5.out ?_
  simp only [Act.put, List.setIfInBounds_toArray, List.set_cons_zero, List.set_cons_succ]
  clear y z
  refine wpAnyH_ready (rs := [21]) (by kernel_rfl) (by simp) ?_
  refine AllReadyH.cons rfl (fun K hK => ?_) AllReadyH.nil
  go_simp
  refine (refU64 s.change _ HWD.out.wide.change).mono ?_
  rintro e wa6 ⟨rfl, hba6⟩
  have HGa6 := Lib.hid (HGa5.out.trans (hba6.mono HGa5.out.size))
  have HSa6 : Hid ((fun W : World => Bw W w.heap.size (sc s (.string (txt s.dt))) 34) wa6) := HSa5.out.below hba6
  refine hK.out _ _ HSa6.out fun _ => ?_
  clear hK K hba6 HSa5 HGa5
  obtain ⟨q5, hq⟩ : ∃ q, q4 ++ be 8 s.change = q := ⟨_, rfl⟩
  have HLq5 : Hid (q5.length ≤ 28) := by show _ ≤ _; rw [← hq, List.length_append, be_length]; have := HLq4.out; omega
  have y : ¬ 9223372036854775807 < (txt (q4)).size + (txt (be 8 s.change)).size := by have h9 := HLq5.out; rw [← hq, List.length_append] at h9; rw [txt_size, txt_size]; omega
  have z : txt (q4) ++ txt (be 8 s.change) = txt q5 := by rw [txt_append, hq]
  have HQq5 := Lib.hid hq
  clear hq
  refine takeH (i := 22) 32 (.string (txt q5)) rfl rfl (by kernel_rfl) (by kernel_rfl) (by kernel_rfl) (fun _ _ _ h => h) (.inl ⟨by rfl, fun W hW => by go_simp⟩) HSa6.out ?_
  simp only [Act.put, List.setIfInBounds_toArray, List.set_cons_zero, List.set_cons_succ]
  clear y z
  refine wpAnyH_ready (rs := [25]) (by kernel_rfl) (by simp) ?_
  refine AllReadyH.cons rfl (fun K hK => ?_) AllReadyH.nil
  go_simp
  refine (refU64 s.cookie _ HWD.out.wide.cookie).mono ?_
  rintro e wa7 ⟨rfl, hba7⟩
  have HGa7 := Lib.hid (HGa6.out.trans (hba7.mono HGa6.out.size))
  have HSa7 : Hid ((fun W : World => Bw W w.heap.size (sc s (.string (txt s.dt))) 34) wa7) := HSa6.out.below hba7
  refine hK.out _ _ HSa7.out fun _ => ?_
  clear hK K hba7 HSa6 HGa6
  obtain ⟨q6, hq⟩ : ∃ q, q5 ++ be 8 s.cookie = q := ⟨_, rfl⟩
  have HLq6 : Hid (q6.length ≤ 36) := by show _ ≤ _; rw [← hq, List.length_append, be_length]; have := HLq5.out; omega
  have y : ¬ 9223372036854775807 < (txt (q5)).size + (txt (be 8 s.cookie)).size := by have h9 := HLq6.out; rw [← hq, List.length_append] at h9; rw [txt_size, txt_size]; omega
  have z : txt (q5) ++ txt (be 8 s.cookie) = txt q6 := by rw [txt_append, hq]
  have HQq6 := Lib.hid hq
  clear hq
  refine takeH (i := 26) 36 (.string (txt q6)) rfl rfl (by kernel_rfl) (by kernel_rfl) (by kernel_rfl) (fun _ _ _ h => h) (.inl ⟨by rfl, fun W hW => by go_simp⟩) HSa7.out ?_
  simp only [Act.put, List.setIfInBounds_toArray, List.set_cons_zero, List.set_cons_succ]
  clear y z
  refine wpAnyH_ready (rs := [29]) (by kernel_rfl) (by simp) ?_
  refine AllReadyH.cons rfl (fun K hK => ?_) AllReadyH.nil
  go_simp
  refine (refU64 s.verf _ HWD.out.wide.verf).mono ?_
  rintro e wa8 ⟨rfl, hba8⟩
  have HGa8 := Lib.hid (HGa7.out.trans (hba8.mono HGa7.out.size))
  have HSa8 : Hid ((fun W : World => Bw W w.heap.size (sc s (.string (txt s.dt))) 34) wa8) := HSa7.out.below hba8
  refine hK.out _ _ HSa8.out fun _ => ?_
  clear hK K hba8 HSa7 HGa7
  obtain ⟨q7, hq⟩ : ∃ q, q6 ++ be 8 s.verf = q := ⟨_, rfl⟩
  have HLq7 : Hid (q7.length ≤ 44) := by show _ ≤ _; rw [← hq, List.length_append, be_length]; have := HLq6.out; omega
  have y : ¬ 9223372036854775807 < (txt (q6)).size + (txt (be 8 s.verf)).size := by have h9 := HLq7.out; rw [← hq, List.length_append] at h9; rw [txt_size, txt_size]; omega
  have z : txt (q6) ++ txt (be 8 s.verf) = txt q7 := by rw [txt_append, hq]
  have HQq7 := Lib.hid hq
  clear hq
  refine takeH (i := 30) 40 (.string (txt q7)) rfl rfl (by kernel_rfl) (by kernel_rfl) (by kernel_rfl) (fun _ _ _ h => h) (.inl ⟨by rfl, fun W hW => by go_simp⟩) HSa8.out ?_
  simp only [Act.put, List.setIfInBounds_toArray, List.set_cons_zero, List.set_cons_succ]
  clear y z
  refine wpAnyH_ready (rs := [33]) (by kernel_rfl) (by simp) ?_
  refine AllReadyH.cons rfl (fun K hK => ?_) AllReadyH.nil
  go_simp
  refine (refOpaque s.dt _ (by have := HO.out; omega)).mono ?_
  rintro e wa9 ⟨rfl, hba9⟩
  have HGa9 := Lib.hid (HGa8.out.trans (hba9.mono HGa8.out.size))
  have HSa9 : Hid ((fun W : World => Bw W w.heap.size (sc s (.string (txt s.dt))) 34) wa9) := HSa8.out.below hba9
  refine hK.out _ _ HSa9.out fun _ => ?_
  clear hK K hba9 HSa8 HGa8
  obtain ⟨q8, hq⟩ : ∃ q, q7 ++ opq s.dt = q := ⟨_, rfl⟩
  have HLq8 : Hid (q8.length ≤ 819) := by show _ ≤ _; rw [← hq, List.length_append]; have := HLq7.out; have := HO.out; omega
  have y : ¬ 9223372036854775807 < (txt (q7)).size + (txt (opq s.dt)).size := by have h9 := HLq8.out; rw [← hq, List.length_append] at h9; rw [txt_size, txt_size]; omega
  have z : txt (q7) ++ txt (opq s.dt) = txt q8 := by rw [txt_append, hq]
  have HQq8 := Lib.hid hq
  clear hq
  refine takeH (i := 34) 44 (.string (txt q8)) rfl rfl (by kernel_rfl) (by kernel_rfl) (by kernel_rfl) (fun _ _ _ h => h) (.inl ⟨by rfl, fun W hW => by go_simp⟩) HSa9.out ?_
  simp only [Act.put, List.setIfInBounds_toArray, List.set_cons_zero, List.set_cons_succ]
  clear y z
  refine takeH (i := 35) 2 (.string (txt q8)) rfl rfl (by kernel_rfl) (by kernel_rfl) (by kernel_rfl) (fun _ _ _ h => h) (.inl ⟨by rfl, fun W hW => by go_simp⟩) HSa9.out ?_
  simp only [Act.put, List.setIfInBounds_toArray, List.set_cons_zero, List.set_cons_succ]
  refine takeH (i := 36) 3 (.int .i64 0) rfl rfl (by kernel_rfl) (by kernel_rfl) (by kernel_rfl) (fun _ _ _ h => h) (.inl ⟨by rfl, fun W hW => by go_simp⟩) HSa9.out ?_
  simp only [Act.put, List.setIfInBounds_toArray, List.set_cons_zero, List.set_cons_succ]
  refine wpAnyH_done (by kernel_rfl) ?_ _
  have HT : Hid (q8 = Sl.enc s) := by
    show _ = _
    rw [Sl.enc_eq, ← HQq8.out, ← HQq7.out, ← HQq6.out, ← HQq5.out, ← HQq4.out, ← HQq3.out, ← HQq2.out, ← HQq1.out]
    simp only [List.append_assoc]
  rw [HT.out]
  go_wp2_with fail
  go_ret2
  exact ⟨by rw [HP.out, HE.out]; rfl, HGa9.out⟩
end Go.Proofs.Ytbeahhijmgkfhaa
