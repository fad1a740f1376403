/-
  The document's PutCall, walked (layer 9).
-/
import Derived.Test.YtobhmjokoicpoaaDoorKOf
import Derived.Test.YtobhmjokoicpoaaDoorERGet
import Derived.Test.YtobhmjokoicpoaaDoorERPut
namespace Go.Proofs.YtobhmjokoicpoaaDoor
open Go.RowKit Go.Shelf

theorem refu_any (x : Nat) (w : World) (h : x < 4294967296) : Calls Tryd.prog 30 #[.int .u32 (x : Int)] w fun e w' => e = .returned (.string (txt (be 4 x))) ∧ Below w.heap.size w w' := by
  go_enter Tryd.func30, Tryd.ntmps30
  go_wp2_with fail
  refine (refU32 (x : Int) w (by omega) (by omega)).mono ?_
  rintro e w1 ⟨rfl, hb⟩
  rw [Int.toNat_natCast]
  go_wp2_with fail
  go_ret
  exact ⟨rfl, hb⟩

set_option maxRecDepth 100000 in
set_option maxHeartbeats 8000000 in
theorem refPutCall_any (c : Cl) (w : World) (hw : c.Wide) :
    Calls Tryd.prog 11 #[.agg (cc c (.string (txt c.dt))).toArray] w fun e w' => e = .returned (.tuple #[.string (txt c.put), .int .i64 c.errP]) ∧ Below w.heap.size w w' := by
  have HWD := Lib.hid hw
  have s1 : (txt c.nm).size = c.nm.length := txt_size _
  have s2 : (txt c.tn).size = c.tn.length := txt_size _
  have s3 : (txt c.dt).size = c.dt.length := txt_size _
  clear hw
  by_cases hok : c.okB = true
  rotate_left
  · have HP : Hid (c.put = []) := if_neg hok
    have HE : Hid (c.errP = 1) := if_neg hok
    rw [HP.out, HE.out]
    have HOK := Lib.hid hok
    clear hok
    by_cases h0 : 1 ≤ c.op
    rotate_left
    · have g0 : decide ((c.op : Int) < 1) = true := by simp; omega
      go_enter Tryd.func11, Tryd.ntmps11
      go_upto_region 1 with fail
      have HB0 : Hid (Bw (w.alloc (.cells (cc c (.string (txt c.dt))).toArray 36)) w.heap.size (cc c (.string (txt c.dt))) 36) := heap_alloc_new w _
      have HW0 : Hid (Below w.heap.size w (w.alloc (.cells (cc c (.string (txt c.dt))).toArray 36))) := (Below.refl _ w).alloc (Nat.le_refl _) _
      generalize w.alloc (.cells (cc c (.string (txt c.dt))).toArray 36) = w0 at *
      have e2 := HB0.out.cell 2 _ rfl
      go_wp2_with fail
      go_ret2
      exact ⟨rfl, HW0.out⟩
    by_cases h1 : c.op ≤ 16
    rotate_left
    · have g0 : decide ((c.op : Int) < 1) = false := by simp; omega
      have g1 : decide ((16 : Int) < (c.op : Int)) = true := by simp; omega
      go_enter Tryd.func11, Tryd.ntmps11
      go_upto_region 1 with fail
      have HB0 : Hid (Bw (w.alloc (.cells (cc c (.string (txt c.dt))).toArray 36)) w.heap.size (cc c (.string (txt c.dt))) 36) := heap_alloc_new w _
      have HW0 : Hid (Below w.heap.size w (w.alloc (.cells (cc c (.string (txt c.dt))).toArray 36))) := (Below.refl _ w).alloc (Nat.le_refl _) _
      generalize w.alloc (.cells (cc c (.string (txt c.dt))).toArray 36) = w0 at *
      have e2 := HB0.out.cell 2 _ rfl
      go_wp2_with fail
      go_ret2
      exact ⟨rfl, HW0.out⟩
    by_cases h2 : c.nm.length ≤ 64
    rotate_left
    · have g0 : decide ((c.op : Int) < 1) = false := by simp; omega
      have g1 : decide ((16 : Int) < (c.op : Int)) = false := by simp; omega
      have g2 : decide ((64 : Int) < (c.nm.length : Int)) = true := by simp; omega
      go_enter Tryd.func11, Tryd.ntmps11
      go_upto_region 1 with fail
      have HB0 : Hid (Bw (w.alloc (.cells (cc c (.string (txt c.dt))).toArray 36)) w.heap.size (cc c (.string (txt c.dt))) 36) := heap_alloc_new w _
      have HW0 : Hid (Below w.heap.size w (w.alloc (.cells (cc c (.string (txt c.dt))).toArray 36))) := (Below.refl _ w).alloc (Nat.le_refl _) _
      generalize w.alloc (.cells (cc c (.string (txt c.dt))).toArray 36) = w0 at *
      have e2 := HB0.out.cell 2 _ rfl
      have e5 := HB0.out.cell 5 _ rfl
      go_wp2_with fail
      go_ret2
      exact ⟨rfl, HW0.out⟩
    by_cases h3 : c.tn.length ≤ 64
    rotate_left
    · have g0 : decide ((c.op : Int) < 1) = false := by simp; omega
      have g1 : decide ((16 : Int) < (c.op : Int)) = false := by simp; omega
      have g2 : decide ((64 : Int) < (c.nm.length : Int)) = false := by simp; omega
      have g3 : decide ((64 : Int) < (c.tn.length : Int)) = true := by simp; omega
      go_enter Tryd.func11, Tryd.ntmps11
      go_upto_region 1 with fail
      have HB0 : Hid (Bw (w.alloc (.cells (cc c (.string (txt c.dt))).toArray 36)) w.heap.size (cc c (.string (txt c.dt))) 36) := heap_alloc_new w _
      have HW0 : Hid (Below w.heap.size w (w.alloc (.cells (cc c (.string (txt c.dt))).toArray 36))) := (Below.refl _ w).alloc (Nat.le_refl _) _
      generalize w.alloc (.cells (cc c (.string (txt c.dt))).toArray 36) = w0 at *
      have e2 := HB0.out.cell 2 _ rfl
      have e5 := HB0.out.cell 5 _ rfl
      have e8 := HB0.out.cell 8 _ rfl
      go_wp2_with fail
      go_ret2
      exact ⟨rfl, HW0.out⟩
    by_cases h4 : c.dt.length ≤ 1024
    rotate_left
    · have g0 : decide ((c.op : Int) < 1) = false := by simp; omega
      have g1 : decide ((16 : Int) < (c.op : Int)) = false := by simp; omega
      have g2 : decide ((64 : Int) < (c.nm.length : Int)) = false := by simp; omega
      have g3 : decide ((64 : Int) < (c.tn.length : Int)) = false := by simp; omega
      have g4 : decide ((1024 : Int) < (c.dt.length : Int)) = true := by simp; omega
      go_enter Tryd.func11, Tryd.ntmps11
      go_upto_region 1 with fail
      have HB0 : Hid (Bw (w.alloc (.cells (cc c (.string (txt c.dt))).toArray 36)) w.heap.size (cc c (.string (txt c.dt))) 36) := heap_alloc_new w _
      have HW0 : Hid (Below w.heap.size w (w.alloc (.cells (cc c (.string (txt c.dt))).toArray 36))) := (Below.refl _ w).alloc (Nat.le_refl _) _
      generalize w.alloc (.cells (cc c (.string (txt c.dt))).toArray 36) = w0 at *
      have e2 := HB0.out.cell 2 _ rfl
      have e5 := HB0.out.cell 5 _ rfl
      have e8 := HB0.out.cell 8 _ rfl
      have e13 := HB0.out.cell 13 _ rfl
      go_wp2_with fail
      go_ret2
      exact ⟨rfl, HW0.out⟩
    exact absurd ((Cl.okB_iff c).2 ⟨by simp [opOk]; omega, h2, h3, h4⟩) HOK.out
  obtain ⟨h0, h2, h3, h4⟩ := (Cl.okB_iff c).1 hok
  have h1 : 1 ≤ c.op ∧ c.op ≤ 16 := by simpa [opOk] using h0
  have g0 : decide ((c.op : Int) < 1) = false := by simp; omega
  have g1 : decide ((16 : Int) < (c.op : Int)) = false := by simp; omega
  have g2 : decide ((64 : Int) < (c.nm.length : Int)) = false := by simp; omega
  have g3 : decide ((64 : Int) < (c.tn.length : Int)) = false := by simp; omega
  have g4 : decide ((1024 : Int) < (c.dt.length : Int)) = false := by simp; omega
  have HE : Hid (c.errP = 0) := if_pos hok
  have HP : Hid (c.put = c.enc) := if_pos hok
  rw [HE.out, HP.out]
  have p1 := opq_len_le c.nm
  have p2 := opq_len_le c.tn
  have p3 := opq_len_le c.dt
  have HO : Hid ((opq c.nm).length ≤ 71 ∧ (opq c.tn).length ≤ 71 ∧ (opq c.dt).length ≤ 1031 ∧ c.nm.length ≤ 64 ∧ c.tn.length ≤ 64 ∧ c.dt.length ≤ 1024) := by show _ ∧ _; omega
  clear hok h0 h1 h2 h3 h4 p1 p2 p3
  go_enter Tryd.func11, Tryd.ntmps11
  go_upto_region 1 with fail
  have HB0 : Hid (Bw (w.alloc (.cells (cc c (.string (txt c.dt))).toArray 36)) w.heap.size (cc c (.string (txt c.dt))) 36) := heap_alloc_new w _
  have HW0 : Hid (Below w.heap.size w (w.alloc (.cells (cc c (.string (txt c.dt))).toArray 36))) := (Below.refl _ w).alloc (Nat.le_refl _) _
  generalize w.alloc (.cells (cc c (.string (txt c.dt))).toArray 36) = w0 at *
  have e2 := HB0.out.cell 2 _ rfl
  have e5 := HB0.out.cell 5 _ rfl
  have e8 := HB0.out.cell 8 _ rfl
  have e13 := HB0.out.cell 13 _ rfl
  go_upto_region 3 with fail
  clear g0 g1 g2 g3 g4 e2 e5 e8 e13 s1 s2 s3
  have HS0 : Hid ((fun W : World => Bw W w.heap.size (cc c (.string (txt c.dt))) 36) w0.drew) := HB0.out
  have HG0 : Hid (Below w.heap.size w w0.drew) := HW0.out.drew
  clear HB0 HW0
  refine wp_region_held_drew (S := fun W : World => Bw W w.heap.size (cc c (.string (txt c.dt))) 36) (by kernel_rfl) HS0.out (fun _ => ?_)
  change wpAnyH _ _ _ _ _ 40 (Array.replicate 40 false) _ _
  refine takeH (i := 0) 31 (.pointer (some ⟨w.heap.size, 0, none⟩)) rfl rfl (by kernel_rfl) (by kernel_rfl) (by kernel_rfl) (fun _ _ _ h => h) (.inl ⟨by rfl, fun W hW => by go_simp⟩) HS0.out ?_
  simp only [Act.put, List.setIfInBounds_toArray, List.set_cons_zero, List.set_cons_succ]
  refine takeH (i := 1) 32 (.int .u32 (c.cli : Int)) rfl rfl (by kernel_rfl) (by kernel_rfl) (by kernel_rfl) (fun _ _ _ h => h) (.inl ⟨by rfl, fun W hW => by (have hz := hW.cell 0 _ rfl; go_simp)⟩) HS0.out ?_
  simp only [Act.put, List.setIfInBounds_toArray, List.set_cons_zero, List.set_cons_succ]
  refine takeH (i := 3) 34 (.pointer (some ⟨w.heap.size, 1, none⟩)) rfl rfl (by kernel_rfl) (by kernel_rfl) (by kernel_rfl) (fun _ _ _ h => h) (.inl ⟨by rfl, fun W hW => by go_simp⟩) HS0.out ?_
  simp only [Act.put, List.setIfInBounds_toArray, List.set_cons_zero, List.set_cons_succ]
  refine takeH (i := 4) 35 (.int .u32 (c.xid : Int)) rfl rfl (by kernel_rfl) (by kernel_rfl) (by kernel_rfl) (fun _ _ _ h => h) (.inl ⟨by rfl, fun W hW => by (have hz := hW.cell 1 _ rfl; go_simp)⟩) HS0.out ?_
  simp only [Act.put, List.setIfInBounds_toArray, List.set_cons_zero, List.set_cons_succ]
  refine takeH (i := 7) 38 (.pointer (some ⟨w.heap.size, 2, none⟩)) rfl rfl (by kernel_rfl) (by kernel_rfl) (by kernel_rfl) (fun _ _ _ h => h) (.inl ⟨by rfl, fun W hW => by go_simp⟩) HS0.out ?_
  simp only [Act.put, List.setIfInBounds_toArray, List.set_cons_zero, List.set_cons_succ]
  refine takeH (i := 8) 39 (.int .u32 (c.op : Int)) rfl rfl (by kernel_rfl) (by kernel_rfl) (by kernel_rfl) (fun _ _ _ h => h) (.inl ⟨by rfl, fun W hW => by (have hz := hW.cell 2 _ rfl; go_simp)⟩) HS0.out ?_
  simp only [Act.put, List.setIfInBounds_toArray, List.set_cons_zero, List.set_cons_succ]
  refine takeH (i := 11) 42 (.pointer (some ⟨w.heap.size, 3, none⟩)) rfl rfl (by kernel_rfl) (by kernel_rfl) (by kernel_rfl) (fun _ _ _ h => h) (.inl ⟨by rfl, fun W hW => by go_simp⟩) HS0.out ?_
  simp only [Act.put, List.setIfInBounds_toArray, List.set_cons_zero, List.set_cons_succ]
  refine takeH (i := 12) 43 (.pointer (some ⟨w.heap.size, 3, none⟩)) rfl rfl (by kernel_rfl) (by kernel_rfl) (by kernel_rfl) (fun _ _ _ h => h) (.inl ⟨by rfl, fun W hW => by go_simp⟩) HS0.out ?_
  simp only [Act.put, List.setIfInBounds_toArray, List.set_cons_zero, List.set_cons_succ]
  refine takeH (i := 13) 44 (.int .u32 (c.ati : Int)) rfl rfl (by kernel_rfl) (by kernel_rfl) (by kernel_rfl) (fun _ _ _ h => h) (.inl ⟨by rfl, fun W hW => by (have hz := hW.cell 3 _ rfl; go_simp)⟩) HS0.out ?_
  simp only [Act.put, List.setIfInBounds_toArray, List.set_cons_zero, List.set_cons_succ]
  refine takeH (i := 16) 47 (.pointer (some ⟨w.heap.size, 3, none⟩)) rfl rfl (by kernel_rfl) (by kernel_rfl) (by kernel_rfl) (fun _ _ _ h => h) (.inl ⟨by rfl, fun W hW => by go_simp⟩) HS0.out ?_
  simp only [Act.put, List.setIfInBounds_toArray, List.set_cons_zero, List.set_cons_succ]
  refine takeH (i := 17) 48 (.pointer (some ⟨w.heap.size, 4, none⟩)) rfl rfl (by kernel_rfl) (by kernel_rfl) (by kernel_rfl) (fun _ _ _ h => h) (.inl ⟨by rfl, fun W hW => by go_simp⟩) HS0.out ?_
  simp only [Act.put, List.setIfInBounds_toArray, List.set_cons_zero, List.set_cons_succ]
  refine takeH (i := 18) 49 (.int .u32 (c.atg : Int)) rfl rfl (by kernel_rfl) (by kernel_rfl) (by kernel_rfl) (fun _ _ _ h => h) (.inl ⟨by rfl, fun W hW => by (have hz := hW.cell 4 _ rfl; go_simp)⟩) HS0.out ?_
  simp only [Act.put, List.setIfInBounds_toArray, List.set_cons_zero, List.set_cons_succ]
  refine takeH (i := 21) 52 (.pointer (some ⟨w.heap.size, 5, none⟩)) rfl rfl (by kernel_rfl) (by kernel_rfl) (by kernel_rfl) (fun _ _ _ h => h) (.inl ⟨by rfl, fun W hW => by go_simp⟩) HS0.out ?_
  simp only [Act.put, List.setIfInBounds_toArray, List.set_cons_zero, List.set_cons_succ]
  refine takeH (i := 22) 53 (.string (txt c.nm)) rfl rfl (by kernel_rfl) (by kernel_rfl) (by kernel_rfl) (fun _ _ _ h => h) (.inl ⟨by rfl, fun W hW => by (have hz := hW.cell 5 _ rfl; go_simp)⟩) HS0.out ?_
  simp only [Act.put, List.setIfInBounds_toArray, List.set_cons_zero, List.set_cons_succ]
  refine takeH (i := 25) 56 (.pointer (some ⟨w.heap.size, 6, none⟩)) rfl rfl (by kernel_rfl) (by kernel_rfl) (by kernel_rfl) (fun _ _ _ h => h) (.inl ⟨by rfl, fun W hW => by go_simp⟩) HS0.out ?_
  simp only [Act.put, List.setIfInBounds_toArray, List.set_cons_zero, List.set_cons_succ]
  refine takeH (i := 26) 57 (.pointer (some ⟨w.heap.size, 6, none⟩)) rfl rfl (by kernel_rfl) (by kernel_rfl) (by kernel_rfl) (fun _ _ _ h => h) (.inl ⟨by rfl, fun W hW => by go_simp⟩) HS0.out ?_
  simp only [Act.put, List.setIfInBounds_toArray, List.set_cons_zero, List.set_cons_succ]
  refine takeH (i := 27) 58 (.int .u32 (c.toi : Int)) rfl rfl (by kernel_rfl) (by kernel_rfl) (by kernel_rfl) (fun _ _ _ h => h) (.inl ⟨by rfl, fun W hW => by (have hz := hW.cell 6 _ rfl; go_simp)⟩) HS0.out ?_
  simp only [Act.put, List.setIfInBounds_toArray, List.set_cons_zero, List.set_cons_succ]
  refine takeH (i := 30) 61 (.pointer (some ⟨w.heap.size, 6, none⟩)) rfl rfl (by kernel_rfl) (by kernel_rfl) (by kernel_rfl) (fun _ _ _ h => h) (.inl ⟨by rfl, fun W hW => by go_simp⟩) HS0.out ?_
  simp only [Act.put, List.setIfInBounds_toArray, List.set_cons_zero, List.set_cons_succ]
  refine takeH (i := 31) 62 (.pointer (some ⟨w.heap.size, 7, none⟩)) rfl rfl (by kernel_rfl) (by kernel_rfl) (by kernel_rfl) (fun _ _ _ h => h) (.inl ⟨by rfl, fun W hW => by go_simp⟩) HS0.out ?_
  simp only [Act.put, List.setIfInBounds_toArray, List.set_cons_zero, List.set_cons_succ]
  refine takeH (i := 32) 63 (.int .u32 (c.tog : Int)) rfl rfl (by kernel_rfl) (by kernel_rfl) (by kernel_rfl) (fun _ _ _ h => h) (.inl ⟨by rfl, fun W hW => by (have hz := hW.cell 7 _ rfl; go_simp)⟩) HS0.out ?_
  simp only [Act.put, List.setIfInBounds_toArray, List.set_cons_zero, List.set_cons_succ]
  refine takeH (i := 35) 66 (.pointer (some ⟨w.heap.size, 8, none⟩)) rfl rfl (by kernel_rfl) (by kernel_rfl) (by kernel_rfl) (fun _ _ _ h => h) (.inl ⟨by rfl, fun W hW => by go_simp⟩) HS0.out ?_
  simp only [Act.put, List.setIfInBounds_toArray, List.set_cons_zero, List.set_cons_succ]
  refine takeH (i := 36) 67 (.string (txt c.tn)) rfl rfl (by kernel_rfl) (by kernel_rfl) (by kernel_rfl) (fun _ _ _ h => h) (.inl ⟨by rfl, fun W hW => by (have hz := hW.cell 8 _ rfl; go_simp)⟩) HS0.out ?_
  simp only [Act.put, List.setIfInBounds_toArray, List.set_cons_zero, List.set_cons_succ]
  refine wpAnyH_ready (rs := [2]) (by kernel_rfl) (by simp) ?_
  refine AllReadyH.cons rfl (fun K hK => ?_) AllReadyH.nil
  go_simp
  refine (refu_any c.cli _ HWD.out.cli).mono ?_
  rintro e wa1 ⟨rfl, hba1⟩
  have HGa1 := Lib.hid (HG0.out.trans (hba1.mono HG0.out.size))
  have HSa1 : Hid ((fun W : World => Bw W w.heap.size (cc c (.string (txt c.dt))) 36) wa1) := HS0.out.below hba1
  refine hK.out _ _ HSa1.out fun _ => ?_
  clear hK K hba1 HS0 HG0
  refine wpAnyH_ready (rs := [5]) (by kernel_rfl) (by simp) ?_
  refine AllReadyH.cons rfl (fun K hK => ?_) AllReadyH.nil
  go_simp
  refine (refu_any c.xid _ HWD.out.xid).mono ?_
  rintro e wa2 ⟨rfl, hba2⟩
  have HGa2 := Lib.hid (HGa1.out.trans (hba2.mono HGa1.out.size))
  have HSa2 : Hid ((fun W : World => Bw W w.heap.size (cc c (.string (txt c.dt))) 36) wa2) := HSa1.out.below hba2
  refine hK.out _ _ HSa2.out fun _ => ?_
  clear hK K hba2 HSa1 HGa1
  obtain ⟨qa1, hq⟩ : ∃ q, be 4 c.cli ++ be 4 c.xid = q := ⟨_, rfl⟩
  have HLqa1 : Hid (qa1.length ≤ 8) := by show _ ≤ _; rw [← hq, List.length_append, be_length, be_length]; omega
  have y : ¬ 9223372036854775807 < (txt (be 4 c.cli)).size + (txt (be 4 c.xid)).size := by have h9 := HLqa1.out; rw [← hq, List.length_append] at h9; rw [txt_size, txt_size]; omega
  have z : txt (be 4 c.cli) ++ txt (be 4 c.xid) = txt qa1 := by rw [txt_append, hq]
  have HQqa1 := Lib.hid hq
  clear hq
  refine takeH (i := 6) 37 (.string (txt qa1)) rfl rfl (by kernel_rfl) (by kernel_rfl) (by kernel_rfl) (fun _ _ _ h => h) (.inl ⟨by rfl, fun W hW => by go_simp⟩) HSa2.out ?_
  simp only [Act.put, List.setIfInBounds_toArray, List.set_cons_zero, List.set_cons_succ]
  clear y z
  refine wpAnyH_ready (rs := [9]) (by kernel_rfl) (by simp) ?_
  refine AllReadyH.cons rfl (fun K hK => ?_) AllReadyH.nil
  go_simp
  refine (refu_any c.op _ HWD.out.op).mono ?_
  rintro e wa3 ⟨rfl, hba3⟩
  have HGa3 := Lib.hid (HGa2.out.trans (hba3.mono HGa2.out.size))
  have HSa3 : Hid ((fun W : World => Bw W w.heap.size (cc c (.string (txt c.dt))) 36) wa3) := HSa2.out.below hba3
  refine hK.out _ _ HSa3.out fun _ => ?_
  clear hK K hba3 HSa2 HGa2
  obtain ⟨qa2, hq⟩ : ∃ q, qa1 ++ be 4 c.op = q := ⟨_, rfl⟩
  have HLqa2 : Hid (qa2.length ≤ 12) := by show _ ≤ _; rw [← hq, List.length_append, be_length]; have := HLqa1.out; omega
  have y : ¬ 9223372036854775807 < (txt (qa1)).size + (txt (be 4 c.op)).size := by have h9 := HLqa2.out; rw [← hq, List.length_append] at h9; rw [txt_size, txt_size]; omega
  have z : txt (qa1) ++ txt (be 4 c.op) = txt qa2 := by rw [txt_append, hq]
  have HQqa2 := Lib.hid hq
  clear hq
  refine takeH (i := 10) 41 (.string (txt qa2)) rfl rfl (by kernel_rfl) (by kernel_rfl) (by kernel_rfl) (fun _ _ _ h => h) (.inl ⟨by rfl, fun W hW => by go_simp⟩) HSa3.out ?_
  simp only [Act.put, List.setIfInBounds_toArray, List.set_cons_zero, List.set_cons_succ]
  clear y z
  refine wpAnyH_ready (rs := [14]) (by kernel_rfl) (by simp) ?_
  refine AllReadyH.cons rfl (fun K hK => ?_) AllReadyH.nil
  go_simp
  refine (refu_any c.ati _ HWD.out.ati).mono ?_
  rintro e wa4 ⟨rfl, hba4⟩
  have HGa4 := Lib.hid (HGa3.out.trans (hba4.mono HGa3.out.size))
  have HSa4 : Hid ((fun W : World => Bw W w.heap.size (cc c (.string (txt c.dt))) 36) wa4) := HSa3.out.below hba4
  refine hK.out _ _ HSa4.out fun _ => ?_
  clear hK K hba4 HSa3 HGa3
  obtain ⟨qa3, hq⟩ : ∃ q, qa2 ++ be 4 c.ati = q := ⟨_, rfl⟩
  have HLqa3 : Hid (qa3.length ≤ 16) := by show _ ≤ _; rw [← hq, List.length_append, be_length]; have := HLqa2.out; omega
  have y : ¬ 9223372036854775807 < (txt (qa2)).size + (txt (be 4 c.ati)).size := by have h9 := HLqa3.out; rw [← hq, List.length_append] at h9; rw [txt_size, txt_size]; omega
  have z : txt (qa2) ++ txt (be 4 c.ati) = txt qa3 := by rw [txt_append, hq]
  have HQqa3 := Lib.hid hq
  clear hq
  refine takeH (i := 15) 46 (.string (txt qa3)) rfl rfl (by kernel_rfl) (by kernel_rfl) (by kernel_rfl) (fun _ _ _ h => h) (.inl ⟨by rfl, fun W hW => by go_simp⟩) HSa4.out ?_
  simp only [Act.put, List.setIfInBounds_toArray, List.set_cons_zero, List.set_cons_succ]
  clear y z
  refine wpAnyH_ready (rs := [19]) (by kernel_rfl) (by simp) ?_
  refine AllReadyH.cons rfl (fun K hK => ?_) AllReadyH.nil
  go_simp
  refine (refu_any c.atg _ HWD.out.atg).mono ?_
  rintro e wa5 ⟨rfl, hba5⟩
  have HGa5 := Lib.hid (HGa4.out.trans (hba5.mono HGa4.out.size))
  have HSa5 : Hid ((fun W : World => Bw W w.heap.size (cc c (.string (txt c.dt))) 36) wa5) := HSa4.out.below hba5
  refine hK.out _ _ HSa5.out fun _ => ?_
  clear hK K hba5 HSa4 HGa4
  obtain ⟨qa4, hq⟩ : ∃ q, qa3 ++ be 4 c.atg = q := ⟨_, rfl⟩
  have HLqa4 : Hid (qa4.length ≤ 20) := by show _ ≤ _; rw [← hq, List.length_append, be_length]; have := HLqa3.out; omega
  have y : ¬ 9223372036854775807 < (txt (qa3)).size + (txt (be 4 c.atg)).size := by have h9 := HLqa4.out; rw [← hq, List.length_append] at h9; rw [txt_size, txt_size]; omega
  have z : txt (qa3) ++ txt (be 4 c.atg) = txt qa4 := by rw [txt_append, hq]
  have HQqa4 := Lib.hid hq
  clear hq
  refine takeH (i := 20) 51 (.string (txt qa4)) rfl rfl (by kernel_rfl) (by kernel_rfl) (by kernel_rfl) (fun _ _ _ h => h) (.inl ⟨by rfl, fun W hW => by go_simp⟩) HSa5.out ?_
  simp only [Act.put, List.setIfInBounds_toArray, List.set_cons_zero, List.set_cons_succ]
  clear y z
  refine wpAnyH_ready (rs := [23]) (by kernel_rfl) (by simp) ?_
  refine AllReadyH.cons rfl (fun K hK => ?_) AllReadyH.nil
  go_simp
  refine (refOpaque c.nm _ (by have := HO.out; omega)).mono ?_
  rintro e wa6 ⟨rfl, hba6⟩
  have HGa6 := Lib.hid (HGa5.out.trans (hba6.mono HGa5.out.size))
  have HSa6 : Hid ((fun W : World => Bw W w.heap.size (cc c (.string (txt c.dt))) 36) wa6) := HSa5.out.below hba6
  refine hK.out _ _ HSa6.out fun _ => ?_
  clear hK K hba6 HSa5 HGa5
  obtain ⟨qa5, hq⟩ : ∃ q, qa4 ++ opq c.nm = q := ⟨_, rfl⟩
  have HLqa5 : Hid (qa5.length ≤ 91) := by show _ ≤ _; rw [← hq, List.length_append]; have := HLqa4.out; have := HO.out; omega
  have y : ¬ 9223372036854775807 < (txt (qa4)).size + (txt (opq c.nm)).size := by have h9 := HLqa5.out; rw [← hq, List.length_append] at h9; rw [txt_size, txt_size]; omega
  have z : txt (qa4) ++ txt (opq c.nm) = txt qa5 := by rw [txt_append, hq]
  have HQqa5 := Lib.hid hq
  clear hq
  refine takeH (i := 24) 55 (.string (txt qa5)) rfl rfl (by kernel_rfl) (by kernel_rfl) (by kernel_rfl) (fun _ _ _ h => h) (.inl ⟨by rfl, fun W hW => by go_simp⟩) HSa6.out ?_
  simp only [Act.put, List.setIfInBounds_toArray, List.set_cons_zero, List.set_cons_succ]
  clear y z
  refine wpAnyH_ready (rs := [28]) (by kernel_rfl) (by simp) ?_
  refine AllReadyH.cons rfl (fun K hK => ?_) AllReadyH.nil
  go_simp
  refine (refu_any c.toi _ HWD.out.toi).mono ?_
  rintro e wa7 ⟨rfl, hba7⟩
  have HGa7 := Lib.hid (HGa6.out.trans (hba7.mono HGa6.out.size))
  have HSa7 : Hid ((fun W : World => Bw W w.heap.size (cc c (.string (txt c.dt))) 36) wa7) := HSa6.out.below hba7
  refine hK.out _ _ HSa7.out fun _ => ?_
  clear hK K hba7 HSa6 HGa6
  obtain ⟨qa6, hq⟩ : ∃ q, qa5 ++ be 4 c.toi = q := ⟨_, rfl⟩
  have HLqa6 : Hid (qa6.length ≤ 95) := by show _ ≤ _; rw [← hq, List.length_append, be_length]; have := HLqa5.out; omega
  have y : ¬ 9223372036854775807 < (txt (qa5)).size + (txt (be 4 c.toi)).size := by have h9 := HLqa6.out; rw [← hq, List.length_append] at h9; rw [txt_size, txt_size]; omega
  have z : txt (qa5) ++ txt (be 4 c.toi) = txt qa6 := by rw [txt_append, hq]
  have HQqa6 := Lib.hid hq
  clear hq
  refine takeH (i := 29) 60 (.string (txt qa6)) rfl rfl (by kernel_rfl) (by kernel_rfl) (by kernel_rfl) (fun _ _ _ h => h) (.inl ⟨by rfl, fun W hW => by go_simp⟩) HSa7.out ?_
  simp only [Act.put, List.setIfInBounds_toArray, List.set_cons_zero, List.set_cons_succ]
  clear y z
  refine wpAnyH_ready (rs := [33]) (by kernel_rfl) (by simp) ?_
  refine AllReadyH.cons rfl (fun K hK => ?_) AllReadyH.nil
  go_simp
  refine (refu_any c.tog _ HWD.out.tog).mono ?_
  rintro e wa8 ⟨rfl, hba8⟩
  have HGa8 := Lib.hid (HGa7.out.trans (hba8.mono HGa7.out.size))
  have HSa8 : Hid ((fun W : World => Bw W w.heap.size (cc c (.string (txt c.dt))) 36) wa8) := HSa7.out.below hba8
  refine hK.out _ _ HSa8.out fun _ => ?_
  clear hK K hba8 HSa7 HGa7
  obtain ⟨qa7, hq⟩ : ∃ q, qa6 ++ be 4 c.tog = q := ⟨_, rfl⟩
  have HLqa7 : Hid (qa7.length ≤ 99) := by show _ ≤ _; rw [← hq, List.length_append, be_length]; have := HLqa6.out; omega
  have y : ¬ 9223372036854775807 < (txt (qa6)).size + (txt (be 4 c.tog)).size := by have h9 := HLqa7.out; rw [← hq, List.length_append] at h9; rw [txt_size, txt_size]; omega
  have z : txt (qa6) ++ txt (be 4 c.tog) = txt qa7 := by rw [txt_append, hq]
  have HQqa7 := Lib.hid hq
  clear hq
  refine takeH (i := 34) 65 (.string (txt qa7)) rfl rfl (by kernel_rfl) (by kernel_rfl) (by kernel_rfl) (fun _ _ _ h => h) (.inl ⟨by rfl, fun W hW => by go_simp⟩) HSa8.out ?_
  simp only [Act.put, List.setIfInBounds_toArray, List.set_cons_zero, List.set_cons_succ]
  clear y z
  refine wpAnyH_ready (rs := [37]) (by kernel_rfl) (by simp) ?_
  refine AllReadyH.cons rfl (fun K hK => ?_) AllReadyH.nil
  go_simp
  refine (refOpaque c.tn _ (by have := HO.out; omega)).mono ?_
  rintro e wa9 ⟨rfl, hba9⟩
  have HGa9 := Lib.hid (HGa8.out.trans (hba9.mono HGa8.out.size))
  have HSa9 : Hid ((fun W : World => Bw W w.heap.size (cc c (.string (txt c.dt))) 36) wa9) := HSa8.out.below hba9
  refine hK.out _ _ HSa9.out fun _ => ?_
  clear hK K hba9 HSa8 HGa8
  obtain ⟨qa8, hq⟩ : ∃ q, qa7 ++ opq c.tn = q := ⟨_, rfl⟩
  have HLqa8 : Hid (qa8.length ≤ 170) := by show _ ≤ _; rw [← hq, List.length_append]; have := HLqa7.out; have := HO.out; omega
  have y : ¬ 9223372036854775807 < (txt (qa7)).size + (txt (opq c.tn)).size := by have h9 := HLqa8.out; rw [← hq, List.length_append] at h9; rw [txt_size, txt_size]; omega
  have z : txt (qa7) ++ txt (opq c.tn) = txt qa8 := by rw [txt_append, hq]
  have HQqa8 := Lib.hid hq
  clear hq
  refine takeH (i := 38) 69 (.string (txt qa8)) rfl rfl (by kernel_rfl) (by kernel_rfl) (by kernel_rfl) (fun _ _ _ h => h) (.inl ⟨by rfl, fun W hW => by go_simp⟩) HSa9.out ?_
  simp only [Act.put, List.setIfInBounds_toArray, List.set_cons_zero, List.set_cons_succ]
  clear y z
  refine takeH (i := 39) 4 (.string (txt qa8)) rfl rfl (by kernel_rfl) (by kernel_rfl) (by kernel_rfl) (fun _ _ _ h => h) (.inl ⟨by rfl, fun W hW => by go_simp⟩) HSa9.out ?_
  simp only [Act.put, List.setIfInBounds_toArray, List.set_cons_zero, List.set_cons_succ]
  refine wpAnyH_done (by kernel_rfl) ?_ _
  go_upto_region 4 with fail
  have HS1 : Hid ((fun W : World => Bw W w.heap.size (cc c (.string (txt c.dt))) 36) wa9.drew) := HSa9.out
  have HG1 : Hid (Below w.heap.size w wa9.drew) := HGa9.out.drew
  clear HSa9 HGa9
  refine wp_region_held_drew (S := fun W : World => Bw W w.heap.size (cc c (.string (txt c.dt))) 36) (by kernel_rfl) HS1.out (fun _ => ?_)
  change wpAnyH _ _ _ _ _ 23 (Array.replicate 23 false) _ _
  refine takeH (i := 0) 70 (.string (txt qa8)) rfl rfl (by kernel_rfl) (by kernel_rfl) (by kernel_rfl) (fun _ _ _ h => h) (.inl ⟨by rfl, fun W hW => by go_simp⟩) HS1.out ?_
  simp only [Act.put, List.setIfInBounds_toArray, List.set_cons_zero, List.set_cons_succ]
  refine takeH (i := 1) 71 (.pointer (some ⟨w.heap.size, 9, none⟩)) rfl rfl (by kernel_rfl) (by kernel_rfl) (by kernel_rfl) (fun _ _ _ h => h) (.inl ⟨by rfl, fun W hW => by go_simp⟩) HS1.out ?_
  simp only [Act.put, List.setIfInBounds_toArray, List.set_cons_zero, List.set_cons_succ]
  refine takeH (i := 2) 72 (.int .u64 (c.off : Int)) rfl rfl (by kernel_rfl) (by kernel_rfl) (by kernel_rfl) (fun _ _ _ h => h) (.inl ⟨by rfl, fun W hW => by (have hz := hW.cell 9 _ rfl; go_simp)⟩) HS1.out ?_
  simp only [Act.put, List.setIfInBounds_toArray, List.set_cons_zero, List.set_cons_succ]
  refine takeH (i := 5) 75 (.pointer (some ⟨w.heap.size, 10, none⟩)) rfl rfl (by kernel_rfl) (by kernel_rfl) (by kernel_rfl) (fun _ _ _ h => h) (.inl ⟨by rfl, fun W hW => by go_simp⟩) HS1.out ?_
  simp only [Act.put, List.setIfInBounds_toArray, List.set_cons_zero, List.set_cons_succ]
  refine takeH (i := 6) 76 (.int .u64 (c.vf : Int)) rfl rfl (by kernel_rfl) (by kernel_rfl) (by kernel_rfl) (fun _ _ _ h => h) (.inl ⟨by rfl, fun W hW => by (have hz := hW.cell 10 _ rfl; go_simp)⟩) HS1.out ?_
  simp only [Act.put, List.setIfInBounds_toArray, List.set_cons_zero, List.set_cons_succ]
  refine takeH (i := 9) 79 (.pointer (some ⟨w.heap.size, 11, none⟩)) rfl rfl (by kernel_rfl) (by kernel_rfl) (by kernel_rfl) (fun _ _ _ h => h) (.inl ⟨by rfl, fun W hW => by go_simp⟩) HS1.out ?_
  simp only [Act.put, List.setIfInBounds_toArray, List.set_cons_zero, List.set_cons_succ]
  refine takeH (i := 10) 80 (.int .u32 (c.cnt : Int)) rfl rfl (by kernel_rfl) (by kernel_rfl) (by kernel_rfl) (fun _ _ _ h => h) (.inl ⟨by rfl, fun W hW => by (have hz := hW.cell 11 _ rfl; go_simp)⟩) HS1.out ?_
  simp only [Act.put, List.setIfInBounds_toArray, List.set_cons_zero, List.set_cons_succ]
  refine takeH (i := 13) 83 (.pointer (some ⟨w.heap.size, 12, none⟩)) rfl rfl (by kernel_rfl) (by kernel_rfl) (by kernel_rfl) (fun _ _ _ h => h) (.inl ⟨by rfl, fun W hW => by go_simp⟩) HS1.out ?_
  simp only [Act.put, List.setIfInBounds_toArray, List.set_cons_zero, List.set_cons_succ]
  refine takeH (i := 14) 84 (.int .u32 (c.md : Int)) rfl rfl (by kernel_rfl) (by kernel_rfl) (by kernel_rfl) (fun _ _ _ h => h) (.inl ⟨by rfl, fun W hW => by (have hz := hW.cell 12 _ rfl; go_simp)⟩) HS1.out ?_
  simp only [Act.put, List.setIfInBounds_toArray, List.set_cons_zero, List.set_cons_succ]
  refine takeH (i := 17) 87 (.pointer (some ⟨w.heap.size, 13, none⟩)) rfl rfl (by kernel_rfl) (by kernel_rfl) (by kernel_rfl) (fun _ _ _ h => h) (.inl ⟨by rfl, fun W hW => by go_simp⟩) HS1.out ?_
  simp only [Act.put, List.setIfInBounds_toArray, List.set_cons_zero, List.set_cons_succ]
  refine takeH (i := 18) 88 (.string (txt c.dt)) rfl rfl (by kernel_rfl) (by kernel_rfl) (by kernel_rfl) (fun _ _ _ h => h) (.inl ⟨by rfl, fun W hW => by (have hz := hW.cell 13 _ rfl; go_simp)⟩) HS1.out ?_
  simp only [Act.put, List.setIfInBounds_toArray, List.set_cons_zero, List.set_cons_succ]
  refine wpAnyH_ready (rs := [3]) (by kernel_rfl) (by simp) ?_
  refine AllReadyH.cons rfl (fun K hK => ?_) AllReadyH.nil
  go_simp
  refine (refU64 c.off _ HWD.out.off).mono ?_
  rintro e wb1 ⟨rfl, hbb1⟩
  have HGb1 := Lib.hid (HG1.out.trans (hbb1.mono HG1.out.size))
  have HSb1 : Hid ((fun W : World => Bw W w.heap.size (cc c (.string (txt c.dt))) 36) wb1) := HS1.out.below hbb1
  refine hK.out _ _ HSb1.out fun _ => ?_
  clear hK K hbb1 HS1 HG1
  obtain ⟨qb1, hq⟩ : ∃ q, qa8 ++ be 8 c.off = q := ⟨_, rfl⟩
  have HLqb1 : Hid (qb1.length ≤ 178) := by show _ ≤ _; rw [← hq, List.length_append, be_length]; have := HLqa8.out; omega
  have y : ¬ 9223372036854775807 < (txt (qa8)).size + (txt (be 8 c.off)).size := by have h9 := HLqb1.out; rw [← hq, List.length_append] at h9; rw [txt_size, txt_size]; omega
  have z : txt (qa8) ++ txt (be 8 c.off) = txt qb1 := by rw [txt_append, hq]
  have HQqb1 := Lib.hid hq
  clear hq
  refine takeH (i := 4) 74 (.string (txt qb1)) rfl rfl (by kernel_rfl) (by kernel_rfl) (by kernel_rfl) (fun _ _ _ h => h) (.inl ⟨by rfl, fun W hW => by go_simp⟩) HSb1.out ?_
  simp only [Act.put, List.setIfInBounds_toArray, List.set_cons_zero, List.set_cons_succ]
  clear y z
  refine wpAnyH_ready (rs := [7]) (by kernel_rfl) (by simp) ?_
  refine AllReadyH.cons rfl (fun K hK => ?_) AllReadyH.nil
  go_simp
  refine (refU64 c.vf _ HWD.out.vf).mono ?_
  rintro e wb2 ⟨rfl, hbb2⟩
  have HGb2 := Lib.hid (HGb1.out.trans (hbb2.mono HGb1.out.size))
  have HSb2 : Hid ((fun W : World => Bw W w.heap.size (cc c (.string (txt c.dt))) 36) wb2) := HSb1.out.below hbb2
  refine hK.out _ _ HSb2.out fun _ => ?_
  clear hK K hbb2 HSb1 HGb1
  obtain ⟨qb2, hq⟩ : ∃ q, qb1 ++ be 8 c.vf = q := ⟨_, rfl⟩
  have HLqb2 : Hid (qb2.length ≤ 186) := by show _ ≤ _; rw [← hq, List.length_append, be_length]; have := HLqb1.out; omega
  have y : ¬ 9223372036854775807 < (txt (qb1)).size + (txt (be 8 c.vf)).size := by have h9 := HLqb2.out; rw [← hq, List.length_append] at h9; rw [txt_size, txt_size]; omega
  have z : txt (qb1) ++ txt (be 8 c.vf) = txt qb2 := by rw [txt_append, hq]
  have HQqb2 := Lib.hid hq
  clear hq
  refine takeH (i := 8) 78 (.string (txt qb2)) rfl rfl (by kernel_rfl) (by kernel_rfl) (by kernel_rfl) (fun _ _ _ h => h) (.inl ⟨by rfl, fun W hW => by go_simp⟩) HSb2.out ?_
  simp only [Act.put, List.setIfInBounds_toArray, List.set_cons_zero, List.set_cons_succ]
  clear y z
  refine wpAnyH_ready (rs := [11]) (by kernel_rfl) (by simp) ?_
  refine AllReadyH.cons rfl (fun K hK => ?_) AllReadyH.nil
  go_simp
  refine (refu_any c.cnt _ HWD.out.cnt).mono ?_
  rintro e wb3 ⟨rfl, hbb3⟩
  have HGb3 := Lib.hid (HGb2.out.trans (hbb3.mono HGb2.out.size))
  have HSb3 : Hid ((fun W : World => Bw W w.heap.size (cc c (.string (txt c.dt))) 36) wb3) := HSb2.out.below hbb3
  refine hK.out _ _ HSb3.out fun _ => ?_
  clear hK K hbb3 HSb2 HGb2
  obtain ⟨qb3, hq⟩ : ∃ q, qb2 ++ be 4 c.cnt = q := ⟨_, rfl⟩
  have HLqb3 : Hid (qb3.length ≤ 190) := by show _ ≤ _; rw [← hq, List.length_append, be_length]; have := HLqb2.out; omega
  have y : ¬ 9223372036854775807 < (txt (qb2)).size + (txt (be 4 c.cnt)).size := by have h9 := HLqb3.out; rw [← hq, List.length_append] at h9; rw [txt_size, txt_size]; omega
  have z : txt (qb2) ++ txt (be 4 c.cnt) = txt qb3 := by rw [txt_append, hq]
  have HQqb3 := Lib.hid hq
  clear hq
  refine takeH (i := 12) 82 (.string (txt qb3)) rfl rfl (by kernel_rfl) (by kernel_rfl) (by kernel_rfl) (fun _ _ _ h => h) (.inl ⟨by rfl, fun W hW => by go_simp⟩) HSb3.out ?_
  simp only [Act.put, List.setIfInBounds_toArray, List.set_cons_zero, List.set_cons_succ]
  clear y z
  refine wpAnyH_ready (rs := [15]) (by kernel_rfl) (by simp) ?_
  refine AllReadyH.cons rfl (fun K hK => ?_) AllReadyH.nil
  go_simp
  refine (refu_any c.md _ HWD.out.md).mono ?_
  rintro e wb4 ⟨rfl, hbb4⟩
  have HGb4 := Lib.hid (HGb3.out.trans (hbb4.mono HGb3.out.size))
  have HSb4 : Hid ((fun W : World => Bw W w.heap.size (cc c (.string (txt c.dt))) 36) wb4) := HSb3.out.below hbb4
  refine hK.out _ _ HSb4.out fun _ => ?_
  clear hK K hbb4 HSb3 HGb3
  obtain ⟨qb4, hq⟩ : ∃ q, qb3 ++ be 4 c.md = q := ⟨_, rfl⟩
  have HLqb4 : Hid (qb4.length ≤ 194) := by show _ ≤ _; rw [← hq, List.length_append, be_length]; have := HLqb3.out; omega
  have y : ¬ 9223372036854775807 < (txt (qb3)).size + (txt (be 4 c.md)).size := by have h9 := HLqb4.out; rw [← hq, List.length_append] at h9; rw [txt_size, txt_size]; omega
  have z : txt (qb3) ++ txt (be 4 c.md) = txt qb4 := by rw [txt_append, hq]
  have HQqb4 := Lib.hid hq
  clear hq
  refine takeH (i := 16) 86 (.string (txt qb4)) rfl rfl (by kernel_rfl) (by kernel_rfl) (by kernel_rfl) (fun _ _ _ h => h) (.inl ⟨by rfl, fun W hW => by go_simp⟩) HSb4.out ?_
  simp only [Act.put, List.setIfInBounds_toArray, List.set_cons_zero, List.set_cons_succ]
  clear y z
  refine wpAnyH_ready (rs := [19]) (by kernel_rfl) (by simp) ?_
  refine AllReadyH.cons rfl (fun K hK => ?_) AllReadyH.nil
  go_simp
  refine (refOpaque c.dt _ (by have := HO.out; omega)).mono ?_
  rintro e wb5 ⟨rfl, hbb5⟩
  have HGb5 := Lib.hid (HGb4.out.trans (hbb5.mono HGb4.out.size))
  have HSb5 : Hid ((fun W : World => Bw W w.heap.size (cc c (.string (txt c.dt))) 36) wb5) := HSb4.out.below hbb5
  refine hK.out _ _ HSb5.out fun _ => ?_
  clear hK K hbb5 HSb4 HGb4
  obtain ⟨qb5, hq⟩ : ∃ q, qb4 ++ opq c.dt = q := ⟨_, rfl⟩
  have HLqb5 : Hid (qb5.length ≤ 1225) := by show _ ≤ _; rw [← hq, List.length_append]; have := HLqb4.out; have := HO.out; omega
  have y : ¬ 9223372036854775807 < (txt (qb4)).size + (txt (opq c.dt)).size := by have h9 := HLqb5.out; rw [← hq, List.length_append] at h9; rw [txt_size, txt_size]; omega
  have z : txt (qb4) ++ txt (opq c.dt) = txt qb5 := by rw [txt_append, hq]
  have HQqb5 := Lib.hid hq
  clear hq
  refine takeH (i := 20) 90 (.string (txt qb5)) rfl rfl (by kernel_rfl) (by kernel_rfl) (by kernel_rfl) (fun _ _ _ h => h) (.inl ⟨by rfl, fun W hW => by go_simp⟩) HSb5.out ?_
  simp only [Act.put, List.setIfInBounds_toArray, List.set_cons_zero, List.set_cons_succ]
  clear y z
  refine takeH (i := 21) 2 (.string (txt qb5)) rfl rfl (by kernel_rfl) (by kernel_rfl) (by kernel_rfl) (fun _ _ _ h => h) (.inl ⟨by rfl, fun W hW => by go_simp⟩) HSb5.out ?_
  simp only [Act.put, List.setIfInBounds_toArray, List.set_cons_zero, List.set_cons_succ]
  refine takeH (i := 22) 3 (.int .i64 0) rfl rfl (by kernel_rfl) (by kernel_rfl) (by kernel_rfl) (fun _ _ _ h => h) (.inl ⟨by rfl, fun W hW => by go_simp⟩) HSb5.out ?_
  simp only [Act.put, List.setIfInBounds_toArray, List.set_cons_zero, List.set_cons_succ]
  refine wpAnyH_done (by kernel_rfl) ?_ _
  have HT : Hid (qb5 = c.enc) := by
    show _ = _
    rw [Cl.enc_eq, ← HQqb5.out, ← HQqb4.out, ← HQqb3.out, ← HQqb2.out, ← HQqb1.out, ← HQqa8.out, ← HQqa7.out, ← HQqa6.out, ← HQqa5.out, ← HQqa4.out, ← HQqa3.out, ← HQqa2.out, ← HQqa1.out]
    simp only [List.append_assoc]
  rw [HT.out]
  go_wp2_with fail
  go_ret2
  exact ⟨rfl, HGb5.out⟩
end Go.Proofs.YtobhmjokoicpoaaDoor
