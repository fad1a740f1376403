/-
  The document's PutReply, walked (layer 9).
-/
import Derived.Test.YtobhmjokoicpoaaDoorKRPut
import Derived.Test.YtobhmjokoicpoaaDoorKRBase
namespace Go.Proofs.YtobhmjokoicpoaaDoor
open Go.RowKit Go.Shelf

theorem refStatus_any (z : Int) (w : World) : Calls Tryd.prog 47 #[.int .i64 z] w fun e w' => e = .returned (.bool (stOk z)) ∧ w = w' := by
  by_cases h0 : z = 0
  · subst h0
    go_enter Tryd.func47, Tryd.ntmps47
    go_wp2
    go_ret
    exact ⟨rfl, rfl⟩
  · have h0' : (z == 0) = false := by simp [h0]
    by_cases h1 : 60 ≤ z
    · by_cases h2 : z ≤ 71
      · have HE : Hid (stOk z = true) := (stOk_iff z).2 (.inr ⟨h1, h2⟩)
        go_enter Tryd.func47, Tryd.ntmps47
        go_wp2
        go_ret
        rw [HE.out]
        exact ⟨rfl, rfl⟩
      · have HE : Hid (stOk z = false) := by show _ = _; simp [stOk, h0, h2]
        go_enter Tryd.func47, Tryd.ntmps47
        go_wp2
        go_ret
        rw [HE.out]
        exact ⟨rfl, rfl⟩
    · have HE : Hid (stOk z = false) := by show _ = _; simp [stOk, h0, h1]
      go_enter Tryd.func47, Tryd.ntmps47
      go_wp2
      go_ret
      rw [HE.out]
      exact ⟨rfl, rfl⟩

set_option maxRecDepth 100000 in
set_option maxHeartbeats 8000000 in
theorem refPutReply_any (r : Rp) (A : Option Addr) (m cq : Nat) (w : World) (h : ES w A m r.es) (hw : r.Wide) :
    Calls Tryd.prog 18 #[.agg (rc r (.string (txt r.dt)) (.slice A m cq)).toArray] w fun e w' => e = .returned (.tuple #[.string (txt r.put), .int .i64 r.errP]) ∧ Below w.heap.size w w' := by
  have HWD := Lib.hid hw
  have HES := Lib.hid h
  have HML : Hid (r.es.length = m) := h.1
  have s3 : (txt r.dt).size = r.dt.length := txt_size _
  clear hw h
  have HOK := Lib.hid r.okB_iff
  have HOA := Lib.hid r.okA_iff
  go_enter Tryd.func18, Tryd.ntmps18
  go_upto_region 1 with fail
  have HB0 : Hid (Bw (w.alloc (.cells (rc r (.string (txt r.dt)) (.slice A m cq)).toArray 54)) w.heap.size (rc r (.string (txt r.dt)) (.slice A m cq)) 54) := heap_alloc_new w _
  have HW0 : Hid (Below w.heap.size w (w.alloc (.cells (rc r (.string (txt r.dt)) (.slice A m cq)).toArray 54))) := (Below.refl _ w).alloc (Nat.le_refl _) _
  generalize w.alloc (.cells (rc r (.string (txt r.dt)) (.slice A m cq)).toArray 54) = w0 at *
  have e2 := HB0.out.cell 2 _ rfl
  have e10 := HB0.out.cell 10 _ rfl
  have e11 := HB0.out.cell 11 _ rfl
  go_wp2_with fail
  refine (refStatus_any r.st w0).mono ?_
  rintro e w1 ⟨rfl, rfl⟩
  by_cases hs : stOk r.st = true
  rotate_left
  · have hs' : stOk r.st = false := by simpa using hs
    have HP : Hid (r.put = []) := if_neg (fun h => hs (HOA.out.1 (HOK.out.1 h).1).1)
    have HE : Hid (r.errP = 1) := if_neg (fun h => hs (HOA.out.1 h).1)
    rw [hs']
    clear hs hs'
    go_wp2_with fail
    go_ret2
    exact ⟨by rw [HP.out, HE.out] <;> rfl, HW0.out⟩
  rw [hs]
  by_cases hl : r.dt.length ≤ 1024
  rotate_left
  · have g1 : decide ((1024 : Int) < (r.dt.length : Int)) = true := by simp; omega
    have HP : Hid (r.put = []) := if_neg (fun h => hl (HOA.out.1 (HOK.out.1 h).1).2.1)
    have HE : Hid (r.errP = 1) := if_neg (fun h => hl (HOA.out.1 h).2.1)
    clear hs hl
    go_wp2_with fail
    go_ret2
    exact ⟨by rw [HP.out, HE.out] <;> rfl, HW0.out⟩
  have g1 : decide ((1024 : Int) < (r.dt.length : Int)) = false := by simp; omega
  by_cases hm : m ≤ 24
  rotate_left
  · have g2 : decide ((24 : Int) < (m : Int)) = true := by simp; omega
    have HP : Hid (r.put = []) := if_neg (fun h => hm (HML.out ▸ (HOA.out.1 (HOK.out.1 h).1).2.2))
    have HE : Hid (r.errP = 1) := if_neg (fun h => hm (HML.out ▸ (HOA.out.1 h).2.2))
    clear hs hl hm
    go_wp2_with fail
    go_ret2
    exact ⟨by rw [HP.out, HE.out] <;> rfl, HW0.out⟩
  have g2 : decide ((24 : Int) < (m : Int)) = false := by simp; omega
  have HOKA : Hid (r.okA = true) := HOA.out.2 ⟨hs, hl, by rw [HML.out]; exact hm⟩
  have HST := Lib.hid ((stOk_iff _).1 hs)
  have HLE : Hid (r.dt.length ≤ 1024 ∧ m ≤ 24) := ⟨hl, hm⟩
  clear hs hl hm
  go_wp2_with fail
  refine (refPut_any A m cq r.es w0 (HES.out.below HW0.out) HWD.out.es (by have := HLE.out; omega) (fun h => by
    have h1 := encs_len r.es (okB_names _ h)
    have h2 := HML.out
    have h3 := HLE.out
    omega)).mono ?_
  rintro e w2 ⟨rfl, hb2⟩
  have HB2 := Lib.hid (HB0.out.below hb2)
  have HW2 := Lib.hid (HW0.out.trans (hb2.mono HW0.out.size))
  clear hb2 HB0 HW0 g1 g2 e2 e10 e11
  by_cases hk : okB r.es = true
  rotate_left
  · have hz : chkE r.es = 11 := if_neg hk
    have HP : Hid (r.put = []) := if_neg (fun h => hk (HOK.out.1 h).2)
    have HE : Hid (r.errP = 11) := (if_pos HOKA.out).trans hz
    rw [hz]
    clear hk hz
    go_wp2_with fail
    go_ret2
    exact ⟨by rw [HP.out, HE.out] <;> rfl, HW2.out⟩
  have hz : chkE r.es = 0 := if_pos hk
  have hpu : putE r.es = encs r.es := if_pos hk
  have HE : Hid (r.errP = 0) := (if_pos HOKA.out).trans hz
  have HP : Hid (r.put = r.enc) := if_pos (HOK.out.2 ⟨HOKA.out, hk⟩)
  have HLR : Hid ((encs r.es).length ≤ 1100) := by
    have h1 := encs_len r.es (okB_names _ hk)
    have h2 := HML.out
    have h3 := HLE.out
    show _ ≤ _
    omega
  rw [hz, hpu]
  obtain ⟨row, hrow⟩ : ∃ l, encs r.es = l := ⟨_, rfl⟩
  rw [hrow] at HLR ⊢
  have HROW := Lib.hid hrow
  have p1 := opq_len_le r.dt
  have p2 := opq_len_le row
  have HO : Hid ((opq r.dt).length ≤ 1031 ∧ (opq row).length ≤ 1107 ∧ r.dt.length ≤ 1024 ∧ row.length ≤ 1100) := by
    have h1 := HLE.out
    have h2 := HLR.out
    show _ ∧ _
    omega
  obtain ⟨sn, hsn⟩ : ∃ k : Nat, r.st.toNat = k := ⟨_, rfl⟩
  have HSN : Hid (sn < 4294967296) := by have := HST.out; show _ < _; omega
  have HSQ := Lib.hid hsn
  have HCV : Hid (IntKind.u32.wrap r.st = (sn : Int)) := by
    have h1 := HST.out
    show _ = _
    rcases h1 with h1 | h1
    · rw [h1] at hsn ⊢; subst hsn; rfl
    · obtain ⟨k, hk⟩ := Int.eq_ofNat_of_zero_le (show 0 ≤ r.st by omega)
      rw [hk] at hsn ⊢
      rw [Int.toNat_natCast] at hsn
      subst hsn
      have : k < 72 := by omega
      simp [IntKind.wrap, IntKind.bits, IntKind.signed]
      omega
  clear hk hz hpu hrow p1 p2 s3 hsn
  go_upto_region 7 with fail
  have HS0 : Hid ((fun W : World => Bw W w.heap.size (rc r (.string (txt r.dt)) (.slice A m cq)) 54) w2.drew) := HB2.out
  have HG0 : Hid (Below w.heap.size w w2.drew) := HW2.out.drew
  have hcv := HCV.out
  clear HB2 HW2
  refine wp_region_held_drew (S := fun W : World => Bw W w.heap.size (rc r (.string (txt r.dt)) (.slice A m cq)) 54) (by kernel_rfl) HS0.out (fun _ => ?_)
  change wpAnyH _ _ _ _ _ 48 (Array.replicate 48 false) _ _
  refine takeH (i := 0) 34 (.pointer (some ⟨w.heap.size, 0, none⟩)) rfl rfl (by kernel_rfl) (by kernel_rfl) (by kernel_rfl) (fun _ _ _ h => h) (.inl ⟨by rfl, fun W hW => by go_simp⟩) HS0.out ?_
  simp only [Act.put, List.setIfInBounds_toArray, List.set_cons_zero, List.set_cons_succ]
  refine takeH (i := 1) 35 (.int .u32 (r.cli : Int)) rfl rfl (by kernel_rfl) (by kernel_rfl) (by kernel_rfl) (fun _ _ _ h => h) (.inl ⟨by rfl, fun W hW => by (have hz := hW.cell 0 _ rfl; go_simp)⟩) HS0.out ?_
  simp only [Act.put, List.setIfInBounds_toArray, List.set_cons_zero, List.set_cons_succ]
  refine takeH (i := 3) 37 (.pointer (some ⟨w.heap.size, 1, none⟩)) rfl rfl (by kernel_rfl) (by kernel_rfl) (by kernel_rfl) (fun _ _ _ h => h) (.inl ⟨by rfl, fun W hW => by go_simp⟩) HS0.out ?_
  simp only [Act.put, List.setIfInBounds_toArray, List.set_cons_zero, List.set_cons_succ]
  refine takeH (i := 4) 38 (.int .u32 (r.xid : Int)) rfl rfl (by kernel_rfl) (by kernel_rfl) (by kernel_rfl) (fun _ _ _ h => h) (.inl ⟨by rfl, fun W hW => by (have hz := hW.cell 1 _ rfl; go_simp)⟩) HS0.out ?_
  simp only [Act.put, List.setIfInBounds_toArray, List.set_cons_zero, List.set_cons_succ]
  refine takeH (i := 7) 41 (.pointer (some ⟨w.heap.size, 2, none⟩)) rfl rfl (by kernel_rfl) (by kernel_rfl) (by kernel_rfl) (fun _ _ _ h => h) (.inl ⟨by rfl, fun W hW => by go_simp⟩) HS0.out ?_
  simp only [Act.put, List.setIfInBounds_toArray, List.set_cons_zero, List.set_cons_succ]
  refine takeH (i := 8) 42 (.int .i64 r.st) rfl rfl (by kernel_rfl) (by kernel_rfl) (by kernel_rfl) (fun _ _ _ h => h) (.inl ⟨by rfl, fun W hW => by (have hz := hW.cell 2 _ rfl; go_simp)⟩) HS0.out ?_
  simp only [Act.put, List.setIfInBounds_toArray, List.set_cons_zero, List.set_cons_succ]
  refine takeH (i := 9) 43 (.int .u32 (sn : Int)) rfl rfl (by kernel_rfl) (by kernel_rfl) (by kernel_rfl) (fun _ _ _ h => h) (.inl ⟨by rfl, fun W hW => by go_simp⟩) HS0.out ?_
  simp only [Act.put, List.setIfInBounds_toArray, List.set_cons_zero, List.set_cons_succ]
  refine takeH (i := 12) 46 (.pointer (some ⟨w.heap.size, 3, none⟩)) rfl rfl (by kernel_rfl) (by kernel_rfl) (by kernel_rfl) (fun _ _ _ h => h) (.inl ⟨by rfl, fun W hW => by go_simp⟩) HS0.out ?_
  simp only [Act.put, List.setIfInBounds_toArray, List.set_cons_zero, List.set_cons_succ]
  refine takeH (i := 13) 47 (.pointer (some ⟨w.heap.size, 3, none⟩)) rfl rfl (by kernel_rfl) (by kernel_rfl) (by kernel_rfl) (fun _ _ _ h => h) (.inl ⟨by rfl, fun W hW => by go_simp⟩) HS0.out ?_
  simp only [Act.put, List.setIfInBounds_toArray, List.set_cons_zero, List.set_cons_succ]
  refine takeH (i := 14) 48 (.int .u32 (r.ati : Int)) rfl rfl (by kernel_rfl) (by kernel_rfl) (by kernel_rfl) (fun _ _ _ h => h) (.inl ⟨by rfl, fun W hW => by (have hz := hW.cell 3 _ rfl; go_simp)⟩) HS0.out ?_
  simp only [Act.put, List.setIfInBounds_toArray, List.set_cons_zero, List.set_cons_succ]
  refine takeH (i := 17) 51 (.pointer (some ⟨w.heap.size, 3, none⟩)) rfl rfl (by kernel_rfl) (by kernel_rfl) (by kernel_rfl) (fun _ _ _ h => h) (.inl ⟨by rfl, fun W hW => by go_simp⟩) HS0.out ?_
  simp only [Act.put, List.setIfInBounds_toArray, List.set_cons_zero, List.set_cons_succ]
  refine takeH (i := 18) 52 (.pointer (some ⟨w.heap.size, 4, none⟩)) rfl rfl (by kernel_rfl) (by kernel_rfl) (by kernel_rfl) (fun _ _ _ h => h) (.inl ⟨by rfl, fun W hW => by go_simp⟩) HS0.out ?_
  simp only [Act.put, List.setIfInBounds_toArray, List.set_cons_zero, List.set_cons_succ]
  refine takeH (i := 19) 53 (.int .u32 (r.atg : Int)) rfl rfl (by kernel_rfl) (by kernel_rfl) (by kernel_rfl) (fun _ _ _ h => h) (.inl ⟨by rfl, fun W hW => by (have hz := hW.cell 4 _ rfl; go_simp)⟩) HS0.out ?_
  simp only [Act.put, List.setIfInBounds_toArray, List.set_cons_zero, List.set_cons_succ]
  refine takeH (i := 22) 56 (.pointer (some ⟨w.heap.size, 5, none⟩)) rfl rfl (by kernel_rfl) (by kernel_rfl) (by kernel_rfl) (fun _ _ _ h => h) (.inl ⟨by rfl, fun W hW => by go_simp⟩) HS0.out ?_
  simp only [Act.put, List.setIfInBounds_toArray, List.set_cons_zero, List.set_cons_succ]
  refine takeH (i := 23) 57 (.pointer (some ⟨w.heap.size, 5, none⟩)) rfl rfl (by kernel_rfl) (by kernel_rfl) (by kernel_rfl) (fun _ _ _ h => h) (.inl ⟨by rfl, fun W hW => by go_simp⟩) HS0.out ?_
  simp only [Act.put, List.setIfInBounds_toArray, List.set_cons_zero, List.set_cons_succ]
  refine takeH (i := 24) 58 (.int .u32 (r.kd : Int)) rfl rfl (by kernel_rfl) (by kernel_rfl) (by kernel_rfl) (fun _ _ _ h => h) (.inl ⟨by rfl, fun W hW => by (have hz := hW.cell 5 _ rfl; go_simp)⟩) HS0.out ?_
  simp only [Act.put, List.setIfInBounds_toArray, List.set_cons_zero, List.set_cons_succ]
  refine takeH (i := 27) 61 (.pointer (some ⟨w.heap.size, 5, none⟩)) rfl rfl (by kernel_rfl) (by kernel_rfl) (by kernel_rfl) (fun _ _ _ h => h) (.inl ⟨by rfl, fun W hW => by go_simp⟩) HS0.out ?_
  simp only [Act.put, List.setIfInBounds_toArray, List.set_cons_zero, List.set_cons_succ]
  refine takeH (i := 28) 62 (.pointer (some ⟨w.heap.size, 6, none⟩)) rfl rfl (by kernel_rfl) (by kernel_rfl) (by kernel_rfl) (fun _ _ _ h => h) (.inl ⟨by rfl, fun W hW => by go_simp⟩) HS0.out ?_
  simp only [Act.put, List.setIfInBounds_toArray, List.set_cons_zero, List.set_cons_succ]
  refine takeH (i := 29) 63 (.int .u32 (r.md : Int)) rfl rfl (by kernel_rfl) (by kernel_rfl) (by kernel_rfl) (fun _ _ _ h => h) (.inl ⟨by rfl, fun W hW => by (have hz := hW.cell 6 _ rfl; go_simp)⟩) HS0.out ?_
  simp only [Act.put, List.setIfInBounds_toArray, List.set_cons_zero, List.set_cons_succ]
  refine takeH (i := 32) 66 (.pointer (some ⟨w.heap.size, 5, none⟩)) rfl rfl (by kernel_rfl) (by kernel_rfl) (by kernel_rfl) (fun _ _ _ h => h) (.inl ⟨by rfl, fun W hW => by go_simp⟩) HS0.out ?_
  simp only [Act.put, List.setIfInBounds_toArray, List.set_cons_zero, List.set_cons_succ]
  refine takeH (i := 33) 67 (.pointer (some ⟨w.heap.size, 7, none⟩)) rfl rfl (by kernel_rfl) (by kernel_rfl) (by kernel_rfl) (fun _ _ _ h => h) (.inl ⟨by rfl, fun W hW => by go_simp⟩) HS0.out ?_
  simp only [Act.put, List.setIfInBounds_toArray, List.set_cons_zero, List.set_cons_succ]
  refine takeH (i := 34) 68 (.int .u32 (r.ln : Int)) rfl rfl (by kernel_rfl) (by kernel_rfl) (by kernel_rfl) (fun _ _ _ h => h) (.inl ⟨by rfl, fun W hW => by (have hz := hW.cell 7 _ rfl; go_simp)⟩) HS0.out ?_
  simp only [Act.put, List.setIfInBounds_toArray, List.set_cons_zero, List.set_cons_succ]
  refine takeH (i := 37) 71 (.pointer (some ⟨w.heap.size, 5, none⟩)) rfl rfl (by kernel_rfl) (by kernel_rfl) (by kernel_rfl) (fun _ _ _ h => h) (.inl ⟨by rfl, fun W hW => by go_simp⟩) HS0.out ?_
  simp only [Act.put, List.setIfInBounds_toArray, List.set_cons_zero, List.set_cons_succ]
  refine takeH (i := 38) 72 (.pointer (some ⟨w.heap.size, 8, none⟩)) rfl rfl (by kernel_rfl) (by kernel_rfl) (by kernel_rfl) (fun _ _ _ h => h) (.inl ⟨by rfl, fun W hW => by go_simp⟩) HS0.out ?_
  simp only [Act.put, List.setIfInBounds_toArray, List.set_cons_zero, List.set_cons_succ]
  refine takeH (i := 39) 73 (.int .u32 (r.sz : Int)) rfl rfl (by kernel_rfl) (by kernel_rfl) (by kernel_rfl) (fun _ _ _ h => h) (.inl ⟨by rfl, fun W hW => by (have hz := hW.cell 8 _ rfl; go_simp)⟩) HS0.out ?_
  simp only [Act.put, List.setIfInBounds_toArray, List.set_cons_zero, List.set_cons_succ]
  refine takeH (i := 42) 76 (.pointer (some ⟨w.heap.size, 5, none⟩)) rfl rfl (by kernel_rfl) (by kernel_rfl) (by kernel_rfl) (fun _ _ _ h => h) (.inl ⟨by rfl, fun W hW => by go_simp⟩) HS0.out ?_
  simp only [Act.put, List.setIfInBounds_toArray, List.set_cons_zero, List.set_cons_succ]
  refine takeH (i := 43) 77 (.pointer (some ⟨w.heap.size, 9, none⟩)) rfl rfl (by kernel_rfl) (by kernel_rfl) (by kernel_rfl) (fun _ _ _ h => h) (.inl ⟨by rfl, fun W hW => by go_simp⟩) HS0.out ?_
  simp only [Act.put, List.setIfInBounds_toArray, List.set_cons_zero, List.set_cons_succ]
  refine takeH (i := 44) 78 (.int .u64 (r.ch : Int)) rfl rfl (by kernel_rfl) (by kernel_rfl) (by kernel_rfl) (fun _ _ _ h => h) (.inl ⟨by rfl, fun W hW => by (have hz := hW.cell 9 _ rfl; go_simp)⟩) HS0.out ?_
  simp only [Act.put, List.setIfInBounds_toArray, List.set_cons_zero, List.set_cons_succ]
  refine wpAnyH_ready (rs := [2]) (by kernel_rfl) (by simp) ?_
  refine AllReadyH.cons rfl (fun K hK => ?_) AllReadyH.nil
  go_simp
  refine (refu_any r.cli _ HWD.out.cli).mono ?_
  rintro e wa1 ⟨rfl, hba1⟩
  have HGa1 := Lib.hid (HG0.out.trans (hba1.mono HG0.out.size))
  have HSa1 : Hid ((fun W : World => Bw W w.heap.size (rc r (.string (txt r.dt)) (.slice A m cq)) 54) wa1) := HS0.out.below hba1
  refine hK.out _ _ HSa1.out fun _ => ?_
  clear hK K hba1 HS0 HG0
  refine wpAnyH_ready (rs := [5]) (by kernel_rfl) (by simp) ?_
  refine AllReadyH.cons rfl (fun K hK => ?_) AllReadyH.nil
  go_simp
  refine (refu_any r.xid _ HWD.out.xid).mono ?_
  rintro e wa2 ⟨rfl, hba2⟩
  have HGa2 := Lib.hid (HGa1.out.trans (hba2.mono HGa1.out.size))
  have HSa2 : Hid ((fun W : World => Bw W w.heap.size (rc r (.string (txt r.dt)) (.slice A m cq)) 54) wa2) := HSa1.out.below hba2
  refine hK.out _ _ HSa2.out fun _ => ?_
  clear hK K hba2 HSa1 HGa1
  obtain ⟨qa1, hq⟩ : ∃ q, be 4 r.cli ++ be 4 r.xid = q := ⟨_, rfl⟩
  have HLqa1 : Hid (qa1.length ≤ 8) := by show _ ≤ _; rw [← hq, List.length_append, be_length, be_length]; omega
  have y : ¬ 9223372036854775807 < (txt (be 4 r.cli)).size + (txt (be 4 r.xid)).size := by have h9 := HLqa1.out; rw [← hq, List.length_append] at h9; rw [txt_size, txt_size]; omega
  have z : txt (be 4 r.cli) ++ txt (be 4 r.xid) = txt qa1 := by rw [txt_append, hq]
  have HQqa1 := Lib.hid hq
  clear hq
  refine takeH (i := 6) 40 (.string (txt qa1)) rfl rfl (by kernel_rfl) (by kernel_rfl) (by kernel_rfl) (fun _ _ _ h => h) (.inl ⟨by rfl, fun W hW => by go_simp⟩) HSa2.out ?_
  simp only [Act.put, List.setIfInBounds_toArray, List.set_cons_zero, List.set_cons_succ]
  clear y z
  refine wpAnyH_ready (rs := [10]) (by kernel_rfl) (by simp) ?_
  refine AllReadyH.cons rfl (fun K hK => ?_) AllReadyH.nil
  go_simp
  refine (refu_any sn _ HSN.out).mono ?_
  rintro e wa3 ⟨rfl, hba3⟩
  have HGa3 := Lib.hid (HGa2.out.trans (hba3.mono HGa2.out.size))
  have HSa3 : Hid ((fun W : World => Bw W w.heap.size (rc r (.string (txt r.dt)) (.slice A m cq)) 54) wa3) := HSa2.out.below hba3
  refine hK.out _ _ HSa3.out fun _ => ?_
  clear hK K hba3 HSa2 HGa2
  obtain ⟨qa2, hq⟩ : ∃ q, qa1 ++ be 4 sn = q := ⟨_, rfl⟩
  have HLqa2 : Hid (qa2.length ≤ 12) := by show _ ≤ _; rw [← hq, List.length_append, be_length]; have := HLqa1.out; omega
  have y : ¬ 9223372036854775807 < (txt (qa1)).size + (txt (be 4 sn)).size := by have h9 := HLqa2.out; rw [← hq, List.length_append] at h9; rw [txt_size, txt_size]; omega
  have z : txt (qa1) ++ txt (be 4 sn) = txt qa2 := by rw [txt_append, hq]
  have HQqa2 := Lib.hid hq
  clear hq
  refine takeH (i := 11) 45 (.string (txt qa2)) rfl rfl (by kernel_rfl) (by kernel_rfl) (by kernel_rfl) (fun _ _ _ h => h) (.inl ⟨by rfl, fun W hW => by go_simp⟩) HSa3.out ?_
  simp only [Act.put, List.setIfInBounds_toArray, List.set_cons_zero, List.set_cons_succ]
  clear y z
  refine wpAnyH_ready (rs := [15]) (by kernel_rfl) (by simp) ?_
  refine AllReadyH.cons rfl (fun K hK => ?_) AllReadyH.nil
  go_simp
  refine (refu_any r.ati _ HWD.out.ati).mono ?_
  rintro e wa4 ⟨rfl, hba4⟩
  have HGa4 := Lib.hid (HGa3.out.trans (hba4.mono HGa3.out.size))
  have HSa4 : Hid ((fun W : World => Bw W w.heap.size (rc r (.string (txt r.dt)) (.slice A m cq)) 54) wa4) := HSa3.out.below hba4
  refine hK.out _ _ HSa4.out fun _ => ?_
  clear hK K hba4 HSa3 HGa3
  obtain ⟨qa3, hq⟩ : ∃ q, qa2 ++ be 4 r.ati = q := ⟨_, rfl⟩
  have HLqa3 : Hid (qa3.length ≤ 16) := by show _ ≤ _; rw [← hq, List.length_append, be_length]; have := HLqa2.out; omega
  have y : ¬ 9223372036854775807 < (txt (qa2)).size + (txt (be 4 r.ati)).size := by have h9 := HLqa3.out; rw [← hq, List.length_append] at h9; rw [txt_size, txt_size]; omega
  have z : txt (qa2) ++ txt (be 4 r.ati) = txt qa3 := by rw [txt_append, hq]
  have HQqa3 := Lib.hid hq
  clear hq
  refine takeH (i := 16) 50 (.string (txt qa3)) rfl rfl (by kernel_rfl) (by kernel_rfl) (by kernel_rfl) (fun _ _ _ h => h) (.inl ⟨by rfl, fun W hW => by go_simp⟩) HSa4.out ?_
  simp only [Act.put, List.setIfInBounds_toArray, List.set_cons_zero, List.set_cons_succ]
  clear y z
  refine wpAnyH_ready (rs := [20]) (by kernel_rfl) (by simp) ?_
  refine AllReadyH.cons rfl (fun K hK => ?_) AllReadyH.nil
  go_simp
  refine (refu_any r.atg _ HWD.out.atg).mono ?_
  rintro e wa5 ⟨rfl, hba5⟩
  have HGa5 := Lib.hid (HGa4.out.trans (hba5.mono HGa4.out.size))
  have HSa5 : Hid ((fun W : World => Bw W w.heap.size (rc r (.string (txt r.dt)) (.slice A m cq)) 54) wa5) := HSa4.out.below hba5
  refine hK.out _ _ HSa5.out fun _ => ?_
  clear hK K hba5 HSa4 HGa4
  obtain ⟨qa4, hq⟩ : ∃ q, qa3 ++ be 4 r.atg = q := ⟨_, rfl⟩
  have HLqa4 : Hid (qa4.length ≤ 20) := by show _ ≤ _; rw [← hq, List.length_append, be_length]; have := HLqa3.out; omega
  have y : ¬ 9223372036854775807 < (txt (qa3)).size + (txt (be 4 r.atg)).size := by have h9 := HLqa4.out; rw [← hq, List.length_append] at h9; rw [txt_size, txt_size]; omega
  have z : txt (qa3) ++ txt (be 4 r.atg) = txt qa4 := by rw [txt_append, hq]
  have HQqa4 := Lib.hid hq
  clear hq
  refine takeH (i := 21) 55 (.string (txt qa4)) rfl rfl (by kernel_rfl) (by kernel_rfl) (by kernel_rfl) (fun _ _ _ h => h) (.inl ⟨by rfl, fun W hW => by go_simp⟩) HSa5.out ?_
  simp only [Act.put, List.setIfInBounds_toArray, List.set_cons_zero, List.set_cons_succ]
  clear y z
  refine wpAnyH_ready (rs := [25]) (by kernel_rfl) (by simp) ?_
  refine AllReadyH.cons rfl (fun K hK => ?_) AllReadyH.nil
  go_simp
  refine (refu_any r.kd _ HWD.out.kd).mono ?_
  rintro e wa6 ⟨rfl, hba6⟩
  have HGa6 := Lib.hid (HGa5.out.trans (hba6.mono HGa5.out.size))
  have HSa6 : Hid ((fun W : World => Bw W w.heap.size (rc r (.string (txt r.dt)) (.slice A m cq)) 54) wa6) := HSa5.out.below hba6
  refine hK.out _ _ HSa6.out fun _ => ?_
  clear hK K hba6 HSa5 HGa5
  obtain ⟨qa5, hq⟩ : ∃ q, qa4 ++ be 4 r.kd = q := ⟨_, rfl⟩
  have HLqa5 : Hid (qa5.length ≤ 24) := by show _ ≤ _; rw [← hq, List.length_append, be_length]; have := HLqa4.out; omega
  have y : ¬ 9223372036854775807 < (txt (qa4)).size + (txt (be 4 r.kd)).size := by have h9 := HLqa5.out; rw [← hq, List.length_append] at h9; rw [txt_size, txt_size]; omega
  have z : txt (qa4) ++ txt (be 4 r.kd) = txt qa5 := by rw [txt_append, hq]
  have HQqa5 := Lib.hid hq
  clear hq
  refine takeH (i := 26) 60 (.string (txt qa5)) rfl rfl (by kernel_rfl) (by kernel_rfl) (by kernel_rfl) (fun _ _ _ h => h) (.inl ⟨by rfl, fun W hW => by go_simp⟩) HSa6.out ?_
  simp only [Act.put, List.setIfInBounds_toArray, List.set_cons_zero, List.set_cons_succ]
  clear y z
  refine wpAnyH_ready (rs := [30]) (by kernel_rfl) (by simp) ?_
  refine AllReadyH.cons rfl (fun K hK => ?_) AllReadyH.nil
  go_simp
  refine (refu_any r.md _ HWD.out.md).mono ?_
  rintro e wa7 ⟨rfl, hba7⟩
  have HGa7 := Lib.hid (HGa6.out.trans (hba7.mono HGa6.out.size))
  have HSa7 : Hid ((fun W : World => Bw W w.heap.size (rc r (.string (txt r.dt)) (.slice A m cq)) 54) wa7) := HSa6.out.below hba7
  refine hK.out _ _ HSa7.out fun _ => ?_
  clear hK K hba7 HSa6 HGa6
  obtain ⟨qa6, hq⟩ : ∃ q, qa5 ++ be 4 r.md = q := ⟨_, rfl⟩
  have HLqa6 : Hid (qa6.length ≤ 28) := by show _ ≤ _; rw [← hq, List.length_append, be_length]; have := HLqa5.out; omega
  have y : ¬ 9223372036854775807 < (txt (qa5)).size + (txt (be 4 r.md)).size := by have h9 := HLqa6.out; rw [← hq, List.length_append] at h9; rw [txt_size, txt_size]; omega
  have z : txt (qa5) ++ txt (be 4 r.md) = txt qa6 := by rw [txt_append, hq]
  have HQqa6 := Lib.hid hq
  clear hq
  refine takeH (i := 31) 65 (.string (txt qa6)) rfl rfl (by kernel_rfl) (by kernel_rfl) (by kernel_rfl) (fun _ _ _ h => h) (.inl ⟨by rfl, fun W hW => by go_simp⟩) HSa7.out ?_
  simp only [Act.put, List.setIfInBounds_toArray, List.set_cons_zero, List.set_cons_succ]
  clear y z
  refine wpAnyH_ready (rs := [35]) (by kernel_rfl) (by simp) ?_
  refine AllReadyH.cons rfl (fun K hK => ?_) AllReadyH.nil
  go_simp
  refine (refu_any r.ln _ HWD.out.ln).mono ?_
  rintro e wa8 ⟨rfl, hba8⟩
  have HGa8 := Lib.hid (HGa7.out.trans (hba8.mono HGa7.out.size))
  have HSa8 : Hid ((fun W : World => Bw W w.heap.size (rc r (.string (txt r.dt)) (.slice A m cq)) 54) wa8) := HSa7.out.below hba8
  refine hK.out _ _ HSa8.out fun _ => ?_
  clear hK K hba8 HSa7 HGa7
  obtain ⟨qa7, hq⟩ : ∃ q, qa6 ++ be 4 r.ln = q := ⟨_, rfl⟩
  have HLqa7 : Hid (qa7.length ≤ 32) := by show _ ≤ _; rw [← hq, List.length_append, be_length]; have := HLqa6.out; omega
  have y : ¬ 9223372036854775807 < (txt (qa6)).size + (txt (be 4 r.ln)).size := by have h9 := HLqa7.out; rw [← hq, List.length_append] at h9; rw [txt_size, txt_size]; omega
  have z : txt (qa6) ++ txt (be 4 r.ln) = txt qa7 := by rw [txt_append, hq]
  have HQqa7 := Lib.hid hq
  clear hq
  refine takeH (i := 36) 70 (.string (txt qa7)) rfl rfl (by kernel_rfl) (by kernel_rfl) (by kernel_rfl) (fun _ _ _ h => h) (.inl ⟨by rfl, fun W hW => by go_simp⟩) HSa8.out ?_
  simp only [Act.put, List.setIfInBounds_toArray, List.set_cons_zero, List.set_cons_succ]
  clear y z
  refine wpAnyH_ready (rs := [40]) (by kernel_rfl) (by simp) ?_
  refine AllReadyH.cons rfl (fun K hK => ?_) AllReadyH.nil
  go_simp
  refine (refu_any r.sz _ HWD.out.sz).mono ?_
  rintro e wa9 ⟨rfl, hba9⟩
  have HGa9 := Lib.hid (HGa8.out.trans (hba9.mono HGa8.out.size))
  have HSa9 : Hid ((fun W : World => Bw W w.heap.size (rc r (.string (txt r.dt)) (.slice A m cq)) 54) wa9) := HSa8.out.below hba9
  refine hK.out _ _ HSa9.out fun _ => ?_
  clear hK K hba9 HSa8 HGa8
  obtain ⟨qa8, hq⟩ : ∃ q, qa7 ++ be 4 r.sz = q := ⟨_, rfl⟩
  have HLqa8 : Hid (qa8.length ≤ 36) := by show _ ≤ _; rw [← hq, List.length_append, be_length]; have := HLqa7.out; omega
  have y : ¬ 9223372036854775807 < (txt (qa7)).size + (txt (be 4 r.sz)).size := by have h9 := HLqa8.out; rw [← hq, List.length_append] at h9; rw [txt_size, txt_size]; omega
  have z : txt (qa7) ++ txt (be 4 r.sz) = txt qa8 := by rw [txt_append, hq]
  have HQqa8 := Lib.hid hq
  clear hq
  refine takeH (i := 41) 75 (.string (txt qa8)) rfl rfl (by kernel_rfl) (by kernel_rfl) (by kernel_rfl) (fun _ _ _ h => h) (.inl ⟨by rfl, fun W hW => by go_simp⟩) HSa9.out ?_
  simp only [Act.put, List.setIfInBounds_toArray, List.set_cons_zero, List.set_cons_succ]
  clear y z
  refine wpAnyH_ready (rs := [45]) (by kernel_rfl) (by simp) ?_
  refine AllReadyH.cons rfl (fun K hK => ?_) AllReadyH.nil
  go_simp
  refine (refU64 r.ch _ HWD.out.ch).mono ?_
  rintro e wa10 ⟨rfl, hba10⟩
  have HGa10 := Lib.hid (HGa9.out.trans (hba10.mono HGa9.out.size))
  have HSa10 : Hid ((fun W : World => Bw W w.heap.size (rc r (.string (txt r.dt)) (.slice A m cq)) 54) wa10) := HSa9.out.below hba10
  refine hK.out _ _ HSa10.out fun _ => ?_
  clear hK K hba10 HSa9 HGa9
  obtain ⟨qa9, hq⟩ : ∃ q, qa8 ++ be 8 r.ch = q := ⟨_, rfl⟩
  have HLqa9 : Hid (qa9.length ≤ 44) := by show _ ≤ _; rw [← hq, List.length_append, be_length]; have := HLqa8.out; omega
  have y : ¬ 9223372036854775807 < (txt (qa8)).size + (txt (be 8 r.ch)).size := by have h9 := HLqa9.out; rw [← hq, List.length_append] at h9; rw [txt_size, txt_size]; omega
  have z : txt (qa8) ++ txt (be 8 r.ch) = txt qa9 := by rw [txt_append, hq]
  have HQqa9 := Lib.hid hq
  clear hq
  refine takeH (i := 46) 80 (.string (txt qa9)) rfl rfl (by kernel_rfl) (by kernel_rfl) (by kernel_rfl) (fun _ _ _ h => h) (.inl ⟨by rfl, fun W hW => by go_simp⟩) HSa10.out ?_
  simp only [Act.put, List.setIfInBounds_toArray, List.set_cons_zero, List.set_cons_succ]
  clear y z
  refine takeH (i := 47) 7 (.string (txt qa9)) rfl rfl (by kernel_rfl) (by kernel_rfl) (by kernel_rfl) (fun _ _ _ h => h) (.inl ⟨by rfl, fun W hW => by go_simp⟩) HSa10.out ?_
  simp only [Act.put, List.setIfInBounds_toArray, List.set_cons_zero, List.set_cons_succ]
  refine wpAnyH_done (by kernel_rfl) ?_ _
  clear hcv
  go_upto_region 8 with fail
  have HS1 : Hid ((fun W : World => Bw W w.heap.size (rc r (.string (txt r.dt)) (.slice A m cq)) 54) wa10.drew) := HSa10.out
  have HG1 : Hid (Below w.heap.size w wa10.drew) := HGa10.out.drew
  clear HSa10 HGa10
  refine wp_region_held_drew (S := fun W : World => Bw W w.heap.size (rc r (.string (txt r.dt)) (.slice A m cq)) 54) (by kernel_rfl) HS1.out (fun _ => ?_)
  change wpAnyH _ _ _ _ _ 22 (Array.replicate 22 false) _ _
  refine takeH (i := 0) 81 (.string (txt qa9)) rfl rfl (by kernel_rfl) (by kernel_rfl) (by kernel_rfl) (fun _ _ _ h => h) (.inl ⟨by rfl, fun W hW => by go_simp⟩) HS1.out ?_
  simp only [Act.put, List.setIfInBounds_toArray, List.set_cons_zero, List.set_cons_succ]
  refine takeH (i := 1) 82 (.pointer (some ⟨w.heap.size, 10, none⟩)) rfl rfl (by kernel_rfl) (by kernel_rfl) (by kernel_rfl) (fun _ _ _ h => h) (.inl ⟨by rfl, fun W hW => by go_simp⟩) HS1.out ?_
  simp only [Act.put, List.setIfInBounds_toArray, List.set_cons_zero, List.set_cons_succ]
  refine takeH (i := 2) 83 (.string (txt r.dt)) rfl rfl (by kernel_rfl) (by kernel_rfl) (by kernel_rfl) (fun _ _ _ h => h) (.inl ⟨by rfl, fun W hW => by (have hz := hW.cell 10 _ rfl; go_simp)⟩) HS1.out ?_
  simp only [Act.put, List.setIfInBounds_toArray, List.set_cons_zero, List.set_cons_succ]
  refine takeH (i := 5) 86 (.string (txt row)) rfl rfl (by kernel_rfl) (by kernel_rfl) (by kernel_rfl) (fun _ _ _ h => h) (.inl ⟨by rfl, fun W hW => by go_simp⟩) HS1.out ?_
  simp only [Act.put, List.setIfInBounds_toArray, List.set_cons_zero, List.set_cons_succ]
  refine takeH (i := 8) 89 (.pointer (some ⟨w.heap.size, 12, none⟩)) rfl rfl (by kernel_rfl) (by kernel_rfl) (by kernel_rfl) (fun _ _ _ h => h) (.inl ⟨by rfl, fun W hW => by go_simp⟩) HS1.out ?_
  simp only [Act.put, List.setIfInBounds_toArray, List.set_cons_zero, List.set_cons_succ]
  refine takeH (i := 9) 90 (.bool r.eof) rfl rfl (by kernel_rfl) (by kernel_rfl) (by kernel_rfl) (fun _ _ _ h => h) (.inl ⟨by rfl, fun W hW => by (have hz := hW.cell 12 _ rfl; go_simp)⟩) HS1.out ?_
  simp only [Act.put, List.setIfInBounds_toArray, List.set_cons_zero, List.set_cons_succ]
  refine takeH (i := 12) 93 (.pointer (some ⟨w.heap.size, 13, none⟩)) rfl rfl (by kernel_rfl) (by kernel_rfl) (by kernel_rfl) (fun _ _ _ h => h) (.inl ⟨by rfl, fun W hW => by go_simp⟩) HS1.out ?_
  simp only [Act.put, List.setIfInBounds_toArray, List.set_cons_zero, List.set_cons_succ]
  refine takeH (i := 13) 94 (.int .u64 (r.vf : Int)) rfl rfl (by kernel_rfl) (by kernel_rfl) (by kernel_rfl) (fun _ _ _ h => h) (.inl ⟨by rfl, fun W hW => by (have hz := hW.cell 13 _ rfl; go_simp)⟩) HS1.out ?_
  simp only [Act.put, List.setIfInBounds_toArray, List.set_cons_zero, List.set_cons_succ]
  refine takeH (i := 16) 97 (.pointer (some ⟨w.heap.size, 14, none⟩)) rfl rfl (by kernel_rfl) (by kernel_rfl) (by kernel_rfl) (fun _ _ _ h => h) (.inl ⟨by rfl, fun W hW => by go_simp⟩) HS1.out ?_
  simp only [Act.put, List.setIfInBounds_toArray, List.set_cons_zero, List.set_cons_succ]
  refine takeH (i := 17) 98 (.int .u32 (r.fr : Int)) rfl rfl (by kernel_rfl) (by kernel_rfl) (by kernel_rfl) (fun _ _ _ h => h) (.inl ⟨by rfl, fun W hW => by (have hz := hW.cell 14 _ rfl; go_simp)⟩) HS1.out ?_
  simp only [Act.put, List.setIfInBounds_toArray, List.set_cons_zero, List.set_cons_succ]
  refine wpAnyH_ready (rs := [3]) (by kernel_rfl) (by simp) ?_
  refine AllReadyH.cons rfl (fun K hK => ?_) AllReadyH.nil
  go_simp
  refine (refOpaque r.dt _ (by have := HO.out; omega)).mono ?_
  rintro e wb1 ⟨rfl, hbb1⟩
  have HGb1 := Lib.hid (HG1.out.trans (hbb1.mono HG1.out.size))
  have HSb1 : Hid ((fun W : World => Bw W w.heap.size (rc r (.string (txt r.dt)) (.slice A m cq)) 54) wb1) := HS1.out.below hbb1
  refine hK.out _ _ HSb1.out fun _ => ?_
  clear hK K hbb1 HS1 HG1
  obtain ⟨qb1, hq⟩ : ∃ q, qa9 ++ opq r.dt = q := ⟨_, rfl⟩
  have HLqb1 : Hid (qb1.length ≤ 1075) := by show _ ≤ _; rw [← hq, List.length_append]; have := HLqa9.out; have := HO.out; omega
  have y : ¬ 9223372036854775807 < (txt (qa9)).size + (txt (opq r.dt)).size := by have h9 := HLqb1.out; rw [← hq, List.length_append] at h9; rw [txt_size, txt_size]; omega
  have z : txt (qa9) ++ txt (opq r.dt) = txt qb1 := by rw [txt_append, hq]
  have HQqb1 := Lib.hid hq
  clear hq
  refine takeH (i := 4) 85 (.string (txt qb1)) rfl rfl (by kernel_rfl) (by kernel_rfl) (by kernel_rfl) (fun _ _ _ h => h) (.inl ⟨by rfl, fun W hW => by go_simp⟩) HSb1.out ?_
  simp only [Act.put, List.setIfInBounds_toArray, List.set_cons_zero, List.set_cons_succ]
  clear y z
  refine wpAnyH_ready (rs := [6]) (by kernel_rfl) (by simp) ?_
  refine AllReadyH.cons rfl (fun K hK => ?_) AllReadyH.nil
  go_simp
  refine (refOpaque row _ (by have := HO.out; omega)).mono ?_
  rintro e wb2 ⟨rfl, hbb2⟩
  have HGb2 := Lib.hid (HGb1.out.trans (hbb2.mono HGb1.out.size))
  have HSb2 : Hid ((fun W : World => Bw W w.heap.size (rc r (.string (txt r.dt)) (.slice A m cq)) 54) wb2) := HSb1.out.below hbb2
  refine hK.out _ _ HSb2.out fun _ => ?_
  clear hK K hbb2 HSb1 HGb1
  obtain ⟨qb2, hq⟩ : ∃ q, qb1 ++ opq row = q := ⟨_, rfl⟩
  have HLqb2 : Hid (qb2.length ≤ 2182) := by show _ ≤ _; rw [← hq, List.length_append]; have := HLqb1.out; have := HO.out; omega
  have y : ¬ 9223372036854775807 < (txt (qb1)).size + (txt (opq row)).size := by have h9 := HLqb2.out; rw [← hq, List.length_append] at h9; rw [txt_size, txt_size]; omega
  have z : txt (qb1) ++ txt (opq row) = txt qb2 := by rw [txt_append, hq]
  have HQqb2 := Lib.hid hq
  clear hq
  refine takeH (i := 7) 88 (.string (txt qb2)) rfl rfl (by kernel_rfl) (by kernel_rfl) (by kernel_rfl) (fun _ _ _ h => h) (.inl ⟨by rfl, fun W hW => by go_simp⟩) HSb2.out ?_
  simp only [Act.put, List.setIfInBounds_toArray, List.set_cons_zero, List.set_cons_succ]
  clear y z
  refine wpAnyH_ready (rs := [10]) (by kernel_rfl) (by simp) ?_
  refine AllReadyH.cons rfl (fun K hK => ?_) AllReadyH.nil
  go_simp
  refine (refBool r.eof _).mono ?_
  rintro e wb3 ⟨rfl, hbb3⟩
  have HGb3 := Lib.hid (HGb2.out.trans (hbb3.mono HGb2.out.size))
  have HSb3 : Hid ((fun W : World => Bw W w.heap.size (rc r (.string (txt r.dt)) (.slice A m cq)) 54) wb3) := HSb2.out.below hbb3
  refine hK.out _ _ HSb3.out fun _ => ?_
  clear hK K hbb3 HSb2 HGb2
  obtain ⟨qb3, hq⟩ : ∃ q, qb2 ++ be 4 (b01 r.eof) = q := ⟨_, rfl⟩
  have HLqb3 : Hid (qb3.length ≤ 2186) := by show _ ≤ _; rw [← hq, List.length_append, be_length]; have := HLqb2.out; omega
  have y : ¬ 9223372036854775807 < (txt (qb2)).size + (txt (be 4 (b01 r.eof))).size := by have h9 := HLqb3.out; rw [← hq, List.length_append] at h9; rw [txt_size, txt_size]; omega
  have z : txt (qb2) ++ txt (be 4 (b01 r.eof)) = txt qb3 := by rw [txt_append, hq]
  have HQqb3 := Lib.hid hq
  clear hq
  refine takeH (i := 11) 92 (.string (txt qb3)) rfl rfl (by kernel_rfl) (by kernel_rfl) (by kernel_rfl) (fun _ _ _ h => h) (.inl ⟨by rfl, fun W hW => by go_simp⟩) HSb3.out ?_
  simp only [Act.put, List.setIfInBounds_toArray, List.set_cons_zero, List.set_cons_succ]
  clear y z
  refine wpAnyH_ready (rs := [14]) (by kernel_rfl) (by simp) ?_
  refine AllReadyH.cons rfl (fun K hK => ?_) AllReadyH.nil
  go_simp
  refine (refU64 r.vf _ HWD.out.vf).mono ?_
  rintro e wb4 ⟨rfl, hbb4⟩
  have HGb4 := Lib.hid (HGb3.out.trans (hbb4.mono HGb3.out.size))
  have HSb4 : Hid ((fun W : World => Bw W w.heap.size (rc r (.string (txt r.dt)) (.slice A m cq)) 54) wb4) := HSb3.out.below hbb4
  refine hK.out _ _ HSb4.out fun _ => ?_
  clear hK K hbb4 HSb3 HGb3
  obtain ⟨qb4, hq⟩ : ∃ q, qb3 ++ be 8 r.vf = q := ⟨_, rfl⟩
  have HLqb4 : Hid (qb4.length ≤ 2194) := by show _ ≤ _; rw [← hq, List.length_append, be_length]; have := HLqb3.out; omega
  have y : ¬ 9223372036854775807 < (txt (qb3)).size + (txt (be 8 r.vf)).size := by have h9 := HLqb4.out; rw [← hq, List.length_append] at h9; rw [txt_size, txt_size]; omega
  have z : txt (qb3) ++ txt (be 8 r.vf) = txt qb4 := by rw [txt_append, hq]
  have HQqb4 := Lib.hid hq
  clear hq
  refine takeH (i := 15) 96 (.string (txt qb4)) rfl rfl (by kernel_rfl) (by kernel_rfl) (by kernel_rfl) (fun _ _ _ h => h) (.inl ⟨by rfl, fun W hW => by go_simp⟩) HSb4.out ?_
  simp only [Act.put, List.setIfInBounds_toArray, List.set_cons_zero, List.set_cons_succ]
  clear y z
  refine wpAnyH_ready (rs := [18]) (by kernel_rfl) (by simp) ?_
  refine AllReadyH.cons rfl (fun K hK => ?_) AllReadyH.nil
  go_simp
  refine (refu_any r.fr _ HWD.out.fr).mono ?_
  rintro e wb5 ⟨rfl, hbb5⟩
  have HGb5 := Lib.hid (HGb4.out.trans (hbb5.mono HGb4.out.size))
  have HSb5 : Hid ((fun W : World => Bw W w.heap.size (rc r (.string (txt r.dt)) (.slice A m cq)) 54) wb5) := HSb4.out.below hbb5
  refine hK.out _ _ HSb5.out fun _ => ?_
  clear hK K hbb5 HSb4 HGb4
  obtain ⟨qb5, hq⟩ : ∃ q, qb4 ++ be 4 r.fr = q := ⟨_, rfl⟩
  have HLqb5 : Hid (qb5.length ≤ 2198) := by show _ ≤ _; rw [← hq, List.length_append, be_length]; have := HLqb4.out; omega
  have y : ¬ 9223372036854775807 < (txt (qb4)).size + (txt (be 4 r.fr)).size := by have h9 := HLqb5.out; rw [← hq, List.length_append] at h9; rw [txt_size, txt_size]; omega
  have z : txt (qb4) ++ txt (be 4 r.fr) = txt qb5 := by rw [txt_append, hq]
  have HQqb5 := Lib.hid hq
  clear hq
  refine takeH (i := 19) 100 (.string (txt qb5)) rfl rfl (by kernel_rfl) (by kernel_rfl) (by kernel_rfl) (fun _ _ _ h => h) (.inl ⟨by rfl, fun W hW => by go_simp⟩) HSb5.out ?_
  simp only [Act.put, List.setIfInBounds_toArray, List.set_cons_zero, List.set_cons_succ]
  clear y z
  refine takeH (i := 20) 2 (.string (txt qb5)) rfl rfl (by kernel_rfl) (by kernel_rfl) (by kernel_rfl) (fun _ _ _ h => h) (.inl ⟨by rfl, fun W hW => by go_simp⟩) HSb5.out ?_
  simp only [Act.put, List.setIfInBounds_toArray, List.set_cons_zero, List.set_cons_succ]
  refine takeH (i := 21) 3 (.int .i64 0) rfl rfl (by kernel_rfl) (by kernel_rfl) (by kernel_rfl) (fun _ _ _ h => h) (.inl ⟨by rfl, fun W hW => by go_simp⟩) HSb5.out ?_
  simp only [Act.put, List.setIfInBounds_toArray, List.set_cons_zero, List.set_cons_succ]
  refine wpAnyH_done (by kernel_rfl) ?_ _
  have HT : Hid (qb5 = r.enc) := by
    show _ = _
    rw [Rp.enc_eq, HROW.out, HSQ.out, ← HQqb5.out, ← HQqb4.out, ← HQqb3.out, ← HQqb2.out, ← HQqb1.out, ← HQqa9.out, ← HQqa8.out, ← HQqa7.out, ← HQqa6.out, ← HQqa5.out, ← HQqa4.out, ← HQqa3.out, ← HQqa2.out, ← HQqa1.out]
    simp only [List.append_assoc]
  go_wp2_with fail
  go_ret2
  exact ⟨by rw [HP.out, HE.out, HT.out] <;> rfl, HGb5.out⟩
end Go.Proofs.YtobhmjokoicpoaaDoor
