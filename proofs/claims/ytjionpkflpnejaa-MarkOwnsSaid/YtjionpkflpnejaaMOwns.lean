/-
  The walk of the statement on who owns (layer 15).
-/
import Derived.Test.YtjionpkflpnejaaMQ6
namespace Go.Proofs.Ytjionpkflpnejaa
open Go.RowKit Go.Shelf

theorem Mk.owns (s : Ms) (h : Mk.okM s = true) : s.fr ≤ s.gl ∧ ((s.ph = 0 ∧ s.nx < 33) ∨ (s.ph = 1 ∧ s.ow = true ∧ s.nx < 33) ∨ (s.ph = 2 ∧ s.ow = true ∧ s.nx < 33) ∨ (s.ph = 3 ∧ s.ow = false ∧ ¬ s.nx < 33) ∨ (s.ph = 4 ∧ s.ow = false ∧ s.nx < 33) ∨ (s.ph = 5 ∧ s.ow = false ∧ s.nx < 33)) := by
  obtain ⟨_, h2, h3, h4⟩ := (Mk.okM_iff s).1 h
  refine ⟨h2, ?_⟩
  have h5 := Mk.phB_le s h3
  have hc : s.ph = 0 ∨ s.ph = 1 ∨ s.ph = 2 ∨ s.ph = 3 ∨ s.ph = 4 ∨ s.ph = 5 := by omega
  unfold Mk.phB at h3
  unfold Mk.nxB at h4
  rcases hc with e | e | e | e | e | e <;> simp [e] at h3 h4 ⊢
  · exact h4
  · exact ⟨h3, h4⟩
  · exact ⟨h3, h4⟩
  · exact ⟨h3, by omega⟩
  · exact ⟨h3, h4⟩
  · exact ⟨h3, h4⟩
theorem Mk.flip (s : Ms) (h : Mk.okM s = true) : Mk.chkM ⟨!s.ow, s.ph, s.pr, s.ep, s.sq, s.fr, s.gl, s.nx, s.rn⟩ = if s.ph = 0 then 0 else 1 := by
  obtain ⟨h1, h2, h3, h4⟩ := (Mk.okM_iff s).1 h
  have h5 := Mk.phB_le s h3
  unfold Mk.chkM
  by_cases h0 : s.ph = 0
  · have hx : Mk.okM ⟨!s.ow, s.ph, s.pr, s.ep, s.sq, s.fr, s.gl, s.nx, s.rn⟩ = true := (Mk.okM_iff _).2 ⟨h1, h2, by unfold Mk.phB; simp [h0], h4⟩
    rw [if_pos h0, if_pos hx]
  · rw [if_neg h0, if_neg]
    intro hx
    have h6 := ((Mk.okM_iff _).1 hx).2.2.1
    unfold Mk.phB at h3 h6
    have hc : s.ph = 1 ∨ s.ph = 2 ∨ s.ph = 3 ∨ s.ph = 4 ∨ s.ph = 5 := by omega
    rcases hc with e | e | e | e | e <;> simp [e] at h3 h6 <;> simp [h3] at h6
set_option maxRecDepth 100000 in
set_option maxHeartbeats 8000000 in
theorem owns_walk (w : World) (s : Ms) : Calls Try.prog 5 #[.agg (mc s).toArray] w fun e w' => e = .returned (.bool true) ∧ Below w.heap.size w w' := by
  go_enter Try.func5, Try.ntmps5
  go_upto_region 1 with fail
  have HB0 : Hid (Bw (w.alloc (.cells (mc s).toArray 25)) w.heap.size (mc s) 25) := heap_alloc_new w _
  have HW0 : Hid (Below w.heap.size w (w.alloc (.cells (mc s).toArray 25))) := (Below.refl _ w).alloc (Nat.le_refl _) _
  generalize w.alloc (.cells (mc s).toArray 25) = w0 at *
  go_wp2_with fail
  refine (awakeM_any _).mono ?_
  rintro e w1 ⟨rfl, hb⟩
  have HB1 := Lib.hid (HB0.out.below hb)
  have HW1 := Lib.hid (HW0.out.trans (hb.mono HW0.out.size))
  clear hb HB0 HW0
  go_wp2_with (refine wpList_load_part rfl 25 (.tmp 1) rfl _ 0 rfl _ Try.underlying25 rfl (mc s) 25 _ HB1.out size_Mk (fun j u hu => by rw [Nat.zero_add]; exact hu) ?_)
  refine (checkM_any s w1).mono ?_
  rintro e w2 ⟨rfl, hb⟩
  have HB2 := Lib.hid (HB1.out.below hb)
  have HW2 := Lib.hid (HW1.out.trans (hb.mono HW1.out.size))
  clear hb HB1 HW1
  by_cases hok : Mk.okM s = true
  rotate_left
  · rw [show Mk.chkM s = 1 from if_neg hok]
    clear hok
    go_wp2_with fail
    go_ret
    exact ⟨rfl, HW2.out⟩
  rw [show Mk.chkM s = 0 from if_pos hok]
  have HFL := Lib.hid (Mk.flip s hok)
  obtain ⟨hfg, hcase⟩ := Mk.owns s hok
  have g3 : decide (s.gl < s.fr) = false := by simp; omega
  have HLE := Lib.hid HW2.out.size
  clear hok hfg
  rcases hcase with h | h | h | h | h | h
  · have k1 : (s.ph : Int) = 0 := by omega
    have g5 : decide ((33 : Int) ≤ (s.nx : Int)) = false := by simp; omega
    have HZ : Hid (Mk.chkM ⟨!s.ow, s.ph, s.pr, s.ep, s.sq, s.fr, s.gl, s.nx, s.rn⟩ = 0) := by show _ = _; rw [HFL.out]; simp [h]
    clear h HFL
    have e0 := HB2.out.cell 0 _ rfl
    have e1 := HB2.out.cell 1 _ rfl
    have e2 := HB2.out.cell 2 _ rfl
    have e3 := HB2.out.cell 3 _ rfl
    have e4 := HB2.out.cell 4 _ rfl
    have e5 := HB2.out.cell 5 _ rfl
    have e6 := HB2.out.cell 6 _ rfl
    have e7 := HB2.out.cell 7 _ rfl
    have e8 := HB2.out.cell 8 _ rfl
    go_upto_region 10 with fail
    clear g3 g5 e1 e2 e3 e4 e5 e6 e7 e8
    obtain ⟨th, hth⟩ : ∃ t : Ms, ⟨!s.ow, s.ph, s.pr, s.ep, s.sq, s.fr, s.gl, s.nx, s.rn⟩ = t := ⟨_, rfl⟩
    have HTC : Hid ([.bool (!s.ow)] ++ (mc s).drop 1 = mc th) := by show _ = _; rw [← hth]; rfl
    have hthp : (th.ph : Int) = 0 := by rw [← hth]; exact k1
    rw [hth] at HZ
    clear hth
    go_upto_region 11 with (refine wpList_store_cell rfl 4 (.tmp 65) (.tmp 64) rfl w.heap.size 0 (.bool (!s.ow)) rfl rfl 25 _ HB2.out (by kernel_rfl) rfl (by simp [mc]) rfl ?_; intro w3 hb3 hs3 hk3)
    have hb4 : Bw w3 w.heap.size (mc th) 25 := by rw [← HTC.out]; exact hb3
    have HS0 : Hid ((fun W : World => Bw W w.heap.size (mc th) 25) w3.drew) := hb4
    have HG0 : Hid (Below w.heap.size w w3.drew) := (HW2.out.trans (hk3.below2 (fun k hk => by have := HLE.out; omega))).drew
    clear hb3 hs3 hk3 hb4 HW2 HB2 HTC e0 k1
    refine wp_region_held_drew (S := fun W : World => Bw W w.heap.size (mc th) 25) (by kernel_rfl) HS0.out (fun _ => ?_)
    change wpAnyH _ _ _ _ _ 8 (Array.replicate 8 false) _ _
    refine takeH (i := 0) 66 (.agg (mc th).toArray) rfl rfl (by kernel_rfl) (by kernel_rfl) (by kernel_rfl) (fun _ _ _ h => h) (.inl ⟨by rfl, fun W hW => by (exact run_load_part 25 (.tmp 1) rfl w.heap.size 0 rfl _ Try.underlying25 rfl (mc th) 25 _ hW size_Mk (fun j u hu => by rw [Nat.zero_add]; exact hu))⟩) HS0.out ?_
    simp only [Act.put, List.setIfInBounds_toArray, List.set_cons_zero, List.set_cons_succ]
    refine takeH (i := 3) 69 (.pointer (some ⟨w.heap.size, 1, none⟩)) rfl rfl (by kernel_rfl) (by kernel_rfl) (by kernel_rfl) (fun _ _ _ h => h) (.inl ⟨by rfl, fun W hW => by go_simp⟩) HS0.out ?_
    simp only [Act.put, List.setIfInBounds_toArray, List.set_cons_zero, List.set_cons_succ]
    refine takeH (i := 4) 70 (.int .u32 (th.ph : Int)) rfl rfl (by kernel_rfl) (by kernel_rfl) (by kernel_rfl) (fun _ _ _ h => h) (.inl ⟨by rfl, fun W hW => by (have hz := hW.cell 1 _ rfl; go_simp)⟩) HS0.out ?_
    simp only [Act.put, List.setIfInBounds_toArray, List.set_cons_zero, List.set_cons_succ]
    refine takeH (i := 5) 71 (.bool true) rfl rfl (by kernel_rfl) (by kernel_rfl) (by kernel_rfl) (fun _ _ _ h => h) (.inl ⟨by rfl, fun W hW => by go_simp⟩) HS0.out ?_
    simp only [Act.put, List.setIfInBounds_toArray, List.set_cons_zero, List.set_cons_succ]
    refine wpAnyH_ready (rs := [1]) (by kernel_rfl) (by simp) ?_
    refine AllReadyH.cons rfl (fun K hK => ?_) AllReadyH.nil
    go_simp
    refine (checkM_any th _).mono ?_
    rintro e w4 ⟨rfl, hb⟩
    have HS1 : Hid ((fun W : World => Bw W w.heap.size (mc th) 25) w4) := HS0.out.below hb
    have HG1 := Lib.hid (HG0.out.trans (hb.mono HG0.out.size))
    refine hK.out _ _ HS1.out fun _ => ?_
    clear hK K hb HS0 HG0
    rw [HZ.out]
    refine takeH (i := 2) 68 (.bool true) rfl rfl (by kernel_rfl) (by kernel_rfl) (by kernel_rfl) (fun _ _ _ h => h) (.inl ⟨by rfl, fun W hW => by go_simp⟩) HS1.out ?_
    simp only [Act.put, List.setIfInBounds_toArray, List.set_cons_zero, List.set_cons_succ]
    refine takeH (i := 6) 72 (.bool true) rfl rfl (by kernel_rfl) (by kernel_rfl) (by kernel_rfl) (fun _ _ _ h => h) (.inl ⟨by rfl, fun W hW => by go_simp⟩) HS1.out ?_
    simp only [Act.put, List.setIfInBounds_toArray, List.set_cons_zero, List.set_cons_succ]
    refine takeH (i := 7) 2 (.bool true) rfl rfl (by kernel_rfl) (by kernel_rfl) (by kernel_rfl) (fun _ _ _ h => h) (.inl ⟨by rfl, fun W hW => by go_simp⟩) HS1.out ?_
    simp only [Act.put, List.setIfInBounds_toArray, List.set_cons_zero, List.set_cons_succ]
    refine wpAnyH_done (by kernel_rfl) ?_ _
    go_wp2_with fail
    go_ret
    exact ⟨rfl, HG1.out⟩
  · have k1 : (s.ph : Int) = 1 := by omega
    have how : s.ow = true := h.2.1
    have g5 : decide ((33 : Int) ≤ (s.nx : Int)) = false := by simp; omega
    have HZ : Hid (Mk.chkM ⟨!s.ow, s.ph, s.pr, s.ep, s.sq, s.fr, s.gl, s.nx, s.rn⟩ = 1) := by show _ = _; rw [HFL.out]; simp [h]
    clear h HFL
    have e0 := HB2.out.cell 0 _ rfl
    have e1 := HB2.out.cell 1 _ rfl
    have e2 := HB2.out.cell 2 _ rfl
    have e3 := HB2.out.cell 3 _ rfl
    have e4 := HB2.out.cell 4 _ rfl
    have e5 := HB2.out.cell 5 _ rfl
    have e6 := HB2.out.cell 6 _ rfl
    have e7 := HB2.out.cell 7 _ rfl
    have e8 := HB2.out.cell 8 _ rfl
    go_upto_region 10 with fail
    clear g3 g5 e1 e2 e3 e4 e5 e6 e7 e8
    obtain ⟨th, hth⟩ : ∃ t : Ms, ⟨!s.ow, s.ph, s.pr, s.ep, s.sq, s.fr, s.gl, s.nx, s.rn⟩ = t := ⟨_, rfl⟩
    have HTC : Hid ([.bool false] ++ (mc s).drop 1 = mc th) := by show _ = _; rw [← hth]; simp [mc, how]
    have hthp : (th.ph : Int) = 1 := by rw [← hth]; exact k1
    rw [hth] at HZ
    clear hth
    go_upto_region 11 with (refine wpList_store_cell rfl 4 (.tmp 65) (.tmp 64) rfl w.heap.size 0 (.bool false) rfl rfl 25 _ HB2.out (by kernel_rfl) rfl (by simp [mc]) rfl ?_; intro w3 hb3 hs3 hk3)
    have hb4 : Bw w3 w.heap.size (mc th) 25 := by rw [← HTC.out]; exact hb3
    have HS0 : Hid ((fun W : World => Bw W w.heap.size (mc th) 25) w3.drew) := hb4
    have HG0 : Hid (Below w.heap.size w w3.drew) := (HW2.out.trans (hk3.below2 (fun k hk => by have := HLE.out; omega))).drew
    clear hb3 hs3 hk3 hb4 HW2 HB2 HTC e0 k1 how
    refine wp_region_held_drew (S := fun W : World => Bw W w.heap.size (mc th) 25) (by kernel_rfl) HS0.out (fun _ => ?_)
    change wpAnyH _ _ _ _ _ 8 (Array.replicate 8 false) _ _
    refine takeH (i := 0) 66 (.agg (mc th).toArray) rfl rfl (by kernel_rfl) (by kernel_rfl) (by kernel_rfl) (fun _ _ _ h => h) (.inl ⟨by rfl, fun W hW => by (exact run_load_part 25 (.tmp 1) rfl w.heap.size 0 rfl _ Try.underlying25 rfl (mc th) 25 _ hW size_Mk (fun j u hu => by rw [Nat.zero_add]; exact hu))⟩) HS0.out ?_
    simp only [Act.put, List.setIfInBounds_toArray, List.set_cons_zero, List.set_cons_succ]
    refine takeH (i := 3) 69 (.pointer (some ⟨w.heap.size, 1, none⟩)) rfl rfl (by kernel_rfl) (by kernel_rfl) (by kernel_rfl) (fun _ _ _ h => h) (.inl ⟨by rfl, fun W hW => by go_simp⟩) HS0.out ?_
    simp only [Act.put, List.setIfInBounds_toArray, List.set_cons_zero, List.set_cons_succ]
    refine takeH (i := 4) 70 (.int .u32 (th.ph : Int)) rfl rfl (by kernel_rfl) (by kernel_rfl) (by kernel_rfl) (fun _ _ _ h => h) (.inl ⟨by rfl, fun W hW => by (have hz := hW.cell 1 _ rfl; go_simp)⟩) HS0.out ?_
    simp only [Act.put, List.setIfInBounds_toArray, List.set_cons_zero, List.set_cons_succ]
    refine takeH (i := 5) 71 (.bool false) rfl rfl (by kernel_rfl) (by kernel_rfl) (by kernel_rfl) (fun _ _ _ h => h) (.inl ⟨by rfl, fun W hW => by go_simp⟩) HS0.out ?_
    simp only [Act.put, List.setIfInBounds_toArray, List.set_cons_zero, List.set_cons_succ]
    refine wpAnyH_ready (rs := [1]) (by kernel_rfl) (by simp) ?_
    refine AllReadyH.cons rfl (fun K hK => ?_) AllReadyH.nil
    go_simp
    refine (checkM_any th _).mono ?_
    rintro e w4 ⟨rfl, hb⟩
    have HS1 : Hid ((fun W : World => Bw W w.heap.size (mc th) 25) w4) := HS0.out.below hb
    have HG1 := Lib.hid (HG0.out.trans (hb.mono HG0.out.size))
    refine hK.out _ _ HS1.out fun _ => ?_
    clear hK K hb HS0 HG0
    rw [HZ.out]
    refine takeH (i := 2) 68 (.bool false) rfl rfl (by kernel_rfl) (by kernel_rfl) (by kernel_rfl) (fun _ _ _ h => h) (.inl ⟨by rfl, fun W hW => by go_simp⟩) HS1.out ?_
    simp only [Act.put, List.setIfInBounds_toArray, List.set_cons_zero, List.set_cons_succ]
    refine takeH (i := 6) 72 (.bool true) rfl rfl (by kernel_rfl) (by kernel_rfl) (by kernel_rfl) (fun _ _ _ h => h) (.inl ⟨by rfl, fun W hW => by go_simp⟩) HS1.out ?_
    simp only [Act.put, List.setIfInBounds_toArray, List.set_cons_zero, List.set_cons_succ]
    refine takeH (i := 7) 2 (.bool true) rfl rfl (by kernel_rfl) (by kernel_rfl) (by kernel_rfl) (fun _ _ _ h => h) (.inl ⟨by rfl, fun W hW => by go_simp⟩) HS1.out ?_
    simp only [Act.put, List.setIfInBounds_toArray, List.set_cons_zero, List.set_cons_succ]
    refine wpAnyH_done (by kernel_rfl) ?_ _
    go_wp2_with fail
    go_ret
    exact ⟨rfl, HG1.out⟩
  · have k1 : (s.ph : Int) = 2 := by omega
    have how : s.ow = true := h.2.1
    have g5 : decide ((33 : Int) ≤ (s.nx : Int)) = false := by simp; omega
    have HZ : Hid (Mk.chkM ⟨!s.ow, s.ph, s.pr, s.ep, s.sq, s.fr, s.gl, s.nx, s.rn⟩ = 1) := by show _ = _; rw [HFL.out]; simp [h]
    clear h HFL
    have e0 := HB2.out.cell 0 _ rfl
    have e1 := HB2.out.cell 1 _ rfl
    have e2 := HB2.out.cell 2 _ rfl
    have e3 := HB2.out.cell 3 _ rfl
    have e4 := HB2.out.cell 4 _ rfl
    have e5 := HB2.out.cell 5 _ rfl
    have e6 := HB2.out.cell 6 _ rfl
    have e7 := HB2.out.cell 7 _ rfl
    have e8 := HB2.out.cell 8 _ rfl
    go_upto_region 10 with fail
    clear g3 g5 e1 e2 e3 e4 e5 e6 e7 e8
    obtain ⟨th, hth⟩ : ∃ t : Ms, ⟨!s.ow, s.ph, s.pr, s.ep, s.sq, s.fr, s.gl, s.nx, s.rn⟩ = t := ⟨_, rfl⟩
    have HTC : Hid ([.bool false] ++ (mc s).drop 1 = mc th) := by show _ = _; rw [← hth]; simp [mc, how]
    have hthp : (th.ph : Int) = 2 := by rw [← hth]; exact k1
    rw [hth] at HZ
    clear hth
    go_upto_region 11 with (refine wpList_store_cell rfl 4 (.tmp 65) (.tmp 64) rfl w.heap.size 0 (.bool false) rfl rfl 25 _ HB2.out (by kernel_rfl) rfl (by simp [mc]) rfl ?_; intro w3 hb3 hs3 hk3)
    have hb4 : Bw w3 w.heap.size (mc th) 25 := by rw [← HTC.out]; exact hb3
    have HS0 : Hid ((fun W : World => Bw W w.heap.size (mc th) 25) w3.drew) := hb4
    have HG0 : Hid (Below w.heap.size w w3.drew) := (HW2.out.trans (hk3.below2 (fun k hk => by have := HLE.out; omega))).drew
    clear hb3 hs3 hk3 hb4 HW2 HB2 HTC e0 k1 how
    refine wp_region_held_drew (S := fun W : World => Bw W w.heap.size (mc th) 25) (by kernel_rfl) HS0.out (fun _ => ?_)
    change wpAnyH _ _ _ _ _ 8 (Array.replicate 8 false) _ _
    refine takeH (i := 0) 66 (.agg (mc th).toArray) rfl rfl (by kernel_rfl) (by kernel_rfl) (by kernel_rfl) (fun _ _ _ h => h) (.inl ⟨by rfl, fun W hW => by (exact run_load_part 25 (.tmp 1) rfl w.heap.size 0 rfl _ Try.underlying25 rfl (mc th) 25 _ hW size_Mk (fun j u hu => by rw [Nat.zero_add]; exact hu))⟩) HS0.out ?_
    simp only [Act.put, List.setIfInBounds_toArray, List.set_cons_zero, List.set_cons_succ]
    refine takeH (i := 3) 69 (.pointer (some ⟨w.heap.size, 1, none⟩)) rfl rfl (by kernel_rfl) (by kernel_rfl) (by kernel_rfl) (fun _ _ _ h => h) (.inl ⟨by rfl, fun W hW => by go_simp⟩) HS0.out ?_
    simp only [Act.put, List.setIfInBounds_toArray, List.set_cons_zero, List.set_cons_succ]
    refine takeH (i := 4) 70 (.int .u32 (th.ph : Int)) rfl rfl (by kernel_rfl) (by kernel_rfl) (by kernel_rfl) (fun _ _ _ h => h) (.inl ⟨by rfl, fun W hW => by (have hz := hW.cell 1 _ rfl; go_simp)⟩) HS0.out ?_
    simp only [Act.put, List.setIfInBounds_toArray, List.set_cons_zero, List.set_cons_succ]
    refine takeH (i := 5) 71 (.bool false) rfl rfl (by kernel_rfl) (by kernel_rfl) (by kernel_rfl) (fun _ _ _ h => h) (.inl ⟨by rfl, fun W hW => by go_simp⟩) HS0.out ?_
    simp only [Act.put, List.setIfInBounds_toArray, List.set_cons_zero, List.set_cons_succ]
    refine wpAnyH_ready (rs := [1]) (by kernel_rfl) (by simp) ?_
    refine AllReadyH.cons rfl (fun K hK => ?_) AllReadyH.nil
    go_simp
    refine (checkM_any th _).mono ?_
    rintro e w4 ⟨rfl, hb⟩
    have HS1 : Hid ((fun W : World => Bw W w.heap.size (mc th) 25) w4) := HS0.out.below hb
    have HG1 := Lib.hid (HG0.out.trans (hb.mono HG0.out.size))
    refine hK.out _ _ HS1.out fun _ => ?_
    clear hK K hb HS0 HG0
    rw [HZ.out]
    refine takeH (i := 2) 68 (.bool false) rfl rfl (by kernel_rfl) (by kernel_rfl) (by kernel_rfl) (fun _ _ _ h => h) (.inl ⟨by rfl, fun W hW => by go_simp⟩) HS1.out ?_
    simp only [Act.put, List.setIfInBounds_toArray, List.set_cons_zero, List.set_cons_succ]
    refine takeH (i := 6) 72 (.bool true) rfl rfl (by kernel_rfl) (by kernel_rfl) (by kernel_rfl) (fun _ _ _ h => h) (.inl ⟨by rfl, fun W hW => by go_simp⟩) HS1.out ?_
    simp only [Act.put, List.setIfInBounds_toArray, List.set_cons_zero, List.set_cons_succ]
    refine takeH (i := 7) 2 (.bool true) rfl rfl (by kernel_rfl) (by kernel_rfl) (by kernel_rfl) (fun _ _ _ h => h) (.inl ⟨by rfl, fun W hW => by go_simp⟩) HS1.out ?_
    simp only [Act.put, List.setIfInBounds_toArray, List.set_cons_zero, List.set_cons_succ]
    refine wpAnyH_done (by kernel_rfl) ?_ _
    go_wp2_with fail
    go_ret
    exact ⟨rfl, HG1.out⟩
  · have k1 : (s.ph : Int) = 3 := by omega
    have how : s.ow = false := h.2.1
    have g5 : decide ((33 : Int) ≤ (s.nx : Int)) = true := by simp; omega
    have HZ : Hid (Mk.chkM ⟨!s.ow, s.ph, s.pr, s.ep, s.sq, s.fr, s.gl, s.nx, s.rn⟩ = 1) := by show _ = _; rw [HFL.out]; simp [h]
    clear h HFL
    have e0 := HB2.out.cell 0 _ rfl
    have e1 := HB2.out.cell 1 _ rfl
    have e2 := HB2.out.cell 2 _ rfl
    have e3 := HB2.out.cell 3 _ rfl
    have e4 := HB2.out.cell 4 _ rfl
    have e5 := HB2.out.cell 5 _ rfl
    have e6 := HB2.out.cell 6 _ rfl
    have e7 := HB2.out.cell 7 _ rfl
    have e8 := HB2.out.cell 8 _ rfl
    go_upto_region 10 with fail
    clear g3 g5 e1 e2 e3 e4 e5 e6 e7 e8
    obtain ⟨th, hth⟩ : ∃ t : Ms, ⟨!s.ow, s.ph, s.pr, s.ep, s.sq, s.fr, s.gl, s.nx, s.rn⟩ = t := ⟨_, rfl⟩
    have HTC : Hid ([.bool true] ++ (mc s).drop 1 = mc th) := by show _ = _; rw [← hth]; simp [mc, how]
    have hthp : (th.ph : Int) = 3 := by rw [← hth]; exact k1
    rw [hth] at HZ
    clear hth
    go_upto_region 11 with (refine wpList_store_cell rfl 4 (.tmp 65) (.tmp 64) rfl w.heap.size 0 (.bool true) rfl rfl 25 _ HB2.out (by kernel_rfl) rfl (by simp [mc]) rfl ?_; intro w3 hb3 hs3 hk3)
    have hb4 : Bw w3 w.heap.size (mc th) 25 := by rw [← HTC.out]; exact hb3
    have HS0 : Hid ((fun W : World => Bw W w.heap.size (mc th) 25) w3.drew) := hb4
    have HG0 : Hid (Below w.heap.size w w3.drew) := (HW2.out.trans (hk3.below2 (fun k hk => by have := HLE.out; omega))).drew
    clear hb3 hs3 hk3 hb4 HW2 HB2 HTC e0 k1 how
    refine wp_region_held_drew (S := fun W : World => Bw W w.heap.size (mc th) 25) (by kernel_rfl) HS0.out (fun _ => ?_)
    change wpAnyH _ _ _ _ _ 8 (Array.replicate 8 false) _ _
    refine takeH (i := 0) 66 (.agg (mc th).toArray) rfl rfl (by kernel_rfl) (by kernel_rfl) (by kernel_rfl) (fun _ _ _ h => h) (.inl ⟨by rfl, fun W hW => by (exact run_load_part 25 (.tmp 1) rfl w.heap.size 0 rfl _ Try.underlying25 rfl (mc th) 25 _ hW size_Mk (fun j u hu => by rw [Nat.zero_add]; exact hu))⟩) HS0.out ?_
    simp only [Act.put, List.setIfInBounds_toArray, List.set_cons_zero, List.set_cons_succ]
    refine takeH (i := 3) 69 (.pointer (some ⟨w.heap.size, 1, none⟩)) rfl rfl (by kernel_rfl) (by kernel_rfl) (by kernel_rfl) (fun _ _ _ h => h) (.inl ⟨by rfl, fun W hW => by go_simp⟩) HS0.out ?_
    simp only [Act.put, List.setIfInBounds_toArray, List.set_cons_zero, List.set_cons_succ]
    refine takeH (i := 4) 70 (.int .u32 (th.ph : Int)) rfl rfl (by kernel_rfl) (by kernel_rfl) (by kernel_rfl) (fun _ _ _ h => h) (.inl ⟨by rfl, fun W hW => by (have hz := hW.cell 1 _ rfl; go_simp)⟩) HS0.out ?_
    simp only [Act.put, List.setIfInBounds_toArray, List.set_cons_zero, List.set_cons_succ]
    refine takeH (i := 5) 71 (.bool false) rfl rfl (by kernel_rfl) (by kernel_rfl) (by kernel_rfl) (fun _ _ _ h => h) (.inl ⟨by rfl, fun W hW => by go_simp⟩) HS0.out ?_
    simp only [Act.put, List.setIfInBounds_toArray, List.set_cons_zero, List.set_cons_succ]
    refine wpAnyH_ready (rs := [1]) (by kernel_rfl) (by simp) ?_
    refine AllReadyH.cons rfl (fun K hK => ?_) AllReadyH.nil
    go_simp
    refine (checkM_any th _).mono ?_
    rintro e w4 ⟨rfl, hb⟩
    have HS1 : Hid ((fun W : World => Bw W w.heap.size (mc th) 25) w4) := HS0.out.below hb
    have HG1 := Lib.hid (HG0.out.trans (hb.mono HG0.out.size))
    refine hK.out _ _ HS1.out fun _ => ?_
    clear hK K hb HS0 HG0
    rw [HZ.out]
    refine takeH (i := 2) 68 (.bool false) rfl rfl (by kernel_rfl) (by kernel_rfl) (by kernel_rfl) (fun _ _ _ h => h) (.inl ⟨by rfl, fun W hW => by go_simp⟩) HS1.out ?_
    simp only [Act.put, List.setIfInBounds_toArray, List.set_cons_zero, List.set_cons_succ]
    refine takeH (i := 6) 72 (.bool true) rfl rfl (by kernel_rfl) (by kernel_rfl) (by kernel_rfl) (fun _ _ _ h => h) (.inl ⟨by rfl, fun W hW => by go_simp⟩) HS1.out ?_
    simp only [Act.put, List.setIfInBounds_toArray, List.set_cons_zero, List.set_cons_succ]
    refine takeH (i := 7) 2 (.bool true) rfl rfl (by kernel_rfl) (by kernel_rfl) (by kernel_rfl) (fun _ _ _ h => h) (.inl ⟨by rfl, fun W hW => by go_simp⟩) HS1.out ?_
    simp only [Act.put, List.setIfInBounds_toArray, List.set_cons_zero, List.set_cons_succ]
    refine wpAnyH_done (by kernel_rfl) ?_ _
    go_wp2_with fail
    go_ret
    exact ⟨rfl, HG1.out⟩
  · have k1 : (s.ph : Int) = 4 := by omega
    have how : s.ow = false := h.2.1
    have g5 : decide ((33 : Int) ≤ (s.nx : Int)) = false := by simp; omega
    have HZ : Hid (Mk.chkM ⟨!s.ow, s.ph, s.pr, s.ep, s.sq, s.fr, s.gl, s.nx, s.rn⟩ = 1) := by show _ = _; rw [HFL.out]; simp [h]
    clear h HFL
    have e0 := HB2.out.cell 0 _ rfl
    have e1 := HB2.out.cell 1 _ rfl
    have e2 := HB2.out.cell 2 _ rfl
    have e3 := HB2.out.cell 3 _ rfl
    have e4 := HB2.out.cell 4 _ rfl
    have e5 := HB2.out.cell 5 _ rfl
    have e6 := HB2.out.cell 6 _ rfl
    have e7 := HB2.out.cell 7 _ rfl
    have e8 := HB2.out.cell 8 _ rfl
    go_upto_region 10 with fail
    clear g3 g5 e1 e2 e3 e4 e5 e6 e7 e8
    obtain ⟨th, hth⟩ : ∃ t : Ms, ⟨!s.ow, s.ph, s.pr, s.ep, s.sq, s.fr, s.gl, s.nx, s.rn⟩ = t := ⟨_, rfl⟩
    have HTC : Hid ([.bool true] ++ (mc s).drop 1 = mc th) := by show _ = _; rw [← hth]; simp [mc, how]
    have hthp : (th.ph : Int) = 4 := by rw [← hth]; exact k1
    rw [hth] at HZ
    clear hth
    go_upto_region 11 with (refine wpList_store_cell rfl 4 (.tmp 65) (.tmp 64) rfl w.heap.size 0 (.bool true) rfl rfl 25 _ HB2.out (by kernel_rfl) rfl (by simp [mc]) rfl ?_; intro w3 hb3 hs3 hk3)
    have hb4 : Bw w3 w.heap.size (mc th) 25 := by rw [← HTC.out]; exact hb3
    have HS0 : Hid ((fun W : World => Bw W w.heap.size (mc th) 25) w3.drew) := hb4
    have HG0 : Hid (Below w.heap.size w w3.drew) := (HW2.out.trans (hk3.below2 (fun k hk => by have := HLE.out; omega))).drew
    clear hb3 hs3 hk3 hb4 HW2 HB2 HTC e0 k1 how
    refine wp_region_held_drew (S := fun W : World => Bw W w.heap.size (mc th) 25) (by kernel_rfl) HS0.out (fun _ => ?_)
    change wpAnyH _ _ _ _ _ 8 (Array.replicate 8 false) _ _
    refine takeH (i := 0) 66 (.agg (mc th).toArray) rfl rfl (by kernel_rfl) (by kernel_rfl) (by kernel_rfl) (fun _ _ _ h => h) (.inl ⟨by rfl, fun W hW => by (exact run_load_part 25 (.tmp 1) rfl w.heap.size 0 rfl _ Try.underlying25 rfl (mc th) 25 _ hW size_Mk (fun j u hu => by rw [Nat.zero_add]; exact hu))⟩) HS0.out ?_
    simp only [Act.put, List.setIfInBounds_toArray, List.set_cons_zero, List.set_cons_succ]
    refine takeH (i := 3) 69 (.pointer (some ⟨w.heap.size, 1, none⟩)) rfl rfl (by kernel_rfl) (by kernel_rfl) (by kernel_rfl) (fun _ _ _ h => h) (.inl ⟨by rfl, fun W hW => by go_simp⟩) HS0.out ?_
    simp only [Act.put, List.setIfInBounds_toArray, List.set_cons_zero, List.set_cons_succ]
    refine takeH (i := 4) 70 (.int .u32 (th.ph : Int)) rfl rfl (by kernel_rfl) (by kernel_rfl) (by kernel_rfl) (fun _ _ _ h => h) (.inl ⟨by rfl, fun W hW => by (have hz := hW.cell 1 _ rfl; go_simp)⟩) HS0.out ?_
    simp only [Act.put, List.setIfInBounds_toArray, List.set_cons_zero, List.set_cons_succ]
    refine takeH (i := 5) 71 (.bool false) rfl rfl (by kernel_rfl) (by kernel_rfl) (by kernel_rfl) (fun _ _ _ h => h) (.inl ⟨by rfl, fun W hW => by go_simp⟩) HS0.out ?_
    simp only [Act.put, List.setIfInBounds_toArray, List.set_cons_zero, List.set_cons_succ]
    refine wpAnyH_ready (rs := [1]) (by kernel_rfl) (by simp) ?_
    refine AllReadyH.cons rfl (fun K hK => ?_) AllReadyH.nil
    go_simp
    refine (checkM_any th _).mono ?_
    rintro e w4 ⟨rfl, hb⟩
    have HS1 : Hid ((fun W : World => Bw W w.heap.size (mc th) 25) w4) := HS0.out.below hb
    have HG1 := Lib.hid (HG0.out.trans (hb.mono HG0.out.size))
    refine hK.out _ _ HS1.out fun _ => ?_
    clear hK K hb HS0 HG0
    rw [HZ.out]
    refine takeH (i := 2) 68 (.bool false) rfl rfl (by kernel_rfl) (by kernel_rfl) (by kernel_rfl) (fun _ _ _ h => h) (.inl ⟨by rfl, fun W hW => by go_simp⟩) HS1.out ?_
    simp only [Act.put, List.setIfInBounds_toArray, List.set_cons_zero, List.set_cons_succ]
    refine takeH (i := 6) 72 (.bool true) rfl rfl (by kernel_rfl) (by kernel_rfl) (by kernel_rfl) (fun _ _ _ h => h) (.inl ⟨by rfl, fun W hW => by go_simp⟩) HS1.out ?_
    simp only [Act.put, List.setIfInBounds_toArray, List.set_cons_zero, List.set_cons_succ]
    refine takeH (i := 7) 2 (.bool true) rfl rfl (by kernel_rfl) (by kernel_rfl) (by kernel_rfl) (fun _ _ _ h => h) (.inl ⟨by rfl, fun W hW => by go_simp⟩) HS1.out ?_
    simp only [Act.put, List.setIfInBounds_toArray, List.set_cons_zero, List.set_cons_succ]
    refine wpAnyH_done (by kernel_rfl) ?_ _
    go_wp2_with fail
    go_ret
    exact ⟨rfl, HG1.out⟩
  · have k1 : (s.ph : Int) = 5 := by omega
    have how : s.ow = false := h.2.1
    have g5 : decide ((33 : Int) ≤ (s.nx : Int)) = false := by simp; omega
    have HZ : Hid (Mk.chkM ⟨!s.ow, s.ph, s.pr, s.ep, s.sq, s.fr, s.gl, s.nx, s.rn⟩ = 1) := by show _ = _; rw [HFL.out]; simp [h]
    clear h HFL
    have e0 := HB2.out.cell 0 _ rfl
    have e1 := HB2.out.cell 1 _ rfl
    have e2 := HB2.out.cell 2 _ rfl
    have e3 := HB2.out.cell 3 _ rfl
    have e4 := HB2.out.cell 4 _ rfl
    have e5 := HB2.out.cell 5 _ rfl
    have e6 := HB2.out.cell 6 _ rfl
    have e7 := HB2.out.cell 7 _ rfl
    have e8 := HB2.out.cell 8 _ rfl
    go_upto_region 10 with fail
    clear g3 g5 e1 e2 e3 e4 e5 e6 e7 e8
    obtain ⟨th, hth⟩ : ∃ t : Ms, ⟨!s.ow, s.ph, s.pr, s.ep, s.sq, s.fr, s.gl, s.nx, s.rn⟩ = t := ⟨_, rfl⟩
    have HTC : Hid ([.bool true] ++ (mc s).drop 1 = mc th) := by show _ = _; rw [← hth]; simp [mc, how]
    have hthp : (th.ph : Int) = 5 := by rw [← hth]; exact k1
    rw [hth] at HZ
    clear hth
    go_upto_region 11 with (refine wpList_store_cell rfl 4 (.tmp 65) (.tmp 64) rfl w.heap.size 0 (.bool true) rfl rfl 25 _ HB2.out (by kernel_rfl) rfl (by simp [mc]) rfl ?_; intro w3 hb3 hs3 hk3)
    have hb4 : Bw w3 w.heap.size (mc th) 25 := by rw [← HTC.out]; exact hb3
    have HS0 : Hid ((fun W : World => Bw W w.heap.size (mc th) 25) w3.drew) := hb4
    have HG0 : Hid (Below w.heap.size w w3.drew) := (HW2.out.trans (hk3.below2 (fun k hk => by have := HLE.out; omega))).drew
    clear hb3 hs3 hk3 hb4 HW2 HB2 HTC e0 k1 how
    refine wp_region_held_drew (S := fun W : World => Bw W w.heap.size (mc th) 25) (by kernel_rfl) HS0.out (fun _ => ?_)
    change wpAnyH _ _ _ _ _ 8 (Array.replicate 8 false) _ _
    refine takeH (i := 0) 66 (.agg (mc th).toArray) rfl rfl (by kernel_rfl) (by kernel_rfl) (by kernel_rfl) (fun _ _ _ h => h) (.inl ⟨by rfl, fun W hW => by (exact run_load_part 25 (.tmp 1) rfl w.heap.size 0 rfl _ Try.underlying25 rfl (mc th) 25 _ hW size_Mk (fun j u hu => by rw [Nat.zero_add]; exact hu))⟩) HS0.out ?_
    simp only [Act.put, List.setIfInBounds_toArray, List.set_cons_zero, List.set_cons_succ]
    refine takeH (i := 3) 69 (.pointer (some ⟨w.heap.size, 1, none⟩)) rfl rfl (by kernel_rfl) (by kernel_rfl) (by kernel_rfl) (fun _ _ _ h => h) (.inl ⟨by rfl, fun W hW => by go_simp⟩) HS0.out ?_
    simp only [Act.put, List.setIfInBounds_toArray, List.set_cons_zero, List.set_cons_succ]
    refine takeH (i := 4) 70 (.int .u32 (th.ph : Int)) rfl rfl (by kernel_rfl) (by kernel_rfl) (by kernel_rfl) (fun _ _ _ h => h) (.inl ⟨by rfl, fun W hW => by (have hz := hW.cell 1 _ rfl; go_simp)⟩) HS0.out ?_
    simp only [Act.put, List.setIfInBounds_toArray, List.set_cons_zero, List.set_cons_succ]
    refine takeH (i := 5) 71 (.bool false) rfl rfl (by kernel_rfl) (by kernel_rfl) (by kernel_rfl) (fun _ _ _ h => h) (.inl ⟨by rfl, fun W hW => by go_simp⟩) HS0.out ?_
    simp only [Act.put, List.setIfInBounds_toArray, List.set_cons_zero, List.set_cons_succ]
    refine wpAnyH_ready (rs := [1]) (by kernel_rfl) (by simp) ?_
    refine AllReadyH.cons rfl (fun K hK => ?_) AllReadyH.nil
    go_simp
    refine (checkM_any th _).mono ?_
    rintro e w4 ⟨rfl, hb⟩
    have HS1 : Hid ((fun W : World => Bw W w.heap.size (mc th) 25) w4) := HS0.out.below hb
    have HG1 := Lib.hid (HG0.out.trans (hb.mono HG0.out.size))
    refine hK.out _ _ HS1.out fun _ => ?_
    clear hK K hb HS0 HG0
    rw [HZ.out]
    refine takeH (i := 2) 68 (.bool false) rfl rfl (by kernel_rfl) (by kernel_rfl) (by kernel_rfl) (fun _ _ _ h => h) (.inl ⟨by rfl, fun W hW => by go_simp⟩) HS1.out ?_
    simp only [Act.put, List.setIfInBounds_toArray, List.set_cons_zero, List.set_cons_succ]
    refine takeH (i := 6) 72 (.bool true) rfl rfl (by kernel_rfl) (by kernel_rfl) (by kernel_rfl) (fun _ _ _ h => h) (.inl ⟨by rfl, fun W hW => by go_simp⟩) HS1.out ?_
    simp only [Act.put, List.setIfInBounds_toArray, List.set_cons_zero, List.set_cons_succ]
    refine takeH (i := 7) 2 (.bool true) rfl rfl (by kernel_rfl) (by kernel_rfl) (by kernel_rfl) (fun _ _ _ h => h) (.inl ⟨by rfl, fun W hW => by go_simp⟩) HS1.out ?_
    simp only [Act.put, List.setIfInBounds_toArray, List.set_cons_zero, List.set_cons_succ]
    refine wpAnyH_done (by kernel_rfl) ?_ _
    go_wp2_with fail
    go_ret
    exact ⟨rfl, HG1.out⟩
end Go.Proofs.Ytjionpkflpnejaa
