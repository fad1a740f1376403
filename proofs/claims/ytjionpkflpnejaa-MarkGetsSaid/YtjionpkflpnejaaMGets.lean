/-
  The walk of the statement on any bytes (layer 15).
-/
import Derived.Test.YtjionpkflpnejaaMQ6
namespace Go.Proofs.Ytjionpkflpnejaa
open Go.RowKit Go.Shelf

set_option maxRecDepth 100000 in
set_option maxHeartbeats 8000000 in
theorem gets_walk (w : World) (B : Option Addr) (m cq : Nat) (bl : List UInt8) (h2 : BS w B m bl) :
    Calls Try.prog 4 #[.slice B m cq] w fun e w' => e = .returned (.bool true) ∧ Below w.heap.size w w' := by
  have HB := Lib.hid h2
  clear h2
  go_enter Try.func4, Try.ntmps4
  go_wp2_with fail
  refine (awakeM_any _).mono ?_
  rintro e w1 ⟨rfl, hb1⟩
  have HW1 := Lib.hid hb1
  clear hb1
  by_cases h0 : m ≤ 120
  rotate_left
  · have g0 : decide ((120 : Int) < (m : Int)) = true := by simp; omega
    go_wp2_with fail
    go_ret
    exact ⟨rfl, HW1.out⟩
  have g0 : decide ((120 : Int) < (m : Int)) = false := by simp; omega
  go_upto_region 6 with fail
  clear g0
  go_wp2_with fail
  refine (getM_any bl B m cq w1 (HB.out.below HW1.out) (by omega)).mono ?_
  rintro e w6 ⟨rfl, hb6⟩
  have HGOT : Hid (Mk.err bl = 0 → Mk.okM (Mk.got bl) = true ∧ Mk.put (Mk.got bl) = bl ∧ (Mk.got bl).Wide) := Mk.put_back bl
  have HREF := fun W => Lib.hid (refGetM_any bl W)
  generalize Mk.got bl = G at *
  generalize Mk.err bl = ge at *
  have HW6 := Lib.hid (HW1.out.trans (hb6.mono HW1.out.size))
  clear hb6 HW1 h0
  go_upto_region 7 with (first
    | (refine wpList_alloc_any rfl 25 rfl _ zero_Mk ?_; intro w7 hb7 hs7 hw7)
    | (refine wpList_store_part rfl 25 (.tmp 4) (.tmp 19) rfl w6.heap.size 0 (mc G) rfl rfl 25 _ hb7 size_Mk (by simp [mc]) (mc_one _) ?_
       intro w8 hb8 hs8 hk8))
  have hbw : Below w6.heap.size w6 w8 := hw7.trans (hk8.below2 (fun k hk => by omega))
  have HW8 := Lib.hid (HW6.out.trans (hbw.mono HW6.out.size))
  have HC8 : Hid (Bw w8 w6.heap.size (mc G) 25) := hb8
  clear hb7 hs7 hw7 hb8 hs8 hk8 hbw HW6
  generalize w6.heap.size = x at *
  have hcb := run_convert_bs w8 B m cq bl (HB.out.below HW8.out)
  go_wp2_with fail
  refine ((HREF w8).out).mono ?_
  rintro e w9 ⟨rfl, hb9⟩
  have HW9 := Lib.hid (HW8.out.trans (hb9.mono HW8.out.size))
  have HC9 := Lib.hid (HC8.out.below hb9)
  clear hb9 HW8 HC8 HREF hcb
  go_upto_region 8 with (first
    | (refine wpList_alloc_any rfl 33 rfl _ zero_M15 ?_; intro wa hba hsa hwa)
    | (refine wpList_store_part rfl 33 (.tmp 6) (.tmp 25) rfl w9.heap.size 0 (mc G) rfl rfl 33 _ hba size_M15 (by simp [mc]) (mc_one _) ?_
       intro wb hbb hsb hkb))
  have hbw : Below w9.heap.size w9 wb := hwa.trans (hkb.below2 (fun k hk => by omega))
  have hc9 := HC9.out.below hbw
  have hy9 : Bw wb w9.heap.size (mc G) 33 := hbb
  have HWb := Lib.hid ((HW9.out.trans (hbw.mono HW9.out.size)).drew)
  clear hba hsa hwa hbb hsb hkb hbw HW9 HC9
  generalize w9.heap.size = y at *
  have HSa : Hid ((fun W : World => Bw W x (mc G) 25 ∧ Bw W y (mc G) 33) wb.drew) := ⟨hc9, hy9⟩
  clear hc9 hy9
  have heq := rNe G G
  rw [decide_eq_true rfl] at heq
  refine wp_region_held_drew (S := fun W : World => Bw W x (mc G) 25 ∧ Bw W y (mc G) 33) (by kernel_rfl) HSa.out (fun _ => ?_)
  change wpAnyH _ _ _ _ _ 9 (Array.replicate 9 false) _ _
  refine takeH (i := 0) 27 (.int .i64 ge) rfl rfl (by kernel_rfl) (by kernel_rfl) (by kernel_rfl) (fun _ _ _ h => h) (.inl ⟨by rfl, fun W hW => by go_simp⟩) HSa.out ?_
  simp only [Act.put, List.setIfInBounds_toArray, List.set_cons_zero, List.set_cons_succ]
  refine takeH (i := 1) 28 (.int .i64 ge) rfl rfl (by kernel_rfl) (by kernel_rfl) (by kernel_rfl) (fun _ _ _ h => h) (.inl ⟨by rfl, fun W hW => by go_simp⟩) HSa.out ?_
  simp only [Act.put, List.setIfInBounds_toArray, List.set_cons_zero, List.set_cons_succ]
  refine takeH (i := 2) 29 (.bool false) rfl rfl (by kernel_rfl) (by kernel_rfl) (by kernel_rfl) (fun _ _ _ h => h) (.inl ⟨by rfl, fun W hW => by go_simp⟩) HSa.out ?_
  simp only [Act.put, List.setIfInBounds_toArray, List.set_cons_zero, List.set_cons_succ]
  refine takeH (i := 3) 30 (.bool false) rfl rfl (by kernel_rfl) (by kernel_rfl) (by kernel_rfl) (fun _ _ _ h => h) (.inl ⟨by rfl, fun W hW => by go_simp⟩) HSa.out ?_
  simp only [Act.put, List.setIfInBounds_toArray, List.set_cons_zero, List.set_cons_succ]
  refine takeH (i := 4) 31 (.agg (mc G).toArray) rfl rfl (by kernel_rfl) (by kernel_rfl) (by kernel_rfl) (fun _ _ _ h => h) (.inl ⟨by rfl, fun W hW => by (exact run_load_part 25 (.tmp 4) rfl x 0 rfl _ Try.underlying25 rfl (mc G) 25 _ hW.1 size_Mk (fun j u hu => by rw [Nat.zero_add]; exact hu))⟩) HSa.out ?_
  simp only [Act.put, List.setIfInBounds_toArray, List.set_cons_zero, List.set_cons_succ]
  refine takeH (i := 6) 33 (.agg (mc G).toArray) rfl rfl (by kernel_rfl) (by kernel_rfl) (by kernel_rfl) (fun _ _ _ h => h) (.inl ⟨by rfl, fun W hW => by (exact run_load_part 33 (.tmp 6) rfl y 0 rfl _ Try.underlying33 rfl (mc G) 33 _ hW.2 size_M15 (fun j u hu => by rw [Nat.zero_add]; exact hu))⟩) HSa.out ?_
  simp only [Act.put, List.setIfInBounds_toArray, List.set_cons_zero, List.set_cons_succ]
  refine wpAnyH_ready (rs := [5]) (by kernel_rfl) (by simp) ?_
  refine AllReadyH.cons rfl (fun K hK => ?_) AllReadyH.nil
  go_simp
  refine (stateOf_any G _).mono ?_
  rintro e wc ⟨rfl, hb⟩
  have HS1 : Hid ((fun W : World => Bw W x (mc G) 25 ∧ Bw W y (mc G) 33) wc) := ⟨HSa.out.1.below hb, HSa.out.2.below hb⟩
  have HW2 := Lib.hid (HWb.out.trans (hb.mono HWb.out.size))
  refine hK.out _ _ HS1.out fun _ => ?_
  clear hK K hb HSa HWb
  refine takeH (i := 7) 34 (.bool false) rfl rfl (by kernel_rfl) (by kernel_rfl) (by kernel_rfl) (fun _ _ _ h => h) (.inl ⟨by rfl, fun W hW => by go_simp⟩) HS1.out ?_
  simp only [Act.put, List.setIfInBounds_toArray, List.set_cons_zero, List.set_cons_succ]
  refine takeH (i := 8) 35 (.bool false) rfl rfl (by kernel_rfl) (by kernel_rfl) (by kernel_rfl) (fun _ _ _ h => h) (.inl ⟨by rfl, fun W hW => by go_simp⟩) HS1.out ?_
  simp only [Act.put, List.setIfInBounds_toArray, List.set_cons_zero, List.set_cons_succ]
  refine wpAnyH_done (by kernel_rfl) ?_ _
  clear heq
  go_upto_region 10 with fail
  by_cases hge : ge = 0
  rotate_left
  · have hd : (ge != 0) = true := by simpa using hge
    go_wp2_with fail
    go_ret
    exact ⟨rfl, HW2.out⟩
  have hd : (ge != 0) = false := by simpa using hge
  obtain ⟨hgo, hgp, hgw⟩ := HGOT.out hge
  have hze : Mk.chkM G = 0 := if_pos hgo
  clear hge hgo HGOT
  go_wp2_with (refine wpList_load_part rfl 25 (.tmp 4) rfl _ 0 rfl _ Try.underlying25 rfl (mc G) 25 _ HS1.out.1 size_Mk (fun j u hu => by rw [Nat.zero_add]; exact hu) ?_)
  refine (putM_any G _ hgw).mono ?_
  rintro e wy ⟨Y1, y2, y3, rfl, hoy⟩
  rw [hze]
  rw [hgp] at hoy
  have HWy := Lib.hid (HW2.out.trans (hoy.2.mono HW2.out.size))
  have hcv := run_convert_bs wy Y1 y2 y3 bl hoy.bs
  have hcw := run_convert_bs wy B m cq bl (HB.out.below HWy.out)
  clear hze hgp hoy hgw
  go_wp2_with fail
  go_ret
  exact ⟨by simp, HWy.out⟩
end Go.Proofs.Ytjionpkflpnejaa
