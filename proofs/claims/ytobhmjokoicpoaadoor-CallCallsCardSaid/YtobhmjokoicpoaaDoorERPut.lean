
/-
  Contract of the reference's Put (layer 8).
-/
import Derived.Test.YtobhmjokoicpoaaDoorEMay
import Derived.Test.YtobhmjokoicpoaaDoorEOf
namespace Go.Proofs.YtobhmjokoicpoaaDoor
open Go.RowKit Go.Shelf

theorem encs_take_succ {es : List En} {k : Nat} (hk : k < es.length) : encs (es.take (k + 1)) = encs (es.take k) ++ enc1 es[k] := by
  unfold encs
  rw [List.take_succ_eq_append_getElem hk, List.flatMap_append]
  simp only [List.flatMap_cons, List.flatMap_nil, List.append_nil]
theorem opq_len_le (b : List UInt8) : (opq b).length ≤ b.length + 7 := by
  rw [opq_length]
  unfold pad
  omega

set_option maxRecDepth 100000 in
set_option maxHeartbeats 8000000 in
theorem refPut_any (A : Option Addr) (n c : Nat) (es : List En) (w : World) (h : ES w A n es) (hw : ∀ e ∈ es, e.Wide) (hn : n ≤ 10000000) (hlen : okB es = true → (encs es).length ≤ 80000000) :
    Calls Tryd.prog 48 #[.slice A n c] w fun e w' => e = .returned (.tuple #[.string (txt (putE es)), .int .i64 (chkE es)]) ∧ Below w.heap.size w w' := by
  have HSS := Lib.hid h
  have HN : Hid (es.length = n) := h.1
  have HWD := Lib.hid hw
  clear h hw
  go_enter Tryd.func48, Tryd.ntmps48
  go_wp2_with fail
  refine (refMay_any A n c es w HSS.out hn).mono ?_
  rintro en w1 ⟨rfl, hb1⟩
  have HB1 := Lib.hid hb1
  clear hb1
  cases hok : okB es
  · have HP : Hid (putE es = []) := if_neg (by rw [hok]; simp)
    have HC : Hid (chkE es = 11) := if_neg (by rw [hok]; simp)
    clear hok
    go_wp2_with fail
    go_ret2
    exact ⟨by rw [HP.out, HC.out] <;> rfl, HB1.out⟩
  have HP : Hid (putE es = encs es) := if_pos hok
  have HC : Hid (chkE es = 0) := if_pos hok
  have HLL := Lib.hid (hlen hok)
  have HNN := Lib.hid (okB_names es hok)
  clear hok hlen
  go_wp2_with fail
  go_loopw [5, 6] (fun s i wr => ∃ k : Nat, k ≤ n ∧ i = .int .i64 k ∧ s = .string (txt (encs (es.take k))) ∧ Hid (Below w.heap.size w wr)) (fun _ i _ => n - (intOf i).toNat)
  case atStart => exact ⟨0, Nat.zero_le _, rfl, rfl, HB1⟩
  case round =>
    obtain ⟨k, hk, rfl, rfl, HWr⟩ := hrel
    by_cases hlt : k < n
    · have hlt' : (k : Int) < (n : Int) := by omega
      obtain ⟨b, o, rfl, hbl, hj, hc⟩ := (HSS.out.below HWr.out).at hlt
      have HTK := Lib.hid (encs_take_succ hj)
      have HAL := Lib.hid (Nat.le_trans (encs_le es k) HLL.out)
      have HWE := Lib.hid (HWD.out _ (List.getElem_mem hj))
      have HNM := Lib.hid (HNN.out _ (List.getElem_mem hj))
      have HOQ := Lib.hid (opq_len_le es[k].nm)
      generalize es[k] = e at *
      have HS : Hid (E4 b (o + k * 4) e wr.drew) := (let h : E4 b (o + k * 4) e wr := E4.of hc; ⟨h.c0, h.c1, h.c2, h.c3⟩)
      clear hc
      generalize encs (es.take k) = acc at *
      go_upto_region 8 with (fail)
      refine wp_region_held_drew (S := E4 b (o + k * 4) e) (by kernel_rfl) HS.out (fun _ => ?_)
      change wpAnyH _ _ _ _ _ 32 (Array.replicate 32 false) _ _
      have HWr : Hid (Below w.heap.size w wr.drew) := ⟨HWr.out.os, HWr.out.tape, HWr.out.output, HWr.out.size, HWr.out.block⟩
      refine takeH (i := 0) 17 (.string (txt acc)) rfl rfl (by kernel_rfl) (by kernel_rfl) (by kernel_rfl) (fun _ _ _ h => h) (.inl ⟨by rfl, fun W hW => by go_simp⟩) HS.out ?_
      simp only [Act.put, List.setIfInBounds_toArray, List.set_cons_zero, List.set_cons_succ]
      refine takeH (i := 1) 18 (.slice (some ⟨b, o, none⟩) n c) rfl rfl (by kernel_rfl) (by kernel_rfl) (by kernel_rfl) (fun _ _ _ h => h) (.inl ⟨by rfl, fun W hW => by go_simp⟩) HS.out ?_
      simp only [Act.put, List.setIfInBounds_toArray, List.set_cons_zero, List.set_cons_succ]
      refine takeH (i := 2) 19 (.int .i64 (k : Int)) rfl rfl (by kernel_rfl) (by kernel_rfl) (by kernel_rfl) (fun _ _ _ h => h) (.inl ⟨by rfl, fun W hW => by go_simp⟩) HS.out ?_
      simp only [Act.put, List.setIfInBounds_toArray, List.set_cons_zero, List.set_cons_succ]
      refine takeH (i := 3) 20 (.pointer (some ⟨b, o + k * 4, none⟩)) rfl rfl (by kernel_rfl) (by kernel_rfl) (by kernel_rfl) (fun _ _ _ h => h) (.inl ⟨by rfl, fun W hW => by go_simp⟩) HS.out ?_
      simp only [Act.put, List.setIfInBounds_toArray, List.set_cons_zero, List.set_cons_succ]
      refine takeH (i := 4) 21 (.pointer (some ⟨b, o + k * 4, none⟩)) rfl rfl (by kernel_rfl) (by kernel_rfl) (by kernel_rfl) (fun _ _ _ h => h) (.inl ⟨by rfl, fun W hW => by go_simp⟩) HS.out ?_
      simp only [Act.put, List.setIfInBounds_toArray, List.set_cons_zero, List.set_cons_succ]
      refine takeH (i := 5) 22 (.int .u64 (e.ck : Int)) rfl rfl (by kernel_rfl) (by kernel_rfl) (by kernel_rfl) (fun _ _ _ h => h) (.inl ⟨by rfl, fun W hW => by (obtain ⟨k0, k1, k2, k3⟩ := hW; go_simp)⟩) HS.out ?_
      simp only [Act.put, List.setIfInBounds_toArray, List.set_cons_zero, List.set_cons_succ]
      refine takeH (i := 7) 24 (.slice (some ⟨b, o, none⟩) n c) rfl rfl (by kernel_rfl) (by kernel_rfl) (by kernel_rfl) (fun _ _ _ h => h) (.inl ⟨by rfl, fun W hW => by go_simp⟩) HS.out ?_
      simp only [Act.put, List.setIfInBounds_toArray, List.set_cons_zero, List.set_cons_succ]
      refine takeH (i := 8) 25 (.int .i64 (k : Int)) rfl rfl (by kernel_rfl) (by kernel_rfl) (by kernel_rfl) (fun _ _ _ h => h) (.inl ⟨by rfl, fun W hW => by go_simp⟩) HS.out ?_
      simp only [Act.put, List.setIfInBounds_toArray, List.set_cons_zero, List.set_cons_succ]
      refine takeH (i := 9) 26 (.pointer (some ⟨b, o + k * 4, none⟩)) rfl rfl (by kernel_rfl) (by kernel_rfl) (by kernel_rfl) (fun _ _ _ h => h) (.inl ⟨by rfl, fun W hW => by go_simp⟩) HS.out ?_
      simp only [Act.put, List.setIfInBounds_toArray, List.set_cons_zero, List.set_cons_succ]
      refine takeH (i := 10) 27 (.pointer (some ⟨b, o + k * 4 + 1, none⟩)) rfl rfl (by kernel_rfl) (by kernel_rfl) (by kernel_rfl) (fun _ _ _ h => h) (.inl ⟨by rfl, fun W hW => by go_simp⟩) HS.out ?_
      simp only [Act.put, List.setIfInBounds_toArray, List.set_cons_zero, List.set_cons_succ]
      refine takeH (i := 11) 28 (.pointer (some ⟨b, o + k * 4 + 1, none⟩)) rfl rfl (by kernel_rfl) (by kernel_rfl) (by kernel_rfl) (fun _ _ _ h => h) (.inl ⟨by rfl, fun W hW => by go_simp⟩) HS.out ?_
      simp only [Act.put, List.setIfInBounds_toArray, List.set_cons_zero, List.set_cons_succ]
      refine takeH (i := 12) 29 (.int .u32 (e.ino : Int)) rfl rfl (by kernel_rfl) (by kernel_rfl) (by kernel_rfl) (fun _ _ _ h => h) (.inl ⟨by rfl, fun W hW => by (obtain ⟨k0, k1, k2, k3⟩ := hW; go_simp)⟩) HS.out ?_
      simp only [Act.put, List.setIfInBounds_toArray, List.set_cons_zero, List.set_cons_succ]
      refine takeH (i := 15) 32 (.slice (some ⟨b, o, none⟩) n c) rfl rfl (by kernel_rfl) (by kernel_rfl) (by kernel_rfl) (fun _ _ _ h => h) (.inl ⟨by rfl, fun W hW => by go_simp⟩) HS.out ?_
      simp only [Act.put, List.setIfInBounds_toArray, List.set_cons_zero, List.set_cons_succ]
      refine takeH (i := 16) 33 (.int .i64 (k : Int)) rfl rfl (by kernel_rfl) (by kernel_rfl) (by kernel_rfl) (fun _ _ _ h => h) (.inl ⟨by rfl, fun W hW => by go_simp⟩) HS.out ?_
      simp only [Act.put, List.setIfInBounds_toArray, List.set_cons_zero, List.set_cons_succ]
      refine takeH (i := 17) 34 (.pointer (some ⟨b, o + k * 4, none⟩)) rfl rfl (by kernel_rfl) (by kernel_rfl) (by kernel_rfl) (fun _ _ _ h => h) (.inl ⟨by rfl, fun W hW => by go_simp⟩) HS.out ?_
      simp only [Act.put, List.setIfInBounds_toArray, List.set_cons_zero, List.set_cons_succ]
      refine takeH (i := 18) 35 (.pointer (some ⟨b, o + k * 4 + 1, none⟩)) rfl rfl (by kernel_rfl) (by kernel_rfl) (by kernel_rfl) (fun _ _ _ h => h) (.inl ⟨by rfl, fun W hW => by go_simp⟩) HS.out ?_
      simp only [Act.put, List.setIfInBounds_toArray, List.set_cons_zero, List.set_cons_succ]
      refine takeH (i := 19) 36 (.pointer (some ⟨b, o + k * 4 + 2, none⟩)) rfl rfl (by kernel_rfl) (by kernel_rfl) (by kernel_rfl) (fun _ _ _ h => h) (.inl ⟨by rfl, fun W hW => by go_simp⟩) HS.out ?_
      simp only [Act.put, List.setIfInBounds_toArray, List.set_cons_zero, List.set_cons_succ]
      refine takeH (i := 20) 37 (.int .u32 (e.gen : Int)) rfl rfl (by kernel_rfl) (by kernel_rfl) (by kernel_rfl) (fun _ _ _ h => h) (.inl ⟨by rfl, fun W hW => by (obtain ⟨k0, k1, k2, k3⟩ := hW; go_simp)⟩) HS.out ?_
      simp only [Act.put, List.setIfInBounds_toArray, List.set_cons_zero, List.set_cons_succ]
      refine takeH (i := 23) 40 (.slice (some ⟨b, o, none⟩) n c) rfl rfl (by kernel_rfl) (by kernel_rfl) (by kernel_rfl) (fun _ _ _ h => h) (.inl ⟨by rfl, fun W hW => by go_simp⟩) HS.out ?_
      simp only [Act.put, List.setIfInBounds_toArray, List.set_cons_zero, List.set_cons_succ]
      refine takeH (i := 24) 41 (.int .i64 (k : Int)) rfl rfl (by kernel_rfl) (by kernel_rfl) (by kernel_rfl) (fun _ _ _ h => h) (.inl ⟨by rfl, fun W hW => by go_simp⟩) HS.out ?_
      simp only [Act.put, List.setIfInBounds_toArray, List.set_cons_zero, List.set_cons_succ]
      refine takeH (i := 25) 42 (.pointer (some ⟨b, o + k * 4, none⟩)) rfl rfl (by kernel_rfl) (by kernel_rfl) (by kernel_rfl) (fun _ _ _ h => h) (.inl ⟨by rfl, fun W hW => by go_simp⟩) HS.out ?_
      simp only [Act.put, List.setIfInBounds_toArray, List.set_cons_zero, List.set_cons_succ]
      refine takeH (i := 26) 43 (.pointer (some ⟨b, o + k * 4 + 3, none⟩)) rfl rfl (by kernel_rfl) (by kernel_rfl) (by kernel_rfl) (fun _ _ _ h => h) (.inl ⟨by rfl, fun W hW => by go_simp⟩) HS.out ?_
      simp only [Act.put, List.setIfInBounds_toArray, List.set_cons_zero, List.set_cons_succ]
      refine takeH (i := 27) 44 (.string (txt e.nm)) rfl rfl (by kernel_rfl) (by kernel_rfl) (by kernel_rfl) (fun _ _ _ h => h) (.inl ⟨by rfl, fun W hW => by (obtain ⟨k0, k1, k2, k3⟩ := hW; go_simp)⟩) HS.out ?_
      simp only [Act.put, List.setIfInBounds_toArray, List.set_cons_zero, List.set_cons_succ]
      refine wpAnyH_ready (rs := [6]) (by kernel_rfl) (by simp) ?_
      refine AllReadyH.cons rfl (fun K hK => ?_) AllReadyH.nil
      go_simp
      refine (refU64 e.ck _ HWE.out.c).mono ?_
      rintro en wa1 ⟨rfl, hb1⟩
      have HS1 := Lib.hid (HS.out.below hb1)
      have HW1 := Lib.hid (HWr.out.trans (hb1.mono HWr.out.size))
      refine hK.out _ _ HS1.out fun _ => ?_
      clear hK K hb1
      refine wpAnyH_ready (rs := [13]) (by kernel_rfl) (by simp) ?_
      refine AllReadyH.cons rfl (fun K hK => ?_) AllReadyH.nil
      go_simp
      refine (refU32 (e.ino : Int) _ (by omega) (by have := HWE.out.i; omega)).mono ?_
      rintro en wa2 ⟨rfl, hb2⟩
      have HS2 := Lib.hid (HS1.out.below hb2)
      have HW2 := Lib.hid (HW1.out.trans (hb2.mono HW1.out.size))
      refine hK.out _ _ HS2.out fun _ => ?_
      clear hK K hb2
      rw [Int.toNat_natCast]
      obtain ⟨q1, hq1⟩ : ∃ q, be 8 e.ck ++ be 4 e.ino = q := ⟨_, rfl⟩
      have HQL1 : Hid (q1.length = 8 + 4) := by show _ = _; rw [← hq1, List.length_append]; simp only [be_length]
      have y1 : ¬ 9223372036854775807 < (txt (be 8 e.ck)).size + (txt (be 4 e.ino)).size := by rw [txt_size, txt_size, ← List.length_append, hq1, HQL1.out]; have := HAL.out; have := HOQ.out; have := HNM.out; omega
      have z1 : txt (be 8 e.ck) ++ txt (be 4 e.ino) = txt q1 := by rw [txt_append, hq1]
      have HQ1 := Lib.hid hq1
      clear hq1
      refine takeH (i := 14) 31 (.string (txt q1)) rfl rfl (by kernel_rfl) (by kernel_rfl) (by kernel_rfl) (fun _ _ _ h => h) (.inl ⟨by rfl, fun W hW => by go_simp⟩) HS2.out ?_
      simp only [Act.put, List.setIfInBounds_toArray, List.set_cons_zero, List.set_cons_succ]
      clear y1 z1
      refine wpAnyH_ready (rs := [21]) (by kernel_rfl) (by simp) ?_
      refine AllReadyH.cons rfl (fun K hK => ?_) AllReadyH.nil
      go_simp
      refine (refU32 (e.gen : Int) _ (by omega) (by have := HWE.out.g; omega)).mono ?_
      rintro en wa3 ⟨rfl, hb3⟩
      have HS3 := Lib.hid (HS2.out.below hb3)
      have HW3 := Lib.hid (HW2.out.trans (hb3.mono HW2.out.size))
      refine hK.out _ _ HS3.out fun _ => ?_
      clear hK K hb3
      rw [Int.toNat_natCast]
      obtain ⟨q2, hq2⟩ : ∃ q, q1 ++ be 4 e.gen = q := ⟨_, rfl⟩
      have HQL2 : Hid (q2.length = (8 + 4) + 4) := by show _ = _; rw [← hq2, List.length_append]; simp only [be_length, HQL1.out]
      have y2 : ¬ 9223372036854775807 < (txt (q1)).size + (txt (be 4 e.gen)).size := by rw [txt_size, txt_size, ← List.length_append, hq2, HQL2.out]; have := HAL.out; have := HOQ.out; have := HNM.out; omega
      have z2 : txt (q1) ++ txt (be 4 e.gen) = txt q2 := by rw [txt_append, hq2]
      have HQ2 := Lib.hid hq2
      clear hq2
      refine takeH (i := 22) 39 (.string (txt q2)) rfl rfl (by kernel_rfl) (by kernel_rfl) (by kernel_rfl) (fun _ _ _ h => h) (.inl ⟨by rfl, fun W hW => by go_simp⟩) HS3.out ?_
      simp only [Act.put, List.setIfInBounds_toArray, List.set_cons_zero, List.set_cons_succ]
      clear y2 z2
      refine wpAnyH_ready (rs := [28]) (by kernel_rfl) (by simp) ?_
      refine AllReadyH.cons rfl (fun K hK => ?_) AllReadyH.nil
      go_simp
      refine (refOpaque e.nm _ (by have := HNM.out; omega)).mono ?_
      rintro en wa4 ⟨rfl, hb4⟩
      have HS4 := Lib.hid (HS3.out.below hb4)
      have HW4 := Lib.hid (HW3.out.trans (hb4.mono HW3.out.size))
      refine hK.out _ _ HS4.out fun _ => ?_
      clear hK K hb4
      obtain ⟨q3, hq3⟩ : ∃ q, q2 ++ opq e.nm = q := ⟨_, rfl⟩
      have HQL3 : Hid (q3.length = (8 + 4 + 4) + (opq e.nm).length) := by show _ = _; rw [← hq3, List.length_append]; simp only [HQL2.out]
      have y3 : ¬ 9223372036854775807 < (txt (q2)).size + (txt (opq e.nm)).size := by rw [txt_size, txt_size, ← List.length_append, hq3, HQL3.out]; have := HAL.out; have := HOQ.out; have := HNM.out; omega
      have z3 : txt (q2) ++ txt (opq e.nm) = txt q3 := by rw [txt_append, hq3]
      have HQ3 := Lib.hid hq3
      clear hq3
      refine takeH (i := 29) 46 (.string (txt q3)) rfl rfl (by kernel_rfl) (by kernel_rfl) (by kernel_rfl) (fun _ _ _ h => h) (.inl ⟨by rfl, fun W hW => by go_simp⟩) HS4.out ?_
      simp only [Act.put, List.setIfInBounds_toArray, List.set_cons_zero, List.set_cons_succ]
      clear y3 z3
      have HE1 : Hid (q3 = enc1 e) := by show _ = _; rw [← HQ3.out, ← HQ2.out, ← HQ1.out]; rfl
      have z4 : txt acc ++ txt q3 = txt (acc ++ q3) := txt_append _ _
      have y4 : ¬ 9223372036854775807 < (txt acc).size + (txt q3).size := by rw [txt_size, txt_size, HQL3.out]; have := HAL.out; have := HOQ.out; have := HNM.out; omega
      refine takeH (i := 30) 47 (.string (txt (acc ++ q3))) rfl rfl (by kernel_rfl) (by kernel_rfl) (by kernel_rfl) (fun _ _ _ h => h) (.inl ⟨by rfl, fun W hW => by go_simp⟩) HS4.out ?_
      simp only [Act.put, List.setIfInBounds_toArray, List.set_cons_zero, List.set_cons_succ]
      refine takeH (i := 31) 5 (.string (txt (acc ++ q3))) rfl rfl (by kernel_rfl) (by kernel_rfl) (by kernel_rfl) (fun _ _ _ h => h) (.inl ⟨by rfl, fun W hW => by go_simp⟩) HS4.out ?_
      simp only [Act.put, List.setIfInBounds_toArray, List.set_cons_zero, List.set_cons_succ]
      refine wpAnyH_done (by kernel_rfl) ?_ _
      go_wp2_with fail
      go_roundw
      case rel => exact ⟨k + 1, by omega, by go_num, by rw [HTK.out, HE1.out], HW4⟩
      case measure => simp [intOf]; omega
    · obtain rfl : k = n := by omega
      have HT : Hid (es.take k = es) := List.take_of_length_le (by rw [HN.out]; exact Nat.le_refl _)
      rw [HT.out]
      go_wp2_with fail
      go_ret2
      exact ⟨by rw [HP.out, HC.out] <;> rfl, HWr.out⟩
end Go.Proofs.YtobhmjokoicpoaaDoor
