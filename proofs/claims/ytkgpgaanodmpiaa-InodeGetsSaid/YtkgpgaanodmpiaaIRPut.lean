/-
  The document's Put, walked (layer 7).
-/
import Derived.Test.YtkgpgaanodmpiaaIRCheck
namespace Go.Proofs.Ytkgpgaanodmpiaa
open Go.RowKit

theorem GN.below {w W W' : World} {b n : Nat} {cs : Array Value} {A : Option Addr} {xs : List Nat} (h : GN w b cs A n xs W) (hb : Below W.heap.size W W') : GN w b cs A n xs W' := by
  refine ⟨(hb.block b ?_).trans h.nod, h.bel.trans (hb.mono h.bel.size), h.ns.below hb⟩
  have h2 := h.nod
  rcases Nat.lt_or_ge b W.heap.size with h | h
  · exact h
  · rw [Array.getElem?_eq_none h] at h2; cases h2
/-- What the document's Put hands back. -/
def RPutP (x : Nd) (w : World) (e : Ending) (w' : World) : Prop := e = .returned (.tuple #[.string (txt x.put), .int .i64 x.chk]) ∧ Below w.heap.size w w'
theorem sz (a : List UInt8) (n : Nat) (h : a.length = n) : (txt a).size = n := by rw [txt_size, h]

set_option maxRecDepth 100000 in
set_option maxHeartbeats 4000000 in
theorem refPut_any (k g li m s c o v : Nat) (A : Option Addr) (n cp : Nat) (xs : List Nat) (w : World) (hw : (Nd.mk k g li m s c o v xs).Wide) (hx : NS .u32 w A n xs) (hn : n ≤ 1000000) :
    Calls Try.prog 11 #[(.agg #[.int .u32 (k : Int), .int .u32 (g : Int), .int .u32 (li : Int), .int .u32 (m : Int), .int .u32 (s : Int), .int .u64 (c : Int), .int .u64 (o : Int), .int .u64 (v : Int), .slice A n cp])] w (RPutP (Nd.mk k g li m s c o v xs) w) := by
  have HW := Lib.hid hw
  have HX := Lib.hid hx
  have Hn := Lib.hid hx.1
  clear hw hx
  have HA : Hid (Below w.heap.size w (w.alloc (.cells #[.int .u32 (k : Int), .int .u32 (g : Int), .int .u32 (li : Int), .int .u32 (m : Int), .int .u32 (s : Int), .int .u64 (c : Int), .int .u64 (o : Int), .int .u64 (v : Int), .slice A n cp] 34))) := (Below.refl _ _).alloc (Nat.le_refl _) _
  have HG0 : Hid (GN w w.heap.size #[.int .u32 (k : Int), .int .u32 (g : Int), .int .u32 (li : Int), .int .u32 (m : Int), .int .u32 (s : Int), .int .u64 (c : Int), .int .u64 (o : Int), .int .u64 (v : Int), .slice A n cp] A n xs (w.alloc (.cells #[.int .u32 (k : Int), .int .u32 (g : Int), .int .u32 (li : Int), .int .u32 (m : Int), .int .u32 (s : Int), .int .u64 (c : Int), .int .u64 (o : Int), .int .u64 (v : Int), .slice A n cp] 34))) := ⟨heap_alloc_new w _, HA.out, HX.out.below HA.out⟩
  have HC := Lib.hid (refCheck_any k g li m s c o v A n cp xs _ HW.out HG0.out.ns hn)
  go_enter Try.func11, Try.ntmps11
  go_wp2_with fail
  refine (HC.out).mono ?_
  rintro e w1 ⟨rfl, hb1⟩
  have HG1 := Lib.hid (HG0.out.below hb1)
  clear hb1 HC HG0 HA
  by_cases hok : (Nd.mk k g li m s c o v xs).okB = true
  rotate_left
  · have hz : (Nd.mk k g li m s c o v xs).chk = 1 := if_neg hok
    have HP : Hid ((Nd.mk k g li m s c o v xs).put = []) := if_neg (fun h => hok h.1)
    have HZ := Lib.hid hz
    rw [hz]
    clear hz hok
    go_wp2
    go_ret2
    unfold RPutP
    rw [HZ.out, HP.out]
    exact ⟨rfl, HG1.out.bel⟩
  have hz : (Nd.mk k g li m s c o v xs).chk = 0 := if_pos hok
  have Hok := Lib.hid hok
  have HZ := Lib.hid hz
  rw [hz]
  clear hz hok
  have hn8 : n ≤ 8 := by have h1 := Nd.okB_len _ Hok.out; have h2 := Hn.out; simp only at h1; omega
  obtain ⟨c0, c1, c2, c3, c4, c5, c6, c7, c8⟩ := N_cells HG1.out.nod
  go_wp2_with fail
  refine (refEmpty_any k g li m s c o v A n cp w1).mono ?_
  rintro e w2 ⟨rfl, hb2⟩
  rw [← Nd.blank_ok (Nd.mk k g li m s c o v xs) Hok.out]
  have HG2 := Lib.hid (HG1.out.below hb2)
  clear hb2 HG1 c0 c1 c2 c3 c4 c5 c6 c7 c8
  by_cases hbl : (Nd.mk k g li m s c o v xs).blank = true
  · have HP : Hid ((Nd.mk k g li m s c o v xs).put = []) := if_neg (fun h => by rw [hbl] at h; cases h.2)
    rw [hbl]
    clear hbl
    go_wp2
    go_ret2
    unfold RPutP
    rw [HZ.out, HP.out]
    exact ⟨rfl, HG2.out.bel⟩
  have hbl : (Nd.mk k g li m s c o v xs).blank = false := by simpa using hbl
  have HP : Hid ((Nd.mk k g li m s c o v xs).put = (Nd.mk k g li m s c o v xs).code) := if_pos ⟨Hok.out, hbl⟩
  rw [hbl]
  clear hbl Hok
  go_upto_region 6 with (fail)
  have HS : Hid ((fun W : World => W.cell? ⟨w.heap.size, 0, none⟩ = some (.int .u32 (k : Int)) ∧ W.cell? ⟨w.heap.size, 1, none⟩ = some (.int .u32 (g : Int)) ∧ W.cell? ⟨w.heap.size, 2, none⟩ = some (.int .u32 (li : Int)) ∧ W.cell? ⟨w.heap.size, 3, none⟩ = some (.int .u32 (m : Int)) ∧ W.cell? ⟨w.heap.size, 4, none⟩ = some (.int .u32 (s : Int))) w2.drew) := by
    obtain ⟨c0, c1, c2, c3, c4, c5, c6, c7, c8⟩ := N_cells HG2.out.drew.nod
    exact ⟨c0, c1, c2, c3, c4⟩
  refine wp_region_held_drew (S := fun W => W.cell? ⟨w.heap.size, 0, none⟩ = some (.int .u32 (k : Int)) ∧ W.cell? ⟨w.heap.size, 1, none⟩ = some (.int .u32 (g : Int)) ∧ W.cell? ⟨w.heap.size, 2, none⟩ = some (.int .u32 (li : Int)) ∧ W.cell? ⟨w.heap.size, 3, none⟩ = some (.int .u32 (m : Int)) ∧ W.cell? ⟨w.heap.size, 4, none⟩ = some (.int .u32 (s : Int))) (by kernel_rfl) HS.out (fun _ => ?_)
  change wpAnyH _ _ _ _ _ 20 (Array.replicate 20 false) _ _
  refine takeH (i := 0) 14 (.pointer (some ⟨w.heap.size, 0, none⟩)) rfl rfl (by kernel_rfl) (by kernel_rfl) (by kernel_rfl) (fun _ _ _ h => h) (.inl ⟨by rfl, fun W hW => by go_simp⟩) HS.out ?_
  simp only [Act.put, List.setIfInBounds_toArray, List.set_cons_zero, List.set_cons_succ]
  refine takeH (i := 1) 15 (.int .u32 (k : Int)) rfl rfl (by kernel_rfl) (by kernel_rfl) (by kernel_rfl) (fun _ _ _ h => h) (.inl ⟨by rfl, fun W hW => by (obtain ⟨h0, h1, h2, h3, h4⟩ := hW; go_simp)⟩) HS.out ?_
  simp only [Act.put, List.setIfInBounds_toArray, List.set_cons_zero, List.set_cons_succ]
  refine takeH (i := 3) 17 (.pointer (some ⟨w.heap.size, 1, none⟩)) rfl rfl (by kernel_rfl) (by kernel_rfl) (by kernel_rfl) (fun _ _ _ h => h) (.inl ⟨by rfl, fun W hW => by go_simp⟩) HS.out ?_
  simp only [Act.put, List.setIfInBounds_toArray, List.set_cons_zero, List.set_cons_succ]
  refine takeH (i := 4) 18 (.int .u32 (g : Int)) rfl rfl (by kernel_rfl) (by kernel_rfl) (by kernel_rfl) (fun _ _ _ h => h) (.inl ⟨by rfl, fun W hW => by (obtain ⟨h0, h1, h2, h3, h4⟩ := hW; go_simp)⟩) HS.out ?_
  simp only [Act.put, List.setIfInBounds_toArray, List.set_cons_zero, List.set_cons_succ]
  refine takeH (i := 7) 21 (.pointer (some ⟨w.heap.size, 2, none⟩)) rfl rfl (by kernel_rfl) (by kernel_rfl) (by kernel_rfl) (fun _ _ _ h => h) (.inl ⟨by rfl, fun W hW => by go_simp⟩) HS.out ?_
  simp only [Act.put, List.setIfInBounds_toArray, List.set_cons_zero, List.set_cons_succ]
  refine takeH (i := 8) 22 (.int .u32 (li : Int)) rfl rfl (by kernel_rfl) (by kernel_rfl) (by kernel_rfl) (fun _ _ _ h => h) (.inl ⟨by rfl, fun W hW => by (obtain ⟨h0, h1, h2, h3, h4⟩ := hW; go_simp)⟩) HS.out ?_
  simp only [Act.put, List.setIfInBounds_toArray, List.set_cons_zero, List.set_cons_succ]
  refine takeH (i := 11) 25 (.pointer (some ⟨w.heap.size, 3, none⟩)) rfl rfl (by kernel_rfl) (by kernel_rfl) (by kernel_rfl) (fun _ _ _ h => h) (.inl ⟨by rfl, fun W hW => by go_simp⟩) HS.out ?_
  simp only [Act.put, List.setIfInBounds_toArray, List.set_cons_zero, List.set_cons_succ]
  refine takeH (i := 12) 26 (.int .u32 (m : Int)) rfl rfl (by kernel_rfl) (by kernel_rfl) (by kernel_rfl) (fun _ _ _ h => h) (.inl ⟨by rfl, fun W hW => by (obtain ⟨h0, h1, h2, h3, h4⟩ := hW; go_simp)⟩) HS.out ?_
  simp only [Act.put, List.setIfInBounds_toArray, List.set_cons_zero, List.set_cons_succ]
  refine takeH (i := 15) 29 (.pointer (some ⟨w.heap.size, 4, none⟩)) rfl rfl (by kernel_rfl) (by kernel_rfl) (by kernel_rfl) (fun _ _ _ h => h) (.inl ⟨by rfl, fun W hW => by go_simp⟩) HS.out ?_
  simp only [Act.put, List.setIfInBounds_toArray, List.set_cons_zero, List.set_cons_succ]
  refine takeH (i := 16) 30 (.int .u32 (s : Int)) rfl rfl (by kernel_rfl) (by kernel_rfl) (by kernel_rfl) (fun _ _ _ h => h) (.inl ⟨by rfl, fun W hW => by (obtain ⟨h0, h1, h2, h3, h4⟩ := hW; go_simp)⟩) HS.out ?_
  simp only [Act.put, List.setIfInBounds_toArray, List.set_cons_zero, List.set_cons_succ]
  refine wpAnyH_ready (rs := [2]) (by kernel_rfl) (by simp) ?_
  refine AllReadyH.cons rfl (fun K hK => ?_) AllReadyH.nil
  go_simp
  refine (refU32 (k : Int) _ (by omega) (by have := HW.out.k; simp only at this; omega)).mono ?_
  rintro e wa0 ⟨rfl, hb0⟩
  have HGa0 : Hid (GN w w.heap.size #[.int .u32 (k : Int), .int .u32 (g : Int), .int .u32 (li : Int), .int .u32 (m : Int), .int .u32 (s : Int), .int .u64 (c : Int), .int .u64 (o : Int), .int .u64 (v : Int), .slice A n cp] A n xs wa0) := HG2.out.drew.below hb0
  have HSa0 : Hid ((fun W : World => W.cell? ⟨w.heap.size, 0, none⟩ = some (.int .u32 (k : Int)) ∧ W.cell? ⟨w.heap.size, 1, none⟩ = some (.int .u32 (g : Int)) ∧ W.cell? ⟨w.heap.size, 2, none⟩ = some (.int .u32 (li : Int)) ∧ W.cell? ⟨w.heap.size, 3, none⟩ = some (.int .u32 (m : Int)) ∧ W.cell? ⟨w.heap.size, 4, none⟩ = some (.int .u32 (s : Int))) wa0) := by
    obtain ⟨c0, c1, c2, c3, c4, c5, c6, c7, c8⟩ := N_cells HGa0.out.nod
    exact ⟨c0, c1, c2, c3, c4⟩
  refine hK.out _ _ HSa0.out fun _ => ?_
  clear hK K hb0
  rw [Int.toNat_natCast]
  refine wpAnyH_ready (rs := [5]) (by kernel_rfl) (by simp) ?_
  refine AllReadyH.cons rfl (fun K hK => ?_) AllReadyH.nil
  go_simp
  refine (refU32 (g : Int) _ (by omega) (by have := HW.out.g; simp only at this; omega)).mono ?_
  rintro e wa1 ⟨rfl, hb1⟩
  have HGa1 : Hid (GN w w.heap.size #[.int .u32 (k : Int), .int .u32 (g : Int), .int .u32 (li : Int), .int .u32 (m : Int), .int .u32 (s : Int), .int .u64 (c : Int), .int .u64 (o : Int), .int .u64 (v : Int), .slice A n cp] A n xs wa1) := HGa0.out.below hb1
  have HSa1 : Hid ((fun W : World => W.cell? ⟨w.heap.size, 0, none⟩ = some (.int .u32 (k : Int)) ∧ W.cell? ⟨w.heap.size, 1, none⟩ = some (.int .u32 (g : Int)) ∧ W.cell? ⟨w.heap.size, 2, none⟩ = some (.int .u32 (li : Int)) ∧ W.cell? ⟨w.heap.size, 3, none⟩ = some (.int .u32 (m : Int)) ∧ W.cell? ⟨w.heap.size, 4, none⟩ = some (.int .u32 (s : Int))) wa1) := by
    obtain ⟨c0, c1, c2, c3, c4, c5, c6, c7, c8⟩ := N_cells HGa1.out.nod
    exact ⟨c0, c1, c2, c3, c4⟩
  refine hK.out _ _ HSa1.out fun _ => ?_
  clear hK K hb1
  rw [Int.toNat_natCast]
  obtain ⟨q1, hq1⟩ : ∃ q, be 4 k ++ be 4 g = q := ⟨_, rfl⟩
  have y1 : ¬ 9223372036854775807 < (txt (be 4 k)).size + (txt (be 4 g)).size := by rw [txt_size, txt_size]; simp [be_length]
  have z1 : txt (be 4 k) ++ txt (be 4 g) = txt q1 := by rw [txt_append, hq1]
  have HQL1 : Hid (q1.length = 8) := by show _ = _; rw [← hq1, List.length_append, be_length, be_length]
  have HQ1 := Lib.hid hq1
  clear hq1
  refine takeH (i := 6) 20 (.string (txt q1)) rfl rfl (by kernel_rfl) (by kernel_rfl) (by kernel_rfl) (fun _ _ _ h => h) (.inl ⟨by rfl, fun W hW => by go_simp⟩) HSa1.out ?_
  simp only [Act.put, List.setIfInBounds_toArray, List.set_cons_zero, List.set_cons_succ]
  refine wpAnyH_ready (rs := [9]) (by kernel_rfl) (by simp) ?_
  refine AllReadyH.cons rfl (fun K hK => ?_) AllReadyH.nil
  go_simp
  refine (refU32 (li : Int) _ (by omega) (by have := HW.out.l; simp only at this; omega)).mono ?_
  rintro e wa2 ⟨rfl, hb2⟩
  have HGa2 : Hid (GN w w.heap.size #[.int .u32 (k : Int), .int .u32 (g : Int), .int .u32 (li : Int), .int .u32 (m : Int), .int .u32 (s : Int), .int .u64 (c : Int), .int .u64 (o : Int), .int .u64 (v : Int), .slice A n cp] A n xs wa2) := HGa1.out.below hb2
  have HSa2 : Hid ((fun W : World => W.cell? ⟨w.heap.size, 0, none⟩ = some (.int .u32 (k : Int)) ∧ W.cell? ⟨w.heap.size, 1, none⟩ = some (.int .u32 (g : Int)) ∧ W.cell? ⟨w.heap.size, 2, none⟩ = some (.int .u32 (li : Int)) ∧ W.cell? ⟨w.heap.size, 3, none⟩ = some (.int .u32 (m : Int)) ∧ W.cell? ⟨w.heap.size, 4, none⟩ = some (.int .u32 (s : Int))) wa2) := by
    obtain ⟨c0, c1, c2, c3, c4, c5, c6, c7, c8⟩ := N_cells HGa2.out.nod
    exact ⟨c0, c1, c2, c3, c4⟩
  refine hK.out _ _ HSa2.out fun _ => ?_
  clear hK K hb2
  rw [Int.toNat_natCast]
  obtain ⟨q2, hq2⟩ : ∃ q, q1 ++ be 4 li = q := ⟨_, rfl⟩
  have y2 : ¬ 9223372036854775807 < (txt (q1)).size + (txt (be 4 li)).size := by rw [txt_size, txt_size, HQL1.out]; simp [be_length]
  have z2 : txt (q1) ++ txt (be 4 li) = txt q2 := by rw [txt_append, hq2]
  have HQL2 : Hid (q2.length = 12) := by show _ = _; rw [← hq2, List.length_append, be_length, HQL1.out]
  have HQ2 := Lib.hid hq2
  clear hq2
  refine takeH (i := 10) 24 (.string (txt q2)) rfl rfl (by kernel_rfl) (by kernel_rfl) (by kernel_rfl) (fun _ _ _ h => h) (.inl ⟨by rfl, fun W hW => by go_simp⟩) HSa2.out ?_
  simp only [Act.put, List.setIfInBounds_toArray, List.set_cons_zero, List.set_cons_succ]
  refine wpAnyH_ready (rs := [13]) (by kernel_rfl) (by simp) ?_
  refine AllReadyH.cons rfl (fun K hK => ?_) AllReadyH.nil
  go_simp
  refine (refU32 (m : Int) _ (by omega) (by have := HW.out.m; simp only at this; omega)).mono ?_
  rintro e wa3 ⟨rfl, hb3⟩
  have HGa3 : Hid (GN w w.heap.size #[.int .u32 (k : Int), .int .u32 (g : Int), .int .u32 (li : Int), .int .u32 (m : Int), .int .u32 (s : Int), .int .u64 (c : Int), .int .u64 (o : Int), .int .u64 (v : Int), .slice A n cp] A n xs wa3) := HGa2.out.below hb3
  have HSa3 : Hid ((fun W : World => W.cell? ⟨w.heap.size, 0, none⟩ = some (.int .u32 (k : Int)) ∧ W.cell? ⟨w.heap.size, 1, none⟩ = some (.int .u32 (g : Int)) ∧ W.cell? ⟨w.heap.size, 2, none⟩ = some (.int .u32 (li : Int)) ∧ W.cell? ⟨w.heap.size, 3, none⟩ = some (.int .u32 (m : Int)) ∧ W.cell? ⟨w.heap.size, 4, none⟩ = some (.int .u32 (s : Int))) wa3) := by
    obtain ⟨c0, c1, c2, c3, c4, c5, c6, c7, c8⟩ := N_cells HGa3.out.nod
    exact ⟨c0, c1, c2, c3, c4⟩
  refine hK.out _ _ HSa3.out fun _ => ?_
  clear hK K hb3
  rw [Int.toNat_natCast]
  obtain ⟨q3, hq3⟩ : ∃ q, q2 ++ be 4 m = q := ⟨_, rfl⟩
  have y3 : ¬ 9223372036854775807 < (txt (q2)).size + (txt (be 4 m)).size := by rw [txt_size, txt_size, HQL2.out]; simp [be_length]
  have z3 : txt (q2) ++ txt (be 4 m) = txt q3 := by rw [txt_append, hq3]
  have HQL3 : Hid (q3.length = 16) := by show _ = _; rw [← hq3, List.length_append, be_length, HQL2.out]
  have HQ3 := Lib.hid hq3
  clear hq3
  refine takeH (i := 14) 28 (.string (txt q3)) rfl rfl (by kernel_rfl) (by kernel_rfl) (by kernel_rfl) (fun _ _ _ h => h) (.inl ⟨by rfl, fun W hW => by go_simp⟩) HSa3.out ?_
  simp only [Act.put, List.setIfInBounds_toArray, List.set_cons_zero, List.set_cons_succ]
  refine wpAnyH_ready (rs := [17]) (by kernel_rfl) (by simp) ?_
  refine AllReadyH.cons rfl (fun K hK => ?_) AllReadyH.nil
  go_simp
  refine (refU32 (s : Int) _ (by omega) (by have := HW.out.s; simp only at this; omega)).mono ?_
  rintro e wa4 ⟨rfl, hb4⟩
  have HGa4 : Hid (GN w w.heap.size #[.int .u32 (k : Int), .int .u32 (g : Int), .int .u32 (li : Int), .int .u32 (m : Int), .int .u32 (s : Int), .int .u64 (c : Int), .int .u64 (o : Int), .int .u64 (v : Int), .slice A n cp] A n xs wa4) := HGa3.out.below hb4
  have HSa4 : Hid ((fun W : World => W.cell? ⟨w.heap.size, 0, none⟩ = some (.int .u32 (k : Int)) ∧ W.cell? ⟨w.heap.size, 1, none⟩ = some (.int .u32 (g : Int)) ∧ W.cell? ⟨w.heap.size, 2, none⟩ = some (.int .u32 (li : Int)) ∧ W.cell? ⟨w.heap.size, 3, none⟩ = some (.int .u32 (m : Int)) ∧ W.cell? ⟨w.heap.size, 4, none⟩ = some (.int .u32 (s : Int))) wa4) := by
    obtain ⟨c0, c1, c2, c3, c4, c5, c6, c7, c8⟩ := N_cells HGa4.out.nod
    exact ⟨c0, c1, c2, c3, c4⟩
  refine hK.out _ _ HSa4.out fun _ => ?_
  clear hK K hb4
  rw [Int.toNat_natCast]
  obtain ⟨q4, hq4⟩ : ∃ q, q3 ++ be 4 s = q := ⟨_, rfl⟩
  have y4 : ¬ 9223372036854775807 < (txt (q3)).size + (txt (be 4 s)).size := by rw [txt_size, txt_size, HQL3.out]; simp [be_length]
  have z4 : txt (q3) ++ txt (be 4 s) = txt q4 := by rw [txt_append, hq4]
  have HQL4 : Hid (q4.length = 20) := by show _ = _; rw [← hq4, List.length_append, be_length, HQL3.out]
  have HQ4 := Lib.hid hq4
  clear hq4
  refine takeH (i := 18) 32 (.string (txt q4)) rfl rfl (by kernel_rfl) (by kernel_rfl) (by kernel_rfl) (fun _ _ _ h => h) (.inl ⟨by rfl, fun W hW => by go_simp⟩) HSa4.out ?_
  simp only [Act.put, List.setIfInBounds_toArray, List.set_cons_zero, List.set_cons_succ]
  refine takeH (i := 19) 5 (.string (txt (q4))) rfl rfl (by kernel_rfl) (by kernel_rfl) (by kernel_rfl) (fun _ _ _ h => h) (.inl ⟨by rfl, fun W hW => by go_simp⟩) HSa4.out ?_
  simp only [Act.put, List.setIfInBounds_toArray, List.set_cons_zero, List.set_cons_succ]
  refine wpAnyH_done (by kernel_rfl) ?_ _
  have HE1 : Hid (q4 = (Nd.mk k g li m s c o v xs).enc1) := by show _ = _; rw [← HQ4.out, ← HQ3.out, ← HQ2.out, ← HQ1.out]; rfl
  rw [HE1.out]
  clear y1 y2 y3 y4 z1 z2 z3 z4 HSa0 HSa1 HSa2 HSa3 HSa4 HGa0 HGa1 HGa2 HGa3 HS HG2
  have HT1 : Hid ((Nd.mk k g li m s c o v xs).enc1.length = 20) := by simp [Hid, Nd.enc1, be_length]
  go_upto_region 7 with (fail)
  have HS : Hid ((fun W : World => W.cell? ⟨w.heap.size, 5, none⟩ = some (.int .u64 (c : Int)) ∧ W.cell? ⟨w.heap.size, 6, none⟩ = some (.int .u64 (o : Int)) ∧ W.cell? ⟨w.heap.size, 7, none⟩ = some (.int .u64 (v : Int)) ∧ W.cell? ⟨w.heap.size, 8, none⟩ = some (.slice A n cp)) wa4.drew) := by
    obtain ⟨c0, c1, c2, c3, c4, c5, c6, c7, c8⟩ := N_cells HGa4.out.drew.nod
    exact ⟨c5, c6, c7, c8⟩
  have wn : IntKind.u32.wrap (n : Int) = (n : Int) := by rw [IntKind.wrap_u32]; omega
  refine wp_region_held_drew (S := fun W => W.cell? ⟨w.heap.size, 5, none⟩ = some (.int .u64 (c : Int)) ∧ W.cell? ⟨w.heap.size, 6, none⟩ = some (.int .u64 (o : Int)) ∧ W.cell? ⟨w.heap.size, 7, none⟩ = some (.int .u64 (v : Int)) ∧ W.cell? ⟨w.heap.size, 8, none⟩ = some (.slice A n cp)) (by kernel_rfl) HS.out (fun _ => ?_)
  change wpAnyH _ _ _ _ _ 20 (Array.replicate 20 false) _ _
  refine takeH (i := 0) 33 (.string (txt (Nd.mk k g li m s c o v xs).enc1)) rfl rfl (by kernel_rfl) (by kernel_rfl) (by kernel_rfl) (fun _ _ _ h => h) (.inl ⟨by rfl, fun W hW => by go_simp⟩) HS.out ?_
  simp only [Act.put, List.setIfInBounds_toArray, List.set_cons_zero, List.set_cons_succ]
  refine takeH (i := 1) 34 (.pointer (some ⟨w.heap.size, 5, none⟩)) rfl rfl (by kernel_rfl) (by kernel_rfl) (by kernel_rfl) (fun _ _ _ h => h) (.inl ⟨by rfl, fun W hW => by go_simp⟩) HS.out ?_
  simp only [Act.put, List.setIfInBounds_toArray, List.set_cons_zero, List.set_cons_succ]
  refine takeH (i := 2) 35 (.int .u64 (c : Int)) rfl rfl (by kernel_rfl) (by kernel_rfl) (by kernel_rfl) (fun _ _ _ h => h) (.inl ⟨by rfl, fun W hW => by (obtain ⟨h5, h6, h7, h8⟩ := hW; go_simp)⟩) HS.out ?_
  simp only [Act.put, List.setIfInBounds_toArray, List.set_cons_zero, List.set_cons_succ]
  refine takeH (i := 4) 37 (.pointer (some ⟨w.heap.size, 6, none⟩)) rfl rfl (by kernel_rfl) (by kernel_rfl) (by kernel_rfl) (fun _ _ _ h => h) (.inl ⟨by rfl, fun W hW => by go_simp⟩) HS.out ?_
  simp only [Act.put, List.setIfInBounds_toArray, List.set_cons_zero, List.set_cons_succ]
  refine takeH (i := 5) 38 (.int .u64 (o : Int)) rfl rfl (by kernel_rfl) (by kernel_rfl) (by kernel_rfl) (fun _ _ _ h => h) (.inl ⟨by rfl, fun W hW => by (obtain ⟨h5, h6, h7, h8⟩ := hW; go_simp)⟩) HS.out ?_
  simp only [Act.put, List.setIfInBounds_toArray, List.set_cons_zero, List.set_cons_succ]
  refine takeH (i := 8) 41 (.pointer (some ⟨w.heap.size, 7, none⟩)) rfl rfl (by kernel_rfl) (by kernel_rfl) (by kernel_rfl) (fun _ _ _ h => h) (.inl ⟨by rfl, fun W hW => by go_simp⟩) HS.out ?_
  simp only [Act.put, List.setIfInBounds_toArray, List.set_cons_zero, List.set_cons_succ]
  refine takeH (i := 9) 42 (.int .u64 (v : Int)) rfl rfl (by kernel_rfl) (by kernel_rfl) (by kernel_rfl) (fun _ _ _ h => h) (.inl ⟨by rfl, fun W hW => by (obtain ⟨h5, h6, h7, h8⟩ := hW; go_simp)⟩) HS.out ?_
  simp only [Act.put, List.setIfInBounds_toArray, List.set_cons_zero, List.set_cons_succ]
  refine takeH (i := 12) 45 (.pointer (some ⟨w.heap.size, 8, none⟩)) rfl rfl (by kernel_rfl) (by kernel_rfl) (by kernel_rfl) (fun _ _ _ h => h) (.inl ⟨by rfl, fun W hW => by go_simp⟩) HS.out ?_
  simp only [Act.put, List.setIfInBounds_toArray, List.set_cons_zero, List.set_cons_succ]
  refine takeH (i := 13) 46 (.slice A n cp) rfl rfl (by kernel_rfl) (by kernel_rfl) (by kernel_rfl) (fun _ _ _ h => h) (.inl ⟨by rfl, fun W hW => by (obtain ⟨h5, h6, h7, h8⟩ := hW; go_simp)⟩) HS.out ?_
  simp only [Act.put, List.setIfInBounds_toArray, List.set_cons_zero, List.set_cons_succ]
  refine takeH (i := 14) 47 (.int .i64 (n : Int)) rfl rfl (by kernel_rfl) (by kernel_rfl) (by kernel_rfl) (fun _ _ _ h => h) (.inl ⟨by rfl, fun W hW => by go_simp⟩) HS.out ?_
  simp only [Act.put, List.setIfInBounds_toArray, List.set_cons_zero, List.set_cons_succ]
  refine takeH (i := 15) 48 (.int .u32 (n : Int)) rfl rfl (by kernel_rfl) (by kernel_rfl) (by kernel_rfl) (fun _ _ _ h => h) (.inl ⟨by rfl, fun W hW => by go_simp⟩) HS.out ?_
  simp only [Act.put, List.setIfInBounds_toArray, List.set_cons_zero, List.set_cons_succ]
  refine wpAnyH_ready (rs := [3]) (by kernel_rfl) (by simp) ?_
  refine AllReadyH.cons rfl (fun K hK => ?_) AllReadyH.nil
  go_simp
  refine (refU64 c _ (by have := HW.out.c; simp only at this; omega)).mono ?_
  rintro e wa5 ⟨rfl, hb5⟩
  have HGa5 : Hid (GN w w.heap.size #[.int .u32 (k : Int), .int .u32 (g : Int), .int .u32 (li : Int), .int .u32 (m : Int), .int .u32 (s : Int), .int .u64 (c : Int), .int .u64 (o : Int), .int .u64 (v : Int), .slice A n cp] A n xs wa5) := HGa4.out.drew.below hb5
  have HSa5 : Hid ((fun W : World => W.cell? ⟨w.heap.size, 5, none⟩ = some (.int .u64 (c : Int)) ∧ W.cell? ⟨w.heap.size, 6, none⟩ = some (.int .u64 (o : Int)) ∧ W.cell? ⟨w.heap.size, 7, none⟩ = some (.int .u64 (v : Int)) ∧ W.cell? ⟨w.heap.size, 8, none⟩ = some (.slice A n cp)) wa5) := by
    obtain ⟨c0, c1, c2, c3, c4, c5, c6, c7, c8⟩ := N_cells HGa5.out.nod
    exact ⟨c5, c6, c7, c8⟩
  refine hK.out _ _ HSa5.out fun _ => ?_
  clear hK K hb5
  refine wpAnyH_ready (rs := [6]) (by kernel_rfl) (by simp) ?_
  refine AllReadyH.cons rfl (fun K hK => ?_) AllReadyH.nil
  go_simp
  refine (refU64 o _ (by have := HW.out.o; simp only at this; omega)).mono ?_
  rintro e wa6 ⟨rfl, hb6⟩
  have HGa6 : Hid (GN w w.heap.size #[.int .u32 (k : Int), .int .u32 (g : Int), .int .u32 (li : Int), .int .u32 (m : Int), .int .u32 (s : Int), .int .u64 (c : Int), .int .u64 (o : Int), .int .u64 (v : Int), .slice A n cp] A n xs wa6) := HGa5.out.below hb6
  have HSa6 : Hid ((fun W : World => W.cell? ⟨w.heap.size, 5, none⟩ = some (.int .u64 (c : Int)) ∧ W.cell? ⟨w.heap.size, 6, none⟩ = some (.int .u64 (o : Int)) ∧ W.cell? ⟨w.heap.size, 7, none⟩ = some (.int .u64 (v : Int)) ∧ W.cell? ⟨w.heap.size, 8, none⟩ = some (.slice A n cp)) wa6) := by
    obtain ⟨c0, c1, c2, c3, c4, c5, c6, c7, c8⟩ := N_cells HGa6.out.nod
    exact ⟨c5, c6, c7, c8⟩
  refine hK.out _ _ HSa6.out fun _ => ?_
  clear hK K hb6
  obtain ⟨q6, hq6⟩ : ∃ q, be 8 c ++ be 8 o = q := ⟨_, rfl⟩
  have y6 : ¬ 9223372036854775807 < (txt (be 8 c)).size + (txt (be 8 o)).size := by rw [txt_size, txt_size]; simp [be_length]
  have z6 : txt (be 8 c) ++ txt (be 8 o) = txt q6 := by rw [txt_append, hq6]
  have HQL6 : Hid (q6.length = 16) := by show _ = _; rw [← hq6, List.length_append, be_length, be_length]
  have HQ6 := Lib.hid hq6
  clear hq6
  refine takeH (i := 7) 40 (.string (txt q6)) rfl rfl (by kernel_rfl) (by kernel_rfl) (by kernel_rfl) (fun _ _ _ h => h) (.inl ⟨by rfl, fun W hW => by go_simp⟩) HSa6.out ?_
  simp only [Act.put, List.setIfInBounds_toArray, List.set_cons_zero, List.set_cons_succ]
  refine wpAnyH_ready (rs := [10]) (by kernel_rfl) (by simp) ?_
  refine AllReadyH.cons rfl (fun K hK => ?_) AllReadyH.nil
  go_simp
  refine (refU64 v _ (by have := HW.out.v; simp only at this; omega)).mono ?_
  rintro e wa7 ⟨rfl, hb7⟩
  have HGa7 : Hid (GN w w.heap.size #[.int .u32 (k : Int), .int .u32 (g : Int), .int .u32 (li : Int), .int .u32 (m : Int), .int .u32 (s : Int), .int .u64 (c : Int), .int .u64 (o : Int), .int .u64 (v : Int), .slice A n cp] A n xs wa7) := HGa6.out.below hb7
  have HSa7 : Hid ((fun W : World => W.cell? ⟨w.heap.size, 5, none⟩ = some (.int .u64 (c : Int)) ∧ W.cell? ⟨w.heap.size, 6, none⟩ = some (.int .u64 (o : Int)) ∧ W.cell? ⟨w.heap.size, 7, none⟩ = some (.int .u64 (v : Int)) ∧ W.cell? ⟨w.heap.size, 8, none⟩ = some (.slice A n cp)) wa7) := by
    obtain ⟨c0, c1, c2, c3, c4, c5, c6, c7, c8⟩ := N_cells HGa7.out.nod
    exact ⟨c5, c6, c7, c8⟩
  refine hK.out _ _ HSa7.out fun _ => ?_
  clear hK K hb7
  obtain ⟨q7, hq7⟩ : ∃ q, q6 ++ be 8 v = q := ⟨_, rfl⟩
  have y7 : ¬ 9223372036854775807 < (txt (q6)).size + (txt (be 8 v)).size := by rw [txt_size, txt_size, HQL6.out]; simp [be_length]
  have z7 : txt (q6) ++ txt (be 8 v) = txt q7 := by rw [txt_append, hq7]
  have HQL7 : Hid (q7.length = 24) := by show _ = _; rw [← hq7, List.length_append, be_length, HQL6.out]
  have HQ7 := Lib.hid hq7
  clear hq7
  refine takeH (i := 11) 44 (.string (txt q7)) rfl rfl (by kernel_rfl) (by kernel_rfl) (by kernel_rfl) (fun _ _ _ h => h) (.inl ⟨by rfl, fun W hW => by go_simp⟩) HSa7.out ?_
  simp only [Act.put, List.setIfInBounds_toArray, List.set_cons_zero, List.set_cons_succ]
  refine wpAnyH_ready (rs := [16]) (by kernel_rfl) (by simp) ?_
  refine AllReadyH.cons rfl (fun K hK => ?_) AllReadyH.nil
  go_simp
  refine (refU32 (n : Int) _ (by omega) (by omega)).mono ?_
  rintro e wa8 ⟨rfl, hb8⟩
  have HGa8 : Hid (GN w w.heap.size #[.int .u32 (k : Int), .int .u32 (g : Int), .int .u32 (li : Int), .int .u32 (m : Int), .int .u32 (s : Int), .int .u64 (c : Int), .int .u64 (o : Int), .int .u64 (v : Int), .slice A n cp] A n xs wa8) := HGa7.out.below hb8
  have HSa8 : Hid ((fun W : World => W.cell? ⟨w.heap.size, 5, none⟩ = some (.int .u64 (c : Int)) ∧ W.cell? ⟨w.heap.size, 6, none⟩ = some (.int .u64 (o : Int)) ∧ W.cell? ⟨w.heap.size, 7, none⟩ = some (.int .u64 (v : Int)) ∧ W.cell? ⟨w.heap.size, 8, none⟩ = some (.slice A n cp)) wa8) := by
    obtain ⟨c0, c1, c2, c3, c4, c5, c6, c7, c8⟩ := N_cells HGa8.out.nod
    exact ⟨c5, c6, c7, c8⟩
  refine hK.out _ _ HSa8.out fun _ => ?_
  clear hK K hb8
  rw [Int.toNat_natCast]
  obtain ⟨q8, hq8⟩ : ∃ q, q7 ++ be 4 n = q := ⟨_, rfl⟩
  have y8 : ¬ 9223372036854775807 < (txt (q7)).size + (txt (be 4 n)).size := by rw [txt_size, txt_size, HQL7.out]; simp [be_length]
  have z8 : txt (q7) ++ txt (be 4 n) = txt q8 := by rw [txt_append, hq8]
  have HQL8 : Hid (q8.length = 28) := by show _ = _; rw [← hq8, List.length_append, be_length, HQL7.out]
  have HQ8 := Lib.hid hq8
  clear hq8
  refine takeH (i := 17) 50 (.string (txt q8)) rfl rfl (by kernel_rfl) (by kernel_rfl) (by kernel_rfl) (fun _ _ _ h => h) (.inl ⟨by rfl, fun W hW => by go_simp⟩) HSa8.out ?_
  simp only [Act.put, List.setIfInBounds_toArray, List.set_cons_zero, List.set_cons_succ]
  obtain ⟨e1, he1⟩ : ∃ q, (Nd.mk k g li m s c o v xs).enc1 = q := ⟨_, rfl⟩
  rw [he1] at HT1 ⊢
  obtain ⟨pre, hpre⟩ : ∃ q, e1 ++ q8 = q := ⟨_, rfl⟩
  have y9 : ¬ 9223372036854775807 < (txt e1).size + (txt q8).size := by rw [txt_size, txt_size, HT1.out, HQL8.out]; decide
  have z9 : txt e1 ++ txt q8 = txt pre := by rw [txt_append, hpre]
  refine takeH (i := 18) 51 (.string (txt pre)) rfl rfl (by kernel_rfl) (by kernel_rfl) (by kernel_rfl) (fun _ _ _ h => h) (.inl ⟨by rfl, fun W hW => by go_simp⟩) HSa8.out ?_
  simp only [Act.put, List.setIfInBounds_toArray, List.set_cons_zero, List.set_cons_succ]
  refine takeH (i := 19) 5 (.string (txt pre)) rfl rfl (by kernel_rfl) (by kernel_rfl) (by kernel_rfl) (fun _ _ _ h => h) (.inl ⟨by rfl, fun W hW => by go_simp⟩) HSa8.out ?_
  simp only [Act.put, List.setIfInBounds_toArray, List.set_cons_zero, List.set_cons_succ]
  refine wpAnyH_done (by kernel_rfl) ?_ _
  have HE2 : Hid ((Nd.mk k g li m s c o v xs).code = pre ++ enc 4 xs) := by
    show _ = _
    rw [← hpre, ← he1, ← HQ8.out, ← HQ7.out, ← HQ6.out, ← Hn.out]
    simp [Nd.code, Nd.enc2]
  clear y6 y7 y8 y9 z6 z7 z8 z9 HSa5 HSa6 HSa7 HSa8 HGa4 HGa5 HGa6 HGa7 HS
  have HT2 : Hid (pre.length = 48) := by show _ = _; rw [← hpre, List.length_append, HT1.out, HQL8.out]
  clear hpre he1
  go_wp2_with fail
  clear wn
  go_loopw [5, 6] (fun t i wr => ∃ j : Nat, j ≤ n ∧ i = .int .i64 j ∧ t = .string (txt (pre ++ enc 4 (xs.take j))) ∧ Hid (GN w w.heap.size #[.int .u32 (k : Int), .int .u32 (g : Int), .int .u32 (li : Int), .int .u32 (m : Int), .int .u32 (s : Int), .int .u64 (c : Int), .int .u64 (o : Int), .int .u64 (v : Int), .slice A n cp] A n xs wr)) (fun _ i _ => n - (intOf i).toNat)
  case atStart => exact ⟨0, by omega, rfl, by simp [enc], HGa8⟩
  case round =>
    obtain ⟨j, hj, rfl, rfl, HG⟩ := hrel
    obtain ⟨c0, c1, c2, c3, c4, c5, c6, c7, c8⟩ := N_cells HG.out.nod
    by_cases hlt : j < n
    · obtain ⟨bb, oo, rfl, hjx, hcj⟩ := HG.out.ns.at hlt
      have HE := Lib.hid (enc_snoc 4 xs j hjx)
      have hxj := HW.out.b xs[j] (List.getElem_mem hjx)
      have HL : Hid ((pre ++ enc 4 (xs.take j)).length = 48 + 4 * j) := by show _ = _; rw [List.length_append, HT2.out, enc_length, List.length_take]; omega
      have HEA : Hid (pre ++ enc 4 (xs.take (j + 1)) = pre ++ enc 4 (xs.take j) ++ be 4 xs[j]) := by show _ = _; rw [HE.out, List.append_assoc]
      clear HE
      generalize xs[j] = xj at *
      generalize hR : pre ++ enc 4 (xs.take (j + 1)) = R at *
      have HRR := Lib.hid hR
      clear hR
      generalize pre ++ enc 4 (xs.take j) = T at *
      have HXJ : Hid ((xj : Int) < 4294967296) := by show _ < _; omega
      clear hxj
      go_wp2_with fail
      refine (refU32 (xj : Int) wr (by omega) HXJ.out).mono ?_
      rintro e w9 ⟨rfl, hb9⟩
      rw [Int.toNat_natCast]
      have HG9 := Lib.hid (HG.out.below hb9)
      clear hb9 c0 c1 c2 c3 c4 c5 c6 c7 c8
      have z1 : (txt T).size + (txt (be 4 xj)).size ≤ 9223372036854775807 := by rw [txt_size, txt_size, HL.out, be_length]; omega
      have z2 : ¬ 9223372036854775807 < (txt T).size + (txt (be 4 xj)).size := by omega
      have HEB : Hid (txt T ++ txt (be 4 xj) = txt R) := by show _ = _; rw [txt_append, HEA.out]
      have z3 := HEB.out
      go_wp2
      go_roundw
      case rel => exact ⟨j + 1, by omega, by go_num, by rw [HRR.out], HG9⟩
      case measure => simp [intOf]; omega
    · have hjn : j = n := by omega
      subst hjn
      have HEF : Hid (pre ++ enc 4 (xs.take j) = (Nd.mk k g li m s c o v xs).put) := by
        show _ = _
        rw [HP.out, HE2.out, List.take_of_length_le (by rw [Hn.out]; exact Nat.le_refl _)]
      go_wp2
      go_ret2
      unfold RPutP
      rw [HZ.out, ← HEF.out]
      exact ⟨rfl, HG.out.bel⟩
end Go.Proofs.Ytkgpgaanodmpiaa
