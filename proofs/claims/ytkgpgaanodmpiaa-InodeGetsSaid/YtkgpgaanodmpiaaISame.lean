/-
  The document's Same, walked (layer 7).
-/
import Derived.Test.YtkgpgaanodmpiaaIRCheck
namespace Go.Proofs.Ytkgpgaanodmpiaa
open Go.RowKit

/-- While Same goes: both inodes in their blocks. -/
structure GS (w : World) (p q : Nat) (cs ds : Array Value) (A : Option Addr) (n : Nat) (xs : List Nat) (B : Option Addr) (n2 : Nat) (ys : List Nat) (W : World) : Prop where
  one : W.heap[p]? = some (.cells cs 34 (0, 0))
  two : W.heap[q]? = some (.cells ds 34 (0, 0))
  bel : Below w.heap.size w W
  ns : NS .u32 W A n xs
  ns2 : NS .u32 W B n2 ys
theorem GS.drew {w W : World} {p q n n2 : Nat} {cs ds : Array Value} {A B : Option Addr} {xs ys : List Nat} (h : GS w p q cs ds A n xs B n2 ys W) : GS w p q cs ds A n xs B n2 ys W.drew := ⟨h.one, h.two, h.bel.drew, h.ns, h.ns2⟩

set_option maxRecDepth 100000 in
set_option maxHeartbeats 4000000 in
theorem refSame_any (k g li m s c o v : Nat) (A : Option Addr) (n cp : Nat) (xs : List Nat) (k2 g2 l2 m2 s2 c2 o2 v2 : Nat) (B : Option Addr) (n2 cq : Nat) (ys : List Nat) (w : World) (hx : NS .u32 w A n xs) (hy : NS .u32 w B n2 ys) (hn : n ≤ 1000000) :
    Calls Try.prog 18 #[(.agg #[.int .u32 (k : Int), .int .u32 (g : Int), .int .u32 (li : Int), .int .u32 (m : Int), .int .u32 (s : Int), .int .u64 (c : Int), .int .u64 (o : Int), .int .u64 (v : Int), .slice A n cp]), (.agg #[.int .u32 (k2 : Int), .int .u32 (g2 : Int), .int .u32 (l2 : Int), .int .u32 (m2 : Int), .int .u32 (s2 : Int), .int .u64 (c2 : Int), .int .u64 (o2 : Int), .int .u64 (v2 : Int), .slice B n2 cq])] w fun e w' => e = .returned (.bool (decide (Nd.mk k g li m s c o v xs = Nd.mk k2 g2 l2 m2 s2 c2 o2 v2 ys))) ∧ Below w.heap.size w w' := by
  have Hn := Lib.hid hx.1
  have Hn2 := Lib.hid hy.1
  obtain ⟨w0, hw0⟩ : ∃ w0, w0 = (w.alloc (.cells #[.int .u32 (k : Int), .int .u32 (g : Int), .int .u32 (li : Int), .int .u32 (m : Int), .int .u32 (s : Int), .int .u64 (c : Int), .int .u64 (o : Int), .int .u64 (v : Int), .slice A n cp] 34)).alloc (.cells #[.int .u32 (k2 : Int), .int .u32 (g2 : Int), .int .u32 (l2 : Int), .int .u32 (m2 : Int), .int .u32 (s2 : Int), .int .u64 (c2 : Int), .int .u64 (o2 : Int), .int .u64 (v2 : Int), .slice B n2 cq] 34) := ⟨_, rfl⟩
  have hb0 : Below w.heap.size w w0 := by rw [hw0]; exact ((Below.refl _ _).alloc (Nat.le_refl _) _).alloc (by simp) _
  have HG : Hid (GS w w.heap.size (w.heap.size + 1) #[.int .u32 (k : Int), .int .u32 (g : Int), .int .u32 (li : Int), .int .u32 (m : Int), .int .u32 (s : Int), .int .u64 (c : Int), .int .u64 (o : Int), .int .u64 (v : Int), .slice A n cp] #[.int .u32 (k2 : Int), .int .u32 (g2 : Int), .int .u32 (l2 : Int), .int .u32 (m2 : Int), .int .u32 (s2 : Int), .int .u64 (c2 : Int), .int .u64 (o2 : Int), .int .u64 (v2 : Int), .slice B n2 cq] A n xs B n2 ys w0) := by
    refine ⟨?_, ?_, hb0, hx.below hb0, hy.below hb0⟩
    · rw [hw0]
      exact (Below.heap_alloc _ _ _ (by simp)).trans (heap_alloc_new w _)
    · rw [hw0]
      have := heap_alloc_new (w.alloc (.cells #[.int .u32 (k : Int), .int .u32 (g : Int), .int .u32 (li : Int), .int .u32 (m : Int), .int .u32 (s : Int), .int .u64 (c : Int), .int .u64 (o : Int), .int .u64 (v : Int), .slice A n cp] 34)) (.cells #[.int .u32 (k2 : Int), .int .u32 (g2 : Int), .int .u32 (l2 : Int), .int .u32 (m2 : Int), .int .u32 (s2 : Int), .int .u64 (c2 : Int), .int .u64 (o2 : Int), .int .u64 (v2 : Int), .slice B n2 cq] 34)
      simpa using this
  have H0 := Lib.hid hw0
  clear hb0 hw0 hx hy
  obtain ⟨z, hz⟩ : ∃ z, decide (Nd.mk k g li m s c o v xs = Nd.mk k2 g2 l2 m2 s2 c2 o2 v2 ys) = z := ⟨_, rfl⟩
  have HZ := Lib.hid hz
  rw [hz]
  clear hz
  go_enter Try.func18, Try.ntmps18
  go_upto_region 1 with (fail)
  rw [← H0.out]
  clear H0
  obtain ⟨a0, a1, a2, a3, a4, a5, a6, a7, a8⟩ := N_cells HG.out.one
  obtain ⟨b0, b1, b2, b3, b4, b5, b6, b7, b8⟩ := N_cells HG.out.two
  by_cases p0 : k = k2
  rotate_left
  · have d0 : ((k : Int) != (k2 : Int)) = true := by simp; omega
    have HF : Hid (z = false) := by show _ = _; rw [← HZ.out]; exact decide_eq_false (fun h => by injection h; exact p0 (by assumption))
    clear p0
    go_wp2
    go_ret
    rw [HF.out]
    exact ⟨rfl, HG.out.bel⟩
  have d0 : ((k : Int) != (k2 : Int)) = false := by simp; omega
  by_cases p1 : g = g2
  rotate_left
  · have d1 : ((g : Int) != (g2 : Int)) = true := by simp; omega
    have HF : Hid (z = false) := by show _ = _; rw [← HZ.out]; exact decide_eq_false (fun h => by injection h; exact p1 (by assumption))
    clear p1
    go_wp2
    go_ret
    rw [HF.out]
    exact ⟨rfl, HG.out.bel⟩
  have d1 : ((g : Int) != (g2 : Int)) = false := by simp; omega
  by_cases p2 : li = l2
  rotate_left
  · have d2 : ((li : Int) != (l2 : Int)) = true := by simp; omega
    have HF : Hid (z = false) := by show _ = _; rw [← HZ.out]; exact decide_eq_false (fun h => by injection h; exact p2 (by assumption))
    clear p2
    go_wp2
    go_ret
    rw [HF.out]
    exact ⟨rfl, HG.out.bel⟩
  have d2 : ((li : Int) != (l2 : Int)) = false := by simp; omega
  by_cases p3 : m = m2
  rotate_left
  · have d3 : ((m : Int) != (m2 : Int)) = true := by simp; omega
    have HF : Hid (z = false) := by show _ = _; rw [← HZ.out]; exact decide_eq_false (fun h => by injection h; exact p3 (by assumption))
    clear p3
    go_wp2
    go_ret
    rw [HF.out]
    exact ⟨rfl, HG.out.bel⟩
  have d3 : ((m : Int) != (m2 : Int)) = false := by simp; omega
  by_cases p4 : s = s2
  rotate_left
  · have d4 : ((s : Int) != (s2 : Int)) = true := by simp; omega
    have HF : Hid (z = false) := by show _ = _; rw [← HZ.out]; exact decide_eq_false (fun h => by injection h; exact p4 (by assumption))
    clear p4
    go_wp2
    go_ret
    rw [HF.out]
    exact ⟨rfl, HG.out.bel⟩
  have d4 : ((s : Int) != (s2 : Int)) = false := by simp; omega
  by_cases p5 : c = c2
  rotate_left
  · have d5 : ((c : Int) != (c2 : Int)) = true := by simp; omega
    have HF : Hid (z = false) := by show _ = _; rw [← HZ.out]; exact decide_eq_false (fun h => by injection h; exact p5 (by assumption))
    clear p5
    go_wp2
    go_ret
    rw [HF.out]
    exact ⟨rfl, HG.out.bel⟩
  have d5 : ((c : Int) != (c2 : Int)) = false := by simp; omega
  by_cases p6 : o = o2
  rotate_left
  · have d6 : ((o : Int) != (o2 : Int)) = true := by simp; omega
    have HF : Hid (z = false) := by show _ = _; rw [← HZ.out]; exact decide_eq_false (fun h => by injection h; exact p6 (by assumption))
    clear p6
    go_wp2
    go_ret
    rw [HF.out]
    exact ⟨rfl, HG.out.bel⟩
  have d6 : ((o : Int) != (o2 : Int)) = false := by simp; omega
  by_cases p7 : v = v2
  rotate_left
  · have d7 : ((v : Int) != (v2 : Int)) = true := by simp; omega
    have HF : Hid (z = false) := by show _ = _; rw [← HZ.out]; exact decide_eq_false (fun h => by injection h; exact p7 (by assumption))
    clear p7
    go_wp2
    go_ret
    rw [HF.out]
    exact ⟨rfl, HG.out.bel⟩
  have d7 : ((v : Int) != (v2 : Int)) = false := by simp; omega
  by_cases p8 : n = n2
  rotate_left
  · have d8 : ((n : Int) != (n2 : Int)) = true := by simp; omega
    have HF : Hid (z = false) := by show _ = _; rw [← HZ.out]; exact decide_eq_false (fun h => by injection h with _ _ _ _ _ _ _ _ h9; exact p8 (by rw [← Hn.out, ← Hn2.out, h9]))
    clear p8
    go_wp2
    go_ret
    rw [HF.out]
    exact ⟨rfl, HG.out.bel⟩
  have d8 : ((n : Int) != (n2 : Int)) = false := by simp; omega
  have HE : Hid (z = decide (xs = ys)) := by
    show _ = _
    rw [← HZ.out, decide_eq_decide]
    rw [p0, p1, p2, p3, p4, p5, p6, p7]
    exact ⟨fun h => by injection h, fun h => by rw [h]⟩
  have HL : Hid (n = n2) := p8
  clear HZ p0 p1 p2 p3 p4 p5 p6 p7 p8
  go_wp2_with fail
  clear a0 a1 a2 a3 a4 a5 a6 a7 a8 b0 b1 b2 b3 b4 b5 b6 b7 b8 d0 d1 d2 d3 d4 d5 d6 d7 d8
  go_loopw [5] (fun i wr => ∃ j : Nat, j ≤ n ∧ i = .int .i64 j ∧ Hid (xs.take j = ys.take j) ∧ Hid (GS w w.heap.size (w.heap.size + 1) #[.int .u32 (k : Int), .int .u32 (g : Int), .int .u32 (li : Int), .int .u32 (m : Int), .int .u32 (s : Int), .int .u64 (c : Int), .int .u64 (o : Int), .int .u64 (v : Int), .slice A n cp] #[.int .u32 (k2 : Int), .int .u32 (g2 : Int), .int .u32 (l2 : Int), .int .u32 (m2 : Int), .int .u32 (s2 : Int), .int .u64 (c2 : Int), .int .u64 (o2 : Int), .int .u64 (v2 : Int), .slice B n2 cq] A n xs B n2 ys wr)) (fun i _ => n - (intOf i).toNat)
  case atStart => exact ⟨0, by omega, rfl, by simp [Hid], HG⟩
  case round =>
    obtain ⟨j, hj, rfl, HT, HG⟩ := hrel
    have a8 : wr.cell? ⟨w.heap.size, 8, none⟩ = some (.slice A n cp) := cell_of_row wr _ 8 _ _ (0, 0) HG.out.one
    have b8 : wr.cell? ⟨w.heap.size + 1, 8, none⟩ = some (.slice B n2 cq) := cell_of_row wr _ 8 _ _ (0, 0) HG.out.two
    by_cases hlt : j < n
    · have hlt2 : j < n2 := by have := HL.out; omega
      obtain ⟨ba, oa, rfl, hja, hca⟩ := HG.out.ns.at hlt
      obtain ⟨bb, ob, rfl, hjb, hcb⟩ := HG.out.ns2.at hlt2
      have HTN : Hid ((xs.take (j + 1) = ys.take (j + 1)) ↔ xs[j] = ys[j]) := by
        show _ ↔ _
        rw [List.take_succ_eq_append_getElem hja, List.take_succ_eq_append_getElem hjb, HT.out]
        exact ⟨fun h => by have h2 := List.append_cancel_left h; injection h2, fun h => by rw [h]⟩
      have HNE : Hid (xs[j] ≠ ys[j] → xs ≠ ys) := fun h e => h (by subst e; rfl)
      obtain ⟨d, hd⟩ : ∃ d, ((xs[j] : Int) != (ys[j] : Int)) = d := ⟨_, rfl⟩
      have HD : Hid (d = true ↔ xs[j] ≠ ys[j]) := by
        show _ ↔ _
        rw [← hd, bne_iff_ne]
        constructor
        · intro h1 h2; exact h1 (by omega)
        · intro h1 h2; exact h1 (by omega)
      generalize xs[j] = xa at *
      generalize ys[j] = xb at *
      go_upto_region 6 with (fail)
      have HS : Hid ((fun W : World => W.cell? ⟨w.heap.size, 8, none⟩ = some (.slice (some ⟨ba, oa, none⟩) n cp) ∧ W.cell? ⟨w.heap.size + 1, 8, none⟩ = some (.slice (some ⟨bb, ob, none⟩) n2 cq) ∧ W.cell? ⟨ba, oa + j, none⟩ = some (.int .u32 (xa : Int)) ∧ W.cell? ⟨bb, ob + j, none⟩ = some (.int .u32 (xb : Int))) wr.drew) := ⟨a8, b8, hca, hcb⟩
      refine wp_region_held_drew (S := fun W => W.cell? ⟨w.heap.size, 8, none⟩ = some (.slice (some ⟨ba, oa, none⟩) n cp) ∧ W.cell? ⟨w.heap.size + 1, 8, none⟩ = some (.slice (some ⟨bb, ob, none⟩) n2 cq) ∧ W.cell? ⟨ba, oa + j, none⟩ = some (.int .u32 (xa : Int)) ∧ W.cell? ⟨bb, ob + j, none⟩ = some (.int .u32 (xb : Int))) (by kernel_rfl) HS.out (fun _ => ?_)
      change wpAnyH _ _ _ _ _ 11 (Array.replicate 11 false) _ _
      refine takeH (i := 0) 76 (.pointer (some ⟨w.heap.size, 8, none⟩)) rfl rfl (by kernel_rfl) (by kernel_rfl) (by kernel_rfl) (fun _ _ _ h => h) (.inl ⟨by rfl, fun W hW => by go_simp⟩) HS.out ?_
      simp only [Act.put, List.setIfInBounds_toArray, List.set_cons_zero, List.set_cons_succ]
      refine takeH (i := 1) 77 (.slice (some ⟨ba, oa, none⟩) n cp) rfl rfl (by kernel_rfl) (by kernel_rfl) (by kernel_rfl) (fun _ _ _ h => h) (.inl ⟨by rfl, fun W hW => by (obtain ⟨h0, h1, h2, h3⟩ := hW; go_simp)⟩) HS.out ?_
      simp only [Act.put, List.setIfInBounds_toArray, List.set_cons_zero, List.set_cons_succ]
      refine takeH (i := 2) 78 (.int .i64 (j : Int)) rfl rfl (by kernel_rfl) (by kernel_rfl) (by kernel_rfl) (fun _ _ _ h => h) (.inl ⟨by rfl, fun W hW => by go_simp⟩) HS.out ?_
      simp only [Act.put, List.setIfInBounds_toArray, List.set_cons_zero, List.set_cons_succ]
      refine takeH (i := 3) 79 (.pointer (some ⟨ba, oa + j, none⟩)) rfl rfl (by kernel_rfl) (by kernel_rfl) (by kernel_rfl) (fun _ _ _ h => h) (.inl ⟨by rfl, fun W hW => by (go_simp; try (intro h; omega))⟩) HS.out ?_
      simp only [Act.put, List.setIfInBounds_toArray, List.set_cons_zero, List.set_cons_succ]
      refine takeH (i := 4) 80 (.int .u32 (xa : Int)) rfl rfl (by kernel_rfl) (by kernel_rfl) (by kernel_rfl) (fun _ _ _ h => h) (.inl ⟨by rfl, fun W hW => by (obtain ⟨h0, h1, h2, h3⟩ := hW; go_simp)⟩) HS.out ?_
      simp only [Act.put, List.setIfInBounds_toArray, List.set_cons_zero, List.set_cons_succ]
      refine takeH (i := 5) 81 (.pointer (some ⟨w.heap.size + 1, 8, none⟩)) rfl rfl (by kernel_rfl) (by kernel_rfl) (by kernel_rfl) (fun _ _ _ h => h) (.inl ⟨by rfl, fun W hW => by go_simp⟩) HS.out ?_
      simp only [Act.put, List.setIfInBounds_toArray, List.set_cons_zero, List.set_cons_succ]
      refine takeH (i := 6) 82 (.slice (some ⟨bb, ob, none⟩) n2 cq) rfl rfl (by kernel_rfl) (by kernel_rfl) (by kernel_rfl) (fun _ _ _ h => h) (.inl ⟨by rfl, fun W hW => by (obtain ⟨h0, h1, h2, h3⟩ := hW; go_simp)⟩) HS.out ?_
      simp only [Act.put, List.setIfInBounds_toArray, List.set_cons_zero, List.set_cons_succ]
      refine takeH (i := 7) 83 (.int .i64 (j : Int)) rfl rfl (by kernel_rfl) (by kernel_rfl) (by kernel_rfl) (fun _ _ _ h => h) (.inl ⟨by rfl, fun W hW => by go_simp⟩) HS.out ?_
      simp only [Act.put, List.setIfInBounds_toArray, List.set_cons_zero, List.set_cons_succ]
      refine takeH (i := 8) 84 (.pointer (some ⟨bb, ob + j, none⟩)) rfl rfl (by kernel_rfl) (by kernel_rfl) (by kernel_rfl) (fun _ _ _ h => h) (.inl ⟨by rfl, fun W hW => by (go_simp; try (intro h; omega))⟩) HS.out ?_
      simp only [Act.put, List.setIfInBounds_toArray, List.set_cons_zero, List.set_cons_succ]
      refine takeH (i := 9) 85 (.int .u32 (xb : Int)) rfl rfl (by kernel_rfl) (by kernel_rfl) (by kernel_rfl) (fun _ _ _ h => h) (.inl ⟨by rfl, fun W hW => by (obtain ⟨h0, h1, h2, h3⟩ := hW; go_simp)⟩) HS.out ?_
      simp only [Act.put, List.setIfInBounds_toArray, List.set_cons_zero, List.set_cons_succ]
      refine takeH (i := 10) 86 (.bool d) rfl rfl (by kernel_rfl) (by kernel_rfl) (by kernel_rfl) (fun _ _ _ h => h) (.inl ⟨by rfl, fun W hW => by go_simp⟩) HS.out ?_
      simp only [Act.put, List.setIfInBounds_toArray, List.set_cons_zero, List.set_cons_succ]
      refine wpAnyH_done (by kernel_rfl) ?_ _
      have HG2 := Lib.hid HG.out.drew
      cases d
      · have HT2 : Hid (xs.take (j + 1) = ys.take (j + 1)) := HTN.out.2 (Decidable.byContradiction fun h => by have := HD.out.2 h; cases this)
        go_wp2
        go_roundw
        case rel => exact ⟨j + 1, by omega, by go_num, HT2, HG2⟩
        case measure => simp [intOf]; omega
      · have HF : Hid (z = false) := by show _ = _; rw [HE.out]; exact decide_eq_false (HNE.out (HD.out.1 rfl))
        go_wp2
        go_ret
        rw [HF.out]
        exact ⟨rfl, HG2.out.bel⟩
    · have hjn : j = n := by omega
      subst hjn
      have HF : Hid (z = true) := by
        show _ = _
        rw [HE.out]
        have h := HT.out
        rw [List.take_of_length_le (by rw [Hn.out]; exact Nat.le_refl _), List.take_of_length_le (by rw [Hn2.out, ← HL.out]; exact Nat.le_refl _)] at h
        exact decide_eq_true h
      go_wp2
      go_ret
      rw [HF.out]
      exact ⟨rfl, HG.out.bel⟩
end Go.Proofs.Ytkgpgaanodmpiaa
