/-
  The document's Get, walked: what isn't empty (layer 7).
-/
import Derived.Test.YtkgpgaanodmpiaaIRGetM
namespace Go.Proofs.Ytkgpgaanodmpiaa
open Go.RowKit

set_option maxRecDepth 100000 in
set_option maxHeartbeats 8000000 in
theorem refGet_some (l : List UInt8) (w : World) (hl : l ≠ []) : Calls Try.prog 19 #[.string (txt l)] w (GetP l w) := by
  have Hne := Lib.hid hl
  have ht : ((txt l).toList == ([] : List UInt8)) = false := by rw [txt_toList]; exact beq_false_of_ne hl
  have ht2 : (txt l).toList.isEmpty = false := by rw [txt_toList]; cases l with | nil => exact absurd rfl hl | cons a b => rfl
  clear hl
  obtain ⟨i0, hi0, hz0, hz1, hz2⟩ := info_parts info_u32
  obtain ⟨⟨⟨l1, e1⟩, x1⟩, h1⟩ : ∃ p, rdN 4 (l, 0) = p := ⟨_, rfl⟩
  have E1 := Lib.hid h1
  clear h1
  obtain ⟨⟨⟨l2, e2⟩, x2⟩, h2⟩ : ∃ p, rdN 4 (l1, e1) = p := ⟨_, rfl⟩
  have E2 := Lib.hid h2
  clear h2
  obtain ⟨⟨⟨l3, e3⟩, x3⟩, h3⟩ : ∃ p, rdN 4 (l2, e2) = p := ⟨_, rfl⟩
  have E3 := Lib.hid h3
  clear h3
  obtain ⟨⟨⟨l4, e4⟩, x4⟩, h4⟩ : ∃ p, rdN 4 (l3, e3) = p := ⟨_, rfl⟩
  have E4 := Lib.hid h4
  clear h4
  obtain ⟨⟨⟨l5, e5⟩, x5⟩, h5⟩ : ∃ p, rdN 4 (l4, e4) = p := ⟨_, rfl⟩
  have E5 := Lib.hid h5
  clear h5
  obtain ⟨⟨⟨l6, e6⟩, y1⟩, h6⟩ : ∃ p, rdN 8 (l5, e5) = p := ⟨_, rfl⟩
  have E6 := Lib.hid h6
  clear h6
  obtain ⟨⟨⟨l7, e7⟩, y2⟩, h7⟩ : ∃ p, rdN 8 (l6, e6) = p := ⟨_, rfl⟩
  have E7 := Lib.hid h7
  clear h7
  obtain ⟨⟨⟨l8, e8⟩, y3⟩, h8⟩ : ∃ p, rdN 8 (l7, e7) = p := ⟨_, rfl⟩
  have E8 := Lib.hid h8
  clear h8
  obtain ⟨⟨⟨l9, e9⟩, x9⟩, h9⟩ : ∃ p, rdN 4 (l8, e8) = p := ⟨_, rfl⟩
  have E9 := Lib.hid h9
  clear h9
  have HPA : Hid (Nd.pa l = ((l5, e5), [x1, x2, x3, x4, x5])) := by
    show _ = _
    unfold Nd.pa
    simp only [Nd.rds, E1.out, E2.out, E3.out, E4.out, E5.out, List.nil_append, List.cons_append]
  have HPB : Hid (Nd.pb l = ((l8, e8), [y1, y2, y3])) := by
    show _ = _
    unfold Nd.pb
    rw [HPA.out]
    simp only [Nd.rds, E6.out, E7.out, E8.out, List.nil_append, List.cons_append]
  have HPC : Hid (Nd.pc l = ((l9, e9), x9)) := by
    show _ = _
    unfold Nd.pc
    rw [HPB.out, E9.out]
  have HX9 : Hid (x9 < 4294967296) := by
    have h : (Nd.pc l).2 < 256 ^ 4 := Nd.rdN_lt 4 _
    rw [HPC.out] at h
    exact h
  go_enter Try.func19, Try.ntmps19
  go_upto_region 1 with (refine wpList_alloc_any rfl 34 rfl _ zero_N ?_; intro w1 hb1 hs1 hw1)
  go_upto_region 4 with (first
    | (refine Did.list rfl (did_build 34 #[] rfl #[.int .u32 0, .int .u32 0, .int .u32 0, .int .u32 0, .int .u32 0, .int .u64 0, .int .u64 0, .int .u64 0, .slice none 0 0] built_N) ?_)
    | (refine wpList_alloc_at rfl 34 rfl _ zero_N w1.heap.size rfl ?_
       intro w2 hb2 hw2)
    | (refine wpList_store_any rfl 34 (.tmp 4) (.tmp 14) rfl w1.heap.size #[.int .u32 0, .int .u32 0, .int .u32 0, .int .u32 0, .int .u32 0, .int .u64 0, .int .u64 0, .int .u64 0, .slice none 0 0] rfl rfl 34 _ hb2 size_N rfl (by simp [Value.oneCell']) ?_
       intro w3 hb3 hs3 hw3))
  have hk3 : Below w1.heap.size w1 w3 := hw2.trans (Keep.below (hw3.mono fun k hk => by omega))
  have hr3 : w3.heap[w.heap.size]? = some (.cells #[.int .u32 0, .int .u32 0, .int .u32 0, .int .u32 0, .int .u32 0, .int .u64 0, .int .u64 0, .int .u64 0, .slice none 0 0] 34 (0, 0)) := (hk3.block _ (by omega)).trans hb1
  have hbel3 : Below w.heap.size w w3 := hw1.trans (hk3.mono (by omega))
  have hne : w.heap.size ≠ w1.heap.size := by omega
  have hle : w.heap.size ≤ w1.heap.size := by omega
  have hg3 := hb3
  clear hk3 hb1 hs1 hw1 hb2 hw2 hb3 hs3 hw3
  generalize w1.heap.size = g at *
  generalize hrr : w.heap.size = r at hr3 hne ⊢
  have Hr : Hid (w.heap.size ≤ r) := by show _ ≤ _; omega
  clear hrr
  try go_frame
  go_wp2_with (first
    | (refine Did.list rfl (did_build 72 _ rfl _ (built_R _)) ?_))
  refine (r32 l 0 w3).mono ?_
  rw [E1.out]
  rintro e wa ⟨rfl, hba⟩
  have hra := (hba.block r (by rcases Nat.lt_or_ge r w3.heap.size with h | h; exact h; rw [Array.getElem?_eq_none h] at hr3; cases hr3)).trans hr3
  have hga := (hba.block g (by rcases Nat.lt_or_ge g w3.heap.size with h | h; exact h; rw [Array.getElem?_eq_none h] at hg3; cases hg3)).trans hg3
  have hbela : Below w.heap.size w wa := hbel3.trans (hba.mono hbel3.size)
  clear hba hr3 hg3 hbel3
  go_upto_region 5 with (first
    | (refine wpList_alloc_at rfl 72 rfl _ zero_R wa.heap.size rfl ?_
       intro w2 hb2 hw2)
    | (refine wpList_store_any rfl 72 (.tmp 5) (.tmp 19) rfl wa.heap.size #[.string (txt l1), .int .i64 e1] rfl rfl 72 _ hb2 size_R rfl (by simp [Value.oneCell']) ?_
       intro wb hb3 hs3 hw3))
  have hkb : Below wa.heap.size wa wb := hw2.trans (Keep.below (hw3.mono fun k hk => by omega))
  have H1 : Hid (RI w r g wa.heap.size zI l1 e1 wb) := by
    have h1 : r < wa.heap.size := by rcases Nat.lt_or_ge r wa.heap.size with h | h; exact h; rw [Array.getElem?_eq_none h] at hra; cases hra
    have h2 : g < wa.heap.size := by rcases Nat.lt_or_ge g wa.heap.size with h | h; exact h; rw [Array.getElem?_eq_none h] at hga; cases hga
    exact ⟨(hkb.block r h1).trans hra, (hkb.block g h2).trans hga, hb3, hbela.trans (hkb.mono hbela.size), Hr.out, hle, hbela.size, hne, Nat.ne_of_lt h1, Nat.ne_of_lt h2⟩
  clear hkb hra hga hbela hb2 hw2 hb3 hs3 hw3 hne hle
  generalize wa.heap.size = t at *
  have fc1 : wb.cell? ⟨g, 0, none⟩ = some (.int .u32 0) := H1.out.nod.cell 0 _ rfl
  have ff1 : wb.frozen? ⟨g, 0, none⟩ = false := H1.out.nod.froz 0
  go_upto_region 6 with (fail)
  have H1f : Hid (RI w r g t [.int .u32 (x1 : Int), .int .u32 0, .int .u32 0, .int .u32 0, .int .u32 0, .int .u64 0, .int .u64 0, .int .u64 0, .slice none 0 0] l1 e1 (wb.setCell ⟨g, 0, none⟩ (.int .u32 (x1 : Int)))) := H1.out.field 0 _
  clear fc1 ff1 H1
  generalize wb.setCell ⟨g, 0, none⟩ (.int .u32 (x1 : Int)) = wf1 at *
  try go_frame
  go_wp2_with (first
    | (refine wpList_load_row rfl 72 (.tmp 5) rfl _ rfl 72 #[.string (txt l1), .int .i64 e1] (0, 0) _ H1f.out.rdr Try.underlying72 rfl size_R ?_))
  refine (r32 l1 e1 wf1).mono ?_
  rw [E2.out]
  rintro e wg1 ⟨rfl, hb1⟩
  have H1g := Lib.hid (H1f.out.step hb1)
  clear hb1 H1f
  go_upto_region 7 with (first
    | (refine wpList_store_any rfl 72 (.tmp 5) (.tmp 26) rfl t #[.string (txt l2), .int .i64 e2] rfl rfl 72 _ H1g.out.rdr size_R rfl (by simp [Value.oneCell']) ?_
       intro ws1 hb3 hs3 hw3))
  have H2 := Lib.hid (H1g.out.stored hb3 hw3)
  clear hb3 hs3 hw3 H1g
  have fc2 : ws1.cell? ⟨g, 1, none⟩ = some (.int .u32 0) := H2.out.nod.cell 1 _ rfl
  have ff2 : ws1.frozen? ⟨g, 1, none⟩ = false := H2.out.nod.froz 1
  go_upto_region 8 with (fail)
  have H2f : Hid (RI w r g t [.int .u32 (x1 : Int), .int .u32 (x2 : Int), .int .u32 0, .int .u32 0, .int .u32 0, .int .u64 0, .int .u64 0, .int .u64 0, .slice none 0 0] l2 e2 (ws1.setCell ⟨g, 1, none⟩ (.int .u32 (x2 : Int)))) := H2.out.field 1 _
  clear fc2 ff2 H2
  generalize ws1.setCell ⟨g, 1, none⟩ (.int .u32 (x2 : Int)) = wf2 at *
  try go_frame
  go_wp2_with (first
    | (refine wpList_load_row rfl 72 (.tmp 5) rfl _ rfl 72 #[.string (txt l2), .int .i64 e2] (0, 0) _ H2f.out.rdr Try.underlying72 rfl size_R ?_))
  refine (r32 l2 e2 wf2).mono ?_
  rw [E3.out]
  rintro e wg2 ⟨rfl, hb2⟩
  have H2g := Lib.hid (H2f.out.step hb2)
  clear hb2 H2f
  go_upto_region 9 with (first
    | (refine wpList_store_any rfl 72 (.tmp 5) (.tmp 33) rfl t #[.string (txt l3), .int .i64 e3] rfl rfl 72 _ H2g.out.rdr size_R rfl (by simp [Value.oneCell']) ?_
       intro ws2 hb3 hs3 hw3))
  have H3 := Lib.hid (H2g.out.stored hb3 hw3)
  clear hb3 hs3 hw3 H2g
  have fc3 : ws2.cell? ⟨g, 2, none⟩ = some (.int .u32 0) := H3.out.nod.cell 2 _ rfl
  have ff3 : ws2.frozen? ⟨g, 2, none⟩ = false := H3.out.nod.froz 2
  go_upto_region 10 with (fail)
  have H3f : Hid (RI w r g t [.int .u32 (x1 : Int), .int .u32 (x2 : Int), .int .u32 (x3 : Int), .int .u32 0, .int .u32 0, .int .u64 0, .int .u64 0, .int .u64 0, .slice none 0 0] l3 e3 (ws2.setCell ⟨g, 2, none⟩ (.int .u32 (x3 : Int)))) := H3.out.field 2 _
  clear fc3 ff3 H3
  generalize ws2.setCell ⟨g, 2, none⟩ (.int .u32 (x3 : Int)) = wf3 at *
  try go_frame
  go_wp2_with (first
    | (refine wpList_load_row rfl 72 (.tmp 5) rfl _ rfl 72 #[.string (txt l3), .int .i64 e3] (0, 0) _ H3f.out.rdr Try.underlying72 rfl size_R ?_))
  refine (r32 l3 e3 wf3).mono ?_
  rw [E4.out]
  rintro e wg3 ⟨rfl, hb3⟩
  have H3g := Lib.hid (H3f.out.step hb3)
  clear hb3 H3f
  go_upto_region 11 with (first
    | (refine wpList_store_any rfl 72 (.tmp 5) (.tmp 40) rfl t #[.string (txt l4), .int .i64 e4] rfl rfl 72 _ H3g.out.rdr size_R rfl (by simp [Value.oneCell']) ?_
       intro ws3 hb3 hs3 hw3))
  have H4 := Lib.hid (H3g.out.stored hb3 hw3)
  clear hb3 hs3 hw3 H3g
  have fc4 : ws3.cell? ⟨g, 3, none⟩ = some (.int .u32 0) := H4.out.nod.cell 3 _ rfl
  have ff4 : ws3.frozen? ⟨g, 3, none⟩ = false := H4.out.nod.froz 3
  go_upto_region 12 with (fail)
  have H4f : Hid (RI w r g t [.int .u32 (x1 : Int), .int .u32 (x2 : Int), .int .u32 (x3 : Int), .int .u32 (x4 : Int), .int .u32 0, .int .u64 0, .int .u64 0, .int .u64 0, .slice none 0 0] l4 e4 (ws3.setCell ⟨g, 3, none⟩ (.int .u32 (x4 : Int)))) := H4.out.field 3 _
  clear fc4 ff4 H4
  generalize ws3.setCell ⟨g, 3, none⟩ (.int .u32 (x4 : Int)) = wf4 at *
  try go_frame
  go_wp2_with (first
    | (refine wpList_load_row rfl 72 (.tmp 5) rfl _ rfl 72 #[.string (txt l4), .int .i64 e4] (0, 0) _ H4f.out.rdr Try.underlying72 rfl size_R ?_))
  refine (r32 l4 e4 wf4).mono ?_
  rw [E5.out]
  rintro e wg4 ⟨rfl, hb4⟩
  have H4g := Lib.hid (H4f.out.step hb4)
  clear hb4 H4f
  go_upto_region 13 with (first
    | (refine wpList_store_any rfl 72 (.tmp 5) (.tmp 47) rfl t #[.string (txt l5), .int .i64 e5] rfl rfl 72 _ H4g.out.rdr size_R rfl (by simp [Value.oneCell']) ?_
       intro ws4 hb3 hs3 hw3))
  have H5 := Lib.hid (H4g.out.stored hb3 hw3)
  clear hb3 hs3 hw3 H4g
  have fc5 : ws4.cell? ⟨g, 4, none⟩ = some (.int .u32 0) := H5.out.nod.cell 4 _ rfl
  have ff5 : ws4.frozen? ⟨g, 4, none⟩ = false := H5.out.nod.froz 4
  go_upto_region 14 with (fail)
  have H5f : Hid (RI w r g t [.int .u32 (x1 : Int), .int .u32 (x2 : Int), .int .u32 (x3 : Int), .int .u32 (x4 : Int), .int .u32 (x5 : Int), .int .u64 0, .int .u64 0, .int .u64 0, .slice none 0 0] l5 e5 (ws4.setCell ⟨g, 4, none⟩ (.int .u32 (x5 : Int)))) := H5.out.field 4 _
  clear fc5 ff5 H5
  generalize ws4.setCell ⟨g, 4, none⟩ (.int .u32 (x5 : Int)) = wf5 at *
  try go_frame
  go_wp2_with (first
    | (refine wpList_load_row rfl 72 (.tmp 5) rfl _ rfl 72 #[.string (txt l5), .int .i64 e5] (0, 0) _ H5f.out.rdr Try.underlying72 rfl size_R ?_))
  refine (r64 l5 e5 wf5).mono ?_
  rw [E6.out]
  rintro e wg5 ⟨rfl, hb5⟩
  have H5g := Lib.hid (H5f.out.step hb5)
  clear hb5 H5f
  go_upto_region 15 with (first
    | (refine wpList_store_any rfl 72 (.tmp 5) (.tmp 54) rfl t #[.string (txt l6), .int .i64 e6] rfl rfl 72 _ H5g.out.rdr size_R rfl (by simp [Value.oneCell']) ?_
       intro ws5 hb3 hs3 hw3))
  have H6 := Lib.hid (H5g.out.stored hb3 hw3)
  clear hb3 hs3 hw3 H5g
  have fc6 : ws5.cell? ⟨g, 5, none⟩ = some (.int .u64 0) := H6.out.nod.cell 5 _ rfl
  have ff6 : ws5.frozen? ⟨g, 5, none⟩ = false := H6.out.nod.froz 5
  go_upto_region 16 with (fail)
  have H6f : Hid (RI w r g t [.int .u32 (x1 : Int), .int .u32 (x2 : Int), .int .u32 (x3 : Int), .int .u32 (x4 : Int), .int .u32 (x5 : Int), .int .u64 (y1 : Int), .int .u64 0, .int .u64 0, .slice none 0 0] l6 e6 (ws5.setCell ⟨g, 5, none⟩ (.int .u64 (y1 : Int)))) := H6.out.field 5 _
  clear fc6 ff6 H6
  generalize ws5.setCell ⟨g, 5, none⟩ (.int .u64 (y1 : Int)) = wf6 at *
  try go_frame
  go_wp2_with (first
    | (refine wpList_load_row rfl 72 (.tmp 5) rfl _ rfl 72 #[.string (txt l6), .int .i64 e6] (0, 0) _ H6f.out.rdr Try.underlying72 rfl size_R ?_))
  refine (r64 l6 e6 wf6).mono ?_
  rw [E7.out]
  rintro e wg6 ⟨rfl, hb6⟩
  have H6g := Lib.hid (H6f.out.step hb6)
  clear hb6 H6f
  go_upto_region 17 with (first
    | (refine wpList_store_any rfl 72 (.tmp 5) (.tmp 61) rfl t #[.string (txt l7), .int .i64 e7] rfl rfl 72 _ H6g.out.rdr size_R rfl (by simp [Value.oneCell']) ?_
       intro ws6 hb3 hs3 hw3))
  have H7 := Lib.hid (H6g.out.stored hb3 hw3)
  clear hb3 hs3 hw3 H6g
  have fc7 : ws6.cell? ⟨g, 6, none⟩ = some (.int .u64 0) := H7.out.nod.cell 6 _ rfl
  have ff7 : ws6.frozen? ⟨g, 6, none⟩ = false := H7.out.nod.froz 6
  go_upto_region 18 with (fail)
  have H7f : Hid (RI w r g t [.int .u32 (x1 : Int), .int .u32 (x2 : Int), .int .u32 (x3 : Int), .int .u32 (x4 : Int), .int .u32 (x5 : Int), .int .u64 (y1 : Int), .int .u64 (y2 : Int), .int .u64 0, .slice none 0 0] l7 e7 (ws6.setCell ⟨g, 6, none⟩ (.int .u64 (y2 : Int)))) := H7.out.field 6 _
  clear fc7 ff7 H7
  generalize ws6.setCell ⟨g, 6, none⟩ (.int .u64 (y2 : Int)) = wf7 at *
  try go_frame
  go_wp2_with (first
    | (refine wpList_load_row rfl 72 (.tmp 5) rfl _ rfl 72 #[.string (txt l7), .int .i64 e7] (0, 0) _ H7f.out.rdr Try.underlying72 rfl size_R ?_))
  refine (r64 l7 e7 wf7).mono ?_
  rw [E8.out]
  rintro e wg7 ⟨rfl, hb7⟩
  have H7g := Lib.hid (H7f.out.step hb7)
  clear hb7 H7f
  go_upto_region 19 with (first
    | (refine wpList_store_any rfl 72 (.tmp 5) (.tmp 68) rfl t #[.string (txt l8), .int .i64 e8] rfl rfl 72 _ H7g.out.rdr size_R rfl (by simp [Value.oneCell']) ?_
       intro ws7 hb3 hs3 hw3))
  have H8 := Lib.hid (H7g.out.stored hb3 hw3)
  clear hb3 hs3 hw3 H7g
  have fc8 : ws7.cell? ⟨g, 7, none⟩ = some (.int .u64 0) := H8.out.nod.cell 7 _ rfl
  have ff8 : ws7.frozen? ⟨g, 7, none⟩ = false := H8.out.nod.froz 7
  go_upto_region 20 with (fail)
  have H8f : Hid (RI w r g t [.int .u32 (x1 : Int), .int .u32 (x2 : Int), .int .u32 (x3 : Int), .int .u32 (x4 : Int), .int .u32 (x5 : Int), .int .u64 (y1 : Int), .int .u64 (y2 : Int), .int .u64 (y3 : Int), .slice none 0 0] l8 e8 (ws7.setCell ⟨g, 7, none⟩ (.int .u64 (y3 : Int)))) := H8.out.field 7 _
  clear fc8 ff8 H8
  generalize ws7.setCell ⟨g, 7, none⟩ (.int .u64 (y3 : Int)) = wf8 at *
  try go_frame
  go_wp2_with (first
    | (refine wpList_load_row rfl 72 (.tmp 5) rfl _ rfl 72 #[.string (txt l8), .int .i64 e8] (0, 0) _ H8f.out.rdr Try.underlying72 rfl size_R ?_))
  refine (r32 l8 e8 wf8).mono ?_
  rw [E9.out]
  rintro e wg8 ⟨rfl, hb8⟩
  have H8g := Lib.hid (H8f.out.step hb8)
  clear hb8 H8f
  go_upto_region 21 with (first
    | (refine wpList_store_any rfl 72 (.tmp 5) (.tmp 75) rfl t #[.string (txt l9), .int .i64 e9] rfl rfl 72 _ H8g.out.rdr size_R rfl (by simp [Value.oneCell']) ?_
       intro ws8 hb3 hs3 hw3))
  have H9 := Lib.hid (H8g.out.stored hb3 hw3)
  clear hb3 hs3 hw3 H8g
  try go_frame
  have HRAW : Hid (nI (Nd.raw l) (.slice none 0 0) = [.int .u32 (x1 : Int), .int .u32 (x2 : Int), .int .u32 (x3 : Int), .int .u32 (x4 : Int), .int .u32 (x5 : Int), .int .u64 (y1 : Int), .int .u64 (y2 : Int), .int .u64 (y3 : Int), .slice none 0 0]) := by
    show _ = _
    unfold Nd.raw
    rw [HPA.out, HPB.out]
    rfl
  rw [← HRAW.out] at H9
  clear HRAW E1 E2 E3 E4 E5 E6 E7 E8 E9 HPA HPB
  have c1 := H9.out.rdr.c1
  by_cases he9 : e9 = 0
  rotate_left
  · have hd : (e9 != 0) = true := by simpa using he9
    have HE : Hid (Nd.err l = e9) := by
      have := (Nd.pc_err l (by rw [HPC.out]; exact he9) Hne.out).1
      rw [HPC.out] at this
      exact this
    have HE9 := Lib.hid he9
    clear he9
    have hbn := built_N
    go_upto_region 22 with (fail)
    have HS : Hid ((fun W : World => W.cell? ⟨t, 1, none⟩ = some (.int .i64 e9)) ws8.drew) := c1
    refine wp_region_held_drew (S := fun W => W.cell? ⟨t, 1, none⟩ = some (.int .i64 e9)) (by kernel_rfl) HS.out (fun _ => ?_)
    change wpAnyH _ _ _ _ _ 5 (Array.replicate 5 false) _ _
    refine takeH (i := 0) 80 (.agg #[.int .u32 0, .int .u32 0, .int .u32 0, .int .u32 0, .int .u32 0, .int .u64 0, .int .u64 0, .int .u64 0, .slice none 0 0]) rfl rfl (by kernel_rfl) (by kernel_rfl) (by kernel_rfl) (fun _ _ _ h => h) (.inl ⟨by rfl, fun W hW => by go_simp⟩) HS.out ?_
    simp only [Act.put, List.setIfInBounds_toArray, List.set_cons_zero, List.set_cons_succ]
    refine takeH (i := 1) 81 (.pointer (some ⟨t, 1, none⟩)) rfl rfl (by kernel_rfl) (by kernel_rfl) (by kernel_rfl) (fun _ _ _ h => h) (.inl ⟨by rfl, fun W hW => by go_simp⟩) HS.out ?_
    simp only [Act.put, List.setIfInBounds_toArray, List.set_cons_zero, List.set_cons_succ]
    refine takeH (i := 2) 82 (.int .i64 e9) rfl rfl (by kernel_rfl) (by kernel_rfl) (by kernel_rfl) (fun _ _ _ h => h) (.inl ⟨by rfl, fun W hW => by (dsimp only at hW; go_simp)⟩) HS.out ?_
    simp only [Act.put, List.setIfInBounds_toArray, List.set_cons_zero, List.set_cons_succ]
    refine wpAnyH_ready (rs := [3]) (by kernel_rfl) (by simp) ?_
    refine AllReadyH.cons rfl (fun K hK => ?_) AllReadyH.nil
    refine Did.step rfl (did_store 34 (.tmp 2) (.tmp 80) rfl r #[.int .u32 0, .int .u32 0, .int .u32 0, .int .u32 0, .int .u32 0, .int .u64 0, .int .u64 0, .int .u64 0, .slice none 0 0] rfl rfl 34 _ (show ws8.drew.heap[r]? = _ from H9.out.res) size_N rfl (by simp [Value.oneCell'])) ?_
    have HZ : Hid ((ws8.drew.setRow r #[.int .u32 0, .int .u32 0, .int .u32 0, .int .u32 0, .int .u32 0, .int .u64 0, .int .u64 0, .int .u64 0, .slice none 0 0]).heap[r]? = some (.cells #[.int .u32 0, .int .u32 0, .int .u32 0, .int .u32 0, .int .u32 0, .int .u64 0, .int .u64 0, .int .u64 0, .slice none 0 0] 34 (0, 0))) := setRow_heap ws8.drew r _ _ _ _ H9.out.res
    have HK : Hid (Below w.heap.size w (ws8.drew.setRow r #[.int .u32 0, .int .u32 0, .int .u32 0, .int .u32 0, .int .u32 0, .int .u64 0, .int .u64 0, .int .u64 0, .slice none 0 0])) := H9.out.bel.drew.trans (Keep.below ((setRow_keep (w := ws8.drew) r _).mono fun k hk => by have := H9.out.lr; omega))
    have HS2 : Hid ((ws8.drew.setRow r #[.int .u32 0, .int .u32 0, .int .u32 0, .int .u32 0, .int .u32 0, .int .u64 0, .int .u64 0, .int .u64 0, .slice none 0 0]).cell? ⟨t, 1, none⟩ = some (.int .i64 e9)) := (World.cell?_of_block ((setRow_keep (w := ws8.drew) r _).block t H9.out.nrt.symm)).trans c1
    generalize ws8.drew.setRow r #[.int .u32 0, .int .u32 0, .int .u32 0, .int .u32 0, .int .u32 0, .int .u64 0, .int .u64 0, .int .u64 0, .slice none 0 0] = wz at *
    refine hK.out _ _ HS2.out fun _ => ?_
    clear hK K
    refine takeH (i := 4) 3 (.int .i64 e9) rfl rfl (by kernel_rfl) (by kernel_rfl) (by kernel_rfl) (fun _ _ _ h => h) (.inl ⟨by rfl, fun W hW => by go_simp⟩) HS2.out ?_
    simp only [Act.put, List.setIfInBounds_toArray]
    refine wpAnyH_done (by kernel_rfl) ?_ _
    go_wp2
    exact bodyPost_ret (results_I rfl _ wz r _ HZ.out size_N (by rfl) (by rfl) Try.underlying34) rfl (GetP.no HE.out (.inl HE9.out) HK.out)
  subst he9
  by_cases h8 : 8 < x9
  · have HE : Hid (Nd.err l = 13) := by
      show _ = _
      unfold Nd.err
      rw [if_neg Hne.out, if_pos (by rw [HPC.out]; exact h8)]
    have hd : decide ((8 : Int) < (x9 : Int)) = true := by simp; omega
    clear h8
    go_wp2_with (first
      | (refine Did.list rfl (did_build 34 #[] rfl #[.int .u32 0, .int .u32 0, .int .u32 0, .int .u32 0, .int .u32 0, .int .u64 0, .int .u64 0, .int .u64 0, .slice none 0 0] built_N) ?_)
      | (refine wpList_store_any rfl 34 (.tmp 2) (.tmp 85) rfl r #[.int .u32 0, .int .u32 0, .int .u32 0, .int .u32 0, .int .u32 0, .int .u64 0, .int .u64 0, .int .u64 0, .slice none 0 0] rfl rfl 34 _ H9.out.res size_N rfl (by simp [Value.oneCell']) ?_
         intro w7 hb7 hs7 hw7
         have HB7 := Lib.hid hb7
         have HW7 := Lib.hid (H9.out.no hw7)
         clear hb7 hs7 hw7))
    exact bodyPost_ret (results_I rfl _ w7 r _ HB7.out size_N (by rfl) (by rfl) Try.underlying34) rfl (GetP.no HE.out (.inl (by decide)) HW7.out)
  have hd : decide ((8 : Int) < (x9 : Int)) = false := by simp; omega
  have wx : IntKind.i64.wrap (x9 : Int) = (x9 : Int) := IntWalk.i64_in _ (by omega)
  go_wp2_with fail
  clear hd wx c1
  go_loopw [6, 9] (fun _ i wr => ∃ k : Nat, k ≤ x9 ∧ i = .int .i64 k ∧ Hid (∃ B c, RL w r g t (Nd.raw l) (l9, 0) k B c wr)) (fun _ i _ => x9 - (intOf i).toNat)
  case atStart => exact ⟨0, by omega, rfl, none, 0, H9.out, World.ownsRow_nil _ _ _ _⟩
  case round =>
    obtain ⟨k, hk, rfl, HL⟩ := hrel
    obtain ⟨B, c, hgl⟩ := HL.out
    have H := Lib.hid hgl
    clear HL hgl
    by_cases hlt : k < x9
    · obtain ⟨v, hv⟩ : ∃ v, (rdN 4 (Nd.rds 4 k (l9, 0)).1).2 = v := ⟨_, rfl⟩
      have hv2 : (rdN 4 ((Nd.rds 4 k (l9, 0)).1.1, (Nd.rds 4 k (l9, 0)).1.2)).2 = v := hv
      have HV := Lib.hid hv
      clear hv
      go_wp2_with (first
        | (refine wpList_load_row rfl 72 (.tmp 5) rfl _ rfl 72 #[.string (txt (Nd.rds 4 k (l9, 0)).1.1), .int .i64 (Nd.rds 4 k (l9, 0)).1.2] (0, 0) _ H.out.ri.rdr Try.underlying72 rfl size_R ?_))
      refine (r32 (Nd.rds 4 k (l9, 0)).1.1 (Nd.rds 4 k (l9, 0)).1.2 wr).mono ?_
      rw [hv2]
      rintro e wq ⟨rfl, hbq⟩
      have HBQ := Lib.hid hbq
      have HI1 := Lib.hid (H.out.ri.step hbq)
      clear hbq hv2
      go_upto_region 30 with (first
        | (refine wpList_store_any rfl 72 (.tmp 5) (.tmp 96) rfl t #[.string (txt (rdN 4 (Nd.rds 4 k (l9, 0)).1).1.1), .int .i64 (rdN 4 (Nd.rds 4 k (l9, 0)).1).1.2] rfl rfl 72 _ HI1.out.rdr size_R rfl (by simp [Value.oneCell']) ?_
           intro wp hb3 hs3 hw3))
      have HI2 := Lib.hid (HI1.out.stored hb3 hw3)
      have HB3 := Lib.hid hb3
      have HW3 := Lib.hid hw3
      have HO2 : Hid (wp.ownsRow w.heap.size 22 1 (.slice B k c) k (c32 (Nd.rds 4 k (l9, 0)).2)) := by
        have o1 : wq.ownsRow w.heap.size 22 1 (.slice B k c) k (c32 (Nd.rds 4 k (l9, 0)).2) := own_grown H.out.own (row := none) ⟨HBQ.out.os, HBQ.out.tape, HBQ.out.output, HBQ.out.size, fun j hj _ => HBQ.out.block j hj⟩ (fun _ _ e => by cases e)
        exact own_grown o1 (row := some t) ⟨hw3.os, hw3.tape, hw3.output, hw3.size, fun j _ hj => hw3.block j (fun e => hj (by rw [e]))⟩ (fun gq hgq e => by
          injection e with e
          subst e
          exact own_ne o1 HI1.out.rdr (by decide) hgq)
      clear hb3 hs3 hw3
      try go_frame
      have c8 : wp.cell? ⟨g, 8, none⟩ = some (.slice B k c) := HI2.out.nod.cell 8 _ rfl
      go_wp2_with (first
        | (at_builtin
           refine wpList_append_lies _ rfl (.tmp 99) (.tmp 101) 24 rfl w.heap.size 22 i0 _ 1 4 Try.underlying24 hi0 hz0 hz1 hz2 rfl (by omega) _ k _ rfl (HO2.out.alloc _)
             ⟨wp.heap.size, 0, none⟩ 1 1 [.int .u32 (v : Int)] rfl rfl (cell_one_new _ _ _) (by simp [Value.oneCell']) (by omega) (by unfold maxLen; omega) (by omega) (by have := HI2.out.bel.size; simp; omega) (wp.heap.size + 1) (by simp) ?_
           intro gg cap w8 hown hgrow hat hlt1
           have hng : (Value.slice B k c).ownBlock ≠ some g := own_ne (HO2.out.alloc _) (HI2.out.nod.below ((Below.refl _ _).alloc (Nat.le_refl _) (.cells #[.int .u32 (v : Int)] 22))) (by decide)
           have c8' : w8.cell? ⟨g, 8, none⟩ = some (.slice B k c) := (hgrow.cell_far ⟨g, 8, none⟩ (by have := HI2.out.nod.lt; simp; omega) (fun e => hng e.symm)).trans ((World.cell?_alloc_lt wp _ ⟨g, 8, none⟩ HI2.out.nod.lt).trans c8)
           have f8' : w8.frozen? ⟨g, 8, none⟩ = false := (hgrow.frozen_far ⟨g, 8, none⟩ (by have := HI2.out.nod.lt; simp; omega) (fun e => hng e.symm)).trans ((World.frozen?_alloc_past _ _ _ HI2.out.nod.lt).trans (HI2.out.nod.froz 8))
           have HN := Lib.hid (H.out.next HBQ.out HB3.out HW3.out HV.out hown hgrow)
           clear hown hgrow hat hlt1 hng))
      go_roundw
      case rel => exact ⟨k + 1, by omega, by go_num, ⟨_, _, HN.out⟩⟩
      case measure => simp [intOf]; omega
    · have hkx : k = x9 := by omega
      subst hkx
      have HD : Hid (Nd.rds 4 k (l9, 0) = Nd.pd l) := by show _ = _; unfold Nd.pd; rw [HPC.out]
      have HF : Hid (endOf (Nd.rds 4 k (l9, 0)).1.1 (Nd.rds 4 k (l9, 0)).1.2 = Nd.fin l) := by show _ = _; rw [HD.out]; rfl
      have HH := Lib.hid (show ¬ 8 < (Nd.pc l).2 by rw [HPC.out]; exact h8)
      have HW := Lib.hid (Nd.wide_raw l)
      have HB : Hid ((Nd.raw l).bl = (Nd.rds 4 k (l9, 0)).2) := by show _ = _; rw [HD.out]; rfl
      have HN : Hid (NS .u32 wr B k (Nd.raw l).bl) := by show NS _ _ _ _ _; rw [HB.out]; exact NS.of_own H.out.own
      clear HD HB HPC
      go_wp2_with (first
        | (refine wpList_load_row rfl 72 (.tmp 5) rfl _ rfl 72 #[.string (txt (Nd.rds 4 k (l9, 0)).1.1), .int .i64 (Nd.rds 4 k (l9, 0)).1.2] (0, 0) _ H.out.ri.rdr Try.underlying72 rfl size_R ?_))
      refine (rEnd (Nd.rds 4 k (l9, 0)).1.1 (Nd.rds 4 k (l9, 0)).1.2 wr).mono ?_
      rw [HF.out]
      rintro e wE ⟨rfl, hbE⟩
      have HI := Lib.hid (H.out.ri.step hbE)
      have HO : Hid (wE.ownsRow w.heap.size 22 1 (.slice B k c) k (c32 (Nd.rds 4 k (l9, 0)).2)) := own_grown H.out.own (row := none) ⟨hbE.os, hbE.tape, hbE.output, hbE.size, fun j hj _ => hbE.block j hj⟩ (fun _ _ e => by cases e)
      have HNE := Lib.hid (HN.out.below hbE)
      clear hbE HN H
      by_cases hf : Nd.fin l = 0
      rotate_left
      · have HE : Hid (Nd.err l = Nd.fin l) := by
          show _ = _
          unfold Nd.err
          rw [if_neg Hne.out, if_neg HH.out, if_pos hf]
        have HFN := Lib.hid hf
        have hd : (Nd.fin l != 0) = true := by simpa using hf
        clear hf HF
        generalize Nd.fin l = z at *
        go_wp2_with (first
          | (refine Did.list rfl (did_build 34 #[] rfl #[.int .u32 0, .int .u32 0, .int .u32 0, .int .u32 0, .int .u32 0, .int .u64 0, .int .u64 0, .int .u64 0, .slice none 0 0] built_N) ?_)
          | (refine wpList_store_any rfl 34 (.tmp 2) (.tmp 108) rfl r #[.int .u32 0, .int .u32 0, .int .u32 0, .int .u32 0, .int .u32 0, .int .u64 0, .int .u64 0, .int .u64 0, .slice none 0 0] rfl rfl 34 _ HI.out.res size_N rfl (by simp [Value.oneCell']) ?_
             intro w7 hb7 hs7 hw7
             have HB7 := Lib.hid hb7
             have HW7 := Lib.hid (HI.out.no hw7)
             clear hb7 hs7 hw7))
        exact bodyPost_ret (results_I rfl _ w7 r _ HB7.out size_N (by rfl) (by rfl) Try.underlying34) rfl (GetP.no HE.out (.inl HFN.out) HW7.out)
      have HE : Hid (Nd.err l = if (Nd.raw l).okB = true ∧ (Nd.raw l).blank = false then 0 else 11) := by
        show _ = _
        unfold Nd.err
        rw [if_neg Hne.out, if_neg HH.out, if_neg (by rw [hf]; simp)]
      have HGot : Hid (Nd.err l = 0 → Nd.got l = Nd.raw l) := fun h => if_pos ⟨Hne.out, h⟩
      rw [hf]
      clear hf HF HH Hne
      generalize Nd.raw l = X at *
      obtain ⟨kk, ge, li, m, s, co, oo, vv, bl⟩ := X
      have hbl : bl.length = k := HNE.out.1
      have hcells : wE.heap[g]? = some (.cells #[.int .u32 (kk : Int), .int .u32 (ge : Int), .int .u32 (li : Int), .int .u32 (m : Int), .int .u32 (s : Int), .int .u64 (co : Int), .int .u64 (oo : Int), .int .u64 (vv : Int), .slice B k c] 34 (0, 0)) := HI.out.nod
      have HCE := Lib.hid hcells
      clear hcells
      go_wp2_with (first
        | (refine wpList_load_row rfl 34 (.tmp 4) rfl _ rfl 34 #[.int .u32 (kk : Int), .int .u32 (ge : Int), .int .u32 (li : Int), .int .u32 (m : Int), .int .u32 (s : Int), .int .u64 (co : Int), .int .u64 (oo : Int), .int .u64 (vv : Int), .slice B k c] (0, 0) _ HCE.out Try.underlying34 rfl size_N ?_))
      refine (refCheck_any kk ge li m s co oo vv B k c bl wE HW.out HNE.out (by omega)).mono ?_
      rintro e w10 ⟨rfl, hb10⟩
      have HI10 := Lib.hid (HI.out.step hb10)
      have HN10 := Lib.hid (HNE.out.below hb10)
      have HO10 : Hid (w10.ownsRow w.heap.size 22 1 (.slice B k c) k (c32 (Nd.rds 4 k (l9, 0)).2)) := own_grown HO.out (row := none) ⟨hb10.os, hb10.tape, hb10.output, hb10.size, fun j hj _ => hb10.block j hj⟩ (fun _ _ e => by cases e)
      have HC10 : Hid (w10.heap[g]? = some (.cells #[.int .u32 (kk : Int), .int .u32 (ge : Int), .int .u32 (li : Int), .int .u32 (m : Int), .int .u32 (s : Int), .int .u64 (co : Int), .int .u64 (oo : Int), .int .u64 (vv : Int), .slice B k c] 34 (0, 0))) := HI10.out.nod
      clear hb10 HI HNE HO HCE
      by_cases hok : (Nd.mk kk ge li m s co oo vv bl).okB = true
      rotate_left
      · have hz : (Nd.mk kk ge li m s co oo vv bl).chk = 1 := if_neg hok
        have HE2 : Hid (Nd.err l = 11) := by show _ = _; rw [HE.out, if_neg (fun h => hok h.1)]
        rw [hz]
        clear hz hok HE
        go_wp2_with (first
          | (refine Did.list rfl (did_build 34 #[] rfl #[.int .u32 0, .int .u32 0, .int .u32 0, .int .u32 0, .int .u32 0, .int .u64 0, .int .u64 0, .int .u64 0, .slice none 0 0] built_N) ?_)
          | (refine wpList_store_any rfl 34 (.tmp 2) (.tmp 117) rfl r #[.int .u32 0, .int .u32 0, .int .u32 0, .int .u32 0, .int .u32 0, .int .u64 0, .int .u64 0, .int .u64 0, .slice none 0 0] rfl rfl 34 _ HI10.out.res size_N rfl (by simp [Value.oneCell']) ?_
             intro w7 hb7 hs7 hw7
             have HB7 := Lib.hid hb7
             have HW7 := Lib.hid (HI10.out.no hw7)
             clear hb7 hs7 hw7))
        exact bodyPost_ret (results_I rfl _ w7 r _ HB7.out size_N (by rfl) (by rfl) Try.underlying34) rfl (GetP.no HE2.out (.inl (by decide)) HW7.out)
      have hz : (Nd.mk kk ge li m s co oo vv bl).chk = 0 := if_pos hok
      have HOK := Lib.hid hok
      rw [hz]
      clear hz hok
      obtain ⟨c0, c1, c2, c3, c4, c5, c6, c7, c8⟩ := N_cells HC10.out
      go_wp2_with fail
      refine (refEmpty_any kk ge li m s co oo vv B k c w10).mono ?_
      rintro e w11 ⟨rfl, hb11⟩
      rw [← Nd.blank_ok (Nd.mk kk ge li m s co oo vv bl) HOK.out]
      have HI11 := Lib.hid (HI10.out.step hb11)
      have HO11 : Hid (w11.ownsRow w.heap.size 22 1 (.slice B k c) k (c32 (Nd.rds 4 k (l9, 0)).2)) := own_grown HO10.out (row := none) ⟨hb11.os, hb11.tape, hb11.output, hb11.size, fun j hj _ => hb11.block j hj⟩ (fun _ _ e => by cases e)
      have HN11 := Lib.hid (HN10.out.below hb11)
      have HC11 : Hid (w11.heap[g]? = some (.cells #[.int .u32 (kk : Int), .int .u32 (ge : Int), .int .u32 (li : Int), .int .u32 (m : Int), .int .u32 (s : Int), .int .u64 (co : Int), .int .u64 (oo : Int), .int .u64 (vv : Int), .slice B k c] 34 (0, 0))) := HI11.out.nod
      clear hb11 c0 c1 c2 c3 c4 c5 c6 c7 c8 HI10 HO10 HN10 HC10
      by_cases hbk : (Nd.mk kk ge li m s co oo vv bl).blank = true
      · have HE2 : Hid (Nd.err l = 11) := by show _ = _; rw [HE.out, if_neg (fun h => by rw [hbk] at h; cases h.2)]
        rw [hbk]
        clear hbk HE
        go_wp2_with (first
          | (refine Did.list rfl (did_build 34 #[] rfl #[.int .u32 0, .int .u32 0, .int .u32 0, .int .u32 0, .int .u32 0, .int .u64 0, .int .u64 0, .int .u64 0, .slice none 0 0] built_N) ?_)
          | (refine wpList_store_any rfl 34 (.tmp 2) (.tmp 117) rfl r #[.int .u32 0, .int .u32 0, .int .u32 0, .int .u32 0, .int .u32 0, .int .u64 0, .int .u64 0, .int .u64 0, .slice none 0 0] rfl rfl 34 _ HI11.out.res size_N rfl (by simp [Value.oneCell']) ?_
             intro w7 hb7 hs7 hw7
             have HB7 := Lib.hid hb7
             have HW7 := Lib.hid (HI11.out.no hw7)
             clear hb7 hs7 hw7))
        exact bodyPost_ret (results_I rfl _ w7 r _ HB7.out size_N (by rfl) (by rfl) Try.underlying34) rfl (GetP.no HE2.out (.inl (by decide)) HW7.out)
      have hbk : (Nd.mk kk ge li m s co oo vv bl).blank = false := by simpa using hbk
      have HE2 : Hid (Nd.err l = 0) := by show _ = _; rw [HE.out, if_pos ⟨HOK.out, hbk⟩]
      have HG := Lib.hid (HGot.out HE2.out)
      rw [hbk]
      clear hbk HE HGot
      go_wp2_with (first
        | (refine wpList_load_row rfl 34 (.tmp 4) rfl _ rfl 34 #[.int .u32 (kk : Int), .int .u32 (ge : Int), .int .u32 (li : Int), .int .u32 (m : Int), .int .u32 (s : Int), .int .u64 (co : Int), .int .u64 (oo : Int), .int .u64 (vv : Int), .slice B k c] (0, 0) _ HC11.out Try.underlying34 rfl size_N ?_)
        | (refine wpList_store_any rfl 34 (.tmp 2) (.tmp 118) rfl r #[.int .u32 (kk : Int), .int .u32 (ge : Int), .int .u32 (li : Int), .int .u32 (m : Int), .int .u32 (s : Int), .int .u64 (co : Int), .int .u64 (oo : Int), .int .u64 (vv : Int), .slice B k c] rfl rfl 34 _ HI11.out.res size_N rfl (by simp [Value.oneCell']) ?_
           intro w7 hb7 hs7 hw7
           have HB7 := Lib.hid hb7
           have HW7 := Lib.hid (HI11.out.no hw7)
           have HN7 : Hid (NS .u32 w7 B k bl) := HN11.out.off (own_ne HO11.out HI11.out.res (by decide)) (fun j _ hj => hw7.block j hj)
           clear hb7 hs7 hw7))
      refine bodyPost_ret (results_I rfl _ w7 r _ HB7.out size_N (by rfl) (by rfl) Try.underlying34) rfl ?_
      unfold GetP
      rw [HG.out, HE2.out]
      refine ⟨B, c, ?_, ?_, HW7.out⟩
      · rw [hbl]
        rfl
      · show NS .u32 w7 B bl.length bl
        rw [hbl]
        exact HN7.out
theorem refGet_any (l : List UInt8) (w : World) : Calls Try.prog 19 #[.string (txt l)] w (GetP l w) := by
  by_cases h : l = []
  · subst h
    exact refGet_nil w
  · exact refGet_some l w h
end Go.Proofs.Ytkgpgaanodmpiaa
