/-
  Contract of Write (layer 3).
-/
import Derived.Test.YtcieahfhpanogaaDRead
import Derived.Test.YtcieahfhpanogaaMake
namespace Go.Proofs.Ytcieahfhpanogaa
open Go.RowKit

theorem zero_write : (Try.prog.info? 70).bind (·.zero) = some (.agg (.int .i64 0 :: bc zs).toArray) := by kernel_rfl
theorem infos_write : (Try.prog.info? 70).map (fun i => (i.zero, i.size)) = some (some (.agg (.int .i64 0 :: bc zs).toArray), 129) := by kernel_rfl
theorem bytes_write : (Try.prog.info? 70).map (fun i => (i.zero, i.size, i.bytes)) = some (some (.agg (.int .i64 0 :: bc zs).toArray), 129, 136) := by kernel_rfl
theorem built_write (i : Int) : Try.prog.built 70 [(0, .int .i64 i)] = some (.int .i64 i :: bc zs).toArray := by kernel_rfl

theorem wr_all (i : Int) (l : List UInt8) : (Value.int .i64 i :: bc l).toArray.all (·.oneCell') = true := by
  simp only [List.all_toArray, List.all_eq_true]
  intro u hu
  rcases List.mem_cons.1 hu with rfl | hu
  · rfl
  · exact bc_one l u hu
/-- A write that waits. -/
def DS.push (s : DS) (i : Int) (l : List UInt8) : DS := { s with pend := s.pend ++ [(i, l)] }

theorem BS.fr {w w' : World} {A : Option Addr} {n : Nat} {l : List UInt8} {S : Nat → Prop} (h : BS w A n l) (hf : Fr S w w') (hA : ∀ ad, A = some ad → ¬ S ad.block) : BS w' A n l :=
  ⟨h.1, fun hn => by
    obtain ⟨b, o, e, hc⟩ := h.2 hn
    refine ⟨b, o, e, fun j hj => ?_⟩
    rw [← hc j hj]
    exact World.cell?_of_block (hf.block b ⟨World.block_lt_of_cell? w _ (hc j hj), hA _ e⟩)⟩

theorem Dk.pushed {w5 w6 : World} {p : Nat} {S : Nat → Prop} {s : DS} {b : Nat} {A : Option Addr} {c : Nat} {i : Int} {l : List UInt8} (hok : s.ok) (hlt : ∀ k, S k → k < w5.heap.size) (hSp : S p) (hSb : S b ∧ b = s.mp) (hSv : ∀ k, (Value.slice A s.pend.length c).ownBlock = some k → S k)
    (hm : IsMap w5 b zs s.F) (ho : w5.ownsRow 0 70 129 (.slice A s.pend.length c) s.pend.length (pc s.pend))
    (hc : w5.heap[p]? = some (.cells #[.int .i64 (s.n : Int), .map (some b), .slice A s.pend.length c, .int .i64 s.left, .bool s.down] 57 (0, 0))) {g cap : Nat}
    (ho6 : w6.ownsRow 0 70 129 (.slice (some ⟨g, 0, none⟩) (s.pend.length + 1) cap) (s.pend.length + 1) (pc s.pend ++ (.int .i64 i :: bc l))) (hg : w5.grownBy w6 (Value.slice A s.pend.length c).ownBlock)
    (hat : (Value.slice A s.pend.length c).ownBlock = some g ∨ g = w5.heap.size) (hglt : g < w6.heap.size) (hl : l.length = 128) :
    Dk (w6.setCell ⟨p, 2, none⟩ (.slice (some ⟨g, 0, none⟩) (s.pend.length + 1) cap)) p (fun k => S k ∨ k = g) (s.push i l) ∧ Fr S w5 (w6.setCell ⟨p, 2, none⟩ (.slice (some ⟨g, 0, none⟩) (s.pend.length + 1) cap)) ∧
    w6.cell? ⟨p, 2, none⟩ = some (.slice A s.pend.length c) ∧ w6.frozen? ⟨p, 2, none⟩ = false ∧ (S g ∨ w5.heap.size ≤ g) := by
  have hpv : some p ≠ (Value.slice A s.pend.length c).ownBlock := by
    intro e
    rcases ho.2 with ⟨h0, _⟩ | ⟨g', cap', cur, h1, h2, h3, h4⟩
    · rw [h0] at e; cases e
    · rw [h1] at e
      obtain rfl : p = g' := by simpa [Value.ownBlock] using e
      rw [hc] at h3
      cases h3
  have hbv : some b ≠ (Value.slice A s.pend.length c).ownBlock := by
    intro e
    rcases ho.2 with ⟨h0, _⟩ | ⟨g', cap', cur, h1, h2, h3, h4⟩
    · rw [h0] at e; cases e
    · rw [h1] at e
      obtain rfl : b = g' := by simpa [Value.ownBlock] using e
      obtain ⟨es, cl, hmb, _⟩ := hm
      rw [h3] at hmb
      cases hmb
  have hbp : b ≠ p := by
    rintro rfl
    obtain ⟨es, cl, hmb, _⟩ := hm
    rw [hc] at hmb
    cases hmb
  have hc6 : w6.heap[p]? = _ := (hg.block p (hlt p hSp) hpv).trans hc
  have hgp : g ≠ p := by
    rintro rfl
    rcases ho6.2 with ⟨h0, _⟩ | ⟨g', cap', cur, h1, h2, h3, h4⟩
    · cases h0
    · injection h1 with h1 _ _
      injection h1 with h1
      injection h1 with h1
      subst h1
      rw [hc6] at h3
      cases h3
  have hSg : S g ∨ w5.heap.size ≤ g := by
    rcases hat with h | h
    · exact .inl (hSv g h)
    · exact .inr (by omega)
  have hbk : ∀ k v, k ≠ p → (w6.setCell ⟨p, 2, none⟩ v).heap[k]? = w6.heap[k]? := fun k v hk => Below.heap_setCell w6 ⟨p, 2, none⟩ v k hk
  have hfr : Fr S w5 w6 := ⟨hg.os, hg.tape, hg.output, hg.size, fun k hk => hg.block k hk.1 fun e => hk.2 (hSv k e.symm)⟩
  have hsz : ∀ v, (w6.setCell ⟨p, 2, none⟩ v).heap.size = w6.heap.size := fun v => by simp [World.setCell]
  refine ⟨⟨?_, ?_, .inl hSp, b, some ⟨g, 0, none⟩, cap, ⟨.inl hSb.1, hSb.2⟩, ?_, ?_, ?_, ?_⟩, Keep.setCell hfr (p := ⟨p, 2, none⟩) (fun h => h.2 hSp) _, ?_, ?_, hSg⟩
  · refine ⟨fun x hx => ?_, hok.2⟩
    rcases List.mem_append.1 hx with hx | hx
    · exact hok.1 x hx
    · obtain rfl : x = (i, l) := by simpa using hx
      exact hl
  · intro k hk
    rw [hsz]
    rcases hk with hk | rfl
    · exact Nat.lt_of_lt_of_le (hlt k hk) hg.size
    · exact hglt
  · intro k hk
    obtain rfl : k = g := by simpa [Value.ownBlock] using hk.symm
    exact .inr rfl
  · exact hm.keep ((hbk b _ hbp).trans (hg.block b (hlt b hSb.1) hbv))
  · have e : pc (s.push i l).pend = pc s.pend ++ (.int .i64 i :: bc l) := by
      show pc (s.pend ++ [(i, l)]) = _
      rw [pc_append]
      simp [pc]
    have e2 : (s.push i l).pend.length = s.pend.length + 1 := by simp [DS.push]
    rw [e, e2]
    refine ⟨ho6.1, ?_⟩
    rcases ho6.2 with h0 | ⟨g', cap', cur, h1, h2, h3, h4⟩
    · exact .inl h0
    · have hg' : g' = g := by
        injection h1 with h1 _ _
        injection h1 with h1
        injection h1 with h1
        exact h1.symm
      subst hg'
      exact .inr ⟨g', cap', cur, h1, h2, (hbk g' _ hgp).trans h3, h4⟩
  · have e2 : (s.push i l).pend.length = s.pend.length + 1 := by simp [DS.push]
    rw [e2, setCell_eq_setRow w6 p 2 _ _ _ _ hc6]
    exact setRow_heap w6 p _ _ _ _ hc6
  · rw [cell_of_row _ _ _ _ _ _ hc6]; rfl
  · simp [World.frozen?, hc6]

set_option maxRecDepth 100000 in
set_option maxHeartbeats 1000000 in
theorem write_up (p : Nat) (S : Nat → Prop) (s : DS) (i : Int) (A : Option Addr) (c : Nat) (l : List UInt8) (w : World) (h : Dk w p S s) (hs : s.pend.length ≤ 1000000) (hr : refus s i = 0) (hb : BS w A 128 l) (hA : ∀ ad, A = some ad → ¬ S ad.block) (hcd : s.count.down = false) :
    Calls Try.prog 47 #[.pointer (some ⟨p, 0, none⟩), .int .i64 i, .slice A 128 c] w fun e w' =>
      e = .returned (.int .i64 0) ∧ ∃ S', Dk w' p S' (s.count.push i l) ∧ Fr S w w' ∧ ∀ k, S' k → S k ∨ w.heap.size ≤ k := by
  have HD := Lib.hid h
  have HR := Lib.hid hr
  have HC := Lib.hid hcd
  have HBS := Lib.hid hb
  have HA := Lib.hid hA
  clear h hr hcd hb hA
  go_enter Try.func47, Try.ntmps47
  go_wp2_with fail
  refine (refusal_any p S s i w HD.out).mono ?_
  rintro e w' ⟨rfl, rfl⟩
  rw [HR.out]
  go_wp2_with fail
  refine (stopsNow_any p S s w HD.out).mono ?_
  rintro e w1 ⟨rfl, hd1, hf1⟩
  rw [HC.out]
  have HD1 := Lib.hid hd1
  have HF1 := Lib.hid hf1
  have HB1 : Hid (BS w1 A 128 l) := HBS.out.fr hf1 HA.out
  clear hd1 hf1
  obtain ⟨b, o, rfl, hbc⟩ := HB1.out.2 (by omega)
  clear hbc
  have HSRC := Lib.hid (HB1.out.news rfl)
  have HL : Hid ((bc l).length = 128) := by show _ = _; rw [bc_length]; exact HB1.out.1
  have HLZ : Hid ((bc zs).length = 128) := by show _ = _; rw [bc_length]; exact zs_len
  have HX : Hid ((Value.int .i64 i :: bc zs).take 1 ++ bc l ++ (Value.int .i64 i :: bc zs).drop (1 + (bc l).length) = Value.int .i64 i :: bc l) := by
    show _ = _
    rw [HL.out, List.drop_eq_nil_of_le (by simp [HLZ.out])]
    simp
  go_wp2_with (first
    | (refine Did.list rfl (did_build_one 70 0 (.tmp 20) rfl (.int .i64 i) rfl _ (built_write i)) ?_)
    | (refine wpList_alloc_any rfl 70 rfl _ zero_write ?_; intro w2 hb2 hs2 hw2; have HB2 := Lib.hid hb2; have HS2 := Lib.hid hs2; have HW2 := Lib.hid hw2; clear hb2 hs2 hw2)
    | (refine wpList_store_any rfl 70 (.tmp 8) (.tmp 21) rfl w1.heap.size (Value.int .i64 i :: bc zs).toArray rfl rfl 70 _ HB2.out (by rw [size_write]; simp [HLZ.out]) rfl (wr_all i zs) ?_
       intro w3 hb3 hs3 hw3
       have HB3 := Lib.hid hb3
       have HS3 := Lib.hid hs3
       have HW3 := Lib.hid hw3
       clear hb3 hs3 hw3)
    | (refine wpList_copy_any rfl (.tmp 23) (.tmp 24) 23 23 rfl 5 w1.heap.size 1 128 128 ⟨b, o, none⟩ 128 c rfl rfl (Value.int .i64 i :: bc zs) 70 (bc l) Try.underlying23 size_u8 HB3.out (by rw [HL.out]; rfl) ((HB1.out.below (HW2.out.trans (Keep.below (HW3.out.mono fun k' hk' => by omega)))).news rfl) (by rw [HL.out]; simp [HLZ.out]) (bc_one l) ?_
       rw [HX.out]
       intro w4 hb4 hs4 hw4
       have HB4 := Lib.hid hb4
       have HS4 := Lib.hid hs4
       have HW4 := Lib.hid hw4
       clear hb4 hs4 hw4))
  have HW : Hid (Below w1.heap.size w1 w4) := HW2.out.trans ((Keep.below (HW3.out.mono fun k' hk' => by omega)).trans (Keep.below (HW4.out.mono fun k' hk' => by omega)))
  obtain ⟨hok, hlt, hSp, mb, A2, c2, hSb, hSv, hm, ho, hc⟩ := HD1.out.below HW.out
  have HC2 : Hid (w4.cell? ⟨p, 2, none⟩ = some (.slice A2 s.count.pend.length c2)) := by show _ = _; rw [cell_of_row _ _ _ _ _ _ hc]; rfl
  have HLT : Hid (p < w4.heap.size) := hlt p hSp
  have HSZ : Hid ((Try.prog.info? 70).map (·.size) = some (Value.int .i64 i :: bc l).length) := by show _ = _; rw [size_write, List.length_cons, HL.out]
  have HS129 : Hid ((Value.int .i64 i :: bc l).toArray.size = 129) := by show _ = _; simp [HL.out]
  have HINF : Hid ((Try.prog.info? 70).map (fun i => (i.zero, i.size)) = some (some (.agg (.int .i64 0 :: bc zs).toArray), (Value.int .i64 i :: bc l).toArray.size)) := by show _ = _; rw [infos_write, HS129.out]
  have HNEW : Hid (∀ j u, (Value.int .i64 i :: bc l)[j]? = some u → w4.cell? ((⟨w1.heap.size, 0, none⟩ : Addr).add j) = some u) := fun j u hu => World.news_of_block HB4.out j u (by simpa using hu)
  refine wp_region_any (by kernel_rfl) ?_
  change wpAny _ _ _ _ _ _ _ (World.drew _)
  refine wpAny_takeTo (i := 0) 26 (.pointer (some ⟨p, 0, none⟩)) rfl rfl (by kernel_rfl) (by kernel_rfl) (by kernel_rfl) (fun _ _ _ h => h) (Or.inl ⟨by rfl, fun w => by go_simp⟩) ?_
  refine wpAny_takeTo (i := 1) 27 (.pointer (some ⟨p, 0, none⟩)) rfl rfl (by kernel_rfl) (by kernel_rfl) (by kernel_rfl) (fun _ _ _ h => h) (Or.inl ⟨by rfl, fun w => by go_simp⟩) ?_
  refine wpAny_takeTo (i := 2) 28 (.pointer (some ⟨p, 0, none⟩)) rfl rfl (by kernel_rfl) (by kernel_rfl) (by kernel_rfl) (fun _ _ _ h => h) (Or.inl ⟨by rfl, fun w => by go_simp⟩) ?_
  refine wpAny_takeTo (i := 3) 29 (.pointer (some ⟨p, 2, none⟩)) rfl rfl (by kernel_rfl) (by kernel_rfl) (by kernel_rfl) (fun _ _ _ h => h) (Or.inl ⟨by rfl, fun w => by go_simp⟩) ?_
  refine wpAny_threeTo 30 31 32 (i := 4) (j := 5) (k := 6) (fuel := 4) (vi := .slice A2 s.count.pend.length c2) (vj := .agg (Value.int .i64 i :: bc l).toArray) (vk := .slice (some ⟨w4.heap.size, 0, none⟩) 1 1) (w' := w4.drew.alloc (.cells (Value.int .i64 i :: bc l).toArray 70)) rfl rfl rfl rfl rfl rfl rfl rfl rfl ?r0 ?r1 ?r2 ?r3 ?r4 ?hij ?hik ?d1 ?d2 ?d2' ?d1' ?d3 ?d3' ?d1'' ?n1 ?n2 ?_
  case r0 => kernel_rfl
  case r1 => kernel_rfl
  case r2 => kernel_rfl
  case r3 => kernel_rfl
  case r4 => kernel_rfl
  case hij => decide
  case hik => decide
  case n1 => simp
  case n2 => simp
  case d1 => exact did_load_one 55 (.tmp 29) rfl ⟨p, 2, none⟩ (by kernel_rfl) (by kernel_rfl) HC2.out
  case d1' => exact did_load_one 55 (.tmp 29) rfl ⟨p, 2, none⟩ (by kernel_rfl) (by kernel_rfl) HC2.out
  case d1'' => exact did_load_one 55 (.tmp 29) rfl ⟨p, 2, none⟩ (by kernel_rfl) (by kernel_rfl) ((World.cell?_alloc_lt w4.drew _ ⟨p, 2, none⟩ HLT.out).trans HC2.out)
  case d2 => exact did_load 70 (.tmp 8) rfl ⟨w1.heap.size, 0, none⟩ (by kernel_rfl) _ Try.underlying70 rfl (Value.int .i64 i :: bc l) HSZ.out HNEW.out
  case d2' => exact did_load 70 (.tmp 8) rfl ⟨w1.heap.size, 0, none⟩ (by kernel_rfl) _ Try.underlying70 rfl (Value.int .i64 i :: bc l) HSZ.out HNEW.out
  case d3 => exact did_buildSlice_one 55 70 (.tmp 31) rfl (Value.int .i64 i :: bc l).toArray (by kernel_rfl) Try.underlying55 _ HINF.out (by rw [HS129.out]; omega) (by rw [HS129.out]; omega)
  case d3' => exact did_buildSlice_one 55 70 (.tmp 31) rfl (Value.int .i64 i :: bc l).toArray (by kernel_rfl) Try.underlying55 _ HINF.out (by rw [HS129.out]; omega) (by rw [HS129.out]; omega)
  refine wpAny_tail (k := 7) (by kernel_rfl) (by kernel_rfl) ?_
  simp only [List.drop_succ_cons, List.drop_zero]
  go_frame
  have HO : Hid ((w4.drew.alloc (.cells (Value.int .i64 i :: bc l).toArray 70)).ownsRow 0 70 129 (.slice A2 s.count.pend.length c2) s.count.pend.length (pc s.count.pend)) := (World.ownsRow.alloc (w := w4.drew) ho _)
  have HM : Hid (IsMap (w4.drew.alloc (.cells (Value.int .i64 i :: bc l).toArray 70)) mb zs s.count.F) := hm.keep (Below.heap_alloc w4.drew _ _ hm.lt)
  have HCC : Hid ((w4.drew.alloc (.cells (Value.int .i64 i :: bc l).toArray 70)).heap[p]? = some (.cells #[.int .i64 (s.count.n : Int), .map (some mb), .slice A2 s.count.pend.length c2, .int .i64 s.count.left, .bool s.count.down] 57 (0, 0))) := (Below.heap_alloc w4.drew _ _ HLT.out).trans hc
  have HLT5 : Hid (∀ k, S k → k < (w4.drew.alloc (.cells (Value.int .i64 i :: bc l).toArray 70)).heap.size) := fun k hk => Nat.lt_of_lt_of_le (hlt k hk) (by simp)
  have HF5 : Hid (Below w1.heap.size w1 (w4.drew.alloc (.cells (Value.int .i64 i :: bc l).toArray 70))) := HW.out.trans (((Below.refl _ w4).drew.alloc HW.out.size _))
  have HN5 : Hid (∀ j u, (Value.int .i64 i :: bc l)[j]? = some u → (w4.drew.alloc (.cells (Value.int .i64 i :: bc l).toArray 70)).cell? ((⟨w4.heap.size, 0, none⟩ : Addr).add j) = some u) := fun j u hu => World.news_of_block (heap_alloc_new w4.drew _) j u (by simpa using hu)
  have HS5 : Hid ((w4.drew.alloc (.cells (Value.int .i64 i :: bc l).toArray 70)).heap.size = w4.heap.size + 1) := by show _ = _; simp
  have HOK := Lib.hid hok
  have HSv := Lib.hid hSv
  have hpl : s.count.pend.length ≤ 1000000 := by rw [DS.count_pend]; exact hs
  have HSZ1 : Hid ((Value.int .i64 i :: bc l).length = 1 * 129) := by show _ = _; simp [HL.out]
  have HONE : Hid (∀ u ∈ Value.int .i64 i :: bc l, u.oneCell' = true) := fun u hu => by rcases List.mem_cons.1 hu with rfl | hu; rfl; exact bc_one l u hu
  have HLL : Hid (l.length = 128) := HB1.out.1
  obtain ⟨i0, hi0, hz0, hz1, hz2⟩ := info_parts bytes_write
  have HI0 := Lib.hid hi0
  have HZ0 := Lib.hid hz0
  have HZ1 := Lib.hid hz1
  have HZ2 := Lib.hid hz2
  clear hok hlt hSv hm ho hc hi0 hz0 hz1 hz2
  generalize w4.drew.alloc (.cells (Value.int .i64 i :: bc l).toArray 70) = w5 at *
  go_wp2_with (refine wpList_append_lies w5 rfl (.tmp 30) (.tmp 32) 55 rfl 0 70 i0 _ 129 136 Try.underlying55 HI0.out HZ0.out HZ1.out HZ2.out rfl (by omega) (.slice A2 s.count.pend.length c2) s.count.pend.length (pc s.count.pend) (by kernel_rfl) HO.out ⟨w4.heap.size, 0, none⟩ 1 1 (Value.int .i64 i :: bc l) (by kernel_rfl) HSZ1.out HN5.out HONE.out (by omega) (by unfold maxLen; omega) (by omega) (by omega) (w4.heap.size + 1) HS5.out ?_
               intro g cap w6 ho6 hg6 hat6 hlt6
               obtain ⟨hd7, hf7, hcell, hfro, hSg⟩ := Dk.pushed HOK.out HLT5.out hSp hSb HSv.out HM.out HO.out HCC.out ho6 hg6 (by rw [HS5.out]; exact hat6) hlt6 HLL.out
               have HD7 := Lib.hid hd7
               have HF7 := Lib.hid hf7
               have HSg := Lib.hid hSg
               clear hd7 hf7 hSg ho6 hg6 hat6 hlt6)
  go_ret
  refine ⟨rfl, _, HD7.out, ?_, ?_⟩
  · exact HF1.out.trans ((Fr.of_below (S := S) HF5.out).trans HF7.out fun k hk => .inl hk) fun k hk => .inl hk
  · intro k hk
    rcases hk with hk | rfl
    · exact .inl hk
    · rcases HSg.out with h | h
      · exact .inl h
      · exact .inr (by have := HF1.out.size; have := HF5.out.size; omega)
end Go.Proofs.Ytcieahfhpanogaa
