/-
  The document's answers for layer 3, continued: Flush that goes.
-/
import Derived.Test.YthokobooekmegaaDRef4
namespace Go.Proofs.Ythokobooekmegaa
open Go.RowKit

theorem Hold.cleared {w W : World} {AW A : Option Addr} {cW c : Nat} {s : DS} {F : Int → List UInt8} (h : Hold w AW cW s F A c W) :
    (W.setCell ⟨w.heap.size, 1, none⟩ (.slice none 0 0)).heap[w.heap.size]? = some (.cells #[.slice A s.n c, .slice none 0 0, .int .i64 (nrm s.left), .bool s.down] 31 (0, 0)) ∧
    (W.setCell ⟨w.heap.size, 1, none⟩ (.slice none 0 0)).heap[w.heap.size + 1]? = some (.cells #[.slice none 0 0, .slice none 0 0, .int .i64 0, .bool false] 31 (0, 0)) ∧
    Below w.heap.size w (W.setCell ⟨w.heap.size, 1, none⟩ (.slice none 0 0)) ∧ TS (W.setCell ⟨w.heap.size, 1, none⟩ (.slice none 0 0)) A s.n (fun j => F (j : Int)) := by
  obtain ⟨h1, h2, h3, h4, h5, h6, h7⟩ := h
  refine ⟨?_, ?_, h3.setCell (p := ⟨w.heap.size, 1, none⟩) (Nat.le_refl _) _, fun h0 => ?_⟩
  · rw [setCell_eq_setRow _ _ _ _ _ _ _ h1]
    exact setRow_heap _ _ _ _ _ _ h1
  · exact (Below.heap_setCell W ⟨w.heap.size, 1, none⟩ _ (w.heap.size + 1) (by simp)).trans h2
  · refine h4.fr (S := fun k => k = w.heap.size) (Keep.setCell (Fr.refl (fun k => k = w.heap.size) W) (p := ⟨w.heap.size, 1, none⟩) (fun h => h.2 rfl) _) (fun ad e h => (h6 ad e h0).1 h) h0

set_option maxRecDepth 100000 in
set_option maxHeartbeats 2000000 in
theorem flushR_up (AL AW : Option Addr) (cL cW : Nat) (s : DS) (w : World) (h : RefD w AL AW cW s) (hr : refus s 0 = 0) (hd : s.down = false) (hl : s.left ≤ 9223372036854775807) (hcd : s.count.down = false) (hs : s.pend.length ≤ 1000000) (hn : s.n ≤ 65536) (hn0 : 0 < s.n)
    (hin : ∀ x ∈ s.pend, 0 ≤ x.1 ∧ x.1 < (s.n : Int)) :
    Calls Try.prog 17 #[dv AL cL AW cW s] w fun e w' =>
      ∃ A c, e = .returned (.tuple #[dv A c none 0 s.count.flushed, .int .i64 0]) ∧ RefD w' A none 0 s.count.flushed ∧ Below w.heap.size w w' ∧ (A = AL ∨ ∃ g, A = some ⟨g, 0, none⟩ ∧ w.heap.size ≤ g) := by
  have HU := Lib.hid (fun W => up_any AL AW cL cW s 0 W)
  have HCN := Lib.hid (fun W => counts_any AL AW cL cW s W hd hl)
  have HCE : Hid (cerr s = 0) := by show _ = _; simp [cerr, hcd]
  have HR := Lib.hid hr
  have HD : Hid (RefD w AL AW cW s.count) := by show RefD _ _ _ _ _; unfold RefD; rw [DS.count_n, DS.count_F, DS.count_pend]; exact h
  have hpl : s.count.pend.length ≤ 1000000 := by rw [DS.count_pend]; exact hs
  have hn1 : s.count.n ≤ 65536 := by rw [DS.count_n]; exact hn
  have hn2 : 0 < s.count.n := by rw [DS.count_n]; exact hn0
  have HIN : Hid (∀ x ∈ s.count.pend, 0 ≤ x.1 ∧ x.1 < (s.count.n : Int)) := by show ∀ x ∈ _, _; rw [DS.count_pend, DS.count_n]; exact hin
  clear hr hd hl hcd h hin hs hn hn0
  unfold dv at *
  go_enter Try.func17, Try.ntmps17
  go_wp2_with fail
  refine (HU.out _).mono ?_
  rintro e w1 ⟨rfl, hw1⟩
  rw [HR.out]
  obtain ⟨h1, h2, h3⟩ := two_D hw1
  have H1 := Lib.hid h1
  have H2 := Lib.hid h2
  have H3 := Lib.hid h3
  clear h1 h2 h3 hw1
  go_wp2_with (refine wpList_load_row rfl 31 (.tmp 1) rfl w.heap.size rfl 31 #[.slice AL s.n cL, .slice AW s.pend.length cW, .int .i64 (nrm s.left), .bool s.down] (0, 0) _ H1.out Try.underlying31 rfl size_D ?_)
  refine (HCN.out _).mono ?_
  rintro e w2 ⟨rfl, hw2⟩
  rw [HCE.out]
  have HW2 := Lib.hid hw2
  have H12 := Lib.hid ((hw2.block _ (Array.getElem?_eq_some_iff.1 H1.out).1).trans H1.out)
  have H22 := Lib.hid ((hw2.block _ (Array.getElem?_eq_some_iff.1 H2.out).1).trans H2.out)
  clear hw2
  obtain ⟨s1, hs1⟩ : ∃ s1, s.count = s1 := ⟨_, rfl⟩
  rw [hs1] at HD hpl hn1 hn2 HIN ⊢
  have HS1 := Lib.hid hs1
  clear hs1
  go_wp2_with (refine wpList_store_any rfl 31 (.tmp 1) (.tmp 15) rfl w.heap.size #[.slice AL s1.n cL, .slice AW s1.pend.length cW, .int .i64 (nrm s1.left), .bool s1.down] rfl rfl 31 _ H12.out size_D rfl (all_D _ _ _ _ _ _ _ _) ?_
               intro w3 hb3 hs3 hw3
               have HH : Hid (Hold w AW cW s1 (s1.done 0).F AL cL w3) := by
                 have hb : Below w.heap.size w w3 := (H3.out.trans (HW2.out.mono H3.out.size)).trans (Keep.below (hw3.mono fun k hk => by omega))
                 refine ⟨hb3, (hw3.block (w.heap.size + 1) (by omega)).trans H22.out, hb, HD.out.1.below hb, HD.out.2.below hb, fun ad e h0 => ?_, fun ad e h0 => ?_⟩
                 · obtain ⟨b, e2, hc⟩ := HD.out.1 h0
                   rw [e2] at e
                   cases e
                   have := World.block_lt_of_cell? w _ (hc 0 h0)
                   exact ⟨by show b ≠ _; have : b < _ := this; omega, by show b ≠ _; have : b < _ := this; omega⟩
                 · obtain ⟨b, e2, hc⟩ := HD.out.2.2 h0
                   rw [e2] at e
                   cases e
                   exact World.block_lt_of_cell? w _ (hc 0 h0).1
               clear hb3 hs3 hw3)
  go_loopw [5] (fun i wr => ∃ k : Nat, k ≤ s1.pend.length ∧ i = .int .i64 k ∧ ∃ A c, Hid (Hold w AW cW s1 (s1.done k).F A c wr) ∧ Hid (A = AL ∨ ∃ g, A = some ⟨g, 0, none⟩ ∧ w.heap.size ≤ g)) (fun i _ => s1.pend.length - (intOf i).toNat)
  case atStart => exact ⟨0, by omega, rfl, AL, cL, HH, .inl rfl⟩
  case round =>
    clear HH
    obtain ⟨k, hk, rfl, A, c, HH, HA⟩ := hrel
    obtain ⟨c0, c1, f0, f1⟩ := HH.out.cells
    by_cases hlt : k < s1.pend.length
    · obtain ⟨b0, rfl, hc⟩ := HH.out.2.2.2.2.1.2 (by omega)
      obtain ⟨hc1, hc2⟩ := hc k hlt
      obtain ⟨hi1, hi2⟩ := HIN.out _ (List.getElem_mem hlt)
      obtain ⟨j, hj⟩ := Int.eq_ofNat_of_zero_le hi1
      have HST := Lib.hid (done_nat hlt hj)
      rw [hj] at hc1 hi2
      have hjn : j < s1.n := by omega
      clear hc hi1 hi2 hj
      generalize s1.pend[k].2 = B at *
      go_wp2_with fail
      have HHD := Lib.hid HH.out.drew
      refine wp_region_still_tail 14 (by kernel_rfl) (by kernel_rfl) ?_
      simp only [List.take_succ_cons, List.take_zero, List.drop_succ_cons, List.drop_zero]
      change wpStill _ _ (World.drew _) _ _ _
      iterate 14 still_step
      refine wpStill_nil ?_
      change wpList _ _ _ _ _ (World.drew _)
      go_wp2_with fail
      refine (put_any A s1.n c _ j B _ HHD.out.2.2.2.1 hjn hn1).mono ?_
      rintro e w4 ⟨g, c', rfl, ht4, hb4, hg4⟩
      rw [HST.out] at ht4
      have HN := Lib.hid (HHD.out.sectors (c' := c') hb4 hg4 ht4)
      have hcl : w4.cell? ⟨w.heap.size, 0, none⟩ = some (.slice A s1.n c) := (hb4.cell (p := ⟨w.heap.size, 0, none⟩) (Array.getElem?_eq_some_iff.1 HHD.out.1).1).trans c0
      have hfz : w4.frozen? ⟨w.heap.size, 0, none⟩ = false := by simp [World.frozen?, (hb4.block _ (Array.getElem?_eq_some_iff.1 HHD.out.1).1).trans HHD.out.1]
      have HAN : Hid ((some ⟨g, 0, none⟩ : Option Addr) = AL ∨ ∃ g', (some ⟨g, 0, none⟩ : Option Addr) = some ⟨g', 0, none⟩ ∧ w.heap.size ≤ g') := .inr ⟨g, rfl, Nat.le_trans HHD.out.2.2.1.size hg4⟩
      clear ht4 hb4 hg4 c0 c1 f0 f1
      go_wp2
      go_roundw
      case rel => exact ⟨k + 1, by omega, by go_num, _, _, HN, HAN⟩
      case measure => simp [intOf]; omega
    · have HK : Hid (k = s1.pend.length) := by show _ = _; omega
      obtain ⟨x1, x2, x3, x4⟩ := HH.out.cleared
      have HX1 := Lib.hid x1
      have HX2 := Lib.hid x2
      have HX3 := Lib.hid x3
      have HX4 := Lib.hid x4
      clear x1 x2 x3 x4
      go_wp2_with (first
        | (refine wpList_load_row rfl 31 (.tmp 1) rfl w.heap.size rfl 31 #[.slice A s1.n c, .slice none 0 0, .int .i64 (nrm s1.left), .bool s1.down] (0, 0) _ HX1.out Try.underlying31 rfl size_D ?_)
        | (refine wpList_store_any rfl 31 (.tmp 2) (.tmp 45) rfl (w.heap.size + 1) #[.slice A s1.n c, .slice none 0 0, .int .i64 (nrm s1.left), .bool s1.down] rfl rfl 31 _ HX2.out size_D rfl (all_D _ _ _ _ _ _ _ _) ?_
           intro w7 hb7 hs7 hw7
           have HB7 := Lib.hid hb7
           have HW7 := Lib.hid hw7
           clear hb7 hs7 hw7))
      have HW7B : Hid (Below w.heap.size w w7) := HX3.out.trans (Keep.below (HW7.out.mono fun k hk => by omega))
      have hE : (s1.done k).F = s1.flushed.F := by
        rw [HK.out]
        unfold DS.done DS.flushed DS.read
        rw [List.take_length]
      refine bodyPost_ret (results_D rfl _ w7 (w.heap.size + 1) _ _ _ _ _ (by rfl) (by rfl) HB7.out) rfl ⟨A, c, ?_, ⟨?_, ?_⟩, HW7B.out, HA.out⟩
      · rw [HS1.out]
        rfl
      · rw [HS1.out, ← hE]
        refine HX4.out.fr (S := fun k => k = w.heap.size + 1) (HW7.out.mono fun k hk => hk.2) (fun ad e h => ?_)
        exact (HH.out.2.2.2.2.2.1 ad e hn2).2 h
      · exact ⟨fun _ => ⟨rfl, rfl⟩, fun h => absurd h (by rw [HS1.out]; show ¬ 0 < ([] : List (Int × List UInt8)).length; simp)⟩
end Go.Proofs.Ythokobooekmegaa
