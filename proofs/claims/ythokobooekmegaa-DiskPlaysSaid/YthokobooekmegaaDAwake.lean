/-
  The document's example: awake is true and keeps all that was there.
-/
import Derived.Test.YthokobooekmegaaDFull
namespace Go.Proofs.Ythokobooekmegaa
open Go.RowKit

theorem DS.count_left {s : DS} (h : s.left = -1) : s.count = s := by simp [DS.count, h]
theorem DS.count_down {s : DS} (h : s.left = -1) (hd : s.down = false) : s.count.down = false := by rw [DS.count_left h, hd]
/-- A slice of one byte, or more, that was built. -/
theorem BS.built (w : World) (l : List UInt8) (t : TypeId) : BS (w.alloc (.cells (bc l).toArray t)) (some ⟨w.heap.size, 0, none⟩) l.length l := BS.of_block (heap_alloc_new w _)
theorem block_BS {w : World} {g : Nat} {l : List UInt8} {t : TypeId} {fr : Nat × Nat} (h : w.heap[g]? = some (.cells (bc l).toArray t fr)) (hl : l.length = 128) : BS w (some ⟨g, 0, none⟩) 128 l := by
  have := BS.of_block h
  rwa [hl] at this
theorem block_cell {w : World} {g : Nat} {l : List UInt8} {t : TypeId} {fr : Nat × Nat} (h : w.heap[g]? = some (.cells (bc l).toArray t fr)) {j : Nat} {b : UInt8} (hj : l[j]? = some b) : w.cell? ⟨g, j, none⟩ = some (.int .u8 (b.toNat : Int)) := by
  rw [cell_of_row _ _ _ _ _ _ h]
  simp [bc, hj]
theorem not_S {S : Nat → Prop} {w1 : World} (hS : ∀ k, S k → k < w1.heap.size) {g : Nat} (hg : w1.heap.size ≤ g) : ∀ ad : Addr, some (⟨g, 0, none⟩ : Addr) = some ad → ¬ S ad.block := by
  intro ad e h
  cases e
  have := hS _ h
  simp at this
  omega

set_option maxRecDepth 100000 in
set_option maxHeartbeats 2000000 in
theorem awake_any (w : World) : Calls Try.prog 10 #[] w fun e w' => e = .returned (.bool true) ∧ Below w.heap.size w w' := by
  go_enter Try.func10, Try.ntmps10
  go_wp2_with fail
  refine (new_any 2 w (by omega) (by omega)).mono ?_
  rintro e w1 ⟨p, S, rfl, hd, hb, hS⟩
  have HD := Lib.hid hd
  have HB := Lib.hid hb
  have HS := Lib.hid hS
  clear hd hb hS
  go_wp2_with fail
  refine (full_any _ 1 _ [1] false _ (BS.built w1 [1] 5) (by unfold maxLen; omega)).mono ?_
  rintro e w2 ⟨rfl, hb2, hw2⟩
  have HW2 : Hid (Below w1.heap.size w1 w2) := ((Below.refl _ w1).alloc (Nat.le_refl _) _).trans (hw2.mono (by simp))
  have HB2 := Lib.hid hb2
  clear hb2 hw2
  simp only [World.size_alloc] at HB2 ⊢
  go_wp2_with fail
  refine (write_up p S (DS.new 2) 0 _ 128 (fl [1]) w2 (HD.out.below HW2.out) (by simp [DS.new]) (refus_ok rfl (by omega) (by simp [DS.new])) (block_BS HB2.out (fl_len _)) (not_S HD.out.2.1 (by omega)) (DS.count_down rfl rfl)).mono ?_
  rintro e w3 ⟨rfl, S3, hd3, hf3, hS3⟩
  have HD3 := Lib.hid hd3
  have HB3 : Hid (Below w.heap.size w w3) := (HB.out.trans (HW2.out.mono HB.out.size)).trans (hf3.below (Nat.le_trans HB.out.size HW2.out.size) HS.out)
  have HS3 : Hid (∀ k, S3 k → w.heap.size ≤ k) := fun k hk => by
    rcases hS3 k hk with h | h
    · exact HS.out k h
    · have := HB.out.size; have := HW2.out.size; omega
  clear hd3 hf3 hS3
  go_wp2_with fail
  refine (full_any _ 1 _ [2] false _ (BS.built w3 [2] 5) (by unfold maxLen; omega)).mono ?_
  rintro e w4 ⟨rfl, hb4, hw4⟩
  have HW4 : Hid (Below w3.heap.size w3 w4) := ((Below.refl _ w3).alloc (Nat.le_refl _) _).trans (hw4.mono (by simp))
  have HB4 := Lib.hid hb4
  clear hb4 hw4
  simp only [World.size_alloc] at HB4 ⊢
  go_wp2_with fail
  refine (write_up p S3 _ 1 _ 128 (fl [2]) w4 (HD3.out.below HW4.out) (by simp [DS.new, DS.push, DS.count]) (refus_ok rfl (by omega) (by simp [DS.new, DS.push, DS.count])) (block_BS HB4.out (fl_len _)) (not_S HD3.out.2.1 (by omega)) (DS.count_down rfl rfl)).mono ?_
  rintro e w5 ⟨rfl, S5, hd5, hf5, hS5⟩
  have HD5 := Lib.hid hd5
  have HB5 : Hid (Below w.heap.size w w5) := (HB3.out.trans (HW4.out.mono HB3.out.size)).trans (hf5.below (Nat.le_trans HB3.out.size HW4.out.size) HS3.out)
  have HS5 : Hid (∀ k, S5 k → w.heap.size ≤ k) := fun k hk => by
    rcases hS5 k hk with h | h
    · exact HS3.out k h
    · have := HB3.out.size; have := HW4.out.size; omega
  clear hd5 hf5 hS5
  go_wp2_with fail
  refine (crash_any p S5 _ _ 1 1 [2] _ (HD5.out.below ((Below.refl _ w5).alloc (Nat.le_refl _) _)) (by simp [DS.new, DS.push, DS.count]) (BS.built w5 [2] 5) (fun _ => not_S HD5.out.2.1 (by omega)) (by unfold maxLen; omega)).mono ?_
  rintro e w6 ⟨rfl, hd6, hf6⟩
  have HD6 := Lib.hid hd6
  have HB6 : Hid (Below w.heap.size w w6) := (HB5.out.alloc HB5.out.size _).trans (hf6.below (by have := HB5.out.size; simp; omega) HS5.out)
  clear hd6 hf6
  have HCH : Hid (cho [2] ((((DS.new 2).count.push 0 (fl [1])).count.push 1 (fl [2])).pend) ((((DS.new 2).count.push 0 (fl [1])).count.push 1 (fl [2])).pend).length = [(1, fl [2])]) := rfl
  rw [HCH.out]
  have HR0 : Hid (((((DS.new 2).count.push 0 (fl [1])).count.push 1 (fl [2])).crashed [2]).read 0 = zs) := rfl
  have HR1 : Hid (((((DS.new 2).count.push 0 (fl [1])).count.push 1 (fl [2])).crashed [2]).read 1 = fl [2]) := rfl
  have HPN : Hid (((((DS.new 2).count.push 0 (fl [1])).count.push 1 (fl [2])).crashed [2]).pend = []) := rfl
  have HN2 : Hid (((((DS.new 2).count.push 0 (fl [1])).count.push 1 (fl [2])).crashed [2]).n = 2) := rfl
  have HDN : Hid (((((DS.new 2).count.push 0 (fl [1])).count.push 1 (fl [2])).crashed [2]).down = false) := rfl
  generalize (((DS.new 2).count.push 0 (fl [1])).count.push 1 (fl [2])).crashed [2] = s6 at *
  go_wp2_with fail
  refine (read_any p S5 s6 0 w6 HD6.out (by rw [HPN.out]; simp) (refus_ok HDN.out (by omega) (by rw [HN2.out]; omega))).mono ?_
  rintro e w7 ⟨g7, rfl, hb7, hg7, hw7⟩
  rw [HR0.out] at hb7
  have HB7 := Lib.hid hb7
  have HW7 := Lib.hid hw7
  clear hb7 hw7
  go_wp2_with fail
  refine (read_any p S5 s6 1 w7 (HD6.out.below HW7.out) (by rw [HPN.out]; simp) (refus_ok HDN.out (by omega) (by rw [HN2.out]; omega))).mono ?_
  rintro e w8 ⟨g8, rfl, hb8, hg8, hw8⟩
  rw [HR1.out] at hb8
  have HB8 := Lib.hid hb8
  have HW8 := Lib.hid hw8
  have hc7 : w8.cell? ⟨g7, 0, none⟩ = some (.int .u8 0) := (World.cell?_of_block (a := ⟨g7, 0, none⟩) (hw8.block g7 (Array.getElem?_eq_some_iff.1 HB7.out).1)).trans (block_cell (b := 0) HB7.out rfl)
  have hc8 : w8.cell? ⟨g8, 0, none⟩ = some (.int .u8 2) := block_cell (b := 2) hb8 rfl
  clear hb8 hw8
  go_wp2_with fail
  refine (waits_any p S5 s6 w8 ((HD6.out.below HW7.out).below HW8.out)).mono ?_
  rintro e w9 ⟨rfl, rfl⟩
  rw [HPN.out]
  go_wp2
  go_ret
  exact ⟨rfl, HB6.out.trans ((HW7.out.mono HB6.out.size).trans (HW8.out.mono (Nat.le_trans HB6.out.size HW7.out.size)))⟩
end Go.Proofs.Ythokobooekmegaa
