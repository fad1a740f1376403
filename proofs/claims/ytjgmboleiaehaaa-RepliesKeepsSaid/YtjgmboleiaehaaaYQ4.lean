/-
  Contracts of package replies' isClient, isStatus, block, narrow, wide (layer 14).
  Contract of package replies' encoded (layer 14).
  Contract of package replies' decoded (layer 14).
  Frames, slices as they lie in a cell, slices of writes: what layers 5 and above share (the texts of layer 5 hold the same: where they are laid, this one is not).
  Transactions, plain: blocks as they were, what was put, what changes (layer 10). Nothing of the program is named here.
  A transaction in memory (layer 10): its struct, its blocks' slices, its map; what leaves it as it is.
  Small contracts of layer 10: bytes.Clone, bytes.Equal, maps.Clone, a map of slices asked and written, Len, has.
-/
import Derived.Test.YtjgmboleiaehaaaYQ3
import Derived.Laws.Rows
import Derived.Test.YtjgmboleiaehaaaProg
import Derived.Deep.RegionHeld3
import Derived.Deep.RegionLaw
import Derived.Deep.LoopGhost
import Derived.Deep.DeepMust
import Derived.KernelRfl
import Derived.Lib.SlBytesConst
import Derived.Lib.SlBytesRow
import Derived.Deep.RegionWith
import Derived.Test.YtjgmboleiaehaaaShelf
import Derived.Shelf.SlMaps.Clone
import Derived.Deep.QuietTactic
import Derived.BigQuiet
namespace Go.Proofs.Ytjgmboleiaehaaa
open Go.RowKit Go.Shelf

set_option maxRecDepth 100000 in
set_option maxHeartbeats 400000 in
theorem isClient_any (c : Nat) (w : World) : Calls Try.prog 28 #[.int .u32 (c : Int)] w fun e w' => e = .returned (.bool (decide (c < 8))) ∧ w = w' := by
  by_cases h : c < 8
  · have hd : decide ((c : Int) < 8) = true := by simp; omega
    rw [decide_eq_true h]
    clear h
    go_enter Try.func28, Try.ntmps28
    go_wp2
    go_ret
    exact ⟨rfl, rfl⟩
  · have hd : decide ((c : Int) < 8) = false := by simp; omega
    rw [decide_eq_false h]
    clear h
    go_enter Try.func28, Try.ntmps28
    go_wp2
    go_ret
    exact ⟨rfl, rfl⟩
set_option maxRecDepth 100000 in
set_option maxHeartbeats 400000 in
theorem isStatus_any (z : Int) (w : World) : Calls Try.prog 29 #[.int .i64 z] w fun e w' => e = .returned (.bool (stOk z)) ∧ w = w' := by
  have hc : z = 0 ∨ (z ≠ 0 ∧ ¬ 60 ≤ z) ∨ (z ≠ 0 ∧ 60 ≤ z ∧ z ≤ 71) ∨ (z ≠ 0 ∧ 60 ≤ z ∧ ¬ z ≤ 71) := by omega
  rcases hc with h | h | h | h
  · have hs : stOk z = true := by rw [stOk_iff]; omega
    rw [hs]
    have h0 : (z == 0) = true := by simp; omega
    clear hs h
    go_enter Try.func29, Try.ntmps29
    go_wp2
    go_ret
    exact ⟨rfl, rfl⟩
  · have hs : stOk z = false := by rw [Bool.eq_false_iff]; intro hx; rw [stOk_iff] at hx; omega
    rw [hs]
    have h0 : (z == 0) = false := by simp; omega
    have h1 : decide (60 ≤ z) = false := by simp; omega
    clear hs h
    go_enter Try.func29, Try.ntmps29
    go_wp2
    go_ret
    exact ⟨rfl, rfl⟩
  · have hs : stOk z = true := by rw [stOk_iff]; omega
    rw [hs]
    have h0 : (z == 0) = false := by simp; omega
    have h1 : decide (60 ≤ z) = true := by simp; omega
    have h2 : decide (z ≤ 71) = true := by simp; omega
    clear hs h
    go_enter Try.func29, Try.ntmps29
    go_wp2
    go_ret
    exact ⟨rfl, rfl⟩
  · have hs : stOk z = false := by rw [Bool.eq_false_iff]; intro hx; rw [stOk_iff] at hx; omega
    rw [hs]
    have h0 : (z == 0) = false := by simp; omega
    have h1 : decide (60 ≤ z) = true := by simp; omega
    have h2 : decide (z ≤ 71) = false := by simp; omega
    clear hs h
    go_enter Try.func29, Try.ntmps29
    go_wp2
    go_ret
    exact ⟨rfl, rfl⟩
set_option maxRecDepth 100000 in
set_option maxHeartbeats 400000 in
theorem block_any (c : Nat) (h : c < 8) (w : World) : Calls Try.prog 30 #[.int .u32 (c : Int)] w fun e w' => e = .returned (.int .i64 ((1 + c : Nat) : Int)) ∧ w = w' := by
  go_enter Try.func30, Try.ntmps30
  go_wp2
  go_ret
  exact ⟨by simp, rfl⟩
theorem size_A8 : (Try.prog.info? 108).map (·.size) = some 8 := by kernel_rfl
theorem zero_A8 : (Try.prog.info? 108).bind (·.zero) = some (.agg #[.pointer none, .pointer none, .pointer none, .pointer none, .pointer none, .pointer none, .pointer none, .pointer none]) := by kernel_rfl
theorem size_A2 : (Try.prog.info? 113).map (·.size) = some 2 := by kernel_rfl
theorem zero_A2 : (Try.prog.info? 113).bind (·.zero) = some (.agg #[.pointer none, .pointer none]) := by kernel_rfl
theorem zero_U4 : (Try.prog.info? 31).bind (·.zero) = some (.int .u32 0) := by kernel_rfl
theorem rc_row (r : Rp) (A : Option Addr) (n c : Nat) (B : Option Addr) (m d : Nat) : ∀ v ∈ rc r (.slice A n c) (.slice B m d), v.oneCell' = true := by
  intro v hv
  simp only [rc, List.mem_cons, List.not_mem_nil, or_false] at hv
  rcases hv with rfl | rfl | rfl | rfl | rfl | rfl | rfl | rfl | rfl | rfl | rfl | rfl | rfl | rfl | rfl <;> rfl
theorem built_Rpz : Try.prog.built 41 [] = some (rc Rp.zero (.slice none 0 0) (.slice none 0 0)).toArray := by kernel_rfl
/-- The places that narrow tells, that wide tells. -/
def nar (b s : Nat) : Array Value := #[.pointer (some ⟨b, 1, none⟩), .pointer (some ⟨s, 0, none⟩), .pointer (some ⟨b, 3, none⟩), .pointer (some ⟨b, 4, none⟩), .pointer (some ⟨b, 5, none⟩), .pointer (some ⟨b, 6, none⟩), .pointer (some ⟨b, 7, none⟩), .pointer (some ⟨b, 8, none⟩)]
def wid (b : Nat) : Array Value := #[.pointer (some ⟨b, 9, none⟩), .pointer (some ⟨b, 13, none⟩)]
set_option maxRecDepth 100000 in
set_option maxHeartbeats 1000000 in
theorem narrow_any (b s : Nat) (w : World) : Calls Try.prog 43 #[.pointer (some ⟨b, 0, none⟩), .pointer (some ⟨s, 0, none⟩)] w fun e w' => e = .returned (.agg (nar b s)) ∧ Below w.heap.size w w' := by
  go_enter Try.func43, Try.ntmps43
  go_upto_region 1 with (refine wpList_alloc_any rfl 108 rfl _ zero_A8 ?_; intro w1 hb1 hs1 hw1)
  have HB : Hid (w1.heap[w.heap.size]? = some (.cells #[.pointer none, .pointer none, .pointer none, .pointer none, .pointer none, .pointer none, .pointer none, .pointer none] 108 (0, 0))) := hb1
  have HW := Lib.hid hw1
  clear hb1 hs1 hw1
  refine wp_region_held_drew (S := fun _ : World => True) (by kernel_rfl) trivial (fun _ => ?_)
  change wpAnyH _ _ _ _ _ 30 (Array.replicate 30 false) _ _
  refine takeH (i := 0) 5 (.pointer (some ⟨b, 0, none⟩)) rfl rfl (by kernel_rfl) (by kernel_rfl) (by kernel_rfl) (fun _ _ _ h => h) (.inl ⟨by rfl, fun W hW => by go_simp⟩) trivial ?_
  simp only [Act.put, List.setIfInBounds_toArray, List.set_cons_zero, List.set_cons_succ]
  refine takeH (i := 1) 6 (.pointer (some ⟨b, 0, none⟩)) rfl rfl (by kernel_rfl) (by kernel_rfl) (by kernel_rfl) (fun _ _ _ h => h) (.inl ⟨by rfl, fun W hW => by go_simp⟩) trivial ?_
  simp only [Act.put, List.setIfInBounds_toArray, List.set_cons_zero, List.set_cons_succ]
  refine takeH (i := 2) 7 (.pointer (some ⟨b, 1, none⟩)) rfl rfl (by kernel_rfl) (by kernel_rfl) (by kernel_rfl) (fun _ _ _ h => h) (.inl ⟨by rfl, fun W hW => by go_simp⟩) trivial ?_
  simp only [Act.put, List.setIfInBounds_toArray, List.set_cons_zero, List.set_cons_succ]
  refine takeH (i := 3) 8 (.pointer (some ⟨s, 0, none⟩)) rfl rfl (by kernel_rfl) (by kernel_rfl) (by kernel_rfl) (fun _ _ _ h => h) (.inl ⟨by rfl, fun W hW => by go_simp⟩) trivial ?_
  simp only [Act.put, List.setIfInBounds_toArray, List.set_cons_zero, List.set_cons_succ]
  refine takeH (i := 4) 9 (.pointer (some ⟨b, 0, none⟩)) rfl rfl (by kernel_rfl) (by kernel_rfl) (by kernel_rfl) (fun _ _ _ h => h) (.inl ⟨by rfl, fun W hW => by go_simp⟩) trivial ?_
  simp only [Act.put, List.setIfInBounds_toArray, List.set_cons_zero, List.set_cons_succ]
  refine takeH (i := 5) 10 (.pointer (some ⟨b, 0, none⟩)) rfl rfl (by kernel_rfl) (by kernel_rfl) (by kernel_rfl) (fun _ _ _ h => h) (.inl ⟨by rfl, fun W hW => by go_simp⟩) trivial ?_
  simp only [Act.put, List.setIfInBounds_toArray, List.set_cons_zero, List.set_cons_succ]
  refine takeH (i := 6) 11 (.pointer (some ⟨b, 3, none⟩)) rfl rfl (by kernel_rfl) (by kernel_rfl) (by kernel_rfl) (fun _ _ _ h => h) (.inl ⟨by rfl, fun W hW => by go_simp⟩) trivial ?_
  simp only [Act.put, List.setIfInBounds_toArray, List.set_cons_zero, List.set_cons_succ]
  refine takeH (i := 7) 12 (.pointer (some ⟨b, 3, none⟩)) rfl rfl (by kernel_rfl) (by kernel_rfl) (by kernel_rfl) (fun _ _ _ h => h) (.inl ⟨by rfl, fun W hW => by go_simp⟩) trivial ?_
  simp only [Act.put, List.setIfInBounds_toArray, List.set_cons_zero, List.set_cons_succ]
  refine takeH (i := 8) 13 (.pointer (some ⟨b, 0, none⟩)) rfl rfl (by kernel_rfl) (by kernel_rfl) (by kernel_rfl) (fun _ _ _ h => h) (.inl ⟨by rfl, fun W hW => by go_simp⟩) trivial ?_
  simp only [Act.put, List.setIfInBounds_toArray, List.set_cons_zero, List.set_cons_succ]
  refine takeH (i := 9) 14 (.pointer (some ⟨b, 0, none⟩)) rfl rfl (by kernel_rfl) (by kernel_rfl) (by kernel_rfl) (fun _ _ _ h => h) (.inl ⟨by rfl, fun W hW => by go_simp⟩) trivial ?_
  simp only [Act.put, List.setIfInBounds_toArray, List.set_cons_zero, List.set_cons_succ]
  refine takeH (i := 10) 15 (.pointer (some ⟨b, 3, none⟩)) rfl rfl (by kernel_rfl) (by kernel_rfl) (by kernel_rfl) (fun _ _ _ h => h) (.inl ⟨by rfl, fun W hW => by go_simp⟩) trivial ?_
  simp only [Act.put, List.setIfInBounds_toArray, List.set_cons_zero, List.set_cons_succ]
  refine takeH (i := 11) 16 (.pointer (some ⟨b, 4, none⟩)) rfl rfl (by kernel_rfl) (by kernel_rfl) (by kernel_rfl) (fun _ _ _ h => h) (.inl ⟨by rfl, fun W hW => by go_simp⟩) trivial ?_
  simp only [Act.put, List.setIfInBounds_toArray, List.set_cons_zero, List.set_cons_succ]
  refine takeH (i := 12) 17 (.pointer (some ⟨b, 0, none⟩)) rfl rfl (by kernel_rfl) (by kernel_rfl) (by kernel_rfl) (fun _ _ _ h => h) (.inl ⟨by rfl, fun W hW => by go_simp⟩) trivial ?_
  simp only [Act.put, List.setIfInBounds_toArray, List.set_cons_zero, List.set_cons_succ]
  refine takeH (i := 13) 18 (.pointer (some ⟨b, 0, none⟩)) rfl rfl (by kernel_rfl) (by kernel_rfl) (by kernel_rfl) (fun _ _ _ h => h) (.inl ⟨by rfl, fun W hW => by go_simp⟩) trivial ?_
  simp only [Act.put, List.setIfInBounds_toArray, List.set_cons_zero, List.set_cons_succ]
  refine takeH (i := 14) 19 (.pointer (some ⟨b, 5, none⟩)) rfl rfl (by kernel_rfl) (by kernel_rfl) (by kernel_rfl) (fun _ _ _ h => h) (.inl ⟨by rfl, fun W hW => by go_simp⟩) trivial ?_
  simp only [Act.put, List.setIfInBounds_toArray, List.set_cons_zero, List.set_cons_succ]
  refine takeH (i := 15) 20 (.pointer (some ⟨b, 5, none⟩)) rfl rfl (by kernel_rfl) (by kernel_rfl) (by kernel_rfl) (fun _ _ _ h => h) (.inl ⟨by rfl, fun W hW => by go_simp⟩) trivial ?_
  simp only [Act.put, List.setIfInBounds_toArray, List.set_cons_zero, List.set_cons_succ]
  refine takeH (i := 16) 21 (.pointer (some ⟨b, 0, none⟩)) rfl rfl (by kernel_rfl) (by kernel_rfl) (by kernel_rfl) (fun _ _ _ h => h) (.inl ⟨by rfl, fun W hW => by go_simp⟩) trivial ?_
  simp only [Act.put, List.setIfInBounds_toArray, List.set_cons_zero, List.set_cons_succ]
  refine takeH (i := 17) 22 (.pointer (some ⟨b, 0, none⟩)) rfl rfl (by kernel_rfl) (by kernel_rfl) (by kernel_rfl) (fun _ _ _ h => h) (.inl ⟨by rfl, fun W hW => by go_simp⟩) trivial ?_
  simp only [Act.put, List.setIfInBounds_toArray, List.set_cons_zero, List.set_cons_succ]
  refine takeH (i := 18) 23 (.pointer (some ⟨b, 5, none⟩)) rfl rfl (by kernel_rfl) (by kernel_rfl) (by kernel_rfl) (fun _ _ _ h => h) (.inl ⟨by rfl, fun W hW => by go_simp⟩) trivial ?_
  simp only [Act.put, List.setIfInBounds_toArray, List.set_cons_zero, List.set_cons_succ]
  refine takeH (i := 19) 24 (.pointer (some ⟨b, 6, none⟩)) rfl rfl (by kernel_rfl) (by kernel_rfl) (by kernel_rfl) (fun _ _ _ h => h) (.inl ⟨by rfl, fun W hW => by go_simp⟩) trivial ?_
  simp only [Act.put, List.setIfInBounds_toArray, List.set_cons_zero, List.set_cons_succ]
  refine takeH (i := 20) 25 (.pointer (some ⟨b, 0, none⟩)) rfl rfl (by kernel_rfl) (by kernel_rfl) (by kernel_rfl) (fun _ _ _ h => h) (.inl ⟨by rfl, fun W hW => by go_simp⟩) trivial ?_
  simp only [Act.put, List.setIfInBounds_toArray, List.set_cons_zero, List.set_cons_succ]
  refine takeH (i := 21) 26 (.pointer (some ⟨b, 0, none⟩)) rfl rfl (by kernel_rfl) (by kernel_rfl) (by kernel_rfl) (fun _ _ _ h => h) (.inl ⟨by rfl, fun W hW => by go_simp⟩) trivial ?_
  simp only [Act.put, List.setIfInBounds_toArray, List.set_cons_zero, List.set_cons_succ]
  refine takeH (i := 22) 27 (.pointer (some ⟨b, 5, none⟩)) rfl rfl (by kernel_rfl) (by kernel_rfl) (by kernel_rfl) (fun _ _ _ h => h) (.inl ⟨by rfl, fun W hW => by go_simp⟩) trivial ?_
  simp only [Act.put, List.setIfInBounds_toArray, List.set_cons_zero, List.set_cons_succ]
  refine takeH (i := 23) 28 (.pointer (some ⟨b, 7, none⟩)) rfl rfl (by kernel_rfl) (by kernel_rfl) (by kernel_rfl) (fun _ _ _ h => h) (.inl ⟨by rfl, fun W hW => by go_simp⟩) trivial ?_
  simp only [Act.put, List.setIfInBounds_toArray, List.set_cons_zero, List.set_cons_succ]
  refine takeH (i := 24) 29 (.pointer (some ⟨b, 0, none⟩)) rfl rfl (by kernel_rfl) (by kernel_rfl) (by kernel_rfl) (fun _ _ _ h => h) (.inl ⟨by rfl, fun W hW => by go_simp⟩) trivial ?_
  simp only [Act.put, List.setIfInBounds_toArray, List.set_cons_zero, List.set_cons_succ]
  refine takeH (i := 25) 30 (.pointer (some ⟨b, 0, none⟩)) rfl rfl (by kernel_rfl) (by kernel_rfl) (by kernel_rfl) (fun _ _ _ h => h) (.inl ⟨by rfl, fun W hW => by go_simp⟩) trivial ?_
  simp only [Act.put, List.setIfInBounds_toArray, List.set_cons_zero, List.set_cons_succ]
  refine takeH (i := 26) 31 (.pointer (some ⟨b, 5, none⟩)) rfl rfl (by kernel_rfl) (by kernel_rfl) (by kernel_rfl) (fun _ _ _ h => h) (.inl ⟨by rfl, fun W hW => by go_simp⟩) trivial ?_
  simp only [Act.put, List.setIfInBounds_toArray, List.set_cons_zero, List.set_cons_succ]
  refine takeH (i := 27) 32 (.pointer (some ⟨b, 8, none⟩)) rfl rfl (by kernel_rfl) (by kernel_rfl) (by kernel_rfl) (fun _ _ _ h => h) (.inl ⟨by rfl, fun W hW => by go_simp⟩) trivial ?_
  simp only [Act.put, List.setIfInBounds_toArray, List.set_cons_zero, List.set_cons_succ]
  refine takeH (i := 28) 33 (.agg (nar b s)) rfl rfl (by kernel_rfl) (by kernel_rfl) (by kernel_rfl) (fun _ _ _ h => h) (.inl ⟨by rfl, fun W hW => by (go_simp; rfl)⟩) trivial ?_
  simp only [Act.put, List.setIfInBounds_toArray, List.set_cons_zero, List.set_cons_succ]
  refine wpAnyH_ready (rs := [29]) (by kernel_rfl) (by simp) ?_
  refine AllReadyH.cons rfl (fun K hK => ?_) AllReadyH.nil
  refine Did.step rfl (did_store 108 (.tmp 4) (.tmp 33) rfl w.heap.size (nar b s) rfl rfl 108 _ (show w1.drew.heap[w.heap.size]? = _ from HB.out) size_A8 rfl (by simp [nar, Value.oneCell'])) ?_
  have HY : Hid ((w1.drew.setRow w.heap.size (nar b s)).heap[w.heap.size]? = some (.cells (nar b s) 108 (0, 0))) := setRow_heap w1.drew w.heap.size _ _ _ _ HB.out
  have HZ : Hid (Below w.heap.size w (w1.drew.setRow w.heap.size (nar b s))) := HW.out.drew.trans (Keep.below2 (setRow_keep (w := w1.drew) w.heap.size _) (fun k hk => by omega))
  generalize w1.drew.setRow w.heap.size (nar b s) = wz at *
  refine hK.out _ _ trivial fun _ => ?_
  clear hK K
  refine wpAnyH_done (by kernel_rfl) ?_ _
  go_wp2_with fail
  exact bodyPost_ret (results_cell_row Try.results43 _ _ w.heap.size 108 (nar b s) (0, 0) _ rfl HY.out Try.underlying108 rfl size_A8) rfl ⟨rfl, HZ.out⟩
set_option maxRecDepth 100000 in
set_option maxHeartbeats 1000000 in
theorem wide_any (b : Nat) (w : World) : Calls Try.prog 45 #[.pointer (some ⟨b, 0, none⟩)] w fun e w' => e = .returned (.agg (wid b)) ∧ Below w.heap.size w w' := by
  go_enter Try.func45, Try.ntmps45
  go_upto_region 1 with (refine wpList_alloc_any rfl 113 rfl _ zero_A2 ?_; intro w1 hb1 hs1 hw1)
  have HB : Hid (w1.heap[w.heap.size]? = some (.cells #[.pointer none, .pointer none] 113 (0, 0))) := hb1
  have HW := Lib.hid hw1
  clear hb1 hs1 hw1
  refine wp_region_held_drew (S := fun _ : World => True) (by kernel_rfl) trivial (fun _ => ?_)
  change wpAnyH _ _ _ _ _ 9 (Array.replicate 9 false) _ _
  refine takeH (i := 0) 3 (.pointer (some ⟨b, 0, none⟩)) rfl rfl (by kernel_rfl) (by kernel_rfl) (by kernel_rfl) (fun _ _ _ h => h) (.inl ⟨by rfl, fun W hW => by go_simp⟩) trivial ?_
  simp only [Act.put, List.setIfInBounds_toArray, List.set_cons_zero, List.set_cons_succ]
  refine takeH (i := 1) 4 (.pointer (some ⟨b, 0, none⟩)) rfl rfl (by kernel_rfl) (by kernel_rfl) (by kernel_rfl) (fun _ _ _ h => h) (.inl ⟨by rfl, fun W hW => by go_simp⟩) trivial ?_
  simp only [Act.put, List.setIfInBounds_toArray, List.set_cons_zero, List.set_cons_succ]
  refine takeH (i := 2) 5 (.pointer (some ⟨b, 5, none⟩)) rfl rfl (by kernel_rfl) (by kernel_rfl) (by kernel_rfl) (fun _ _ _ h => h) (.inl ⟨by rfl, fun W hW => by go_simp⟩) trivial ?_
  simp only [Act.put, List.setIfInBounds_toArray, List.set_cons_zero, List.set_cons_succ]
  refine takeH (i := 3) 6 (.pointer (some ⟨b, 9, none⟩)) rfl rfl (by kernel_rfl) (by kernel_rfl) (by kernel_rfl) (fun _ _ _ h => h) (.inl ⟨by rfl, fun W hW => by go_simp⟩) trivial ?_
  simp only [Act.put, List.setIfInBounds_toArray, List.set_cons_zero, List.set_cons_succ]
  refine takeH (i := 4) 7 (.pointer (some ⟨b, 0, none⟩)) rfl rfl (by kernel_rfl) (by kernel_rfl) (by kernel_rfl) (fun _ _ _ h => h) (.inl ⟨by rfl, fun W hW => by go_simp⟩) trivial ?_
  simp only [Act.put, List.setIfInBounds_toArray, List.set_cons_zero, List.set_cons_succ]
  refine takeH (i := 5) 8 (.pointer (some ⟨b, 0, none⟩)) rfl rfl (by kernel_rfl) (by kernel_rfl) (by kernel_rfl) (fun _ _ _ h => h) (.inl ⟨by rfl, fun W hW => by go_simp⟩) trivial ?_
  simp only [Act.put, List.setIfInBounds_toArray, List.set_cons_zero, List.set_cons_succ]
  refine takeH (i := 6) 9 (.pointer (some ⟨b, 13, none⟩)) rfl rfl (by kernel_rfl) (by kernel_rfl) (by kernel_rfl) (fun _ _ _ h => h) (.inl ⟨by rfl, fun W hW => by go_simp⟩) trivial ?_
  simp only [Act.put, List.setIfInBounds_toArray, List.set_cons_zero, List.set_cons_succ]
  refine takeH (i := 7) 10 (.agg (wid b)) rfl rfl (by kernel_rfl) (by kernel_rfl) (by kernel_rfl) (fun _ _ _ h => h) (.inl ⟨by rfl, fun W hW => by (go_simp; rfl)⟩) trivial ?_
  simp only [Act.put, List.setIfInBounds_toArray, List.set_cons_zero, List.set_cons_succ]
  refine wpAnyH_ready (rs := [8]) (by kernel_rfl) (by simp) ?_
  refine AllReadyH.cons rfl (fun K hK => ?_) AllReadyH.nil
  refine Did.step rfl (did_store 113 (.tmp 2) (.tmp 10) rfl w.heap.size (wid b) rfl rfl 113 _ (show w1.drew.heap[w.heap.size]? = _ from HB.out) size_A2 rfl (by simp [wid, Value.oneCell'])) ?_
  have HY : Hid ((w1.drew.setRow w.heap.size (wid b)).heap[w.heap.size]? = some (.cells (wid b) 113 (0, 0))) := setRow_heap w1.drew w.heap.size _ _ _ _ HB.out
  have HZ : Hid (Below w.heap.size w (w1.drew.setRow w.heap.size (wid b))) := HW.out.drew.trans (Keep.below2 (setRow_keep (w := w1.drew) w.heap.size _) (fun k hk => by omega))
  generalize w1.drew.setRow w.heap.size (wid b) = wz at *
  refine hK.out _ _ trivial fun _ => ?_
  clear hK K
  refine wpAnyH_done (by kernel_rfl) ?_ _
  go_wp2_with fail
  exact bodyPost_ret (results_cell_row Try.results45 _ _ w.heap.size 113 (wid b) (0, 0) _ rfl HY.out Try.underlying113 rfl size_A2) rfl ⟨rfl, HZ.out⟩
end Go.Proofs.Ytjgmboleiaehaaa

namespace Go.Proofs.Ytjgmboleiaehaaa
open Go.RowKit Go.Shelf

/-- What was put of a reply behind k numbers. -/
def Ry.pre (r : Rp) : Nat → List UInt8
  | 0 => []
  | 1 => [] ++ be 4 r.xid
  | 2 => [] ++ be 4 r.xid ++ be 4 r.st.toNat
  | 3 => [] ++ be 4 r.xid ++ be 4 r.st.toNat ++ be 4 r.ati
  | 4 => [] ++ be 4 r.xid ++ be 4 r.st.toNat ++ be 4 r.ati ++ be 4 r.atg
  | 5 => [] ++ be 4 r.xid ++ be 4 r.st.toNat ++ be 4 r.ati ++ be 4 r.atg ++ be 4 r.kd
  | 6 => [] ++ be 4 r.xid ++ be 4 r.st.toNat ++ be 4 r.ati ++ be 4 r.atg ++ be 4 r.kd ++ be 4 r.md
  | 7 => [] ++ be 4 r.xid ++ be 4 r.st.toNat ++ be 4 r.ati ++ be 4 r.atg ++ be 4 r.kd ++ be 4 r.md ++ be 4 r.ln
  | 8 => [] ++ be 4 r.xid ++ be 4 r.st.toNat ++ be 4 r.ati ++ be 4 r.atg ++ be 4 r.kd ++ be 4 r.md ++ be 4 r.ln ++ be 4 r.sz
  | 9 => [] ++ be 4 r.xid ++ be 4 r.st.toNat ++ be 4 r.ati ++ be 4 r.atg ++ be 4 r.kd ++ be 4 r.md ++ be 4 r.ln ++ be 4 r.sz ++ be 8 r.ch
  | _ => [] ++ be 4 r.xid ++ be 4 r.st.toNat ++ be 4 r.ati ++ be 4 r.atg ++ be 4 r.kd ++ be 4 r.md ++ be 4 r.ln ++ be 4 r.sz ++ be 8 r.ch ++ be 8 r.vf
theorem Ry.pre_len (r : Rp) (k : Nat) (h : k ≤ 10) : (Ry.pre r k).length ≤ 48 := by
  have hc : k = 0 ∨ k = 1 ∨ k = 2 ∨ k = 3 ∨ k = 4 ∨ k = 5 ∨ k = 6 ∨ k = 7 ∨ k = 8 ∨ k = 9 ∨ k = 10 := by omega
  rcases hc with rfl | rfl | rfl | rfl | rfl | rfl | rfl | rfl | rfl | rfl | rfl <;> simp only [Ry.pre, List.length_append, be_length, List.length_nil] <;> omega
theorem Ry.pre_all (r : Rp) : Ry.pre r 10 ++ be 4 r.fr = Ry.enc r := by
  rw [Ry.enc_eq]
  simp only [Ry.pre, List.nil_append, List.append_assoc]
/-- While a reply is put: the reply's block p, its status' block q, the Writer x. -/
structure YEI (w : World) (K : Nat → Prop) (p q x : Nat) (r : Rp) (v u : Value) (k : Nat) (W : World) : Prop where
  wr : Wr K W x (Ry.pre r k)
  one : Bw W p (rc r v u) 41
  two : Bw W q [.int .u32 ((r.st.toNat : Nat) : Int)] 31
  bel : Below w.heap.size w W
  kp : K p
  kq : K q
  kw : ∀ k, k < w.heap.size → K k
theorem YEI.put {w W W' : World} {K : Nat → Prop} {p q x : Nat} {r : Rp} {v u : Value} {k j : Nat} (h : YEI w K p q x r v u k W) (hw : Wr K W' x (Ry.pre r j)) (hk : Keep K W W') : YEI w K p q x r v u j W' :=
  ⟨hw, h.one.keep hk h.kp, h.two.keep hk h.kq, h.bel.trans (hk.below2 h.kw), h.kp, h.kq, h.kw⟩
theorem Wr.kept2 {K : Nat → Prop} {w w' : World} {x : Nat} {l : List UInt8} (h : Wr K w x l) (hb : Below w.heap.size w w') : Wr K w' x l := by
  obtain ⟨A, c, h⟩ := h
  exact ⟨A, c, (hb.block x h.lt).trans h.1, h.2.1.kept (below_grown hb) (Classical.em _), h.2.2.1, h.2.2.2.1, fun k hk => Nat.lt_of_lt_of_le (h.2.2.2.2 k hk) hb.size⟩
theorem YEI.below {w W W' : World} {K : Nat → Prop} {p q x : Nat} {r : Rp} {v u : Value} {k : Nat} (h : YEI w K p q x r v u k W) (hb : Below W.heap.size W W') : YEI w K p q x r v u k W' :=
  ⟨h.wr.kept2 hb, h.one.below hb, h.two.below hb, h.bel.trans (hb.mono h.bel.size), h.kp, h.kq, h.kw⟩
set_option maxRecDepth 100000 in
set_option maxHeartbeats 4000000 in
theorem encoded_any (r : Rp) (v u : Value) (w : World) (hw : r.Wide) (hs : stOk r.st = true) :
    Calls Try.prog 31 #[.agg (rc r v u).toArray] w fun e w' => ∃ A n cp, e = .returned (.slice A n cp) ∧ Own w w' A n cp (Ry.enc r) := by
  have HWD := Lib.hid hw
  have hst := Ry.st_back hs
  have hsl : r.st.toNat < 100 := by rw [stOk_iff] at hs; omega
  obtain ⟨z, hz⟩ : ∃ z : Nat, r.st.toNat = z := ⟨_, rfl⟩
  have HZ := Lib.hid hz
  rw [hz] at hst hsl
  clear hw hs hz
  go_enter Try.func31, Try.ntmps31
  go_upto_region 1 with fail
  have HB0 : Hid (Bw (w.alloc (.cells (rc r v u).toArray 41)) w.heap.size (rc r v u) 41) := heap_alloc_new w _
  have HW0 : Hid (Below w.heap.size w (w.alloc (.cells (rc r v u).toArray 41))) := (Below.refl _ w).alloc (Nat.le_refl _) _
  have HP0 : Hid ((w.alloc (.cells (rc r v u).toArray 41)).heap.size = w.heap.size + 1) := by show _ = _; simp
  generalize w.alloc (.cells (rc r v u).toArray 41) = w0 at *
  have hn0 := newWriter_wr w0 (fun k => k < w0.heap.size) (fun k hk => hk)
  go_wp2_with fail
  refine (newWriter_any w0).mono ?_
  rintro e w1 ⟨rfl, hw1⟩
  have HR1 : Hid (Wr (fun k => k < w0.heap.size) w1 w0.heap.size []) := by rw [← hw1]; exact hn0
  have hb1 : Below w0.heap.size w0 w1 := by rw [← hw1]; exact (Below.refl _ w0).alloc (Nat.le_refl _) _
  have HB1 := Lib.hid (HB0.out.below hb1)
  have HW1 := Lib.hid (HW0.out.trans (hb1.mono HW0.out.size))
  clear hn0 hw1 hb1 HB0 HW0
  have e2 : w1.cell? ⟨w.heap.size, 2, none⟩ = some (.int .i64 (z : Int)) := by rw [hst]; exact HB1.out.cell 2 _ rfl
  clear hst
  go_upto_region 3 with (first
    | (refine wpList_alloc_any rfl 31 rfl _ zero_U4 ?_; intro wa hba hsa hwa)
    | (refine wpList_store_cell rfl 31 (.tmp 4) (.tmp 12) rfl w1.heap.size 0 (.int .u32 (z : Int)) rfl rfl 31 [.int .u32 0] hba (by kernel_rfl) rfl (by simp) rfl ?_; intro wb hbb hsb hkb))
  have hbw : Below w1.heap.size w1 wb := hwa.trans (hkb.below2 (fun k hk => by omega))
  have HI0 : Hid (YEI w (fun k => k < w0.heap.size ∨ k = w1.heap.size) w.heap.size w1.heap.size w0.heap.size r v u 0 wb) :=
    ⟨HR1.out.grow hbw (by rw [hsb, hsa]; omega), HB1.out.below hbw, by rw [HZ.out]; exact hbb, HW1.out.trans (hbw.mono HW1.out.size), .inl (by have := HP0.out; omega), .inr rfl, fun k hk => .inl (by have := HP0.out; omega)⟩
  clear hba hsa hwa hbb hsb hkb hbw HR1 HB1 HW1 e2 hsl
  generalize w0.heap.size = x at *
  generalize w1.heap.size = q at *
  go_wp2_with fail
  refine (narrow_any w.heap.size q wb).mono ?_
  rintro e w3 ⟨rfl, hb⟩
  have HI3 := Lib.hid (HI0.out.below hb)
  clear hb HI0
  go_wp2_with fail
  go_loopw [14] (fun i wr => ∃ k : Nat, k ≤ 8 ∧ i = .int .i64 k ∧ Hid (YEI w (fun k => k < x ∨ k = q) w.heap.size q x r v u k wr)) (fun i _ => 8 - (intOf i).toNat)
  case atStart => exact ⟨0, by omega, rfl, HI3⟩
  case round =>
    clear HI3
    obtain ⟨k, hk, rfl, HI⟩ := hrel
    unfold nar at *
    by_cases hlt : k < 8
    · have hc : k = 0 ∨ k = 1 ∨ k = 2 ∨ k = 3 ∨ k = 4 ∨ k = 5 ∨ k = 6 ∨ k = 7 := by omega
      rcases hc with rfl | rfl | rfl | rfl | rfl | rfl | rfl | rfl
      · have hix : ∀ W : World, (Instr.index 108 (.agg #[.pointer (some ⟨w.heap.size, 1, none⟩), .pointer (some ⟨q, 0, none⟩), .pointer (some ⟨w.heap.size, 3, none⟩), .pointer (some ⟨w.heap.size, 4, none⟩), .pointer (some ⟨w.heap.size, 5, none⟩), .pointer (some ⟨w.heap.size, 6, none⟩), .pointer (some ⟨w.heap.size, 7, none⟩), .pointer (some ⟨w.heap.size, 8, none⟩)]) (.int .i64 0)).run Try.prog W = .ok (.pointer (some ⟨w.heap.size, 1, none⟩)) W := fun W => by kernel_rfl
        have e0 := HI.out.one.cell 1 _ rfl
        go_wp2_with fail
        refine (u32w _ _ x _ _ (by omega) HI.out.wr (Nat.le_trans (Ry.pre_len r 0 (by omega)) (by omega))).mono ?_
        rintro e w5 ⟨rfl, hwr, hkp⟩
        rw [Int.toNat_natCast] at hwr
        have HI5 : Hid (YEI w (fun k => k < x ∨ k = q) w.heap.size q x r v u 1 w5) := HI.out.put hwr hkp
        clear hwr hkp HI e0 hix
        go_wp2
        go_roundw
        case rel => exact ⟨1, by omega, by go_num, HI5⟩
        case measure => simp [intOf]
      · have hix : ∀ W : World, (Instr.index 108 (.agg #[.pointer (some ⟨w.heap.size, 1, none⟩), .pointer (some ⟨q, 0, none⟩), .pointer (some ⟨w.heap.size, 3, none⟩), .pointer (some ⟨w.heap.size, 4, none⟩), .pointer (some ⟨w.heap.size, 5, none⟩), .pointer (some ⟨w.heap.size, 6, none⟩), .pointer (some ⟨w.heap.size, 7, none⟩), .pointer (some ⟨w.heap.size, 8, none⟩)]) (.int .i64 1)).run Try.prog W = .ok (.pointer (some ⟨q, 0, none⟩)) W := fun W => by kernel_rfl
        have e0 : wr.cell? ⟨q, 0, none⟩ = some (.int .u32 (z : Int)) := by rw [← HZ.out]; exact HI.out.two.cell 0 _ rfl
        go_wp2_with fail
        refine (u32w _ _ x _ _ (by omega) HI.out.wr (Nat.le_trans (Ry.pre_len r 1 (by omega)) (by omega))).mono ?_
        rintro e w5 ⟨rfl, hwr, hkp⟩
        rw [Int.toNat_natCast, ← HZ.out] at hwr
        have HI5 : Hid (YEI w (fun k => k < x ∨ k = q) w.heap.size q x r v u 2 w5) := HI.out.put hwr hkp
        clear hwr hkp HI e0 hix
        go_wp2
        go_roundw
        case rel => exact ⟨2, by omega, by go_num, HI5⟩
        case measure => simp [intOf]
      · have hix : ∀ W : World, (Instr.index 108 (.agg #[.pointer (some ⟨w.heap.size, 1, none⟩), .pointer (some ⟨q, 0, none⟩), .pointer (some ⟨w.heap.size, 3, none⟩), .pointer (some ⟨w.heap.size, 4, none⟩), .pointer (some ⟨w.heap.size, 5, none⟩), .pointer (some ⟨w.heap.size, 6, none⟩), .pointer (some ⟨w.heap.size, 7, none⟩), .pointer (some ⟨w.heap.size, 8, none⟩)]) (.int .i64 2)).run Try.prog W = .ok (.pointer (some ⟨w.heap.size, 3, none⟩)) W := fun W => by kernel_rfl
        have e0 := HI.out.one.cell 3 _ rfl
        go_wp2_with fail
        refine (u32w _ _ x _ _ (by omega) HI.out.wr (Nat.le_trans (Ry.pre_len r 2 (by omega)) (by omega))).mono ?_
        rintro e w5 ⟨rfl, hwr, hkp⟩
        rw [Int.toNat_natCast] at hwr
        have HI5 : Hid (YEI w (fun k => k < x ∨ k = q) w.heap.size q x r v u 3 w5) := HI.out.put hwr hkp
        clear hwr hkp HI e0 hix
        go_wp2
        go_roundw
        case rel => exact ⟨3, by omega, by go_num, HI5⟩
        case measure => simp [intOf]
      · have hix : ∀ W : World, (Instr.index 108 (.agg #[.pointer (some ⟨w.heap.size, 1, none⟩), .pointer (some ⟨q, 0, none⟩), .pointer (some ⟨w.heap.size, 3, none⟩), .pointer (some ⟨w.heap.size, 4, none⟩), .pointer (some ⟨w.heap.size, 5, none⟩), .pointer (some ⟨w.heap.size, 6, none⟩), .pointer (some ⟨w.heap.size, 7, none⟩), .pointer (some ⟨w.heap.size, 8, none⟩)]) (.int .i64 3)).run Try.prog W = .ok (.pointer (some ⟨w.heap.size, 4, none⟩)) W := fun W => by kernel_rfl
        have e0 := HI.out.one.cell 4 _ rfl
        go_wp2_with fail
        refine (u32w _ _ x _ _ (by omega) HI.out.wr (Nat.le_trans (Ry.pre_len r 3 (by omega)) (by omega))).mono ?_
        rintro e w5 ⟨rfl, hwr, hkp⟩
        rw [Int.toNat_natCast] at hwr
        have HI5 : Hid (YEI w (fun k => k < x ∨ k = q) w.heap.size q x r v u 4 w5) := HI.out.put hwr hkp
        clear hwr hkp HI e0 hix
        go_wp2
        go_roundw
        case rel => exact ⟨4, by omega, by go_num, HI5⟩
        case measure => simp [intOf]
      · have hix : ∀ W : World, (Instr.index 108 (.agg #[.pointer (some ⟨w.heap.size, 1, none⟩), .pointer (some ⟨q, 0, none⟩), .pointer (some ⟨w.heap.size, 3, none⟩), .pointer (some ⟨w.heap.size, 4, none⟩), .pointer (some ⟨w.heap.size, 5, none⟩), .pointer (some ⟨w.heap.size, 6, none⟩), .pointer (some ⟨w.heap.size, 7, none⟩), .pointer (some ⟨w.heap.size, 8, none⟩)]) (.int .i64 4)).run Try.prog W = .ok (.pointer (some ⟨w.heap.size, 5, none⟩)) W := fun W => by kernel_rfl
        have e0 := HI.out.one.cell 5 _ rfl
        go_wp2_with fail
        refine (u32w _ _ x _ _ (by omega) HI.out.wr (Nat.le_trans (Ry.pre_len r 4 (by omega)) (by omega))).mono ?_
        rintro e w5 ⟨rfl, hwr, hkp⟩
        rw [Int.toNat_natCast] at hwr
        have HI5 : Hid (YEI w (fun k => k < x ∨ k = q) w.heap.size q x r v u 5 w5) := HI.out.put hwr hkp
        clear hwr hkp HI e0 hix
        go_wp2
        go_roundw
        case rel => exact ⟨5, by omega, by go_num, HI5⟩
        case measure => simp [intOf]
      · have hix : ∀ W : World, (Instr.index 108 (.agg #[.pointer (some ⟨w.heap.size, 1, none⟩), .pointer (some ⟨q, 0, none⟩), .pointer (some ⟨w.heap.size, 3, none⟩), .pointer (some ⟨w.heap.size, 4, none⟩), .pointer (some ⟨w.heap.size, 5, none⟩), .pointer (some ⟨w.heap.size, 6, none⟩), .pointer (some ⟨w.heap.size, 7, none⟩), .pointer (some ⟨w.heap.size, 8, none⟩)]) (.int .i64 5)).run Try.prog W = .ok (.pointer (some ⟨w.heap.size, 6, none⟩)) W := fun W => by kernel_rfl
        have e0 := HI.out.one.cell 6 _ rfl
        go_wp2_with fail
        refine (u32w _ _ x _ _ (by omega) HI.out.wr (Nat.le_trans (Ry.pre_len r 5 (by omega)) (by omega))).mono ?_
        rintro e w5 ⟨rfl, hwr, hkp⟩
        rw [Int.toNat_natCast] at hwr
        have HI5 : Hid (YEI w (fun k => k < x ∨ k = q) w.heap.size q x r v u 6 w5) := HI.out.put hwr hkp
        clear hwr hkp HI e0 hix
        go_wp2
        go_roundw
        case rel => exact ⟨6, by omega, by go_num, HI5⟩
        case measure => simp [intOf]
      · have hix : ∀ W : World, (Instr.index 108 (.agg #[.pointer (some ⟨w.heap.size, 1, none⟩), .pointer (some ⟨q, 0, none⟩), .pointer (some ⟨w.heap.size, 3, none⟩), .pointer (some ⟨w.heap.size, 4, none⟩), .pointer (some ⟨w.heap.size, 5, none⟩), .pointer (some ⟨w.heap.size, 6, none⟩), .pointer (some ⟨w.heap.size, 7, none⟩), .pointer (some ⟨w.heap.size, 8, none⟩)]) (.int .i64 6)).run Try.prog W = .ok (.pointer (some ⟨w.heap.size, 7, none⟩)) W := fun W => by kernel_rfl
        have e0 := HI.out.one.cell 7 _ rfl
        go_wp2_with fail
        refine (u32w _ _ x _ _ (by omega) HI.out.wr (Nat.le_trans (Ry.pre_len r 6 (by omega)) (by omega))).mono ?_
        rintro e w5 ⟨rfl, hwr, hkp⟩
        rw [Int.toNat_natCast] at hwr
        have HI5 : Hid (YEI w (fun k => k < x ∨ k = q) w.heap.size q x r v u 7 w5) := HI.out.put hwr hkp
        clear hwr hkp HI e0 hix
        go_wp2
        go_roundw
        case rel => exact ⟨7, by omega, by go_num, HI5⟩
        case measure => simp [intOf]
      · have hix : ∀ W : World, (Instr.index 108 (.agg #[.pointer (some ⟨w.heap.size, 1, none⟩), .pointer (some ⟨q, 0, none⟩), .pointer (some ⟨w.heap.size, 3, none⟩), .pointer (some ⟨w.heap.size, 4, none⟩), .pointer (some ⟨w.heap.size, 5, none⟩), .pointer (some ⟨w.heap.size, 6, none⟩), .pointer (some ⟨w.heap.size, 7, none⟩), .pointer (some ⟨w.heap.size, 8, none⟩)]) (.int .i64 7)).run Try.prog W = .ok (.pointer (some ⟨w.heap.size, 8, none⟩)) W := fun W => by kernel_rfl
        have e0 := HI.out.one.cell 8 _ rfl
        go_wp2_with fail
        refine (u32w _ _ x _ _ (by omega) HI.out.wr (Nat.le_trans (Ry.pre_len r 7 (by omega)) (by omega))).mono ?_
        rintro e w5 ⟨rfl, hwr, hkp⟩
        rw [Int.toNat_natCast] at hwr
        have HI5 : Hid (YEI w (fun k => k < x ∨ k = q) w.heap.size q x r v u 8 w5) := HI.out.put hwr hkp
        clear hwr hkp HI e0 hix
        go_wp2
        go_roundw
        case rel => exact ⟨8, by omega, by go_num, HI5⟩
        case measure => simp [intOf]
    · obtain rfl : k = 8 := by omega
      go_wp2_with fail
      refine (wide_any w.heap.size wr).mono ?_
      rintro e w6 ⟨rfl, hb⟩
      have HI6 := Lib.hid (HI.out.below hb)
      clear hb HI
      go_wp2_with fail
      go_loopw [24] (fun i wr => ∃ k : Nat, k ≤ 2 ∧ i = .int .i64 k ∧ Hid (YEI w (fun k => k < x ∨ k = q) w.heap.size q x r v u (8 + k) wr)) (fun i _ => 2 - (intOf i).toNat)
      case atStart => exact ⟨0, by omega, rfl, HI6⟩
      case round =>
        clear HI6
        obtain ⟨k, hk, rfl, HI⟩ := hrel
        unfold wid at *
        by_cases hlt : k < 2
        · have hc : k = 0 ∨ k = 1 := by omega
          rcases hc with rfl | rfl
          · have hix : ∀ W : World, (Instr.index 113 (.agg #[.pointer (some ⟨w.heap.size, 9, none⟩), .pointer (some ⟨w.heap.size, 13, none⟩)]) (.int .i64 0)).run Try.prog W = .ok (.pointer (some ⟨w.heap.size, 9, none⟩)) W := fun W => by kernel_rfl
            have e0 := HI.out.one.cell 9 _ rfl
            go_wp2_with fail
            refine (u64w _ _ x _ _ (by omega) HI.out.wr (Nat.le_trans (Ry.pre_len r 8 (by omega)) (by omega))).mono ?_
            rintro e w5 ⟨rfl, hwr, hkp⟩
            rw [Int.toNat_natCast] at hwr
            have HI5 : Hid (YEI w (fun k => k < x ∨ k = q) w.heap.size q x r v u 9 w5) := HI.out.put hwr hkp
            clear hwr hkp HI e0 hix
            go_wp2
            go_roundw
            case rel => exact ⟨1, by omega, by go_num, HI5⟩
            case measure => simp [intOf]
          · have hix : ∀ W : World, (Instr.index 113 (.agg #[.pointer (some ⟨w.heap.size, 9, none⟩), .pointer (some ⟨w.heap.size, 13, none⟩)]) (.int .i64 1)).run Try.prog W = .ok (.pointer (some ⟨w.heap.size, 13, none⟩)) W := fun W => by kernel_rfl
            have e0 := HI.out.one.cell 13 _ rfl
            go_wp2_with fail
            refine (u64w _ _ x _ _ (by omega) HI.out.wr (Nat.le_trans (Ry.pre_len r 9 (by omega)) (by omega))).mono ?_
            rintro e w5 ⟨rfl, hwr, hkp⟩
            rw [Int.toNat_natCast] at hwr
            have HI5 : Hid (YEI w (fun k => k < x ∨ k = q) w.heap.size q x r v u 10 w5) := HI.out.put hwr hkp
            clear hwr hkp HI e0 hix
            go_wp2
            go_roundw
            case rel => exact ⟨2, by omega, by go_num, HI5⟩
            case measure => simp [intOf]
        · obtain rfl : k = 2 := by omega
          have e0 := HI.out.one.cell 14 _ rfl
          go_wp2_with fail
          refine (u32w _ _ x _ _ (by omega) HI.out.wr (Nat.le_trans (Ry.pre_len r 10 (by omega)) (by omega))).mono ?_
          rintro e w5 ⟨rfl, hwr, hkp⟩
          rw [Int.toNat_natCast] at hwr
          have hwr2 : Wr (fun k => k < x ∨ k = q) w5 x (Ry.enc r) := by rw [← Ry.pre_all]; exact hwr
          have HB5 : Hid (Below w.heap.size w w5) := HI.out.bel.trans (hkp.below2 HI.out.kw)
          have HR5 := Lib.hid hwr2
          clear hwr hkp hwr2 HI e0
          go_wp2_with fail
          refine (out_any _ _ x _ HR5.out (by rw [Ry.enc_length]; omega)).mono ?_
          rintro e w11 ⟨A3, c3, rfl, hown⟩
          have HO := Lib.hid hown
          clear hown
          go_wp2_with fail
          go_ret
          exact ⟨A3, (Ry.enc r).length, c3, rfl, own_base HO.out.1 HB5.out.size, HB5.out.trans (HO.out.2.mono HB5.out.size)⟩
end Go.Proofs.Ytjgmboleiaehaaa

namespace Go.Proofs.Ytjgmboleiaehaaa
open Go.RowKit Go.Shelf

theorem Ry.seq_rd {α β : Type} (A : Cd α) (B : Cd β) (s : St) : (A.seq B).rd s = ((B.rd (A.rd s).1).1, ((A.rd s).2, (B.rd (A.rd s).1).2)) := rfl
section
variable (l : List UInt8)
def Ry.p1 := rdN 4 (l, 0)
def Ry.p2 := rdN 4 (Ry.p1 l).1
def Ry.p3 := rdN 4 (Ry.p2 l).1
def Ry.p4 := rdN 4 (Ry.p3 l).1
def Ry.p5 := rdN 4 (Ry.p4 l).1
def Ry.p6 := rdN 4 (Ry.p5 l).1
def Ry.p7 := rdN 4 (Ry.p6 l).1
def Ry.p8 := rdN 4 (Ry.p7 l).1
def Ry.p9 := rdN 8 (Ry.p8 l).1
def Ry.p10 := rdN 8 (Ry.p9 l).1
def Ry.p11 := rdN 4 (Ry.p10 l).1
theorem Ry.all_p : Ry.keptC.rd (l, 0) = ((Ry.p11 l).1, ((Ry.p1 l).2, (Ry.p2 l).2, (Ry.p3 l).2, (Ry.p4 l).2, (Ry.p5 l).2, (Ry.p6 l).2, (Ry.p7 l).2, (Ry.p8 l).2, (Ry.p9 l).2, (Ry.p10 l).2, (Ry.p11 l).2)) := by
  unfold Ry.keptC
  simp only [Ry.seq_rd]
  rfl
theorem Ry.bad_p : Ry.keptC.bad l = endOf (Ry.p11 l).1.1 (Ry.p11 l).1.2 := by
  unfold Cd.bad
  rw [Ry.all_p l]
theorem Ry.rd_p : Ry.rdT l = ((Ry.p1 l).2, (Ry.p2 l).2, (Ry.p3 l).2, (Ry.p4 l).2, (Ry.p5 l).2, (Ry.p6 l).2, (Ry.p7 l).2, (Ry.p8 l).2, (Ry.p9 l).2, (Ry.p10 l).2, (Ry.p11 l).2) := by
  unfold Ry.rdT
  rw [Ry.all_p l]
/-- What was read behind k numbers, the status apart. -/
def Ry.pt : Nat → Rp
  | 0 => ⟨0, 0, 0, 0, 0, 0, 0, 0, 0, 0, [], [], false, 0, 0⟩
  | 1 => ⟨0, (Ry.p1 l).2, 0, 0, 0, 0, 0, 0, 0, 0, [], [], false, 0, 0⟩
  | 2 => ⟨0, (Ry.p1 l).2, 0, 0, 0, 0, 0, 0, 0, 0, [], [], false, 0, 0⟩
  | 3 => ⟨0, (Ry.p1 l).2, 0, (Ry.p3 l).2, 0, 0, 0, 0, 0, 0, [], [], false, 0, 0⟩
  | 4 => ⟨0, (Ry.p1 l).2, 0, (Ry.p3 l).2, (Ry.p4 l).2, 0, 0, 0, 0, 0, [], [], false, 0, 0⟩
  | 5 => ⟨0, (Ry.p1 l).2, 0, (Ry.p3 l).2, (Ry.p4 l).2, (Ry.p5 l).2, 0, 0, 0, 0, [], [], false, 0, 0⟩
  | 6 => ⟨0, (Ry.p1 l).2, 0, (Ry.p3 l).2, (Ry.p4 l).2, (Ry.p5 l).2, (Ry.p6 l).2, 0, 0, 0, [], [], false, 0, 0⟩
  | 7 => ⟨0, (Ry.p1 l).2, 0, (Ry.p3 l).2, (Ry.p4 l).2, (Ry.p5 l).2, (Ry.p6 l).2, (Ry.p7 l).2, 0, 0, [], [], false, 0, 0⟩
  | 8 => ⟨0, (Ry.p1 l).2, 0, (Ry.p3 l).2, (Ry.p4 l).2, (Ry.p5 l).2, (Ry.p6 l).2, (Ry.p7 l).2, (Ry.p8 l).2, 0, [], [], false, 0, 0⟩
  | 9 => ⟨0, (Ry.p1 l).2, 0, (Ry.p3 l).2, (Ry.p4 l).2, (Ry.p5 l).2, (Ry.p6 l).2, (Ry.p7 l).2, (Ry.p8 l).2, (Ry.p9 l).2, [], [], false, 0, 0⟩
  | _ => ⟨0, (Ry.p1 l).2, 0, (Ry.p3 l).2, (Ry.p4 l).2, (Ry.p5 l).2, (Ry.p6 l).2, (Ry.p7 l).2, (Ry.p8 l).2, (Ry.p9 l).2, [], [], false, (Ry.p10 l).2, 0⟩
def Ry.ps : Nat → Nat
  | 0 => 0
  | 1 => 0
  | _ => (Ry.p2 l).2
def Ry.pr : Nat → St
  | 0 => (l, 0)
  | 1 => (Ry.p1 l).1
  | 2 => (Ry.p2 l).1
  | 3 => (Ry.p3 l).1
  | 4 => (Ry.p4 l).1
  | 5 => (Ry.p5 l).1
  | 6 => (Ry.p6 l).1
  | 7 => (Ry.p7 l).1
  | 8 => (Ry.p8 l).1
  | 9 => (Ry.p9 l).1
  | _ => (Ry.p10 l).1
end
/-- While a reply is read: the result's block r, the variable's block g, the status' block s, the Reader q. -/
structure DI (w : World) (q r g s : Nat) (l : List UInt8) (k : Nat) (W : World) : Prop where
  rd : Rd W q (Ry.pr l k).1 (Ry.pr l k).2
  res : Bw W r (rc Rp.zero (.slice none 0 0) (.slice none 0 0)) 41
  var : Bw W g (rc (Ry.pt l k) (.slice none 0 0) (.slice none 0 0)) 41
  sta : Bw W s [.int .u32 ((Ry.ps l k : Nat) : Int)] 31
  bel : Below w.heap.size w W
  lr : w.heap.size ≤ r
  lg : w.heap.size ≤ g
  ls : w.heap.size ≤ s
  lq : w.heap.size ≤ q
  rg : r ≠ g
  qr : q ≠ r
  qg : q ≠ g
  qs : q ≠ s
  rs : r ≠ s
  gs : g ≠ s
section
variable {w W W' : World} {q r g s k : Nat} {l : List UInt8}
theorem DI.below (h : DI w q r g s l k W) (hb : Below W.heap.size W W') : DI w q r g s l k W' :=
  ⟨h.rd.kept hb, h.res.below hb, h.var.below hb, h.sta.below hb, h.bel.trans (hb.mono h.bel.size), h.lr, h.lg, h.ls, h.lq, h.rg, h.qr, h.qg, h.qs, h.rs, h.gs⟩
/-- A number was read; it is not stored yet. -/
structure DJ (w : World) (q r g s : Nat) (l : List UInt8) (k : Nat) (W : World) : Prop where
  rd : Rd W q (Ry.pr l (k + 1)).1 (Ry.pr l (k + 1)).2
  res : Bw W r (rc Rp.zero (.slice none 0 0) (.slice none 0 0)) 41
  var : Bw W g (rc (Ry.pt l k) (.slice none 0 0) (.slice none 0 0)) 41
  sta : Bw W s [.int .u32 ((Ry.ps l k : Nat) : Int)] 31
  bel : Below w.heap.size w W
theorem DI.read (h : DI w q r g s l k W) (hr : Rd W' q (Ry.pr l (k + 1)).1 (Ry.pr l (k + 1)).2) (hg : W.grownBy W' (some q)) : DJ w q r g s l k W' :=
  ⟨hr, h.res.grown hg (fun e => h.qr (by injection e)), h.var.grown hg (fun e => h.qg (by injection e)), h.sta.grown hg (fun e => h.qs (by injection e)),
    h.bel.trans ⟨hg.os, hg.tape, hg.output, hg.size, fun k hk => hg.block k (Nat.lt_of_lt_of_le hk h.bel.size) (fun e => by injection e with e; have := h.lq; omega)⟩⟩
/-- It is stored into the variable, into the status. -/
theorem DJ.set {W0 : World} (h : DJ w q r g s l k W) (h0 : DI w q r g s l k W0) (hb : Bw W' g (rc (Ry.pt l (k + 1)) (.slice none 0 0) (.slice none 0 0)) 41) (hs : Ry.ps l (k + 1) = Ry.ps l k) (hk : Keep (· ≠ g) W W') : DI w q r g s l (k + 1) W' :=
  ⟨h.rd.off h.var (by decide) h0.qg (fun k _ hn => hk.block k hn), h.res.keep hk h0.rg, hb, by rw [hs]; exact h.sta.keep hk (fun e => h0.gs e.symm), h.bel.trans (hk.below2 (fun k hk => by have := h0.lg; omega)), h0.lr, h0.lg, h0.ls, h0.lq, h0.rg, h0.qr, h0.qg, h0.qs, h0.rs, h0.gs⟩
theorem DJ.stat {W0 : World} (h : DJ w q r g s l k W) (h0 : DI w q r g s l k W0) (hb : Bw W' s [.int .u32 ((Ry.ps l (k + 1) : Nat) : Int)] 31) (hs : Ry.pt l (k + 1) = Ry.pt l k) (hk : Keep (· ≠ s) W W') : DI w q r g s l (k + 1) W' :=
  ⟨h.rd.off h.sta (by decide) h0.qs (fun k _ hn => hk.block k hn), h.res.keep hk h0.rs, by rw [hs]; exact h.var.keep hk h0.gs, hb, h.bel.trans (hk.below2 (fun k hk => by have := h0.ls; omega)), h0.lr, h0.lg, h0.ls, h0.lq, h0.rg, h0.qr, h0.qg, h0.qs, h0.rs, h0.gs⟩
end
theorem Ry.err_bad (l : List UInt8) (h : Ry.keptC.bad l ≠ 0) : Ry.err l = Ry.keptC.bad l ∧ Ry.got 0 l = Rp.zero := by
  have h1 : Ry.err l = Ry.keptC.bad l := if_pos h
  exact ⟨h1, Ry.got_no 0 l (by rw [h1]; exact h)⟩
theorem Ry.err_yes (l : List UInt8) (h : Ry.keptC.bad l = 0) (hs : stOk ((Ry.rdT l).2.1 : Int) = true) : Ry.err l = 0 ∧ Ry.got 0 l = Ry.of 0 (Ry.rdT l) := by
  have h1 : Ry.err l = 0 := (if_neg (by simp [h])).trans (if_pos hs)
  exact ⟨h1, if_pos h1⟩
theorem Ry.err_no (l : List UInt8) (h : Ry.keptC.bad l = 0) (hs : ¬ stOk ((Ry.rdT l).2.1 : Int) = true) : Ry.err l = 11 ∧ Ry.got 0 l = Rp.zero := by
  have h1 : Ry.err l = 11 := (if_neg (by simp [h])).trans (if_neg hs)
  exact ⟨h1, Ry.got_no 0 l (by rw [h1]; decide)⟩
theorem Ry.p2_lt (l : List UInt8) : (Ry.p2 l).2 < 4294967296 := rdN_lt 4 (Ry.p1 l).1
set_option maxRecDepth 100000 in
set_option maxHeartbeats 4000000 in
theorem decoded_any (l : List UInt8) (A : Option Addr) (n cp : Nat) (w : World) (h : BS w A n l) (hn : n ≤ 2000) :
    Calls Try.prog 35 #[.slice A n cp] w fun e w' => e = .returned (.tuple #[.agg (rc (Ry.got 0 l) (.slice none 0 0) (.slice none 0 0)).toArray, .int .i64 (Ry.err l)]) ∧ Below w.heap.size w w' := by
  have HL := Lib.hid h
  have HST := Lib.hid (Ry.p2_lt l)
  clear h
  go_enter Try.func35, Try.ntmps35
  go_upto_region 1 with (refine wpList_alloc_any rfl 41 rfl _ zero_Rp ?_; intro w1 hb1 hs1 hw1)
  go_upto_region 2 with (refine wpList_alloc_any rfl 41 rfl _ zero_Rp ?_; intro w2 hb2 hs2 hw2)
  go_upto_region 3 with (refine wpList_alloc_any rfl 31 rfl _ zero_U4 ?_; intro w3 hb3 hs3 hw3)
  have A1 : Hid (Bw w3 w.heap.size (rc Rp.zero (.slice none 0 0) (.slice none 0 0)) 41) := (hw3.block _ (by omega)).trans ((hw2.block _ (by omega)).trans hb1)
  have A2 : Hid (Bw w3 w1.heap.size (rc Rp.zero (.slice none 0 0) (.slice none 0 0)) 41) := (hw3.block _ (by omega)).trans hb2
  have A3 : Hid (Bw w3 w2.heap.size [.int .u32 ((Ry.ps l 0 : Nat) : Int)] 31) := hb3
  have A4 : Hid (Below w.heap.size w w3) := hw1.trans ((hw2.mono (by omega)).trans (hw3.mono (by omega)))
  have A5 : Hid (w1.heap.size = w.heap.size + 1 ∧ w2.heap.size = w.heap.size + 2 ∧ w3.heap.size = w.heap.size + 3) := ⟨hs1, by omega, by omega⟩
  have hl3 := HL.out.below A4.out
  clear hb1 hs1 hw1 hb2 hs2 hw2 hb3 hs3 hw3 HL
  go_wp2_with fail
  refine (newReader_any A n cp l w3 hl3 (by omega)).mono ?_
  rintro e v0 ⟨q, rfl, hrd, hb3, hq⟩
  have H0 : Hid (DI w q w.heap.size w1.heap.size w2.heap.size l 0 v0) := by
    have h5 := A5.out
    exact ⟨hrd, A1.out.below hb3, A2.out.below hb3, A3.out.below hb3, A4.out.trans (hb3.mono (by omega)), by omega, by omega, by omega, by omega, by omega, by omega, by omega, by omega, by omega, by omega⟩
  clear A1 A2 A3 A4 A5 hl3 hrd hb3 hq
  generalize w1.heap.size = g at *
  generalize w2.heap.size = s at *
  go_wp2_with fail
  refine (narrow_any g s v0).mono ?_
  rintro e v1 ⟨rfl, hb⟩
  have HI1 := Lib.hid (H0.out.below hb)
  clear hb H0
  go_wp2_with fail
  go_loopw [15] (fun i wr => ∃ k : Nat, k ≤ 8 ∧ i = .int .i64 k ∧ Hid (DI w q w.heap.size g s l k wr)) (fun i _ => 8 - (intOf i).toNat)
  case atStart => exact ⟨0, by omega, rfl, HI1⟩
  case round =>
    clear HI1
    obtain ⟨k, hk, rfl, HI⟩ := hrel
    unfold nar at *
    by_cases hlt : k < 8
    · have hc : k = 0 ∨ k = 1 ∨ k = 2 ∨ k = 3 ∨ k = 4 ∨ k = 5 ∨ k = 6 ∨ k = 7 := by omega
      rcases hc with rfl | rfl | rfl | rfl | rfl | rfl | rfl | rfl
      · have hix : ∀ W : World, (Instr.index 108 (.agg #[.pointer (some ⟨g, 1, none⟩), .pointer (some ⟨s, 0, none⟩), .pointer (some ⟨g, 3, none⟩), .pointer (some ⟨g, 4, none⟩), .pointer (some ⟨g, 5, none⟩), .pointer (some ⟨g, 6, none⟩), .pointer (some ⟨g, 7, none⟩), .pointer (some ⟨g, 8, none⟩)]) (.int .i64 0)).run Try.prog W = .ok (.pointer (some ⟨g, 1, none⟩)) W := fun W => by kernel_rfl
        go_wp2_with fail
        refine (show Calls Try.prog 50 #[.pointer (some ⟨q, 0, none⟩)] wr (RdPost wr q (.int .u32 ((Ry.p1 l).2 : Int)) (Ry.p1 l).1) from u32r _ q _ _ HI.out.rd).mono ?_
        rintro e w5 ⟨rfl, hr, hgr⟩
        have HJ := Lib.hid (HI.out.read (k := 0) hr hgr)
        clear hr hgr hix
        go_wp2_with (refine wpList_store_cell rfl 31 (.tmp 21) (.tmp 20) rfl g 1 (.int .u32 ((Ry.p1 l).2 : Int)) rfl rfl 41 _ HJ.out.var (by kernel_rfl) rfl (by simp [rc]) rfl ?_
                     intro w6 hb6 hs6 hk6
                     have HI6 : Hid (DI w q w.heap.size g s l 1 w6) := HJ.out.set HI.out hb6 rfl hk6
                     clear hb6 hs6 hk6 HI HJ)
        go_roundw
        case rel => exact ⟨1, by omega, by go_num, HI6⟩
        case measure => simp [intOf]
      · have hix : ∀ W : World, (Instr.index 108 (.agg #[.pointer (some ⟨g, 1, none⟩), .pointer (some ⟨s, 0, none⟩), .pointer (some ⟨g, 3, none⟩), .pointer (some ⟨g, 4, none⟩), .pointer (some ⟨g, 5, none⟩), .pointer (some ⟨g, 6, none⟩), .pointer (some ⟨g, 7, none⟩), .pointer (some ⟨g, 8, none⟩)]) (.int .i64 1)).run Try.prog W = .ok (.pointer (some ⟨s, 0, none⟩)) W := fun W => by kernel_rfl
        go_wp2_with fail
        refine (show Calls Try.prog 50 #[.pointer (some ⟨q, 0, none⟩)] wr (RdPost wr q (.int .u32 ((Ry.p2 l).2 : Int)) (Ry.p2 l).1) from u32r _ q _ _ HI.out.rd).mono ?_
        rintro e w5 ⟨rfl, hr, hgr⟩
        have HJ := Lib.hid (HI.out.read (k := 1) hr hgr)
        clear hr hgr hix
        go_wp2_with (refine wpList_store_cell rfl 31 (.tmp 21) (.tmp 20) rfl s 0 (.int .u32 ((Ry.p2 l).2 : Int)) rfl rfl 31 _ HJ.out.sta (by kernel_rfl) rfl (by simp) rfl ?_
                     intro w6 hb6 hs6 hk6
                     have HI6 : Hid (DI w q w.heap.size g s l 2 w6) := HJ.out.stat HI.out hb6 rfl hk6
                     clear hb6 hs6 hk6 HI HJ)
        go_roundw
        case rel => exact ⟨2, by omega, by go_num, HI6⟩
        case measure => simp [intOf]
      · have hix : ∀ W : World, (Instr.index 108 (.agg #[.pointer (some ⟨g, 1, none⟩), .pointer (some ⟨s, 0, none⟩), .pointer (some ⟨g, 3, none⟩), .pointer (some ⟨g, 4, none⟩), .pointer (some ⟨g, 5, none⟩), .pointer (some ⟨g, 6, none⟩), .pointer (some ⟨g, 7, none⟩), .pointer (some ⟨g, 8, none⟩)]) (.int .i64 2)).run Try.prog W = .ok (.pointer (some ⟨g, 3, none⟩)) W := fun W => by kernel_rfl
        go_wp2_with fail
        refine (show Calls Try.prog 50 #[.pointer (some ⟨q, 0, none⟩)] wr (RdPost wr q (.int .u32 ((Ry.p3 l).2 : Int)) (Ry.p3 l).1) from u32r _ q _ _ HI.out.rd).mono ?_
        rintro e w5 ⟨rfl, hr, hgr⟩
        have HJ := Lib.hid (HI.out.read (k := 2) hr hgr)
        clear hr hgr hix
        go_wp2_with (refine wpList_store_cell rfl 31 (.tmp 21) (.tmp 20) rfl g 3 (.int .u32 ((Ry.p3 l).2 : Int)) rfl rfl 41 _ HJ.out.var (by kernel_rfl) rfl (by simp [rc]) rfl ?_
                     intro w6 hb6 hs6 hk6
                     have HI6 : Hid (DI w q w.heap.size g s l 3 w6) := HJ.out.set HI.out hb6 rfl hk6
                     clear hb6 hs6 hk6 HI HJ)
        go_roundw
        case rel => exact ⟨3, by omega, by go_num, HI6⟩
        case measure => simp [intOf]
      · have hix : ∀ W : World, (Instr.index 108 (.agg #[.pointer (some ⟨g, 1, none⟩), .pointer (some ⟨s, 0, none⟩), .pointer (some ⟨g, 3, none⟩), .pointer (some ⟨g, 4, none⟩), .pointer (some ⟨g, 5, none⟩), .pointer (some ⟨g, 6, none⟩), .pointer (some ⟨g, 7, none⟩), .pointer (some ⟨g, 8, none⟩)]) (.int .i64 3)).run Try.prog W = .ok (.pointer (some ⟨g, 4, none⟩)) W := fun W => by kernel_rfl
        go_wp2_with fail
        refine (show Calls Try.prog 50 #[.pointer (some ⟨q, 0, none⟩)] wr (RdPost wr q (.int .u32 ((Ry.p4 l).2 : Int)) (Ry.p4 l).1) from u32r _ q _ _ HI.out.rd).mono ?_
        rintro e w5 ⟨rfl, hr, hgr⟩
        have HJ := Lib.hid (HI.out.read (k := 3) hr hgr)
        clear hr hgr hix
        go_wp2_with (refine wpList_store_cell rfl 31 (.tmp 21) (.tmp 20) rfl g 4 (.int .u32 ((Ry.p4 l).2 : Int)) rfl rfl 41 _ HJ.out.var (by kernel_rfl) rfl (by simp [rc]) rfl ?_
                     intro w6 hb6 hs6 hk6
                     have HI6 : Hid (DI w q w.heap.size g s l 4 w6) := HJ.out.set HI.out hb6 rfl hk6
                     clear hb6 hs6 hk6 HI HJ)
        go_roundw
        case rel => exact ⟨4, by omega, by go_num, HI6⟩
        case measure => simp [intOf]
      · have hix : ∀ W : World, (Instr.index 108 (.agg #[.pointer (some ⟨g, 1, none⟩), .pointer (some ⟨s, 0, none⟩), .pointer (some ⟨g, 3, none⟩), .pointer (some ⟨g, 4, none⟩), .pointer (some ⟨g, 5, none⟩), .pointer (some ⟨g, 6, none⟩), .pointer (some ⟨g, 7, none⟩), .pointer (some ⟨g, 8, none⟩)]) (.int .i64 4)).run Try.prog W = .ok (.pointer (some ⟨g, 5, none⟩)) W := fun W => by kernel_rfl
        go_wp2_with fail
        refine (show Calls Try.prog 50 #[.pointer (some ⟨q, 0, none⟩)] wr (RdPost wr q (.int .u32 ((Ry.p5 l).2 : Int)) (Ry.p5 l).1) from u32r _ q _ _ HI.out.rd).mono ?_
        rintro e w5 ⟨rfl, hr, hgr⟩
        have HJ := Lib.hid (HI.out.read (k := 4) hr hgr)
        clear hr hgr hix
        go_wp2_with (refine wpList_store_cell rfl 31 (.tmp 21) (.tmp 20) rfl g 5 (.int .u32 ((Ry.p5 l).2 : Int)) rfl rfl 41 _ HJ.out.var (by kernel_rfl) rfl (by simp [rc]) rfl ?_
                     intro w6 hb6 hs6 hk6
                     have HI6 : Hid (DI w q w.heap.size g s l 5 w6) := HJ.out.set HI.out hb6 rfl hk6
                     clear hb6 hs6 hk6 HI HJ)
        go_roundw
        case rel => exact ⟨5, by omega, by go_num, HI6⟩
        case measure => simp [intOf]
      · have hix : ∀ W : World, (Instr.index 108 (.agg #[.pointer (some ⟨g, 1, none⟩), .pointer (some ⟨s, 0, none⟩), .pointer (some ⟨g, 3, none⟩), .pointer (some ⟨g, 4, none⟩), .pointer (some ⟨g, 5, none⟩), .pointer (some ⟨g, 6, none⟩), .pointer (some ⟨g, 7, none⟩), .pointer (some ⟨g, 8, none⟩)]) (.int .i64 5)).run Try.prog W = .ok (.pointer (some ⟨g, 6, none⟩)) W := fun W => by kernel_rfl
        go_wp2_with fail
        refine (show Calls Try.prog 50 #[.pointer (some ⟨q, 0, none⟩)] wr (RdPost wr q (.int .u32 ((Ry.p6 l).2 : Int)) (Ry.p6 l).1) from u32r _ q _ _ HI.out.rd).mono ?_
        rintro e w5 ⟨rfl, hr, hgr⟩
        have HJ := Lib.hid (HI.out.read (k := 5) hr hgr)
        clear hr hgr hix
        go_wp2_with (refine wpList_store_cell rfl 31 (.tmp 21) (.tmp 20) rfl g 6 (.int .u32 ((Ry.p6 l).2 : Int)) rfl rfl 41 _ HJ.out.var (by kernel_rfl) rfl (by simp [rc]) rfl ?_
                     intro w6 hb6 hs6 hk6
                     have HI6 : Hid (DI w q w.heap.size g s l 6 w6) := HJ.out.set HI.out hb6 rfl hk6
                     clear hb6 hs6 hk6 HI HJ)
        go_roundw
        case rel => exact ⟨6, by omega, by go_num, HI6⟩
        case measure => simp [intOf]
      · have hix : ∀ W : World, (Instr.index 108 (.agg #[.pointer (some ⟨g, 1, none⟩), .pointer (some ⟨s, 0, none⟩), .pointer (some ⟨g, 3, none⟩), .pointer (some ⟨g, 4, none⟩), .pointer (some ⟨g, 5, none⟩), .pointer (some ⟨g, 6, none⟩), .pointer (some ⟨g, 7, none⟩), .pointer (some ⟨g, 8, none⟩)]) (.int .i64 6)).run Try.prog W = .ok (.pointer (some ⟨g, 7, none⟩)) W := fun W => by kernel_rfl
        go_wp2_with fail
        refine (show Calls Try.prog 50 #[.pointer (some ⟨q, 0, none⟩)] wr (RdPost wr q (.int .u32 ((Ry.p7 l).2 : Int)) (Ry.p7 l).1) from u32r _ q _ _ HI.out.rd).mono ?_
        rintro e w5 ⟨rfl, hr, hgr⟩
        have HJ := Lib.hid (HI.out.read (k := 6) hr hgr)
        clear hr hgr hix
        go_wp2_with (refine wpList_store_cell rfl 31 (.tmp 21) (.tmp 20) rfl g 7 (.int .u32 ((Ry.p7 l).2 : Int)) rfl rfl 41 _ HJ.out.var (by kernel_rfl) rfl (by simp [rc]) rfl ?_
                     intro w6 hb6 hs6 hk6
                     have HI6 : Hid (DI w q w.heap.size g s l 7 w6) := HJ.out.set HI.out hb6 rfl hk6
                     clear hb6 hs6 hk6 HI HJ)
        go_roundw
        case rel => exact ⟨7, by omega, by go_num, HI6⟩
        case measure => simp [intOf]
      · have hix : ∀ W : World, (Instr.index 108 (.agg #[.pointer (some ⟨g, 1, none⟩), .pointer (some ⟨s, 0, none⟩), .pointer (some ⟨g, 3, none⟩), .pointer (some ⟨g, 4, none⟩), .pointer (some ⟨g, 5, none⟩), .pointer (some ⟨g, 6, none⟩), .pointer (some ⟨g, 7, none⟩), .pointer (some ⟨g, 8, none⟩)]) (.int .i64 7)).run Try.prog W = .ok (.pointer (some ⟨g, 8, none⟩)) W := fun W => by kernel_rfl
        go_wp2_with fail
        refine (show Calls Try.prog 50 #[.pointer (some ⟨q, 0, none⟩)] wr (RdPost wr q (.int .u32 ((Ry.p8 l).2 : Int)) (Ry.p8 l).1) from u32r _ q _ _ HI.out.rd).mono ?_
        rintro e w5 ⟨rfl, hr, hgr⟩
        have HJ := Lib.hid (HI.out.read (k := 7) hr hgr)
        clear hr hgr hix
        go_wp2_with (refine wpList_store_cell rfl 31 (.tmp 21) (.tmp 20) rfl g 8 (.int .u32 ((Ry.p8 l).2 : Int)) rfl rfl 41 _ HJ.out.var (by kernel_rfl) rfl (by simp [rc]) rfl ?_
                     intro w6 hb6 hs6 hk6
                     have HI6 : Hid (DI w q w.heap.size g s l 8 w6) := HJ.out.set HI.out hb6 rfl hk6
                     clear hb6 hs6 hk6 HI HJ)
        go_roundw
        case rel => exact ⟨8, by omega, by go_num, HI6⟩
        case measure => simp [intOf]
    · obtain rfl : k = 8 := by omega
      go_wp2_with fail
      refine (wide_any g wr).mono ?_
      rintro e w6 ⟨rfl, hb⟩
      have HI6 := Lib.hid (HI.out.below hb)
      clear hb HI
      go_wp2_with fail
      go_loopw [24] (fun i wr => ∃ k : Nat, k ≤ 2 ∧ i = .int .i64 k ∧ Hid (DI w q w.heap.size g s l (8 + k) wr)) (fun i _ => 2 - (intOf i).toNat)
      case atStart => exact ⟨0, by omega, rfl, HI6⟩
      case round =>
        clear HI6
        obtain ⟨k, hk, rfl, HI⟩ := hrel
        unfold wid at *
        by_cases hlt : k < 2
        · have hc : k = 0 ∨ k = 1 := by omega
          rcases hc with rfl | rfl
          · have hix : ∀ W : World, (Instr.index 113 (.agg #[.pointer (some ⟨g, 9, none⟩), .pointer (some ⟨g, 13, none⟩)]) (.int .i64 0)).run Try.prog W = .ok (.pointer (some ⟨g, 9, none⟩)) W := fun W => by kernel_rfl
            go_wp2_with fail
            refine (show Calls Try.prog 51 #[.pointer (some ⟨q, 0, none⟩)] wr (RdPost wr q (.int .u64 ((Ry.p9 l).2 : Int)) (Ry.p9 l).1) from u64r _ q _ _ HI.out.rd).mono ?_
            rintro e w5 ⟨rfl, hr, hgr⟩
            have HJ := Lib.hid (HI.out.read (k := 8) hr hgr)
            clear hr hgr hix
            go_wp2_with (refine wpList_store_cell rfl 35 (.tmp 30) (.tmp 29) rfl g 9 (.int .u64 ((Ry.p9 l).2 : Int)) rfl rfl 41 _ HJ.out.var (by kernel_rfl) rfl (by simp [rc]) rfl ?_
                         intro w6 hb6 hs6 hk6
                         have HI6 : Hid (DI w q w.heap.size g s l 9 w6) := HJ.out.set HI.out hb6 rfl hk6
                         clear hb6 hs6 hk6 HI HJ)
            go_roundw
            case rel => exact ⟨1, by omega, by go_num, HI6⟩
            case measure => simp [intOf]
          · have hix : ∀ W : World, (Instr.index 113 (.agg #[.pointer (some ⟨g, 9, none⟩), .pointer (some ⟨g, 13, none⟩)]) (.int .i64 1)).run Try.prog W = .ok (.pointer (some ⟨g, 13, none⟩)) W := fun W => by kernel_rfl
            go_wp2_with fail
            refine (show Calls Try.prog 51 #[.pointer (some ⟨q, 0, none⟩)] wr (RdPost wr q (.int .u64 ((Ry.p10 l).2 : Int)) (Ry.p10 l).1) from u64r _ q _ _ HI.out.rd).mono ?_
            rintro e w5 ⟨rfl, hr, hgr⟩
            have HJ := Lib.hid (HI.out.read (k := 9) hr hgr)
            clear hr hgr hix
            go_wp2_with (refine wpList_store_cell rfl 35 (.tmp 30) (.tmp 29) rfl g 13 (.int .u64 ((Ry.p10 l).2 : Int)) rfl rfl 41 _ HJ.out.var (by kernel_rfl) rfl (by simp [rc]) rfl ?_
                         intro w6 hb6 hs6 hk6
                         have HI6 : Hid (DI w q w.heap.size g s l 10 w6) := HJ.out.set HI.out hb6 rfl hk6
                         clear hb6 hs6 hk6 HI HJ)
            go_roundw
            case rel => exact ⟨2, by omega, by go_num, HI6⟩
            case measure => simp [intOf]
        · obtain rfl : k = 2 := by omega
          go_wp2_with fail
          refine (show Calls Try.prog 50 #[.pointer (some ⟨q, 0, none⟩)] wr (RdPost wr q (.int .u32 ((Ry.p11 l).2 : Int)) (Ry.p11 l).1) from u32r _ q _ _ HI.out.rd).mono ?_
          rintro e w5 ⟨rfl, hr, hgr⟩
          have hd := HI.out
          have C1 : Bw w5 w.heap.size (rc Rp.zero (.slice none 0 0) (.slice none 0 0)) 41 := hd.res.grown hgr (fun e => hd.qr (by injection e))
          have C2 : Bw w5 g (rc (Ry.pt l 10) (.slice none 0 0) (.slice none 0 0)) 41 := hd.var.grown hgr (fun e => hd.qg (by injection e))
          have C3 : Bw w5 s [.int .u32 ((Ry.p2 l).2 : Int)] 31 := hd.sta.grown hgr (fun e => hd.qs (by injection e))
          have C4 : Below w.heap.size w w5 := hd.bel.trans ⟨hgr.os, hgr.tape, hgr.output, hgr.size, fun k hk => hgr.block k (Nat.lt_of_lt_of_le hk hd.bel.size) (fun e => by injection e with e; have := hd.lq; omega)⟩
          have HC : Hid (Bw w5 w.heap.size (rc Rp.zero (.slice none 0 0) (.slice none 0 0)) 41 ∧ Bw w5 g (rc (Ry.pt l 10) (.slice none 0 0) (.slice none 0 0)) 41 ∧ Bw w5 s [.int .u32 ((Ry.p2 l).2 : Int)] 31 ∧ Rd w5 q (Ry.p11 l).1.1 (Ry.p11 l).1.2 ∧ Below w.heap.size w w5) := ⟨C1, C2, C3, hr, C4⟩
          have HN : Hid (w.heap.size ≤ g ∧ w.heap.size ≠ g ∧ q ≠ g ∧ s ≠ g) := ⟨hd.lg, hd.rg, hd.qg, fun e => hd.gs e.symm⟩
          clear hr hgr hd C1 C2 C3 C4 HI
          go_upto_region 15 with (refine wpList_store_cell rfl 31 (.tmp 34) (.tmp 33) rfl g 14 (.int .u32 ((Ry.p11 l).2 : Int)) rfl rfl 41 _ HC.out.2.1 (by kernel_rfl) rfl (by simp [rc]) rfl ?_; intro w6 hb6 hs6 hk6)
          have hv6 : Bw w6 g (rc (⟨0, (Ry.p1 l).2, 0, (Ry.p3 l).2, (Ry.p4 l).2, (Ry.p5 l).2, (Ry.p6 l).2, (Ry.p7 l).2, (Ry.p8 l).2, (Ry.p9 l).2, [], [], false, (Ry.p10 l).2, (Ry.p11 l).2⟩ : Rp) (.slice none 0 0) (.slice none 0 0)) 41 := hb6
          have HC6 : Hid (Bw w6 w.heap.size (rc Rp.zero (.slice none 0 0) (.slice none 0 0)) 41 ∧ Bw w6 g (rc (⟨0, (Ry.p1 l).2, 0, (Ry.p3 l).2, (Ry.p4 l).2, (Ry.p5 l).2, (Ry.p6 l).2, (Ry.p7 l).2, (Ry.p8 l).2, (Ry.p9 l).2, [], [], false, (Ry.p10 l).2, (Ry.p11 l).2⟩ : Rp) (.slice none 0 0) (.slice none 0 0)) 41 ∧ Bw w6 s [.int .u32 ((Ry.p2 l).2 : Int)] 31 ∧ Rd w6 q (Ry.p11 l).1.1 (Ry.p11 l).1.2 ∧ Below w.heap.size w w6) :=
            ⟨HC.out.1.keep hk6 HN.out.2.1, hv6, HC.out.2.2.1.keep hk6 HN.out.2.2.2, HC.out.2.2.2.1.off HC.out.2.1 (by decide) HN.out.2.2.1 (fun k _ hn => hk6.block k hn), HC.out.2.2.2.2.trans (hk6.below2 (fun k hk => by have := HN.out.1; omega))⟩
          clear hb6 hs6 hk6 hv6 HC
          have e0 := HC6.out.2.2.1.cell 0 _ rfl
          have hst := HST.out
          go_upto_region 16 with (refine wpList_store_cell rfl 32 (.tmp 37) (.tmp 36) rfl g 2 (.int .i64 ((Ry.p2 l).2 : Int)) rfl rfl 41 _ HC6.out.2.1 (by kernel_rfl) rfl (by simp [rc]) rfl ?_; intro w7 hb7 hs7 hk7)
          have hv7 : Bw w7 g (rc (⟨0, (Ry.p1 l).2, ((Ry.p2 l).2 : Int), (Ry.p3 l).2, (Ry.p4 l).2, (Ry.p5 l).2, (Ry.p6 l).2, (Ry.p7 l).2, (Ry.p8 l).2, (Ry.p9 l).2, [], [], false, (Ry.p10 l).2, (Ry.p11 l).2⟩ : Rp) (.slice none 0 0) (.slice none 0 0)) 41 := hb7
          have HC7 : Hid (Bw w7 w.heap.size (rc Rp.zero (.slice none 0 0) (.slice none 0 0)) 41 ∧ Bw w7 g (rc (⟨0, (Ry.p1 l).2, ((Ry.p2 l).2 : Int), (Ry.p3 l).2, (Ry.p4 l).2, (Ry.p5 l).2, (Ry.p6 l).2, (Ry.p7 l).2, (Ry.p8 l).2, (Ry.p9 l).2, [], [], false, (Ry.p10 l).2, (Ry.p11 l).2⟩ : Rp) (.slice none 0 0) (.slice none 0 0)) 41 ∧ Rd w7 q (Ry.p11 l).1.1 (Ry.p11 l).1.2 ∧ Below w.heap.size w w7) :=
            ⟨HC6.out.1.keep hk7 HN.out.2.1, hv7, HC6.out.2.2.2.1.off HC6.out.2.1 (by decide) HN.out.2.2.1 (fun k _ hn => hk7.block k hn), HC6.out.2.2.2.2.trans (hk7.below2 (fun k hk => by have := HN.out.1; omega))⟩
          clear hb7 hs7 hk7 hv7 HC6 e0 hst
          have HRD : Hid (Ry.of 0 (Ry.rdT l) = (⟨0, (Ry.p1 l).2, ((Ry.p2 l).2 : Int), (Ry.p3 l).2, (Ry.p4 l).2, (Ry.p5 l).2, (Ry.p6 l).2, (Ry.p7 l).2, (Ry.p8 l).2, (Ry.p9 l).2, [], [], false, (Ry.p10 l).2, (Ry.p11 l).2⟩ : Rp)) := by show _ = _; rw [Ry.rd_p l]; rfl
          have HS2 : Hid (((Ry.rdT l).2.1 : Nat) = (Ry.p2 l).2) := by show _ = _; rw [Ry.rd_p l]
          obtain ⟨th, hth⟩ : ∃ t : Rp, (⟨0, (Ry.p1 l).2, ((Ry.p2 l).2 : Int), (Ry.p3 l).2, (Ry.p4 l).2, (Ry.p5 l).2, (Ry.p6 l).2, (Ry.p7 l).2, (Ry.p8 l).2, (Ry.p9 l).2, [], [], false, (Ry.p10 l).2, (Ry.p11 l).2⟩ : Rp) = t := ⟨_, rfl⟩
          have HTS : Hid (th.st = ((Ry.p2 l).2 : Int)) := by show _ = _; rw [← hth]
          rw [hth] at HC7 HRD
          clear hth
          go_wp2_with fail
          refine (end_any _ q _ _ HC7.out.2.2.1).mono ?_
          rintro e w8 ⟨rfl, rfl⟩
          rw [← Ry.bad_p l]
          have HC : Hid (Bw w7 w.heap.size (rc Rp.zero (.slice none 0 0) (.slice none 0 0)) 41 ∧ Bw w7 g (rc th (.slice none 0 0) (.slice none 0 0)) 41 ∧ Below w.heap.size w w7) := ⟨HC7.out.1, HC7.out.2.1, HC7.out.2.2.2⟩
          clear HC7
          by_cases hbad : Ry.keptC.bad l = 0
          rotate_left
          · have hd : (Ry.keptC.bad l != 0) = true := by simpa using hbad
            have HE := Lib.hid (Ry.err_bad l hbad)
            clear hbad
            generalize Ry.keptC.bad l = z at *
            go_wp2_with (first
              | (refine wpList_build rfl 41 #[] rfl (by show (Try.prog.built _ []).isSome = true; rw [built_Rpz]; rfl) ?_; rw [show (Try.prog.built 41 (Array.map _ #[]).toList) = _ from built_Rpz])
              | (refine wpList_store_part rfl 41 (.tmp 2) (.tmp 42) rfl w.heap.size 0 (rc Rp.zero (.slice none 0 0) (.slice none 0 0)) rfl rfl 41 _ HC.out.1 size_Rp (by simp [rc]) (rc_row _ _ _ _ _ _ _) ?_
                 intro y hb _ hk
                 have HB := Lib.hid hb
                 have HK := Lib.hid hk
                 clear hb hk))
            exact bodyPost_ret (results_cell rfl _ y w.heap.size (.int .i64 z) HB.out size_Rp (by rfl) (by rfl) Try.underlying41) rfl (by
              rw [HE.out.1, HE.out.2]
              exact ⟨rfl, HC.out.2.2.trans (HK.out.below2 (fun k hk => by omega))⟩)
          rw [hbad]
          have HBD := Lib.hid hbad
          clear hbad
          have e2 := HC.out.2.1.cell 2 _ rfl
          go_wp2_with fail
          refine (isStatus_any th.st _).mono ?_
          rintro e w9 ⟨rfl, rfl⟩
          clear e2
          by_cases hok : stOk th.st = true
          rotate_left
          · have HE := Lib.hid (Ry.err_no l HBD.out (by rw [HS2.out, ← HTS.out]; exact hok))
            rw [Bool.eq_false_iff.2 hok]
            clear hok
            go_wp2_with (first
              | (refine wpList_build rfl 41 #[] rfl (by show (Try.prog.built _ []).isSome = true; rw [built_Rpz]; rfl) ?_; rw [show (Try.prog.built 41 (Array.map _ #[]).toList) = _ from built_Rpz])
              | (refine wpList_store_part rfl 41 (.tmp 2) (.tmp 48) rfl w.heap.size 0 (rc Rp.zero (.slice none 0 0) (.slice none 0 0)) rfl rfl 41 _ HC.out.1 size_Rp (by simp [rc]) (rc_row _ _ _ _ _ _ _) ?_
                 intro y hb _ hk
                 have HB := Lib.hid hb
                 have HK := Lib.hid hk
                 clear hb hk))
            exact bodyPost_ret (results_cell rfl _ y w.heap.size (.int .i64 11) HB.out size_Rp (by rfl) (by rfl) Try.underlying41) rfl (by
              rw [HE.out.1, HE.out.2]
              exact ⟨rfl, HC.out.2.2.trans (HK.out.below2 (fun k hk => by omega))⟩)
          have HE := Lib.hid (Ry.err_yes l HBD.out (by rw [HS2.out, ← HTS.out]; exact hok))
          rw [hok]
          clear hok
          go_wp2_with (first
            | (refine wpList_load_part rfl 41 (.tmp 4) rfl _ 0 rfl _ Try.underlying41 rfl (rc th (.slice none 0 0) (.slice none 0 0)) 41 _ HC.out.2.1 size_Rp (fun j u hu => by rw [Nat.zero_add]; exact hu) ?_)
            | (refine wpList_store_part rfl 41 (.tmp 2) (.tmp 49) rfl w.heap.size 0 (rc th (.slice none 0 0) (.slice none 0 0)) rfl rfl 41 _ HC.out.1 size_Rp (by simp [rc]) (rc_row _ _ _ _ _ _ _) ?_
               intro y hb _ hk
               have HB := Lib.hid hb
               have HK := Lib.hid hk
               clear hb hk))
          exact bodyPost_ret (results_cell rfl _ y w.heap.size (.int .i64 0) HB.out size_Rp (by rfl) (by rfl) Try.underlying41) rfl (by
            rw [HE.out.1, HE.out.2, HRD.out]
            exact ⟨rfl, HC.out.2.2.trans (HK.out.below2 (fun k hk => by omega))⟩)
end Go.Proofs.Ytjgmboleiaehaaa

namespace Go.Proofs.Ytjgmboleiaehaaa
open Go.RowKit

/-- All that is not of S is as it was. -/
def Fr (S : Nat → Prop) (w w' : World) : Prop := Keep (fun k => k < w.heap.size ∧ ¬ S k) w w'

theorem Fr.refl (S : Nat → Prop) (w : World) : Fr S w w := Keep.refl _ _
theorem Fr.trans {S S' : Nat → Prop} {w w1 w2 : World} (h : Fr S w w1) (h2 : Fr S' w1 w2) (hS : ∀ k, S' k → S k ∨ w.heap.size ≤ k) : Fr S w w2 :=
  Keep.trans h (h2.mono fun k hk => ⟨Nat.lt_of_lt_of_le hk.1 h.size, fun h' => by rcases hS k h' with h' | h'; exact hk.2 h'; omega⟩)
theorem Fr.of_below {S : Nat → Prop} {w w' : World} (h : Below w.heap.size w w') : Fr S w w' := (Keep.of_below h).mono fun _ hk => hk.1
theorem Fr.mono {S S' : Nat → Prop} {w w' : World} (h : Fr S w w') (hS : ∀ k, S k → S' k) : Fr S' w w' := Keep.mono h fun k hk => ⟨hk.1, fun h' => hk.2 (hS k h')⟩
theorem Fr.below {S : Nat → Prop} {w w' : World} (h : Fr S w w') {B : Nat} (hB : B ≤ w.heap.size) (hS : ∀ k, S k → B ≤ k) : Below B w w' :=
  Keep.below (Keep.mono h fun k hk => ⟨Nat.lt_of_lt_of_le hk hB, fun h' => by have := hS k h'; omega⟩)

theorem BS.keepK {K : Nat → Prop} {w w' : World} {A : Option Addr} {n : Nat} {l : List UInt8} (h : BS w A n l) (hk : Keep K w w') (hA : 0 < n → ∀ ad, A = some ad → K ad.block) : BS w' A n l :=
  ⟨h.1, fun hn => by
    obtain ⟨b, o, e, hc⟩ := h.2 hn
    exact ⟨b, o, e, fun j hj => (World.cell?_of_block (hk.block b (hA hn _ e))).trans (hc j hj)⟩⟩

/-- A slice as it lies in a cell. -/
structure Sl where
  a : Option Addr
  n : Nat
  c : Nat
def Sl.v (x : Sl) : Value := .slice x.a x.n x.c
/-- A slice of writes, of blocks X. -/
def WS (w : World) (X : Nat → Prop) (A : Option Addr) (n : Nat) (l : List (Int × List UInt8)) : Prop :=
  l.length = n ∧ (0 < n → ∃ b o, A = some ⟨b, o, none⟩ ∧ X b ∧ ∀ k (h : k < l.length), ∃ x : Sl, w.cell? ⟨b, o + k * 2, none⟩ = some (.int .i64 l[k].1) ∧ w.cell? ⟨b, o + k * 2 + 1, none⟩ = some (.slice x.a x.n x.c) ∧ BS w x.a x.n l[k].2 ∧ x.n ≤ x.c ∧ (0 < x.n → ∀ ad, x.a = some ad → X ad.block))
section
variable {w w' : World} {X : Nat → Prop} {A : Option Addr} {n : Nat} {l : List (Int × List UInt8)}
theorem WS.nil : WS w X A 0 [] := ⟨rfl, fun h => absurd h (by omega)⟩
theorem WS.keepK (h : WS w X A n l) (hk : Keep X w w') : WS w' X A n l := by
  refine ⟨h.1, fun hn => ?_⟩
  obtain ⟨b, o, e, hX, hc⟩ := h.2 hn
  refine ⟨b, o, e, hX, fun k hk' => ?_⟩
  obtain ⟨x, h1, h2, h3, h4, h5⟩ := hc k hk'
  exact ⟨x, (World.cell?_of_block (a := ⟨b, o + k * 2, none⟩) (hk.block b hX)).trans h1, (World.cell?_of_block (a := ⟨b, o + k * 2 + 1, none⟩) (hk.block b hX)).trans h2, h3.keepK hk h5, h4, h5⟩
theorem WS.fr (h : WS w X A n l) {T : Nat → Prop} (hf : Fr T w w') (hd : ∀ k, X k → k < w.heap.size ∧ ¬ T k) : WS w' X A n l := h.keepK (Keep.mono hf hd)
theorem WS.mono (h : WS w X A n l) {Y : Nat → Prop} (hY : ∀ k, X k → Y k) : WS w Y A n l := by
  refine ⟨h.1, fun hn => ?_⟩
  obtain ⟨b, o, e, hX, hc⟩ := h.2 hn
  refine ⟨b, o, e, hY b hX, fun k hk' => ?_⟩
  obtain ⟨x, h1, h2, h3, h4, h5⟩ := hc k hk'
  exact ⟨x, h1, h2, h3, h4, fun hn ad e => hY _ (h5 hn ad e)⟩
theorem WS.at (h : WS w X A n l) (k : Nat) (hk : k < n) : ∃ b o x, ∃ hl : k < l.length, A = some ⟨b, o, none⟩ ∧ X b ∧ w.cell? ⟨b, o + k * 2, none⟩ = some (.int .i64 l[k].1) ∧ w.cell? ⟨b, o + k * 2 + 1, none⟩ = some (.slice (Sl.a x) x.n x.c) ∧ BS w x.a x.n l[k].2 ∧ x.n ≤ x.c ∧ (0 < x.n → ∀ ad, x.a = some ad → X ad.block) := by
  have hl : k < l.length := by rw [h.1]; exact hk
  obtain ⟨b, o, e, hX, hc⟩ := h.2 (by omega)
  obtain ⟨x, h1, h2, h3, h4, h5⟩ := hc k hl
  exact ⟨b, o, x, hl, e, hX, h1, h2, h3, h4, h5⟩
end

theorem Own.new {w w' : World} {A : Option Addr} {n c : Nat} {l : List UInt8} (h : Own w w' A n c l) : ∀ ad, A = some ad → w.heap.size ≤ ad.block := by
  intro ad e
  rcases h.1.2 with ⟨h1, _⟩ | ⟨g, cap, cur, h1, h2, _⟩
  · injection h1 with h1 _ _
    rw [h1] at e
    cases e
  · injection h1 with h1 _ _
    rw [h1] at e
    cases e
    exact h2
/-- A write as cells. -/
def wv (i : Int) (x : Sl) : List Value := [.int .i64 i, .slice x.a x.n x.c]
theorem size_wr : (Try.prog.info? 104).map (·.size) = some 2 := by kernel_rfl
theorem zero_wr : (Try.prog.info? 104).bind (·.zero) = some (.agg (wv 0 ⟨none, 0, 0⟩).toArray) := by kernel_rfl
theorem wv_one (i : Int) (x : Sl) : (wv i x).toArray.all (·.oneCell') = true := by simp [wv, Value.oneCell']
theorem WS.news {w : World} {b o : Nat} {i : Int} {x : Sl} (h1 : w.cell? ⟨b, o, none⟩ = some (.int .i64 i)) (h2 : w.cell? ⟨b, o + 1, none⟩ = some (.slice x.a x.n x.c)) : ∀ j u, (wv i x)[j]? = some u → w.cell? ((⟨b, o, none⟩ : Addr).add j) = some u := by
  intro j u hu
  rw [add_plain]
  match j with
  | 0 => simp [wv] at hu; subst hu; exact h1
  | 1 => simp [wv] at hu; subst hu; exact h2
  | n + 2 => simp [wv] at hu

/-- The cells of writes. -/
def wcs : List (Nat × List UInt8) → List Sl → List Value
  | x :: l, s :: r => wv x.1 s ++ wcs l r
  | _, _ => []
theorem wcs_len : ∀ (l : List (Nat × List UInt8)) (sl : List Sl), sl.length = l.length → (wcs l sl).length = l.length * 2
  | [], _, _ => by simp [wcs]
  | x :: l, [], h => by simp at h
  | x :: l, s :: r, h => by
    have := wcs_len l r (by simpa using h)
    simp only [wcs, List.length_append, this, List.length_cons]
    simp [wv]
    omega
theorem wcs_snoc : ∀ (l : List (Nat × List UInt8)) (sl : List Sl) (x : Nat × List UInt8) (s : Sl), sl.length = l.length → wcs (l ++ [x]) (sl ++ [s]) = wcs l sl ++ wv x.1 s
  | [], [], x, s, _ => by simp [wcs]
  | [], _ :: _, _, _, h => by simp at h
  | _ :: _, [], _, _, h => by simp at h
  | y :: l, t :: r, x, s, h => by
    simp only [List.cons_append, wcs, wcs_snoc l r x s (by simpa using h), List.append_assoc]
theorem wcs_get : ∀ (l : List (Nat × List UInt8)) (sl : List Sl) (h : sl.length = l.length) (k : Nat) (hk : k < l.length), (wcs l sl)[k * 2]? = some (.int .i64 (l[k].1 : Int)) ∧ (wcs l sl)[k * 2 + 1]? = some (.slice (sl[k]'(by omega)).a (sl[k]'(by omega)).n (sl[k]'(by omega)).c)
  | [], _, _, k, hk => by simp at hk
  | _ :: _, [], h, _, _ => by simp at h
  | x :: l, s :: r, h, k, hk => by
    match k with
    | 0 => simp [wcs, wv]
    | k + 1 =>
      have := wcs_get l r (by simpa using h) k (by simpa using hk)
      simp only [wcs]
      rw [show (k + 1) * 2 = k * 2 + 2 by omega, List.getElem?_append_right (by simp [wv]), List.getElem?_append_right (by simp [wv])]
      simpa [wv] using this
/-- Writes in a row of the call's own. -/
structure WR (W : World) (base : Nat) (A : Option Addr) (c : Nat) (l : List (Nat × List UInt8)) (sl : List Sl) : Prop where
  len : sl.length = l.length
  row : W.ownsRow base 104 2 (.slice A l.length c) l.length (wcs l sl)
  bs : ∀ i (h : i < sl.length), BS W sl[i].a sl[i].n (l[i]'(by rw [← len]; exact h)).2
  cap : ∀ i (h : i < sl.length), sl[i].n ≤ sl[i].c
  own : ∀ i (h : i < sl.length), 0 < sl[i].n → ∀ ad, sl[i].a = some ad → base ≤ ad.block
  off : ∀ i (h : i < sl.length), 0 < sl[i].n → ∀ ad, sl[i].a = some ad → (Value.slice A l.length c).ownBlock ≠ some ad.block
theorem WR.ws {W : World} {base : Nat} {A : Option Addr} {c : Nat} {l : List (Nat × List UInt8)} {sl : List Sl} (h : WR W base A c l sl) : WS W (fun k => base ≤ k) A l.length (l.map fun x => ((x.1 : Int), x.2)) := by
  refine ⟨by simp, fun hn => ?_⟩
  rcases h.row.2 with ⟨h1, h2⟩ | ⟨g, cap, cur, h1, h2, h3, h4, h5, h6, h7⟩
  · omega
  · injection h1 with h1 _ _
    refine ⟨g, 0, h1, h2, fun k hk => ?_⟩
    have hkl : k < l.length := by simpa using hk
    obtain ⟨w1, w2⟩ := wcs_get l sl h.len k hkl
    have cell : ∀ j v, j < l.length * 2 → (wcs l sl)[j]? = some v → W.cell? ⟨g, 0 + j, none⟩ = some v := fun j v hj hv => by
      rw [Nat.zero_add, cell_of_row _ _ _ _ _ _ h3]
      rw [← h7, List.getElem?_take, if_pos hj] at hv
      simpa using hv
    refine ⟨sl[k]'(by rw [h.len]; exact hkl), ?_, ?_, ?_, h.cap k (by rw [h.len]; exact hkl), h.own k (by rw [h.len]; exact hkl)⟩
    · rw [cell _ _ (by omega) w1]
      simp
    · rw [Nat.add_assoc, cell _ _ (by omega) w2]
    · simpa using h.bs k (by rw [h.len]; exact hkl)
theorem WR.nil (W : World) (base : Nat) : WR W base none 0 [] [] := ⟨rfl, World.ownsRow_nil _ _ _ _, fun i h => by simp at h, fun i h => by simp at h, fun i h => by simp at h, fun i h => by simp at h⟩
/-- A row's block is a row of writes; bytes are bytes: whatever else is written leaves them. -/
theorem WR.keep {W W' : World} {base : Nat} {A : Option Addr} {c : Nat} {l : List (Nat × List UInt8)} {sl : List Sl} (h : WR W base A c l sl) (T : Nat → Prop) (hf : Fr T W W') (hT : ∀ k, T k → ∀ cur, W.heap[k]? ≠ some (.cells cur 104 (0, 0))) (hB : ∀ k, T k → ∀ o z, W.cell? ⟨k, o, none⟩ ≠ some (.int .u8 z)) : WR W' base A c l sl := by
  refine ⟨h.len, ⟨h.row.1, ?_⟩, fun i hi => ?_, h.cap, h.own, h.off⟩
  · rcases h.row.2 with h1 | ⟨g, cap, cur, h1, h2, h3, h4⟩
    · exact .inl h1
    · exact .inr ⟨g, cap, cur, h1, h2, (hf.block g ⟨(Array.getElem?_eq_some_iff.1 h3).1, fun hg => hT g hg cur h3⟩).trans h3, h4⟩
  · obtain ⟨b1, b2⟩ := h.bs i hi
    refine ⟨b1, fun hn => ?_⟩
    obtain ⟨b, o, e, hc⟩ := b2 hn
    refine ⟨b, o, e, fun j hj => ?_⟩
    rw [← hc j hj]
    exact World.cell?_of_block (hf.block b ⟨World.block_lt_of_cell? W _ (hc j hj), fun hb => hB b hb _ _ (hc j hj)⟩)

theorem WR.append {w7 w8 : World} {base : Nat} {A A' : Option Addr} {c c' : Nat} {l : List (Nat × List UInt8)} {sl : List Sl} {x : Nat × List UInt8} {s : Sl} (h : WR w7 base A c l sl) (h8 : w8.ownsRow base 104 2 (.slice A' (l.length + 1) c') (l.length + 1) (wcs l sl ++ wv x.1 s)) (hg : w7.grownBy w8 (Value.slice A l.length c).ownBlock)
    (hat : (Value.slice A' (l.length + 1) c').ownBlock = (Value.slice A l.length c).ownBlock ∨ (Value.slice A' (l.length + 1) c').ownBlock = some w7.heap.size) (hb : BS w7 s.a s.n x.2) (hc : s.n ≤ s.c) (hs : 0 < s.n → ∀ ad, s.a = some ad → base ≤ ad.block ∧ (Value.slice A l.length c).ownBlock ≠ some ad.block) : WR w8 base A' c' (l ++ [x]) (sl ++ [s]) := by
  have keepB : ∀ (a : Option Addr) (n : Nat) (b : List UInt8), BS w7 a n b → (0 < n → ∀ ad, a = some ad → (Value.slice A l.length c).ownBlock ≠ some ad.block) → BS w8 a n b := fun a n b hB ho =>
    ⟨hB.1, fun hn => by
      obtain ⟨bb, o, e, hcell⟩ := hB.2 hn
      exact ⟨bb, o, e, fun j hj => (World.cell?_of_block (hg.block bb (World.block_lt_of_cell? w7 _ (hcell j hj)) (fun e' => ho hn _ e e'.symm))).trans (hcell j hj)⟩⟩
  have offB : ∀ (a : Option Addr) (n : Nat) (b : List UInt8), BS w7 a n b → (0 < n → ∀ ad, a = some ad → (Value.slice A l.length c).ownBlock ≠ some ad.block) → (0 < n → ∀ ad, a = some ad → (Value.slice A' (l.length + 1) c').ownBlock ≠ some ad.block) := fun a n b hB ho hn ad e => by
    rcases hat with h1 | h1
    · rw [h1]; exact ho hn ad e
    · rw [h1]
      have := hB.lt_block hn ad e
      simp
      omega
  have hlen : (sl ++ [s]).length = (l ++ [x]).length := by simp [h.len]
  refine ⟨hlen, ?_, fun i hi => ?_, fun i hi => ?_, fun i hi h0 ad e => ?_, fun i hi h0 ad e => ?_⟩
  · rw [List.length_append, wcs_snoc _ _ _ _ h.len]; exact h8
  · by_cases hi' : i < sl.length
    · simp only [List.getElem_append_left hi', List.getElem_append_left (show i < l.length by rw [← h.len]; exact hi')]
      exact keepB _ _ _ (h.bs i hi') (h.off i hi')
    · obtain rfl : i = sl.length := by simp at hi; omega
      have e1 : (sl ++ [s])[sl.length]'hi = s := by simp
      have e2 : ∀ hh, (l ++ [x])[sl.length]'hh = x := by intro hh; simp [h.len]
      rw [e1, e2]
      exact keepB _ _ _ hb fun hn ad e => (hs hn ad e).2
  · by_cases hi' : i < sl.length
    · simp only [List.getElem_append_left hi']; exact h.cap i hi'
    · obtain rfl : i = sl.length := by simp at hi; omega
      have e1 : (sl ++ [s])[sl.length]'hi = s := by simp
      rw [e1]; exact hc
  · by_cases hi' : i < sl.length
    · simp only [List.getElem_append_left hi'] at h0 e; exact h.own i hi' h0 ad e
    · obtain rfl : i = sl.length := by simp at hi; omega
      have e1 : (sl ++ [s])[sl.length]'hi = s := by simp
      rw [e1] at h0 e; exact (hs h0 ad e).1
  · rw [List.length_append]
    show (Value.slice A' (l.length + 1) c').ownBlock ≠ _
    by_cases hi' : i < sl.length
    · simp only [List.getElem_append_left hi'] at h0 e; exact offB _ _ _ (h.bs i hi') (h.off i hi') h0 ad e
    · obtain rfl : i = sl.length := by simp at hi; omega
      have e1 : (sl ++ [s])[sl.length]'hi = s := by simp
      rw [e1] at h0 e; exact offB _ _ _ hb (fun hn ad e => (hs hn ad e).2) h0 ad e
theorem fr_grown {W W' : World} {v : Value} (hg : W.grownBy W' v.ownBlock) : Fr (fun i => v.ownBlock = some i) W W' := ⟨hg.os, hg.tape, hg.output, hg.size, fun i hi => hg.block i hi.1 (fun e => hi.2 e.symm)⟩
theorem WR.below {W W' : World} {base : Nat} {A : Option Addr} {c : Nat} {sl : List Sl} {l : List (Nat × List UInt8)} (h : WR W base A c l sl) (hb : Below W.heap.size W W') : WR W' base A c l sl := h.keep (fun _ => False) (Fr.of_below hb) (fun _ h => h.elim) (fun _ h => h.elim)
theorem WR.place {W : World} {base : Nat} {A : Option Addr} {c : Nat} {sl : List Sl} {l : List (Nat × List UInt8)} (h : WR W base A c l sl) (b : Nat) (e : (Value.slice A l.length c).ownBlock = some b) : base ≤ b ∧ b < W.heap.size := by
  rcases h.row.2 with ⟨h0, _⟩ | ⟨g, cap, cur, h1, h2, h3, h4⟩
  · rw [h0] at e; cases e
  · rw [h1] at e
    obtain rfl : g = b := by simpa [Value.ownBlock] using e
    exact ⟨h2, (Array.getElem?_eq_some_iff.1 h3).1⟩
end Go.Proofs.Ytjgmboleiaehaaa

namespace Go.Proofs.Ytjgmboleiaehaaa

/-- A transaction: the blocks as they were, and what was put. -/
structure TX where
  l : List (List UInt8)
  p : Nat → Option (List UInt8)
namespace TX
def new (l : List (List UInt8)) : TX := ⟨l, fun _ => none⟩
def was (X : TX) (i : Nat) : List UInt8 := X.l.getD i []
def get (X : TX) (i : Nat) : List UInt8 := (X.p i).getD (X.was i)
def put (X : TX) (i : Nat) (b : List UInt8) : TX := { X with p := fun j => if j = i then some b else X.p j }
def take (X Y : TX) : TX := { X with p := Y.p }
/-- Does block i change? -/
def chg (X : TX) (i : Nat) : Bool := decide (X.get i ≠ X.was i)
/-- The changes of the first k blocks. -/
def chs (X : TX) : Nat → List (Nat × List UInt8)
  | 0 => []
  | k + 1 => X.chs k ++ if X.chg k then [(k, X.get k)] else []
theorem chs_yes {X : TX} {k : Nat} (h : X.chg k = true) : X.chs (k + 1) = X.chs k ++ [(k, X.get k)] := by simp [chs, h]
theorem chs_no {X : TX} {k : Nat} (h : X.chg k = false) : X.chs (k + 1) = X.chs k := by simp [chs, h]
theorem chs_len (X : TX) : ∀ k, (X.chs k).length ≤ k
  | 0 => Nat.le_refl _
  | k + 1 => by
    have := chs_len X k
    cases h : X.chg k
    · rw [chs_no h]; omega
    · rw [chs_yes h, List.length_append]; simp; omega
theorem chg_of {X : TX} {i : Nat} {b : List UInt8} (h : X.p i = some b) : X.chg i = decide (b ≠ X.was i) := by simp [chg, get, h]
theorem chg_none {X : TX} {i : Nat} (h : X.p i = none) : X.chg i = false := by simp [chg, get, h]
theorem get_of {X : TX} {i : Nat} {b : List UInt8} (h : X.p i = some b) : X.get i = b := by simp [get, h]
theorem get_none {X : TX} {i : Nat} (h : X.p i = none) : X.get i = X.was i := by simp [get, h]
theorem get_put (X : TX) (i j : Nat) (b : List UInt8) : (X.put i b).get j = if j = i then b else X.get j := by
  unfold get put
  by_cases h : j = i
  · simp [h]
  · simp [h, was]
theorem was_put (X : TX) (i j : Nat) (b : List UInt8) : (X.put i b).was j = X.was j := rfl
theorem get_new (l : List (List UInt8)) (j : Nat) : (new l).get j = (new l).was j := rfl
/-- TwoT of the same blocks that have the same puts are the same. -/
theorem chs_congr {X Y : TX} (h : ∀ i, X.chg i = Y.chg i) (hg : ∀ i, X.get i = Y.get i) : ∀ k, X.chs k = Y.chs k
  | 0 => rfl
  | k + 1 => by simp only [chs, chs_congr h hg k, h k, hg k]
/-- All that changes, as it is told, is at its place. -/
theorem chs_at (X : TX) : ∀ (k : Nat) (j : Nat), j < k → X.chg j = true → (X.chs k)[(X.chs j).length]? = some (j, X.get j)
  | 0, j, h, _ => absurd h (Nat.not_lt_zero _)
  | k + 1, j, h, hc => by
    by_cases e : j = k
    · subst e
      rw [chs_yes hc, List.getElem?_append_right (Nat.le_refl _)]
      simp
    · have ih := chs_at X k j (by omega) hc
      have hl := (List.getElem?_eq_some_iff.1 ih).1
      cases hk : X.chg k
      · rw [chs_no hk]; exact ih
      · rw [chs_yes hk, List.getElem?_append_left hl]; exact ih
end TX
end Go.Proofs.Ytjgmboleiaehaaa

namespace Go.Proofs.Ytjgmboleiaehaaa
open Go.RowKit

/-- As many bytes as a slice that is read may have, at most. -/
def big47 : Nat := 140737488355328
theorem le_big47 {n : Nat} (h : n ≤ 1000000) : n ≤ big47 := by unfold big47; omega
/-- A slice of bytes in a cell, its bytes of S. -/
structure BC (w : World) (S : Nat → Prop) (x : Sl) (l : List UInt8) : Prop where
  bs : BS w x.a x.n l
  few : x.n ≤ big47
  cap : x.n ≤ x.c
  own : 0 < x.n → ∀ ad, x.a = some ad → S ad.block
/-- Such a slice, or none. -/
def OC (w : World) (S : Nat → Prop) : Option Value → Option (List UInt8) → Prop
  | none, none => True
  | some v, some l => ∃ x : Sl, v = x.v ∧ BC w S x l
  | _, _ => False
/-- Block m is a map from numbers to slices of bytes. -/
def PM (w : World) (m : Nat) (S : Nat → Prop) (p : Nat → Option (List UInt8)) : Prop :=
  ∃ es clock, w.heap[m]? = some (.map es clock) ∧ (∀ e ∈ es.toList, ∃ i : Int, e.key = .int .i64 i) ∧ ∀ i : Nat, OC w S (look es.toList (i : Int)) (p i)
/-- A slice that reads as rows of bytes, in a block of slices. -/
def BR (w : World) (S : Nat → Prop) (x : Sl) (l : List (List UInt8)) : Prop :=
  l.length = x.n ∧ x.n ≤ x.c ∧ ∃ g, ∃ rl : List Sl, x.a = some ⟨g, 0, none⟩ ∧ S g ∧ rl.length = l.length ∧ w.heap[g]? = some (.cells (rl.map Sl.v).toArray 38 (0, 0)) ∧ ∀ i (h : i < rl.length), BC w S rl[i] (l.getD i [])
/-- At block p lies a transaction, its map at m, its rows in the slice x, all of S. -/
structure Tq (w : World) (p m : Nat) (x : Sl) (S : Nat → Prop) (X : TX) : Prop where
  cells : w.heap[p]? = some (.cells #[x.v, .map (some m)] 82 (0, 0))
  rows : BR w S x X.l
  puts : PM w m S X.p
  sp : S p
  sm : S m
/-- A block that is a map, or a transaction's two cells. -/
def Dull (w : World) (k : Nat) : Prop := (∃ es c, w.heap[k]? = some (.map es c)) ∨ ∃ (x : Sl) (m : Nat), w.heap[k]? = some (.cells #[x.v, .map (some m)] 82 (0, 0))
/-- Of the old blocks at most those of Q have changed, and those were dull. -/
def Ch (Q : Nat → Prop) (w w' : World) : Prop := Fr Q w w' ∧ ∀ k, Q k → Dull w k

theorem Dull.cell {w : World} {k : Nat} (h : Dull w k) (o : Nat) : w.cell? ⟨k, o, none⟩ = none ∨ (∃ x : Sl, w.cell? ⟨k, o, none⟩ = some x.v) ∨ ∃ m, w.cell? ⟨k, o, none⟩ = some (.map (some m)) := by
  rcases h with ⟨es, c, h⟩ | ⟨x, m, h⟩
  · left; simp [World.cell?, h]
  · rw [cell_of_row _ _ _ _ _ _ h]
    match o with
    | 0 => exact .inr (.inl ⟨x, rfl⟩)
    | 1 => exact .inr (.inr ⟨m, rfl⟩)
    | n + 2 => left; simp
theorem Dull.no_int {w : World} {k : Nat} (h : Dull w k) (o : Nat) (q : IntKind) (z : Int) : w.cell? ⟨k, o, none⟩ ≠ some (.int q z) := by
  rcases h.cell o with e | ⟨x, e⟩ | ⟨m, e⟩ <;> rw [e] <;> simp [Sl.v]
theorem Dull.no_bool {w : World} {k : Nat} (h : Dull w k) (o : Nat) (z : Bool) : w.cell? ⟨k, o, none⟩ ≠ some (.bool z) := by
  rcases h.cell o with e | ⟨x, e⟩ | ⟨m, e⟩ <;> rw [e] <;> simp [Sl.v]
theorem Dull.no_str {w : World} {k : Nat} (h : Dull w k) (o : Nat) (z : ByteArray) : w.cell? ⟨k, o, none⟩ ≠ some (.string z) := by
  rcases h.cell o with e | ⟨x, e⟩ | ⟨m, e⟩ <;> rw [e] <;> simp [Sl.v]
theorem Dull.no_row {w : World} {k : Nat} (h : Dull w k) (cs : Array Value) (t : TypeId) (ht : t ≠ 82) : w.heap[k]? ≠ some (.cells cs t (0, 0)) := by
  rcases h with ⟨es, c, h⟩ | ⟨x, m, h⟩ <;> rw [h] <;> simp
  exact fun _ e => ht e.symm

section
variable {w w' : World} {S T Q : Nat → Prop}
theorem Ch.of_below (h : Below w.heap.size w w') : Ch (fun _ => False) w w' := ⟨Fr.of_below h, fun _ h => h.elim⟩
theorem Ch.below (h : Ch Q w w') {B : Nat} (hB : B ≤ w.heap.size) (hQ : ∀ k, Q k → B ≤ k) : Below B w w' := h.1.below hB hQ
theorem Ch.size (h : Ch Q w w') : w.heap.size ≤ w'.heap.size := h.1.size
theorem BS.ch {A : Option Addr} {n : Nat} {l : List UInt8} (h : BS w A n l) (hc : Ch Q w w') : BS w' A n l :=
  ⟨h.1, fun hn => by
    obtain ⟨b, o, e, hcell⟩ := h.2 hn
    refine ⟨b, o, e, fun j hj => ?_⟩
    rw [← hcell j hj]
    exact World.cell?_of_block (hc.1.block b ⟨World.block_lt_of_cell? w _ (hcell j hj), fun hq => (hc.2 b hq).no_int _ _ _ (hcell j hj)⟩)⟩
theorem BC.ch {x : Sl} {l : List UInt8} (h : BC w S x l) (hc : Ch Q w w') : BC w' S x l := ⟨h.bs.ch hc, h.few, h.cap, h.own⟩
theorem BC.keep {x : Sl} {l : List UInt8} (h : BC w S x l) (hk : ∀ k, S k → k < w.heap.size → w'.heap[k]? = w.heap[k]?) : BC w' S x l :=
  ⟨⟨h.bs.1, fun hn => by
    obtain ⟨b, o, e, hcell⟩ := h.bs.2 hn
    refine ⟨b, o, e, fun j hj => ?_⟩
    rw [← hcell j hj]
    exact World.cell?_of_block (hk b (h.own hn _ e) (World.block_lt_of_cell? w _ (hcell j hj)))⟩, h.few, h.cap, h.own⟩
theorem BC.mono {x : Sl} {l : List UInt8} (h : BC w S x l) (hS : ∀ k, S k → T k) : BC w T x l := ⟨h.bs, h.few, h.cap, fun h0 ad e => hS _ (h.own h0 ad e)⟩
theorem OC.imp {v : Option Value} {l : Option (List UInt8)} (h : OC w S v l) (f : ∀ x b, BC w S x b → BC w' T x b) : OC w' T v l := by
  cases v with
  | none => cases l with
    | none => trivial
    | some b => exact h.elim
  | some v => cases l with
    | none => exact h.elim
    | some b => obtain ⟨x, e, hb⟩ := h; exact ⟨x, e, f x b hb⟩
theorem PM.imp {m : Nat} {p : Nat → Option (List UInt8)} (h : PM w m S p) (hm : w'.heap[m]? = w.heap[m]?) (f : ∀ x b, BC w S x b → BC w' T x b) : PM w' m T p := by
  obtain ⟨es, c, h1, h2, h3⟩ := h
  exact ⟨es, c, hm.trans h1, h2, fun i => (h3 i).imp f⟩
theorem PM.lt {m : Nat} {p : Nat → Option (List UInt8)} (h : PM w m S p) : m < w.heap.size := by
  obtain ⟨es, c, h1, _⟩ := h
  exact (Array.getElem?_eq_some_iff.1 h1).1
theorem PM.dull {m : Nat} {p : Nat → Option (List UInt8)} (h : PM w m S p) : Dull w m := by
  obtain ⟨es, c, h1, _⟩ := h
  exact .inl ⟨es, c, h1⟩
theorem BR.imp {x : Sl} {l : List (List UInt8)} (h : BR w S x l) (hS : ∀ k, S k → T k) (hg : ∀ g cs, S g → w.heap[g]? = some (.cells cs 38 (0, 0)) → w'.heap[g]? = w.heap[g]?) (f : ∀ x b, BC w S x b → BC w' T x b) : BR w' T x l := by
  obtain ⟨h1, h2, g, rl, h3, h4, h5, h6, h7⟩ := h
  exact ⟨h1, h2, g, rl, h3, hS g h4, h5, (hg g _ h4 h6).trans h6, fun i hi => f _ _ (h7 i hi)⟩
variable {p m : Nat} {x : Sl} {X : TX}
theorem Tq.plt (h : Tq w p m x S X) : p < w.heap.size := (Array.getElem?_eq_some_iff.1 h.cells).1
theorem Tq.mlt (h : Tq w p m x S X) : m < w.heap.size := h.puts.lt
theorem Tq.ne (h : Tq w p m x S X) : m ≠ p := by
  rintro rfl
  obtain ⟨es, c, h1, _⟩ := h.puts
  rw [h.cells] at h1
  simp at h1
theorem Tq.dull (h : Tq w p m x S X) : Dull w p := .inr ⟨x, m, h.cells⟩
theorem Tq.ch (h : Tq w p m x S X) (hc : Ch Q w w') (hp : ¬ Q p) (hm : ¬ Q m) : Tq w' p m x S X :=
  ⟨(hc.1.block p ⟨h.plt, hp⟩).trans h.cells, h.rows.imp (fun _ h => h) (fun g cs _ hg => hc.1.block g ⟨(Array.getElem?_eq_some_iff.1 hg).1, fun hq => (hc.2 g hq).no_row cs _ (by decide) hg⟩) (fun _ _ hb => hb.ch hc),
    h.puts.imp (hc.1.block m ⟨h.mlt, hm⟩) fun _ _ hb => hb.ch hc, h.sp, h.sm⟩
theorem Tq.keep (h : Tq w p m x S X) (hk : ∀ k, S k → k < w.heap.size → w'.heap[k]? = w.heap[k]?) : Tq w' p m x S X :=
  ⟨(hk p h.sp h.plt).trans h.cells, h.rows.imp (fun _ h => h) (fun g _ hs hg => hk g hs (Array.getElem?_eq_some_iff.1 hg).1) (fun _ _ hb => hb.keep hk), h.puts.imp (hk m h.sm h.mlt) fun _ _ hb => hb.keep hk, h.sp, h.sm⟩
theorem Tq.below (h : Tq w p m x S X) (hb : Below w.heap.size w w') : Tq w' p m x S X := h.keep fun k _ hk => hb.block k hk
theorem Tq.drew (h : Tq w p m x S X) : Tq w.drew p m x S X := h.below (Below.refl _ _).drew
theorem Tq.drewN (h : Tq w p m x S X) (n : Nat) : Tq (w.drewN n) p m x S X := h.keep fun _ _ _ => rfl
theorem Tq.mono (h : Tq w p m x S X) (hS : ∀ k, S k → T k) : Tq w p m x T X :=
  ⟨h.cells, h.rows.imp hS (fun _ _ _ _ => rfl) (fun _ _ hb => hb.mono hS), h.puts.imp rfl fun _ _ hb => hb.mono hS, hS _ h.sp, hS _ h.sm⟩
theorem Tq.c0 (h : Tq w p m x S X) : w.cell? ⟨p, 0, none⟩ = some (.slice x.a x.n x.c) := by rw [cell_of_row _ _ _ _ _ _ h.cells]; rfl
theorem Tq.c1 (h : Tq w p m x S X) : w.cell? ⟨p, 1, none⟩ = some (.map (some m)) := by rw [cell_of_row _ _ _ _ _ _ h.cells]; rfl
theorem Tq.froz (h : Tq w p m x S X) (k : Nat) : w.frozen? ⟨p, k, none⟩ = false := by simp [World.frozen?, h.cells]
theorem Tq.len (h : Tq w p m x S X) : X.l.length = x.n := h.rows.1
/-- Row i. -/
theorem BR.at {l : List (List UInt8)} (h : BR w S x l) {i : Nat} (hi : i < x.n) : ∃ g y, x.a = some ⟨g, 0, none⟩ ∧ w.cell? ⟨g, i, none⟩ = some (.slice (Sl.a y) y.n y.c) ∧ BC w S y (l.getD i []) := by
  obtain ⟨h1, h2, g, rl, h3, h4, h5, h6, h7⟩ := h
  have hr : i < rl.length := by omega
  exact ⟨g, rl[i], h3, by rw [cell_of_row _ _ _ _ _ _ h6]; simp [hr, Sl.v], h7 i hr⟩
end
end Go.Proofs.Ytjgmboleiaehaaa

namespace Go.Proofs.Ytjgmboleiaehaaa
open Go.RowKit

/-- A row of the call's own may be written. -/
theorem Own.soft {w w' : World} {A : Option Addr} {n c : Nat} {l : List UInt8} (h : Own w w' A n c l) : ∀ ad, A = some ad → ∀ j, w'.frozen? ⟨ad.block, j, none⟩ = false := by
  intro ad e j
  rcases h.1.2 with ⟨h1, _⟩ | ⟨g, cap, cur, h1, _, h3, _⟩
  · injection h1 with h1 _ _
    rw [h1] at e
    cases e
  · injection h1 with h1 _ _
    rw [h1] at e
    cases e
    simp [World.frozen?, h3]
theorem clone_big (A : Option Addr) (n c : Nat) (l : List UInt8) (w : World) (h : BS w A n l) (hn : n ≤ big47) :
    Calls Try.prog 27 #[.slice A n c] w fun e w' => ∃ A' c', e = .returned (.slice A' n c') ∧ BS w' A' n l ∧ n ≤ c' ∧ (∀ ad, A' = some ad → w.heap.size ≤ ad.block) ∧ Below w.heap.size w w' ∧ (∀ ad, A' = some ad → ∀ j, w'.frozen? ⟨ad.block, j, none⟩ = false) := by
  rcases A with _ | ad
  · have h0 : n = 0 := by
      rcases Nat.eq_zero_or_pos n with h0 | h0
      · exact h0
      · obtain ⟨b, o, h, _⟩ := h.2 h0
        cases h
    subst h0
    obtain rfl : l = [] := List.eq_nil_of_length_eq_zero h.1
    refine (Try.bytes_Clone_nil 0 c w).mono ?_
    rintro e w' ⟨rfl, rfl⟩
    exact ⟨none, 0, rfl, BS.nil, Nat.le_refl _, fun ad e => by (cases e), Below.refl _ _, fun ad e => by (cases e)⟩
  · have hl := h.1
    refine (Try.bytes_Clone_at ad n c (l.map fun b => (b.toNat : Int)) w (by simpa using hl) (by exact hn) (fun i hi => ?_)).mono ?_
    · rw [h.news rfl i (.int .u8 ((l[i]'(by omega)).toNat : Int)) (bc_get l i (by omega))]
      simp [hl, hi]
    · rintro e w' ⟨v, rfl, ho, _, hb⟩
      have e1 : ((l.map fun b => (b.toNat : Int)).map (Value.int .u8)) = bc l := by simp [bc]
      rw [e1] at ho
      have hv : ∃ A' c', v = .slice A' n c' := by
        rcases ho.2 with ⟨h6, h7⟩ | ⟨g, cap, cur, h6, _⟩
        · exact ⟨none, 0, by rw [h6, h7]⟩
        · exact ⟨_, _, h6⟩
      obtain ⟨A', c', rfl⟩ := hv
      have hO : Own w w' A' n c' l := ⟨ho, hb⟩
      exact ⟨A', c', rfl, hO.bs, hO.cap, hO.new, hb, hO.soft⟩

set_option maxRecDepth 100000 in
set_option maxHeartbeats 1000000 in
theorem equal_any (A B : Option Addr) (n m c d : Nat) (k l : List UInt8) (w : World) (h : BS w A n k) (g : BS w B m l) :
    Calls Try.prog 41 #[.slice A n c, .slice B m d] w fun e w' => e = .returned (.bool (decide (k = l))) ∧ w' = w := by
  have v1 := run_convert_bs w A n c k h
  have v2 := run_convert_bs w B m d l g
  have e : ((txt k).toList == (txt l).toList) = decide (k = l) := by
    by_cases hk : k = l
    · subst hk; simp
    · have : ¬ (txt k).toList = (txt l).toList := by rw [txt_toList, txt_toList]; exact hk
      simp [hk, this]
  clear h g
  go_enter Try.func41, Try.ntmps41
  go_wp2
  go_ret
  exact ⟨by rw [← e]; rfl, rfl⟩

end Go.Proofs.Ytjgmboleiaehaaa
