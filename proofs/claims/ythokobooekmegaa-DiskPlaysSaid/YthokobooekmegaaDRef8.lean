/-
  The document's answers for layer 3, continued: New that goes.
-/
import Derived.Test.YthokobooekmegaaDRef7
namespace Go.Proofs.Ythokobooekmegaa
open Go.RowKit

theorem own_off {w : World} {base n sz : Nat} {e : TypeId} {v : Value} {xs : List Value} (h : w.ownsRow base e sz v n xs) {p : Addr} (hp : p.block < base) (u : Value) : (w.setCell p u).ownsRow base e sz v n xs := by
  refine ⟨h.1, ?_⟩
  rcases h.2 with hn | ⟨g, cap, cur, hv, hb, hg, rest⟩
  · exact .inl hn
  · exact .inr ⟨g, cap, cur, hv, hb, (Below.heap_setCell w p u g (by omega)).trans hg, rest⟩
theorem own_ne {w : World} {base n sz : Nat} {e : TypeId} {v : Value} {xs : List Value} (h : w.ownsRow base e sz v n xs) {x : Nat} (hx : x < base) : some x ≠ v.ownBlock := by
  rcases h.2 with ⟨rfl, _⟩ | ⟨g, cap, cur, rfl, hb, _⟩
  · simp [Value.ownBlock]
  · intro e'
    have : x = g := by simpa [Value.ownBlock] using e'
    omega
theorem tc_succ (k : Nat) (f : Nat → List UInt8) : tc k f ++ [.string (txt (f k))] = tc (k + 1) f := by simp [tc, List.range_succ]

/-- The new state while its sectors come. -/
def Grow (w : World) (k : Nat) (A : Option Addr) (c : Nat) (W : World) : Prop :=
  W.heap[w.heap.size + 1]? = some (.cells #[.slice A k c, .slice none 0 0, .int .i64 (-1), .bool false] 31 (0, 0)) ∧
  W.heap[w.heap.size]? = some (.cells #[.slice none 0 0, .slice none 0 0, .int .i64 0, .bool false] 31 (0, 0)) ∧
  Below w.heap.size w W ∧ W.ownsRow (w.heap.size + 2) 9 1 (.slice A k c) k (tc k fun _ => zs) ∧ w.heap.size + 2 ≤ W.heap.size
theorem Grow.drew {w W : World} {k c : Nat} {A : Option Addr} (h : Grow w k A c W) : Grow w k A c W.drew := ⟨h.1, h.2.1, h.2.2.1.drew, h.2.2.2.1.drew, h.2.2.2.2⟩
theorem Grow.cells {w W : World} {k c : Nat} {A : Option Addr} (h : Grow w k A c W) : W.cell? ⟨w.heap.size + 1, 0, none⟩ = some (.slice A k c) ∧ W.frozen? ⟨w.heap.size + 1, 0, none⟩ = false :=
  ⟨by rw [cell_of_row _ _ _ _ _ _ h.1]; rfl, by simp [World.frozen?, h.1]⟩
theorem Grow.one {w W : World} {k c : Nat} {A : Option Addr} (h : Grow w k A c W) {o : Obj} : Grow w k A c (W.alloc o) := by
  obtain ⟨h1, h2, h3, h4, h5⟩ := h
  refine ⟨(Below.heap_alloc _ _ _ (by omega)).trans h1, (Below.heap_alloc _ _ _ (by omega)).trans h2, h3.alloc (by omega) _, h4.alloc _, by simp; omega⟩
theorem Grow.step {w W W5 : World} {k c g cap : Nat} {A : Option Addr} (h : Grow w k A c W) (hg : W.grownBy W5 (Value.slice A k c).ownBlock) (ho : W5.ownsRow (w.heap.size + 2) 9 1 (.slice (some ⟨g, 0, none⟩) (k + 1) cap) (k + 1) (tc k (fun _ => zs) ++ [.string (txt zs)])) :
    (W5.cell? ⟨w.heap.size + 1, 0, none⟩ = some (.slice A k c) ∧ W5.frozen? ⟨w.heap.size + 1, 0, none⟩ = false) ∧ Grow w (k + 1) (some ⟨g, 0, none⟩) cap (W5.setCell ⟨w.heap.size + 1, 0, none⟩ (.slice (some ⟨g, 0, none⟩) (k + 1) cap)) := by
  obtain ⟨h1, h2, h3, h4, h5⟩ := h
  have hx1 := (hg.block _ (by omega) (own_ne h4 (by omega))).trans h1
  have hx2 := (hg.block _ (by omega) (own_ne h4 (by omega))).trans h2
  have hb : Below w.heap.size W W5 := ⟨hg.os, hg.tape, hg.output, hg.size, fun x hx => hg.block x (by omega) (own_ne h4 (by omega))⟩
  refine ⟨⟨by rw [cell_of_row _ _ _ _ _ _ hx1]; rfl, by simp [World.frozen?, hx1]⟩, ?_, ?_, (h3.trans hb).setCell (p := ⟨w.heap.size + 1, 0, none⟩) (by simp) _, ?_, ?_⟩
  · rw [setCell_eq_setRow _ _ _ _ _ _ _ hx1]
    exact setRow_heap _ _ _ _ _ _ hx1
  · exact (Below.heap_setCell W5 ⟨w.heap.size + 1, 0, none⟩ _ w.heap.size (by simp)).trans hx2
  · rw [← tc_succ]
    exact own_off ho (by simp) _
  · have := hg.size
    simp; omega

set_option maxRecDepth 100000 in
set_option maxHeartbeats 2000000 in
theorem newR_any (n : Nat) (w : World) (h1 : 1 ≤ n) (h2 : n ≤ 65536) : Calls Try.prog 12 #[.int .i64 (n : Int)] w fun e w' =>
    ∃ A c, e = .returned (.tuple #[dv A c none 0 (DS.new n), .int .i64 0]) ∧ RefD w' A none 0 (DS.new n) ∧ Below w.heap.size w w' ∧ (∀ ad, A = some ad → w.heap.size ≤ ad.block) := by
  obtain ⟨i0, hi0, hz0, hz1, hz2⟩ := info_parts info_str
  have HI0 := Lib.hid hi0
  have HZ0 := Lib.hid hz0
  have HZ1 := Lib.hid hz1
  have HZ2 := Lib.hid hz2
  clear hi0 hz0 hz1 hz2
  obtain ⟨q1, q2, q3⟩ := two_D (w := w) (a := .slice none 0 0) (b := .slice none 0 0) (c := .int .i64 0) (d := .bool false) (Below.refl _ _)
  have H1 := Lib.hid q1
  have H2 := Lib.hid q2
  have H3 := Lib.hid q3
  clear q1 q2 q3
  have hh1 : ¬ (n : Int) < 1 := by omega
  have hh2 : ¬ 65536 < (n : Int) := by omega
  go_enter Try.func12, Try.ntmps12
  go_wp2_with (refine wpList_store_any rfl 31 (.tmp 4) (.tmp 13) rfl (w.heap.size + 1) #[.slice none 0 0, .slice none 0 0, .int .i64 (-1), .bool false] rfl rfl 31 _ H2.out size_D rfl (all_D _ _ _ _ _ _ _ _) ?_
               intro w3 hb3 hs3 hw3
               have HH : Hid (Grow w 0 none 0 w3) := ⟨hb3, (hw3.block w.heap.size (by simp)).trans H1.out, H3.out.trans (Keep.below (hw3.mono fun k hk => by omega)), World.ownsRow_nil _ _ _ _, by rw [hs3]; simp⟩
               clear hb3 hs3 hw3)
  go_loopw [5] (fun i wr => ∃ k : Nat, k ≤ n ∧ i = .int .i64 k ∧ ∃ A c, Hid (Grow w k A c wr)) (fun i _ => n - (intOf i).toNat)
  case atStart => exact ⟨0, by omega, rfl, none, 0, HH⟩
  case round =>
    clear HH
    obtain ⟨k, hk, rfl, A, c, HH⟩ := hrel
    by_cases hlt : k < n
    · go_wp2_with fail
      have HG0 := Lib.hid HH.out.drew
      have HG1 : Hid (Grow w k A c (wr.drew.alloc (.cells (bc (List.replicate 128 0)).toArray 5))) := HG0.out.one
      have HG2 : Hid (Grow w k A c ((wr.drew.alloc (.cells (bc (List.replicate 128 0)).toArray 5)).alloc (.cells #[.string (txt zs)] 9))) := HG1.out.one
      have HBS : Hid (BS (wr.drew.alloc (.cells (bc (List.replicate 128 0)).toArray 5)) (some ⟨wr.drew.heap.size, 0, none⟩) 128 zs) := block_BS (heap_alloc_new wr.drew _) zs_len
      have HNB : Hid (((wr.drew.alloc (.cells (bc (List.replicate 128 0)).toArray 5)).alloc (.cells #[.string (txt zs)] 9)).heap[wr.drew.heap.size + 1]? = some (.cells #[.string (txt zs)] 9 (0, 0))) := by
        have := heap_alloc_new (wr.drew.alloc (.cells (bc (List.replicate 128 0)).toArray 5)) (.cells #[.string (txt zs)] 9)
        rw [World.size_alloc] at this
        exact this
      generalize hW3 : (wr.drew.alloc (.cells (bc (List.replicate 128 0)).toArray 5)).alloc (.cells #[.string (txt zs)] 9) = W3 at HG2 HNB
      refine wp_region_any (by kernel_rfl) ?_
      change wpAny _ _ _ _ _ _ _ (World.drew _)
      refine wpAny_takeTo (i := 0) 19 (.pointer (some ⟨w.heap.size + 1, 0, none⟩)) rfl rfl (by kernel_rfl) (by kernel_rfl) (by kernel_rfl) (fun _ _ _ h => h) (Or.inl ⟨by rfl, fun w => by go_simp⟩) ?_
      refine wpAny_fourTo 20 21 22 23 (i := 1) (j := 2) (k := 3) (l := 4) (fuel := 3) (vi := .slice A k c) (vj := .slice (some ⟨wr.drew.heap.size, 0, none⟩) 128 128) (vk := .string (txt zs)) (vl := .slice (some ⟨wr.drew.heap.size + 1, 0, none⟩) 1 1)
        (w1 := wr.drew.alloc (.cells (bc (List.replicate 128 0)).toArray 5)) (w2 := wr.drew.alloc (.cells (bc (List.replicate 128 0)).toArray 5)) (w3 := W3)
        rfl rfl rfl rfl rfl rfl rfl rfl rfl rfl rfl rfl ?r0 ?ri ?rij ?rijk ?rj ?rjk ?rjkl (by decide) (by decide) (by decide) (by decide) (by decide) (by decide) ?d0 ?d1 ?d2 ?d3 ?j0 ?j1 ?k0 ?k1 ?l0 ?l1 ?_
      case r0 => kernel_rfl
      case ri => kernel_rfl
      case rij => kernel_rfl
      case rijk => kernel_rfl
      case rj => kernel_rfl
      case rjk => kernel_rfl
      case rjkl => kernel_rfl
      case d0 => exact did_load_one 28 (.tmp 19) rfl ⟨w.heap.size + 1, 0, none⟩ (by kernel_rfl) (by kernel_rfl) HG0.out.cells.1
      case d1 => exact did_load_one 28 (.tmp 19) rfl ⟨w.heap.size + 1, 0, none⟩ (by kernel_rfl) (by kernel_rfl) HG1.out.cells.1
      case d2 => exact did_load_one 28 (.tmp 19) rfl ⟨w.heap.size + 1, 0, none⟩ (by kernel_rfl) (by kernel_rfl) HG1.out.cells.1
      case d3 => exact did_load_one 28 (.tmp 19) rfl ⟨w.heap.size + 1, 0, none⟩ (by kernel_rfl) (by kernel_rfl) HG2.out.cells.1
      case j0 => exact did_make_bytes _ _ rfl 128 rfl rfl (by omega)
      case j1 => exact did_make_bytes _ _ rfl 128 rfl rfl (by omega)
      case k0 => exact did_text (.tmp 21) rfl (some ⟨wr.drew.heap.size, 0, none⟩) 128 128 zs (by kernel_rfl) HBS.out
      case k1 => exact did_text (.tmp 21) rfl (some ⟨wr.drew.heap.size, 0, none⟩) 128 128 zs (by kernel_rfl) HBS.out
      case l0 => rw [← hW3]; left; go_simp
      case l1 => rw [← hW3]; left; go_simp
      clear hW3
      refine wpAny_tail (k := 5) (by kernel_rfl) (by kernel_rfl) ?_
      simp only [List.drop_succ_cons, List.drop_zero]
      go_frame
      go_wp2_with (at_builtin
                   refine wpList_append_lies _ rfl (.tmp 20) (.tmp 23) 28 rfl (w.heap.size + 2) 9 i0 _ 1 16 Try.underlying28 HI0.out HZ0.out HZ1.out HZ2.out rfl (by omega) (.slice A k c) k (tc k fun _ => zs) rfl HG2.out.2.2.2.1 ⟨wr.drew.heap.size + 1, 0, none⟩ 1 1 [.string (txt zs)] rfl rfl (World.news_of_block (HNB.out)) (by simp [Value.oneCell']) (by omega) (by unfold maxLen; omega) (by omega) HG2.out.2.2.2.2 _ rfl ?_
                   intro g cap w5 ho5 hg5 hat5 hlt5
                   obtain ⟨⟨c5, f5⟩, hs5⟩ := HG2.out.step hg5 ho5
                   have HS5 := Lib.hid hs5
                   clear ho5 hg5 hat5 hlt5 hs5)
      go_roundw
      case rel => exact ⟨k + 1, by omega, by go_num, _, _, HS5⟩
      case measure => simp [intOf]; omega
    · obtain rfl : k = n := by omega
      go_wp2_with (first
        | (refine wpList_load_row rfl 31 (.tmp 4) rfl (w.heap.size + 1) rfl 31 #[.slice A k c, .slice none 0 0, .int .i64 (-1), .bool false] (0, 0) _ HH.out.1 Try.underlying31 rfl size_D ?_)
        | (refine wpList_store_any rfl 31 (.tmp 2) (.tmp 26) rfl w.heap.size #[.slice A k c, .slice none 0 0, .int .i64 (-1), .bool false] rfl rfl 31 _ HH.out.2.1 size_D rfl (all_D _ _ _ _ _ _ _ _) ?_
           intro w7 hb7 hs7 hw7
           have HB7 := Lib.hid hb7
           have HW7 := Lib.hid hw7
           clear hb7 hs7 hw7))
      refine bodyPost_ret (results_D rfl _ w7 w.heap.size _ _ _ _ _ (by rfl) (by rfl) HB7.out) rfl ⟨A, c, rfl, ⟨?_, ⟨fun _ => ⟨rfl, rfl⟩, fun h => absurd h (by show ¬ 0 < ([] : List (Int × List UInt8)).length; simp)⟩⟩, HH.out.2.2.1.trans (Keep.below (HW7.out.mono fun k hk => by omega)), fun ad e => ?_⟩
      rotate_left
      · rcases HH.out.2.2.2.1.2 with ⟨h0, _⟩ | ⟨g, cap, cur, e2, hg, _⟩
        · rw [e] at h0; cases h0
        · rw [e] at e2
          have : ad = ⟨g, 0, none⟩ ∧ c = cap := by simpa using e2
          rw [this.1]
          show w.heap.size ≤ g
          omega
      intro hn0
      rcases HH.out.2.2.2.1.2 with ⟨_, h0⟩ | ⟨g, cap, cur, e, hg, _⟩
      · exact absurd h0 (by omega)
      · simp only [Value.slice.injEq, true_and] at e
        obtain ⟨rfl, rfl⟩ := e
        refine (TS.of_own HH.out.2.2.2.1).fr (S := fun k => k = w.heap.size) (HW7.out.mono fun k hk => hk.2) (fun ad e h => ?_) hn0
        cases e
        have h' : g = w.heap.size := h
        omega
end Go.Proofs.Ythokobooekmegaa
