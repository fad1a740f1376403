/-
  The document's Put (layer 10).
-/
import Derived.Test.YtnjkcodegcojcaaTRef
namespace Go.Proofs.Ytnjkcodegcojcaa
open Go.RowKit

theorem wasL_put (X : TX) {n k : Nat} (b : List UInt8) : (wasL X n).set k b = wasL (X.put k b) n := by
  apply List.ext_getElem
  · simp [wasL]
  · intro j h1 h2
    have hj : j < n := by simpa [wasL] using h2
    rw [List.getElem_set]
    by_cases e : k = j
    · subst e
      rw [if_pos rfl]
      simp [wasL, TX.get_put]
    · rw [if_neg e]
      have e' : ¬ j = k := fun h => e h.symm
      simp [wasL, TX.get_put, e']
/-- One text of a row of the call's own is another one. -/
theorem SR.set {W : World} {base c g : Nat} {l : List (List UInt8)} (h : SR W base (some ⟨g, 0, none⟩) c l) {k : Nat} (b : List UInt8) : TS (W.setCell ⟨g, k, none⟩ (.string (txt b))) (some ⟨g, 0, none⟩) l.length (l.set k b) := by
  refine ⟨by simp, fun hn => ⟨g, 0, rfl, fun j hj => ?_⟩⟩
  rw [Nat.zero_add]
  rcases h.2 with ⟨h1, _⟩ | ⟨g', cap, cur, h1, h2, h3, _⟩
  · cases h1
  · injection h1 with h1
    cases h1
    have hjl : j < l.length := by simpa using hj
    obtain ⟨_, e, _, hc⟩ := h.at hjl
    cases e
    rw [setCell_eq_setRow W g k _ _ _ _ h3, cell_of_row _ _ _ _ _ _ (setRow_heap W g _ _ _ _ h3)]
    rw [cell_of_row _ _ _ _ _ _ h3] at hc
    by_cases e : k = j
    · subst e
      have hs := (Array.getElem?_eq_some_iff.1 hc).1
      simp [hs]
    · simp only [List.getElem_set_ne e]
      rw [Array.getElem?_setIfInBounds_ne e]
      exact hc
theorem SR.froz {W : World} {base c : Nat} {A : Option Addr} {l : List (List UInt8)} (h : SR W base A c l) {g : Nat} (e : A = some ⟨g, 0, none⟩) (k : Nat) : W.frozen? ⟨g, k, none⟩ = false := by
  rcases h.2 with ⟨h1, _⟩ | ⟨g', cap, cur, h1, h2, h3, _⟩
  · rw [e] at h1; cases h1
  · injection h1 with h1
    rw [e] at h1
    cases h1
    simp [World.frozen?, h3]
theorem ownsRow_pos {w : World} {base : Nat} {e : TypeId} {s : Nat} {v : Value} {n : Nat} {cells : List Value} (h : w.ownsRow base e s v n cells) (hn : 0 < n) : ∃ g cap, v = .slice (some ⟨g, 0, none⟩) n cap := by
  rcases h.2 with ⟨_, h0⟩ | ⟨g, cap, _, h1, _⟩
  · omega
  · exact ⟨g, cap, h1⟩
/-- Behind the document's Put. -/
def RPutQ (w : World) (n : Nat) (x : Sl) (X : TX) (r : Int) (e : Ending) (w' : World) : Prop := ∃ y : Sl, e = .returned (.tuple #[TV x y, .int .i64 r]) ∧ RT w' n x y X ∧ Below w.heap.size w w'
set_option maxRecDepth 100000 in
set_option maxHeartbeats 1000000 in
theorem refPut_any {n : Nat} {x y : Sl} {X : TX} {w : World} (h : RT w n x y X) (i : Int) (b : List UInt8) (hn : n ≤ 1000) :
    Calls Try.prog 13 #[TV x y, .int .i64 i, .string (txt b)] w (RPutQ w n x (X.putI n i b) (TX.perr n i b)) := by
  unfold TV
  have hyn := h.yn
  have HT := Lib.hid h
  have HBB : Hid (Below w.heap.size w ((w.alloc (.cells #[.slice x.a x.n x.c, .slice y.a y.n y.c] 31)).alloc (.cells #[.slice x.a x.n x.c, .slice y.a y.n y.c] 31))) := ((Below.refl _ _).alloc (Nat.le_refl _) _).alloc (by rw [World.size_alloc]; omega) _
  cases hh : hasB n i with
  | false =>
    have HE : Hid (TX.perr n i b = 15 ∧ X.putI n i b = X) := by refine ⟨?_, ?_⟩ <;> simp [TX.perr, TX.putI, TX.mayPut, hh]
    by_cases h0 : i < 0
    · clear h hyn hh
      go_enter Try.func13, Try.ntmps13
      go_wp2
      refine bodyPost_ret (v := .tuple #[TV x y, .int .i64 15]) (by simp [TV, results, Try.results13, go_sem]) rfl ?_
      show RPutQ _ _ _ _ _ _ _
      rw [HE.out.1, HE.out.2]
      exact ⟨y, rfl, HT.out.below HBB.out, HBB.out⟩
    · have h1 : (y.n : Int) ≤ i := by
        simp only [hasB, Bool.and_eq_false_iff, decide_eq_false_iff_not] at hh
        omega
      clear h hyn hh
      go_enter Try.func13, Try.ntmps13
      go_wp2
      refine bodyPost_ret (v := .tuple #[TV x y, .int .i64 15]) (by simp [TV, results, Try.results13, go_sem]) rfl ?_
      show RPutQ _ _ _ _ _ _ _
      rw [HE.out.1, HE.out.2]
      exact ⟨y, rfl, HT.out.below HBB.out, HBB.out⟩
  | true =>
    have hh2 := hh
    simp only [hasB, Bool.and_eq_true, decide_eq_true_eq] at hh2
    obtain ⟨k, rfl⟩ := Int.eq_ofNat_of_zero_le hh2.1
    have hk : k < n := by omega
    have hky : (k : Int) < (y.n : Int) := by omega
    have d1 : decide (y.n ≤ k) = false := by simp; omega
    have hs := txt_size b
    by_cases hb : b.length ≤ 96
    · have HE : Hid (TX.perr n (k : Int) b = 0 ∧ X.putI n (k : Int) b = X.put k b) := by refine ⟨?_, ?_⟩ <;> simp [TX.perr, TX.putI, TX.mayPut, hh, hb]
      have d2 : decide ((96 : Int) < ((txt b).size : Int)) = false := by rw [hs]; simp; omega
      obtain ⟨bb, o, hya, hj, hc⟩ := h.now.at hk
      obtain ⟨i0, hi0, hz0, hz1, hz2⟩ := info_parts info_str
      have HI0 := Lib.hid hi0
      have HZ0 := Lib.hid hz0
      have HZ1 := Lib.hid hz1
      have HZ2 := Lib.hid hz2
      clear h hh hh2 hj hc hi0 hz0 hz1 hz2 hs
      obtain ⟨ya, yn, yc⟩ := y
      dsimp only at *
      subst hya
      subst hyn
      go_enter Try.func13, Try.ntmps13
      have HNW : Hid (∀ j u, (sc (wasL X yn))[j]? = some u → ((w.alloc (.cells #[.slice x.a x.n x.c, .slice (some ⟨bb, o, none⟩) yn yc] 31)).alloc (.cells #[.slice none 0 0, .slice none 0 0] 31)).cell? ((⟨bb, o, none⟩ : Addr).add j) = some u) :=
        (HT.out.now.below (((Below.refl _ _).alloc (Nat.le_refl _) _).alloc (by rw [World.size_alloc]; omega) _)).news rfl
      go_wp2_with (first
                | (at_builtin
                   go_must (refine wpList_append_own_at _ rfl (.tmp 23) (.tmp 25) 29 rfl w.heap.size 9 i0 _ 1 16 Try.underlying29 HI0.out HZ0.out HZ1.out HZ2.out rfl (by omega) (.slice none 0 0) 0 [] rfl (World.ownsRow_nil _ _ _ _) ⟨bb, o, none⟩ yn yc (sc (wasL X yn)) rfl (by rw [sc_length, wasL_len]; omega) HNW.out (by intro u hu; simp only [sc, List.mem_map] at hu; obtain ⟨_, _, rfl⟩ := hu; rfl) (by unfold maxLen; omega) (by omega) (by simp only [World.size_alloc]; omega) ?_)
                   intro v' w8 hown' hgrow _ hat
                   rw [Nat.zero_add, List.nil_append] at hown'
                   obtain ⟨g', cap', rfl⟩ := ownsRow_pos hown' (by omega)
                   have HG : Hid (g' = w.heap.size + 2) := by
                     rcases hat with h1 | h1
                     · simp [Value.ownBlock] at h1
                     · have : g' = ((w.alloc (.cells #[.slice x.a x.n x.c, .slice (some ⟨bb, o, none⟩) yn yc] 31)).alloc (.cells #[.slice none 0 0, .slice none 0 0] 31)).heap.size := by simpa [Value.ownBlock] using h1
                       show _ = _
                       rw [this]
                       simp only [World.size_alloc]
                   have HB8 : Hid (Below (w.heap.size + 2) ((w.alloc (.cells #[.slice x.a x.n x.c, .slice (some ⟨bb, o, none⟩) yn yc] 31)).alloc (.cells #[.slice none 0 0, .slice none 0 0] 31)) w8) := ⟨hgrow.os, hgrow.tape, hgrow.output, hgrow.size, fun z hz => hgrow.block z (by simp only [World.size_alloc]; omega) (by simp [Value.ownBlock])⟩
                   have HSR : Hid (SR w8 w.heap.size (some ⟨g', 0, none⟩) cap' (wasL X yn)) := by
                     show SR _ _ _ _ _
                     unfold SR
                     rw [wasL_len]
                     exact hown'
                   have hcell : ∃ v, w8.cell? ⟨g', k, none⟩ = some v := by
                     obtain ⟨_, e9, _, hc9⟩ := HSR.out.at (k := k) (by rw [wasL_len]; exact hk)
                     cases e9
                     exact ⟨_, hc9⟩
                   obtain ⟨v9, hcell⟩ := hcell
                   have hfr := HSR.out.froz rfl k
                   have fc0 : ∀ v, (w8.setCell ⟨g', k, none⟩ v).cell? ⟨w.heap.size, 0, none⟩ = some (.slice x.a x.n x.c) := fun v => by
                     rw [World.cell?_of_block (a := ⟨w.heap.size, 0, none⟩) (Below.heap_setCell w8 ⟨g', k, none⟩ v w.heap.size (by show w.heap.size ≠ g'; rw [HG.out]; omega)), World.cell?_of_block (a := ⟨w.heap.size, 0, none⟩) (HB8.out.block w.heap.size (by omega)), World.cell?_of_block (a := ⟨w.heap.size, 0, none⟩) (Below.heap_alloc _ _ w.heap.size (by rw [World.size_alloc]; omega))]
                     rw [cell_of_row _ _ _ _ _ _ (heap_alloc_new w _)]
                     rfl
                   have HR1 : Hid (∀ v, (w8.setCell ⟨g', k, none⟩ v).heap[w.heap.size + 1]? = some (.cells #[.slice none 0 0, .slice none 0 0] 31 (0, 0))) := fun v => by
                     rw [Below.heap_setCell w8 ⟨g', k, none⟩ v (w.heap.size + 1) (by show w.heap.size + 1 ≠ g'; rw [HG.out]; omega), HB8.out.block _ (by omega)]
                     have := heap_alloc_new (w.alloc (.cells #[.slice x.a x.n x.c, .slice (some ⟨bb, o, none⟩) yn yc] 31)) (.cells #[.slice none 0 0, .slice none 0 0] 31)
                     rwa [World.size_alloc] at this
                   clear hown' hgrow hat)
                | (refine wpList_store_any rfl 31 (.tmp 6) (.tmp 34) rfl (w.heap.size + 1) #[.slice x.a x.n x.c, .slice (some ⟨g', 0, none⟩) yn cap'] rfl rfl 31 _ (HR1.out _) size_T rfl (by simp [Value.oneCell']) ?_
                   intro w9 hr9 hz9 hk9
                   have HTS9 : Hid (TS (w8.setCell ⟨g', k, none⟩ (.string (txt b))) (some ⟨g', 0, none⟩) (wasL X yn).length ((wasL X yn).set k b)) := HSR.out.set b
                   have HBe : Hid (Below w.heap.size w w9) := by
                     have h1 : Below w.heap.size w w8 := (((Below.refl _ _).alloc (Nat.le_refl _) _).alloc (by rw [World.size_alloc]; omega) _).trans (HB8.out.mono (by omega))
                     have h2 : Below w.heap.size w (w8.setCell ⟨g', k, none⟩ (.string (txt b))) := h1.setCell (by show _ ≤ g'; rw [HG.out]; omega) _
                     exact h2.trans ((Keep.mono hk9 fun z hz => by have : z < w.heap.size := hz; show z ≠ _; omega).below)
                   have HN9 : Hid (TS w9 (some ⟨g', 0, none⟩) yn (wasL (X.put k b) yn)) := by
                     have h1 := HTS9.out
                     rw [wasL_put, wasL_len] at h1
                     exact h1.keep fun z o _ hz => World.cell?_of_block (a := ⟨z, o, none⟩) (hk9.block z fun e => by
                       rw [e, cell_of_row _ _ _ _ _ _ (HR1.out _)] at hz
                       match o with
                       | 0 | 1 => simp at hz
                       | m + 2 => simp at hz)
                   have c0 : w9.cell? ⟨w.heap.size + 1, 0, none⟩ = some (.slice x.a x.n x.c) := by rw [cell_of_row _ _ _ _ _ _ hr9]; rfl
                   have c1 : w9.cell? ⟨w.heap.size + 1, 1, none⟩ = some (.slice (some ⟨g', 0, none⟩) yn cap') := by rw [cell_of_row _ _ _ _ _ _ hr9]; rfl
                   clear hr9 hz9 hk9 fc0 hcell hfr))
      refine bodyPost_ret (v := .tuple #[TV x ⟨some ⟨g', 0, none⟩, yn, cap'⟩, .int .i64 0]) (by simp [TV, results, Try.results13, go_sem, c0, c1]) rfl ?_
      show RPutQ _ _ _ _ _ _ _
      rw [HE.out.1, HE.out.2]
      exact ⟨⟨some ⟨g', 0, none⟩, yn, cap'⟩, rfl, ⟨HT.out.len, HT.out.xn, rfl, HT.out.was.below HBe.out, HN9.out⟩, HBe.out⟩
    · have HE : Hid (TX.perr n (k : Int) b = 13 ∧ X.putI n (k : Int) b = X) := by refine ⟨?_, ?_⟩ <;> simp [TX.perr, TX.putI, TX.mayPut, hh, hb]
      have d2 : decide ((96 : Int) < ((txt b).size : Int)) = true := by rw [hs]; simp; omega
      clear h hyn hh hh2 hs
      go_enter Try.func13, Try.ntmps13
      go_wp2
      refine bodyPost_ret (v := .tuple #[TV x y, .int .i64 13]) (by simp [TV, results, Try.results13, go_sem]) rfl ?_
      show RPutQ _ _ _ _ _ _ _
      rw [HE.out.1, HE.out.2]
      exact ⟨y, rfl, HT.out.below HBB.out, HBB.out⟩
end Go.Proofs.Ytnjkcodegcojcaa
