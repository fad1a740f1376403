
/-
  Contract of New (layer 10).
-/
import Derived.Test.YtjionpkflpnejaaTTake
namespace Go.Proofs.Ytjionpkflpnejaa
open Go.RowKit

/-- Rows of bytes that a call is handed. -/
def RI (w : World) (A : Option Addr) (n : Nat) (ls : List (List UInt8)) : Prop :=
  ls.length = n ∧ (0 < n → ∃ b o, A = some ⟨b, o, none⟩ ∧ ∀ k (_ : k < n), ∃ x : Sl, w.cell? ⟨b, o + k, none⟩ = some (.slice x.a x.n x.c) ∧ BS w x.a x.n (ls.getD k []) ∧ x.n ≤ big47)
theorem RI.at {w : World} {A : Option Addr} {n : Nat} {ls : List (List UInt8)} (h : RI w A n ls) {k : Nat} (hk : k < n) : ∃ b o, ∃ x : Sl, A = some ⟨b, o, none⟩ ∧ w.cell? ⟨b, o + k, none⟩ = some (.slice x.a x.n x.c) ∧ BS w x.a x.n (ls.getD k []) ∧ x.n ≤ big47 := by
  obtain ⟨b, o, e, hc⟩ := h.2 (by omega)
  obtain ⟨x, h1, h2, h3⟩ := hc k hk
  exact ⟨b, o, x, e, h1, h2, h3⟩
theorem RI.below {w w' : World} {A : Option Addr} {n : Nat} {ls : List (List UInt8)} (h : RI w A n ls) (hb : Below w.heap.size w w') : RI w' A n ls :=
  ⟨h.1, fun hn => by
    obtain ⟨b, o, e, hc⟩ := h.2 hn
    refine ⟨b, o, e, fun k hk => ?_⟩
    obtain ⟨x, h1, h2, h3⟩ := hc k hk
    exact ⟨x, (hb.cell (p := ⟨b, o + k, none⟩) (World.block_lt_of_cell? w _ h1)).trans h1, h2.below hb, h3⟩⟩
theorem RI.alloc {w : World} {A : Option Addr} {n : Nat} {ls : List (List UInt8)} (h : RI w A n ls) (o : Obj) : RI (w.alloc o) A n ls := h.below ((Below.refl _ _).alloc (Nat.le_refl _) _)

theorem madeCells_rows (n : Nat) : madeCells (Value.slice none 0 0).cells n = Array.replicate n (.slice none 0 0) := by
  apply Array.ext'
  simp [madeCells, Value.cells, Nat.mod_one]
  apply List.ext_getElem <;> simp
theorem info_rows : (Try.prog.info? 27).map (fun i => (i.zero, i.size, i.bytes)) = some (some (.slice none 0 0), 1, 24) := by kernel_rfl

/-- While New is under way: its struct at p, the rows' block g, of which the first k are laid, the map at m. -/
structure NewI (w wr : World) (n : Nat) (ls : List (List UInt8)) (k g m p : Nat) : Prop where
  bel : Below w.heap.size w wr
  cells : wr.heap[p]? = some (.cells #[.slice (some ⟨g, 0, none⟩) n n, .map (some m)] 62 (0, 0))
  map : wr.heap[m]? = some (.map #[] 0)
  rows : ∃ rl : List Sl, wr.heap[g]? = some (.cells (rl.map Sl.v).toArray 27 (0, 0)) ∧ rl.length = n ∧ ∀ i (_ : i < k) (h : i < rl.length), BC wr (fun z => w.heap.size ≤ z) rl[i] (ls.getD i [])
  gs : w.heap.size ≤ g
  ms : w.heap.size ≤ m
  ps : w.heap.size ≤ p
section
variable {w wr w' : World} {n k g m p : Nat} {ls : List (List UInt8)}
theorem NewI.plt (h : NewI w wr n ls k g m p) : p < wr.heap.size := (Array.getElem?_eq_some_iff.1 h.cells).1
theorem NewI.mlt (h : NewI w wr n ls k g m p) : m < wr.heap.size := (Array.getElem?_eq_some_iff.1 h.map).1
theorem NewI.glt (h : NewI w wr n ls k g m p) : g < wr.heap.size := by
  obtain ⟨rl, h1, _⟩ := h.rows
  exact (Array.getElem?_eq_some_iff.1 h1).1
theorem NewI.gp (h : NewI w wr n ls k g m p) : g ≠ p := by
  rintro rfl
  obtain ⟨rl, h1, _⟩ := h.rows
  rw [h.cells] at h1
  simp only [Option.some.injEq, Obj.cells.injEq] at h1
  exact absurd h1.2.1 (by decide)
theorem NewI.gm (h : NewI w wr n ls k g m p) : g ≠ m := by
  rintro rfl
  obtain ⟨rl, h1, _⟩ := h.rows
  rw [h.map] at h1
  simp at h1
theorem NewI.below (h : NewI w wr n ls k g m p) (hb : Below wr.heap.size wr w') : NewI w w' n ls k g m p := by
  obtain ⟨rl, h1, h2, h3⟩ := h.rows
  exact ⟨h.bel.trans (hb.mono h.bel.size), (hb.block _ h.plt).trans h.cells, (hb.block _ h.mlt).trans h.map, ⟨rl, (hb.block _ h.glt).trans h1, h2, fun i hi hl => (h3 i hi hl).keep fun _ _ hk => hb.block _ hk⟩, h.gs, h.ms, h.ps⟩
theorem NewI.drew (h : NewI w wr n ls k g m p) : NewI w wr.drew n ls k g m p := h.below (Below.refl _ _).drew
theorem NewI.c0 (h : NewI w wr n ls k g m p) : wr.cell? ⟨p, 0, none⟩ = some (.slice (some ⟨g, 0, none⟩) n n) := by rw [cell_of_row _ _ _ _ _ _ h.cells]; rfl
theorem NewI.row (h : NewI w wr n ls k g m p) {i : Nat} (hi : i < n) : ∃ v, wr.cell? ⟨g, i, none⟩ = some v := by
  obtain ⟨rl, h1, h2, _⟩ := h.rows
  have hr : i < rl.length := by omega
  exact ⟨rl[i].v, by rw [cell_of_row _ _ _ _ _ _ h1]; simp [hr]⟩
theorem NewI.froz (h : NewI w wr n ls k g m p) (i : Nat) : wr.frozen? ⟨g, i, none⟩ = false := by
  obtain ⟨rl, h1, _⟩ := h.rows
  simp [World.frozen?, h1]
theorem NewI.set (h : NewI w wr n ls k g m p) (y : Sl) (hy : BC wr (fun z => w.heap.size ≤ z) y (ls.getD k [])) : NewI w (wr.setCell ⟨g, k, none⟩ (.slice y.a y.n y.c)) n ls (k + 1) g m p := by
  have hbk : ∀ b, b ≠ g → (wr.setCell ⟨g, k, none⟩ (.slice y.a y.n y.c)).heap[b]? = wr.heap[b]? := fun b hb => Below.heap_setCell wr ⟨g, k, none⟩ _ b hb
  have hgp := h.gp
  have hgm := h.gm
  obtain ⟨rl, h1, h2, h3⟩ := h.rows
  have keepB : ∀ x l, BC wr (fun z => w.heap.size ≤ z) x l → BC (wr.setCell ⟨g, k, none⟩ (.slice y.a y.n y.c)) (fun z => w.heap.size ≤ z) x l := fun x l hb =>
    ⟨hb.bs.off (q := g) (fun o z e => by
      rw [cell_of_row _ _ _ _ _ _ h1] at e
      simp only [List.getElem?_toArray, List.getElem?_map, Option.map_eq_some_iff] at e
      obtain ⟨_, _, hx⟩ := e
      cases hx) (fun b _ hb => hbk b hb), hb.few, hb.cap, hb.own⟩
  refine ⟨h.bel.setCell h.gs _, (hbk p (Ne.symm hgp)).trans h.cells, (hbk m (Ne.symm hgm)).trans h.map, ⟨rl.set k y, ?_, by simpa using h2, fun i hi hl => ?_⟩, h.gs, h.ms, h.ps⟩
  · rw [setCell_eq_setRow wr g k _ _ _ _ h1]
    have := setRow_heap wr g _ ((rl.map Sl.v).toArray.setIfInBounds k y.v) _ _ h1
    refine this.trans ?_
    simp [List.map_set]
  · by_cases e : k = i
    · subst e
      simp only [List.getElem_set_self]
      exact keepB _ _ hy
    · simp only [List.getElem_set_ne e]
      exact keepB _ _ (h3 i (by omega) (by simpa using hl))
theorem NewI.done (h : NewI w wr n ls n g m p) (hl : ls.length = n) : Tq wr p m ⟨some ⟨g, 0, none⟩, n, n⟩ (fun z => w.heap.size ≤ z) (TX.new ls) := by
  obtain ⟨rl, h1, h2, h3⟩ := h.rows
  exact ⟨h.cells, ⟨hl, Nat.le_refl _, g, rl, rfl, h.gs, by show rl.length = ls.length; omega, h1, fun i hi => h3 i (by omega) hi⟩, ⟨#[], 0, h.map, by simp, fun i => trivial⟩, h.ps, h.ms⟩
/-- At the start. -/
theorem NewI.start (w : World) (n : Nat) (ls : List (List UInt8)) : NewI w (((w.alloc (.cells (Array.replicate n (.slice none 0 0)) 27)).alloc (.map #[] 0)).alloc (.cells #[.slice (some ⟨w.heap.size, 0, none⟩) n n, .map (some (w.heap.size + 1))] 62)) n ls 0 w.heap.size (w.heap.size + 1) (w.heap.size + 2) := by
  refine ⟨(((Below.refl _ _).alloc (Nat.le_refl _) _).alloc (by simp) _).alloc (by simp; omega) _, ?_, ?_, ⟨List.replicate n ⟨none, 0, 0⟩, ?_, by simp, fun i hi => by omega⟩, Nat.le_refl _, by omega, by omega⟩
  · have := heap_alloc_new ((w.alloc (.cells (Array.replicate n (.slice none 0 0)) 27)).alloc (.map #[] 0)) (.cells #[.slice (some ⟨w.heap.size, 0, none⟩) n n, .map (some (w.heap.size + 1))] 62)
    rwa [World.size_alloc, World.size_alloc] at this
  · rw [Below.heap_alloc _ _ _ (by simp)]
    have := heap_alloc_new (w.alloc (.cells (Array.replicate n (.slice none 0 0)) 27)) (.map #[] 0)
    rwa [World.size_alloc] at this
  · rw [Below.heap_alloc _ _ _ (by simp; omega), Below.heap_alloc _ _ _ (by simp), heap_alloc_new]
    simp [Sl.v]
end
/-- Behind New. -/
def NewQ (w : World) (n : Nat) (ls : List (List UInt8)) (e : Ending) (w' : World) : Prop := ∃ g m p, e = .returned (.pointer (some ⟨p, 0, none⟩)) ∧ Tq w' p m ⟨some ⟨g, 0, none⟩, n, n⟩ (fun z => w.heap.size ≤ z) (TX.new ls) ∧ Below w.heap.size w w' ∧ w.heap.size ≤ p ∧ w.heap.size ≤ m
set_option maxRecDepth 100000 in
set_option maxHeartbeats 1000000 in
theorem new_any (A : Option Addr) (n c : Nat) (ls : List (List UInt8)) (w : World) (h : RI w A n ls) (hn : n ≤ 1000000) : Calls Try.prog 11 #[.slice A n c] w (NewQ w n ls) := by
  obtain ⟨ii, hii, hiz, his, hib⟩ := info_parts info_rows
  have hmk : ∀ W : World, (Instr.makeSlice 37 (.int .i64 (n : Int)) (.int .i64 (n : Int))).run Try.prog W = .ok (.slice (some ⟨W.heap.size, 0, none⟩) n n) (W.alloc (.cells (Array.replicate n (.slice none 0 0)) 27)) := fun W => by
    have hr := run_makeSlice (P := Try.prog) W 37 27 ii (.slice none 0 0) Try.underlying37 hii hiz .i64 .i64 (n : Int) (n : Int) (by omega) (by omega) (by rw [his]; simp; omega) (by rw [hib]; omega) (by omega)
    simp only [Int.toNat_natCast, his, Nat.mul_one] at hr
    rw [hr, madeCells_rows]
  have hmm := @run_makeMap Try.prog
  have HR := Lib.hid h
  have HI0 := Lib.hid (NewI.start w n ls)
  have HN : Hid (n ≤ 1000000) := hn
  have HL : Hid (ls.length = n) := h.1
  clear h hii hiz his hib
  go_enter Try.func11, Try.ntmps11
  go_wp2_with fail
  go_loopw [14] (fun i wr => ∃ k : Nat, k ≤ n ∧ i = .int .i64 k ∧ Hid (NewI w wr n ls k w.heap.size (w.heap.size + 1) (w.heap.size + 2))) (fun i _ => n - (intOf i).toNat)
  case atStart => exact ⟨0, by omega, rfl, HI0⟩
  case round =>
    clear HI0 hmk hmm
    obtain ⟨k, hk, rfl, HI⟩ := hrel
    by_cases hlt : k < n
    · obtain ⟨b, o, x, rfl, h1, h2, h3⟩ := HR.out.at hlt
      have hcx : wr.cell? ⟨b, o + k, none⟩ = some (.slice x.a x.n x.c) := (HI.out.bel.cell (p := ⟨b, o + k, none⟩) (World.block_lt_of_cell? w _ h1)).trans h1
      have HX := Lib.hid h2
      have HX3 := Lib.hid h3
      clear h1 h2 h3
      have hn1 := HN.out
      go_wp2_with fail
      have HId := Lib.hid HI.out.drew
      have HS : Hid ((fun W : World => W.cell? ⟨w.heap.size + 2, 0, none⟩ = some (.slice (some ⟨w.heap.size, 0, none⟩) n n)) wr.drew) := HId.out.c0
      refine wp_region_held_drew (S := fun W => W.cell? ⟨w.heap.size + 2, 0, none⟩ = some (.slice (some ⟨w.heap.size, 0, none⟩) n n)) (by kernel_rfl) HS.out (fun _ => ?_)
      change wpAnyH _ _ _ _ _ 9 (Array.replicate 9 false) _ _
      refine takeH (i := 0) 19 (.pointer (some ⟨w.heap.size + 2, 0, none⟩)) rfl rfl (by kernel_rfl) (by kernel_rfl) (by kernel_rfl) (fun _ _ _ h => h) (.inl ⟨by rfl, fun W hW => by go_simp⟩) HS.out ?_
      simp only [Act.put, List.setIfInBounds_toArray, List.set_cons_zero, List.set_cons_succ]
      refine takeH (i := 1) 20 (.pointer (some ⟨w.heap.size + 2, 0, none⟩)) rfl rfl (by kernel_rfl) (by kernel_rfl) (by kernel_rfl) (fun _ _ _ h => h) (.inl ⟨by rfl, fun W hW => by go_simp⟩) HS.out ?_
      simp only [Act.put, List.setIfInBounds_toArray, List.set_cons_zero, List.set_cons_succ]
      refine takeH (i := 2) 21 (.pointer (some ⟨w.heap.size + 2, 0, none⟩)) rfl rfl (by kernel_rfl) (by kernel_rfl) (by kernel_rfl) (fun _ _ _ h => h) (.inl ⟨by rfl, fun W hW => by go_simp⟩) HS.out ?_
      simp only [Act.put, List.setIfInBounds_toArray, List.set_cons_zero, List.set_cons_succ]
      refine takeH (i := 3) 22 (.slice (some ⟨w.heap.size, 0, none⟩) n n) rfl rfl (by kernel_rfl) (by kernel_rfl) (by kernel_rfl) (fun _ _ _ h => h) (.inl ⟨by rfl, fun W hW => by (have hz : W.cell? ⟨w.heap.size + 2, 0, none⟩ = some (.slice (some ⟨w.heap.size, 0, none⟩) n n) := hW; go_simp)⟩) HS.out ?_
      simp only [Act.put, List.setIfInBounds_toArray, List.set_cons_zero, List.set_cons_succ]
      refine takeH (i := 4) 23 (.int .i64 (k : Int)) rfl rfl (by kernel_rfl) (by kernel_rfl) (by kernel_rfl) (fun _ _ _ h => h) (.inl ⟨by rfl, fun W hW => by go_simp⟩) HS.out ?_
      simp only [Act.put, List.setIfInBounds_toArray, List.set_cons_zero, List.set_cons_succ]
      refine takeH (i := 5) 24 (.slice x.a x.n x.c) rfl rfl (by kernel_rfl) (by kernel_rfl) (by kernel_rfl) (fun _ _ _ h => h) (.inl ⟨by rfl, fun W hW => by go_simp⟩) HS.out ?_
      simp only [Act.put, List.setIfInBounds_toArray, List.set_cons_zero, List.set_cons_succ]
      refine wpAnyH_ready (rs := [6]) (by kernel_rfl) (by simp) ?_
      refine AllReadyH.cons rfl (fun K hK => ?_) AllReadyH.nil
      go_simp
      refine (clone_big x.a x.n x.c _ wr.drew (HX.out.below HI.out.bel).drew HX3.out).mono ?_
      rintro e w2 ⟨A2, c2, rfl, h1, h2, h3, h4, -⟩
      have HI2 := Lib.hid (HId.out.below h4)
      have HY : Hid (BC w2 (fun z => w.heap.size ≤ z) ⟨A2, x.n, c2⟩ (ls.getD k [])) := ⟨h1, HX3.out, h2, fun _ ad e => Nat.le_trans HI.out.bel.size (h3 ad e)⟩
      refine hK.out _ _ HI2.out.c0 fun _ => ?_
      clear hK K h1 h2 h3 h4
      refine takeH (i := 7) 26 (.pointer (some ⟨w.heap.size, k, none⟩)) rfl rfl (by kernel_rfl) (by kernel_rfl) (by kernel_rfl) (fun _ _ _ h => h) (.inl ⟨by rfl, fun W hW => by go_simp⟩) HI2.out.c0 ?_
      simp only [Act.put, List.setIfInBounds_toArray, List.set_cons_zero, List.set_cons_succ]
      refine wpAnyH_ready (rs := [8]) (by kernel_rfl) (by simp) ?_
      refine AllReadyH.cons rfl (fun K hK => ?_) AllReadyH.nil
      have HI3 := Lib.hid (HI2.out.set ⟨A2, x.n, c2⟩ HY.out)
      obtain ⟨v, hrow⟩ := HI2.out.row hlt
      have hfrow := HI2.out.froz k
      go_simp
      refine hK.out _ _ HI3.out.c0 fun _ => ?_
      clear hK K hrow hfrow
      refine wpAnyH_done (by kernel_rfl) ?_ _
      go_wp2
      go_roundw
      case rel => exact ⟨k + 1, by omega, by go_num, HI3⟩
      case measure => simp [intOf]; omega
    · obtain rfl : k = n := by omega
      go_wp2
      go_ret
      exact ⟨_, _, _, rfl, HI.out.done HL.out, HI.out.bel, by omega, by omega⟩
end Go.Proofs.Ytjionpkflpnejaa
