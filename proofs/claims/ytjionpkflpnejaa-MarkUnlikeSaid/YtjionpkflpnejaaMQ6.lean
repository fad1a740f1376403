/-
  Contract of Put (layer 10).
  Contracts of Fork, Take and New (layer 10).
  Contracts of Take and New (layer 10).
  Contract of New (layer 10).
  Contract of Changes (layer 10).
  Contracts of package mark's Load and Save (layer 15); blocks that are made.
  Contract of the document's example (layer 15): it holds, and leaves all memory that was there alone.
  All contracts of layer 15, together.
-/
import Derived.Test.YtjionpkflpnejaaMQ5
import Derived.Deep.LoopGhost
import Derived.Maps.AppendAt
namespace Go.Proofs.Ytjionpkflpnejaa
open Go.RowKit

/-- What Put answers, and what it leaves. -/
def TX.mayPut (n : Nat) (i : Int) (b : List UInt8) : Bool := hasB n i && decide (b.length ≤ 96)
def TX.perr (n : Nat) (i : Int) (b : List UInt8) : Int := if hasB n i then if b.length ≤ 96 then 0 else 13 else 15
def TX.putI (X : TX) (n : Nat) (i : Int) (b : List UInt8) : TX := if TX.mayPut n i b then X.put i.toNat b else X
theorem TX.perr_ok {n : Nat} {i : Int} {b : List UInt8} (h : hasB n i = true) (hb : b.length ≤ 96) : TX.perr n i b = 0 := by simp [TX.perr, h, hb]
theorem TX.putI_ok {X : TX} {n i : Nat} {b : List UInt8} (h : i < n) (hb : b.length ≤ 96) : X.putI n (i : Int) b = X.put i b := by simp [TX.putI, TX.mayPut, hasB_nat h, hb]
theorem TX.putI_l (X : TX) (n : Nat) (i : Int) (b : List UInt8) : (X.putI n i b).l = X.l := by unfold TX.putI; split <;> rfl

section
variable {w : World} {p m : Nat} {x : Sl} {S : Nat → Prop} {X : TX}
set_option maxHeartbeats 400000 in
theorem put_nil (i : Int) (A : Option Addr) (n c : Nat) (w : World) : Calls Try.prog 28 #[.pointer none, .int .i64 i, .slice A n c] w fun e w' => e = .returned (.int .i64 1) ∧ w' = w := by
  go_enter Try.func28, Try.ntmps28
  go_wp2
  go_ret
  exact ⟨rfl, rfl⟩
theorem Ch.refl (Q : Nat → Prop) (w : World) (hQ : ∀ k, Q k → Dull w k) : Ch Q w w := ⟨Fr.refl _ _, hQ⟩
/-- Behind Put. -/
def TPutQ (w : World) (p m : Nat) (x : Sl) (S : Nat → Prop) (X : TX) (r : Int) (e : Ending) (w' : World) : Prop := e = .returned (.int .i64 r) ∧ Tq w' p m x S X ∧ Ch (· = m) w w'
set_option maxRecDepth 100000 in
set_option maxHeartbeats 1000000 in
theorem tput_any (h : Tq w p m x S X) (hS : ∀ k, w.heap.size ≤ k → S k) (i : Int) (A : Option Addr) (n c : Nat) (b : List UInt8) (hb : BS w A n b) :
    Calls Try.prog 28 #[.pointer (some ⟨p, 0, none⟩), .int .i64 i, .slice A n c] w (TPutQ w p m x S (X.putI x.n i b) (TX.perr x.n i b)) := by
  have HC := Lib.hid (has_any h i)
  have HN : Hid (b.length = n) := hb.1
  cases hh : hasB x.n i with
  | false =>
    have HE : Hid (TX.perr x.n i b = 15 ∧ X.putI x.n i b = X) := by refine ⟨?_, ?_⟩ <;> simp [TX.perr, TX.putI, TX.mayPut, hh]
    have HQ : Hid (Ch (· = m) w w) := Ch.refl _ _ fun k hk => by rw [hk]; exact h.puts.dull
    rw [hh] at HC
    have HT := Lib.hid h
    clear h hb hh hS
    go_enter Try.func28, Try.ntmps28
    go_wp2_with fail
    refine HC.out.mono ?_
    rintro e w' ⟨rfl, rfl⟩
    go_wp2
    go_ret
    show TPutQ _ _ _ _ _ _ _ _ _
    rw [HE.out.1, HE.out.2]
    exact ⟨rfl, HT.out, HQ.out⟩
  | true =>
    by_cases hn : n ≤ 96
    · have HE : Hid (TX.perr x.n i b = 0 ∧ X.putI x.n i b = X.put i.toNat b) := by
        have hl : b.length ≤ 96 := by rw [HN.out]; exact hn
        refine ⟨?_, ?_⟩ <;> simp [TX.perr, TX.putI, TX.mayPut, hh, hl]
      obtain ⟨k, rfl⟩ : ∃ k : Nat, i = (k : Int) := by
        simp only [hasB, Bool.and_eq_true, decide_eq_true_eq] at hh
        exact Int.eq_ofNat_of_zero_le hh.1
      rw [hh] at HC
      have hd : decide (96 < (n : Int)) = false := by simp; omega
      have HT := Lib.hid h
      have HB := Lib.hid hb
      have HS1 := Lib.hid hS
      clear h hb hh hS
      go_enter Try.func28, Try.ntmps28
      go_wp2_with fail
      refine HC.out.mono ?_
      rintro e w' ⟨rfl, rfl⟩
      go_wp2_with fail
      have HTd : Hid (Tq w'.drew p m x S X) := HT.out.drew
      have HS : Hid ((fun W : World => W.cell? ⟨p, 1, none⟩ = some (.map (some m))) w'.drew) := HTd.out.c1
      refine wp_region_held_drew (S := fun W => W.cell? ⟨p, 1, none⟩ = some (.map (some m))) (by kernel_rfl) HS.out (fun _ => ?_)
      change wpAnyH _ _ _ _ _ 8 (Array.replicate 8 false) _ _
      refine takeH (i := 0) 16 (.pointer (some ⟨p, 0, none⟩)) rfl rfl (by kernel_rfl) (by kernel_rfl) (by kernel_rfl) (fun _ _ _ h => h) (.inl ⟨by rfl, fun W hW => by go_simp⟩) HS.out ?_
      simp only [Act.put, List.setIfInBounds_toArray, List.set_cons_zero, List.set_cons_succ]
      refine takeH (i := 1) 17 (.pointer (some ⟨p, 0, none⟩)) rfl rfl (by kernel_rfl) (by kernel_rfl) (by kernel_rfl) (fun _ _ _ h => h) (.inl ⟨by rfl, fun W hW => by go_simp⟩) HS.out ?_
      simp only [Act.put, List.setIfInBounds_toArray, List.set_cons_zero, List.set_cons_succ]
      refine takeH (i := 2) 18 (.pointer (some ⟨p, 1, none⟩)) rfl rfl (by kernel_rfl) (by kernel_rfl) (by kernel_rfl) (fun _ _ _ h => h) (.inl ⟨by rfl, fun W hW => by go_simp⟩) HS.out ?_
      simp only [Act.put, List.setIfInBounds_toArray, List.set_cons_zero, List.set_cons_succ]
      refine takeH (i := 3) 19 (.map (some m)) rfl rfl (by kernel_rfl) (by kernel_rfl) (by kernel_rfl) (fun _ _ _ h => h) (.inl ⟨by rfl, fun W hW => by (have hz : W.cell? ⟨p, 1, none⟩ = some (.map (some m)) := hW; go_simp)⟩) HS.out ?_
      simp only [Act.put, List.setIfInBounds_toArray, List.set_cons_zero, List.set_cons_succ]
      refine takeH (i := 4) 20 (.int .i64 (k : Int)) rfl rfl (by kernel_rfl) (by kernel_rfl) (by kernel_rfl) (fun _ _ _ h => h) (.inl ⟨by rfl, fun W hW => by go_simp⟩) HS.out ?_
      simp only [Act.put, List.setIfInBounds_toArray, List.set_cons_zero, List.set_cons_succ]
      refine takeH (i := 5) 21 (.slice A n c) rfl rfl (by kernel_rfl) (by kernel_rfl) (by kernel_rfl) (fun _ _ _ h => h) (.inl ⟨by rfl, fun W hW => by go_simp⟩) HS.out ?_
      simp only [Act.put, List.setIfInBounds_toArray, List.set_cons_zero, List.set_cons_succ]
      refine wpAnyH_ready (rs := [6]) (by kernel_rfl) (by simp) ?_
      refine AllReadyH.cons rfl (fun K hK => ?_) AllReadyH.nil
      go_simp
      refine (clone_big A n c b w'.drew HB.out.drew (le_big47 (by omega))).mono ?_
      rintro e w2 ⟨A2, c2, rfl, h1, h2, h3, h4, -⟩
      have HT2 := Lib.hid (HTd.out.below h4)
      have HX : Hid (BC w2 S ⟨A2, n, c2⟩ b) := ⟨h1, le_big47 (by show n ≤ _; omega), h2, fun _ ad e => HS1.out _ (h3 ad e)⟩
      have HW2 : Hid (Below w'.heap.size w' w2) := (Below.refl _ _).drew.trans h4
      refine hK.out _ _ HT2.out.c1 fun _ => ?_
      clear hK K h1 h2 h3 h4
      refine wpAnyH_ready (rs := [7]) (by kernel_rfl) (by simp) ?_
      refine AllReadyH.cons rfl (fun K hK => ?_) AllReadyH.nil
      obtain ⟨w3, hr, g1, g2, g3⟩ := HT2.out.puts.update k ⟨A2, n, c2⟩ b HX.out
      have HT3 : Hid (Tq w3 p m x S (X.put k b)) := ⟨(g2.1.block p ⟨HT2.out.plt, fun e => HT2.out.ne e.symm⟩).trans HT2.out.cells, HT2.out.rows.imp (fun _ h => h) (fun g cs _ hg => g2.1.block g ⟨(Array.getElem?_eq_some_iff.1 hg).1, fun hq => (g2.2 g hq).no_row cs _ (by decide) hg⟩) (fun _ _ hb => hb.ch g2), g1, HT2.out.sp, HT2.out.sm⟩
      have HC3 : Hid (Ch (· = m) w' w3) := ⟨(Fr.of_below HW2.out).trans g2.1 (fun k hk => .inl hk), fun k hk => by rw [hk]; exact HT.out.puts.dull⟩
      clear g1 g2 g3
      go_simp
      refine hK.out _ _ HT3.out.c1 fun _ => ?_
      clear hK K hr
      refine wpAnyH_done (by kernel_rfl) ?_ _
      go_wp2
      go_ret
      show TPutQ _ _ _ _ _ _ _ _ _
      rw [HE.out.1, HE.out.2]
      exact ⟨rfl, HT3.out, HC3.out⟩
    · have HE : Hid (TX.perr x.n i b = 13 ∧ X.putI x.n i b = X) := by
        have hl : ¬ b.length ≤ 96 := by rw [HN.out]; exact hn
        refine ⟨?_, ?_⟩ <;> simp [TX.perr, TX.putI, TX.mayPut, hh, hl]
      have HQ : Hid (Ch (· = m) w w) := Ch.refl _ _ fun k hk => by rw [hk]; exact h.puts.dull
      rw [hh] at HC
      have hd : decide (96 < (n : Int)) = true := by simp; omega
      have HT := Lib.hid h
      clear h hb hh hS
      go_enter Try.func28, Try.ntmps28
      go_wp2_with fail
      refine HC.out.mono ?_
      rintro e w' ⟨rfl, rfl⟩
      go_wp2
      go_ret
      show TPutQ _ _ _ _ _ _ _ _ _
      rw [HE.out.1, HE.out.2]
      exact ⟨rfl, HT.out, HQ.out⟩
end
end Go.Proofs.Ytjionpkflpnejaa

namespace Go.Proofs.Ytjionpkflpnejaa
open Go.RowKit

theorem PM.new (w : World) (S : Nat → Prop) : PM (w.alloc (.map #[] 0)) w.heap.size S (fun _ => none) := ⟨#[], 0, heap_alloc_new w _, by simp, fun i => trivial⟩
/-- A copy of a map. -/
theorem PM.copy {w : World} {m : Nat} {S : Nat → Prop} {p : Nat → Option (List UInt8)} (h : PM w m S p) : ∃ es clock, w.heap[m]? = some (.map es clock) ∧ PM (w.alloc (.map es clock)) w.heap.size S p := by
  obtain ⟨es, c, h1, h2, h3⟩ := h
  refine ⟨es, c, h1, es, c, heap_alloc_new w _, h2, fun i => (h3 i).imp fun x b hb => hb.keep fun k _ hk => ?_⟩
  exact Below.heap_alloc w _ k hk

section
variable {w : World} {p m q mq : Nat} {x y : Sl} {S : Nat → Prop} {X Y : TX}
/-- Behind Fork. -/
def ForkQ (w : World) (x : Sl) (S : Nat → Prop) (X : TX) (e : Ending) (w' : World) : Prop := ∃ p' m', e = .returned (.pointer (some ⟨p', 0, none⟩)) ∧ Tq w' p' m' x S X ∧ Below w.heap.size w w' ∧ w.heap.size ≤ p' ∧ w.heap.size ≤ m'
end
end Go.Proofs.Ytjionpkflpnejaa

namespace Go.Proofs.Ytjionpkflpnejaa
open Go.RowKit

section
variable {w : World} {p m q mq : Nat} {x y : Sl} {S : Nat → Prop} {X Y : TX}
/-- Behind Take. -/
def TakeQ (w : World) (p : Nat) (x : Sl) (S : Nat → Prop) (X : TX) (e : Ending) (w' : World) : Prop := e = .returned (.tuple #[]) ∧ ∃ m', Tq w' p m' x S X ∧ Ch (· = p) w w' ∧ w.heap.size ≤ m'
end
end Go.Proofs.Ytjionpkflpnejaa

namespace Go.Proofs.Ytjionpkflpnejaa
open Go.RowKit

/-- Rows of bytes that a call is handed. -/
def RI (w : World) (A : Option Addr) (n : Nat) (ls : List (List UInt8)) : Prop :=
  ls.length = n ∧ (0 < n → ∃ b o, A = some ⟨b, o, none⟩ ∧ ∀ k (_ : k < n), ∃ x : Sl, w.cell? ⟨b, o + k, none⟩ = some (.slice x.a x.n x.c) ∧ BS w x.a x.n (ls.getD k []) ∧ x.n ≤ big47)
theorem RI.at {w : World} {A : Option Addr} {n : Nat} {ls : List (List UInt8)} (h : RI w A n ls) {k : Nat} (hk : k < n) : ∃ b o, ∃ x : Sl, A = some ⟨b, o, none⟩ ∧ w.cell? ⟨b, o + k, none⟩ = some (.slice x.a x.n x.c) ∧ BS w x.a x.n (ls.getD k []) ∧ x.n ≤ big47 := by
  obtain ⟨b, o, e, hc⟩ := h.2 (by omega)
  obtain ⟨x, h1, h2, h3⟩ := hc k hk
  exact ⟨b, o, x, e, h1, h2, h3⟩
theorem RI.below {w w' : World} {A : Option Addr} {n : Nat} {ls : List (List UInt8)} (h : RI w A n ls) (hb : Below w.heap.size w w') : RI w' A n ls :=
  ⟨h.1, fun hn => by
    obtain ⟨b, o, e, hc⟩ := h.2 hn
    refine ⟨b, o, e, fun k hk => ?_⟩
    obtain ⟨x, h1, h2, h3⟩ := hc k hk
    exact ⟨x, (hb.cell (p := ⟨b, o + k, none⟩) (World.block_lt_of_cell? w _ h1)).trans h1, h2.below hb, h3⟩⟩
theorem RI.alloc {w : World} {A : Option Addr} {n : Nat} {ls : List (List UInt8)} (h : RI w A n ls) (o : Obj) : RI (w.alloc o) A n ls := h.below ((Below.refl _ _).alloc (Nat.le_refl _) _)

theorem madeCells_rows (n : Nat) : madeCells (Value.slice none 0 0).cells n = Array.replicate n (.slice none 0 0) := by
  apply Array.ext'
  simp [madeCells, Value.cells, Nat.mod_one]
  apply List.ext_getElem <;> simp
theorem info_rows : (Try.prog.info? 27).map (fun i => (i.zero, i.size, i.bytes)) = some (some (.slice none 0 0), 1, 24) := by kernel_rfl

/-- While New is under way: its struct at p, the rows' block g, of which the first k are laid, the map at m. -/
structure NewI (w wr : World) (n : Nat) (ls : List (List UInt8)) (k g m p : Nat) : Prop where
  bel : Below w.heap.size w wr
  cells : wr.heap[p]? = some (.cells #[.slice (some ⟨g, 0, none⟩) n n, .map (some m)] 62 (0, 0))
  map : wr.heap[m]? = some (.map #[] 0)
  rows : ∃ rl : List Sl, wr.heap[g]? = some (.cells (rl.map Sl.v).toArray 27 (0, 0)) ∧ rl.length = n ∧ ∀ i (_ : i < k) (h : i < rl.length), BC wr (fun z => w.heap.size ≤ z) rl[i] (ls.getD i [])
  gs : w.heap.size ≤ g
  ms : w.heap.size ≤ m
  ps : w.heap.size ≤ p
section
variable {w wr w' : World} {n k g m p : Nat} {ls : List (List UInt8)}
theorem NewI.plt (h : NewI w wr n ls k g m p) : p < wr.heap.size := (Array.getElem?_eq_some_iff.1 h.cells).1
theorem NewI.mlt (h : NewI w wr n ls k g m p) : m < wr.heap.size := (Array.getElem?_eq_some_iff.1 h.map).1
theorem NewI.glt (h : NewI w wr n ls k g m p) : g < wr.heap.size := by
  obtain ⟨rl, h1, _⟩ := h.rows
  exact (Array.getElem?_eq_some_iff.1 h1).1
theorem NewI.gp (h : NewI w wr n ls k g m p) : g ≠ p := by
  rintro rfl
  obtain ⟨rl, h1, _⟩ := h.rows
  rw [h.cells] at h1
  simp only [Option.some.injEq, Obj.cells.injEq] at h1
  exact absurd h1.2.1 (by decide)
theorem NewI.gm (h : NewI w wr n ls k g m p) : g ≠ m := by
  rintro rfl
  obtain ⟨rl, h1, _⟩ := h.rows
  rw [h.map] at h1
  simp at h1
theorem NewI.below (h : NewI w wr n ls k g m p) (hb : Below wr.heap.size wr w') : NewI w w' n ls k g m p := by
  obtain ⟨rl, h1, h2, h3⟩ := h.rows
  exact ⟨h.bel.trans (hb.mono h.bel.size), (hb.block _ h.plt).trans h.cells, (hb.block _ h.mlt).trans h.map, ⟨rl, (hb.block _ h.glt).trans h1, h2, fun i hi hl => (h3 i hi hl).keep fun _ _ hk => hb.block _ hk⟩, h.gs, h.ms, h.ps⟩
theorem NewI.drew (h : NewI w wr n ls k g m p) : NewI w wr.drew n ls k g m p := h.below (Below.refl _ _).drew
theorem NewI.c0 (h : NewI w wr n ls k g m p) : wr.cell? ⟨p, 0, none⟩ = some (.slice (some ⟨g, 0, none⟩) n n) := by rw [cell_of_row _ _ _ _ _ _ h.cells]; rfl
theorem NewI.row (h : NewI w wr n ls k g m p) {i : Nat} (hi : i < n) : ∃ v, wr.cell? ⟨g, i, none⟩ = some v := by
  obtain ⟨rl, h1, h2, _⟩ := h.rows
  have hr : i < rl.length := by omega
  exact ⟨rl[i].v, by rw [cell_of_row _ _ _ _ _ _ h1]; simp [hr]⟩
theorem NewI.froz (h : NewI w wr n ls k g m p) (i : Nat) : wr.frozen? ⟨g, i, none⟩ = false := by
  obtain ⟨rl, h1, _⟩ := h.rows
  simp [World.frozen?, h1]
theorem NewI.set (h : NewI w wr n ls k g m p) (y : Sl) (hy : BC wr (fun z => w.heap.size ≤ z) y (ls.getD k [])) : NewI w (wr.setCell ⟨g, k, none⟩ (.slice y.a y.n y.c)) n ls (k + 1) g m p := by
  have hbk : ∀ b, b ≠ g → (wr.setCell ⟨g, k, none⟩ (.slice y.a y.n y.c)).heap[b]? = wr.heap[b]? := fun b hb => Below.heap_setCell wr ⟨g, k, none⟩ _ b hb
  have hgp := h.gp
  have hgm := h.gm
  obtain ⟨rl, h1, h2, h3⟩ := h.rows
  have keepB : ∀ x l, BC wr (fun z => w.heap.size ≤ z) x l → BC (wr.setCell ⟨g, k, none⟩ (.slice y.a y.n y.c)) (fun z => w.heap.size ≤ z) x l := fun x l hb =>
    ⟨hb.bs.off (q := g) (fun o z e => by
      rw [cell_of_row _ _ _ _ _ _ h1] at e
      simp only [List.getElem?_toArray, List.getElem?_map, Option.map_eq_some_iff] at e
      obtain ⟨_, _, hx⟩ := e
      cases hx) (fun b _ hb => hbk b hb), hb.few, hb.cap, hb.own⟩
  refine ⟨h.bel.setCell h.gs _, (hbk p (Ne.symm hgp)).trans h.cells, (hbk m (Ne.symm hgm)).trans h.map, ⟨rl.set k y, ?_, by simpa using h2, fun i hi hl => ?_⟩, h.gs, h.ms, h.ps⟩
  · rw [setCell_eq_setRow wr g k _ _ _ _ h1]
    have := setRow_heap wr g _ ((rl.map Sl.v).toArray.setIfInBounds k y.v) _ _ h1
    refine this.trans ?_
    simp [List.map_set]
  · by_cases e : k = i
    · subst e
      simp only [List.getElem_set_self]
      exact keepB _ _ hy
    · simp only [List.getElem_set_ne e]
      exact keepB _ _ (h3 i (by omega) (by simpa using hl))
theorem NewI.done (h : NewI w wr n ls n g m p) (hl : ls.length = n) : Tq wr p m ⟨some ⟨g, 0, none⟩, n, n⟩ (fun z => w.heap.size ≤ z) (TX.new ls) := by
  obtain ⟨rl, h1, h2, h3⟩ := h.rows
  exact ⟨h.cells, ⟨hl, Nat.le_refl _, g, rl, rfl, h.gs, by show rl.length = ls.length; omega, h1, fun i hi => h3 i (by omega) hi⟩, ⟨#[], 0, h.map, by simp, fun i => trivial⟩, h.ps, h.ms⟩
/-- At the start. -/
theorem NewI.start (w : World) (n : Nat) (ls : List (List UInt8)) : NewI w (((w.alloc (.cells (Array.replicate n (.slice none 0 0)) 27)).alloc (.map #[] 0)).alloc (.cells #[.slice (some ⟨w.heap.size, 0, none⟩) n n, .map (some (w.heap.size + 1))] 62)) n ls 0 w.heap.size (w.heap.size + 1) (w.heap.size + 2) := by
  refine ⟨(((Below.refl _ _).alloc (Nat.le_refl _) _).alloc (by simp) _).alloc (by simp; omega) _, ?_, ?_, ⟨List.replicate n ⟨none, 0, 0⟩, ?_, by simp, fun i hi => by omega⟩, Nat.le_refl _, by omega, by omega⟩
  · have := heap_alloc_new ((w.alloc (.cells (Array.replicate n (.slice none 0 0)) 27)).alloc (.map #[] 0)) (.cells #[.slice (some ⟨w.heap.size, 0, none⟩) n n, .map (some (w.heap.size + 1))] 62)
    rwa [World.size_alloc, World.size_alloc] at this
  · rw [Below.heap_alloc _ _ _ (by simp)]
    have := heap_alloc_new (w.alloc (.cells (Array.replicate n (.slice none 0 0)) 27)) (.map #[] 0)
    rwa [World.size_alloc] at this
  · rw [Below.heap_alloc _ _ _ (by simp; omega), Below.heap_alloc _ _ _ (by simp), heap_alloc_new]
    simp [Sl.v]
end
/-- Behind New. -/
def NewQ (w : World) (n : Nat) (ls : List (List UInt8)) (e : Ending) (w' : World) : Prop := ∃ g m p, e = .returned (.pointer (some ⟨p, 0, none⟩)) ∧ Tq w' p m ⟨some ⟨g, 0, none⟩, n, n⟩ (fun z => w.heap.size ≤ z) (TX.new ls) ∧ Below w.heap.size w w' ∧ w.heap.size ≤ p ∧ w.heap.size ≤ m
set_option maxRecDepth 100000 in
set_option maxHeartbeats 1000000 in
theorem new_any (A : Option Addr) (n c : Nat) (ls : List (List UInt8)) (w : World) (h : RI w A n ls) (hn : n ≤ 1000000) : Calls Try.prog 11 #[.slice A n c] w (NewQ w n ls) := by
  obtain ⟨ii, hii, hiz, his, hib⟩ := info_parts info_rows
  have hmk : ∀ W : World, (Instr.makeSlice 37 (.int .i64 (n : Int)) (.int .i64 (n : Int))).run Try.prog W = .ok (.slice (some ⟨W.heap.size, 0, none⟩) n n) (W.alloc (.cells (Array.replicate n (.slice none 0 0)) 27)) := fun W => by
    have hr := run_makeSlice (P := Try.prog) W 37 27 ii (.slice none 0 0) Try.underlying37 hii hiz .i64 .i64 (n : Int) (n : Int) (by omega) (by omega) (by rw [his]; simp; omega) (by rw [hib]; omega) (by omega)
    simp only [Int.toNat_natCast, his, Nat.mul_one] at hr
    rw [hr, madeCells_rows]
  have hmm := @run_makeMap Try.prog
  have HR := Lib.hid h
  have HI0 := Lib.hid (NewI.start w n ls)
  have HN : Hid (n ≤ 1000000) := hn
  have HL : Hid (ls.length = n) := h.1
  clear h hii hiz his hib
  go_enter Try.func11, Try.ntmps11
  go_wp2_with fail
  go_loopw [14] (fun i wr => ∃ k : Nat, k ≤ n ∧ i = .int .i64 k ∧ Hid (NewI w wr n ls k w.heap.size (w.heap.size + 1) (w.heap.size + 2))) (fun i _ => n - (intOf i).toNat)
  case atStart => exact ⟨0, by omega, rfl, HI0⟩
  case round =>
    clear HI0 hmk hmm
    obtain ⟨k, hk, rfl, HI⟩ := hrel
    by_cases hlt : k < n
    · obtain ⟨b, o, x, rfl, h1, h2, h3⟩ := HR.out.at hlt
      have hcx : wr.cell? ⟨b, o + k, none⟩ = some (.slice x.a x.n x.c) := (HI.out.bel.cell (p := ⟨b, o + k, none⟩) (World.block_lt_of_cell? w _ h1)).trans h1
      have HX := Lib.hid h2
      have HX3 := Lib.hid h3
      clear h1 h2 h3
      have hn1 := HN.out
      go_wp2_with fail
      have HId := Lib.hid HI.out.drew
      have HS : Hid ((fun W : World => W.cell? ⟨w.heap.size + 2, 0, none⟩ = some (.slice (some ⟨w.heap.size, 0, none⟩) n n)) wr.drew) := HId.out.c0
      refine wp_region_held_drew (S := fun W => W.cell? ⟨w.heap.size + 2, 0, none⟩ = some (.slice (some ⟨w.heap.size, 0, none⟩) n n)) (by kernel_rfl) HS.out (fun _ => ?_)
      change wpAnyH _ _ _ _ _ 9 (Array.replicate 9 false) _ _
      refine takeH (i := 0) 19 (.pointer (some ⟨w.heap.size + 2, 0, none⟩)) rfl rfl (by kernel_rfl) (by kernel_rfl) (by kernel_rfl) (fun _ _ _ h => h) (.inl ⟨by rfl, fun W hW => by go_simp⟩) HS.out ?_
      simp only [Act.put, List.setIfInBounds_toArray, List.set_cons_zero, List.set_cons_succ]
      refine takeH (i := 1) 20 (.pointer (some ⟨w.heap.size + 2, 0, none⟩)) rfl rfl (by kernel_rfl) (by kernel_rfl) (by kernel_rfl) (fun _ _ _ h => h) (.inl ⟨by rfl, fun W hW => by go_simp⟩) HS.out ?_
      simp only [Act.put, List.setIfInBounds_toArray, List.set_cons_zero, List.set_cons_succ]
      refine takeH (i := 2) 21 (.pointer (some ⟨w.heap.size + 2, 0, none⟩)) rfl rfl (by kernel_rfl) (by kernel_rfl) (by kernel_rfl) (fun _ _ _ h => h) (.inl ⟨by rfl, fun W hW => by go_simp⟩) HS.out ?_
      simp only [Act.put, List.setIfInBounds_toArray, List.set_cons_zero, List.set_cons_succ]
      refine takeH (i := 3) 22 (.slice (some ⟨w.heap.size, 0, none⟩) n n) rfl rfl (by kernel_rfl) (by kernel_rfl) (by kernel_rfl) (fun _ _ _ h => h) (.inl ⟨by rfl, fun W hW => by (have hz : W.cell? ⟨w.heap.size + 2, 0, none⟩ = some (.slice (some ⟨w.heap.size, 0, none⟩) n n) := hW; go_simp)⟩) HS.out ?_
      simp only [Act.put, List.setIfInBounds_toArray, List.set_cons_zero, List.set_cons_succ]
      refine takeH (i := 4) 23 (.int .i64 (k : Int)) rfl rfl (by kernel_rfl) (by kernel_rfl) (by kernel_rfl) (fun _ _ _ h => h) (.inl ⟨by rfl, fun W hW => by go_simp⟩) HS.out ?_
      simp only [Act.put, List.setIfInBounds_toArray, List.set_cons_zero, List.set_cons_succ]
      refine takeH (i := 5) 24 (.slice x.a x.n x.c) rfl rfl (by kernel_rfl) (by kernel_rfl) (by kernel_rfl) (fun _ _ _ h => h) (.inl ⟨by rfl, fun W hW => by go_simp⟩) HS.out ?_
      simp only [Act.put, List.setIfInBounds_toArray, List.set_cons_zero, List.set_cons_succ]
      refine wpAnyH_ready (rs := [6]) (by kernel_rfl) (by simp) ?_
      refine AllReadyH.cons rfl (fun K hK => ?_) AllReadyH.nil
      go_simp
      refine (clone_big x.a x.n x.c _ wr.drew (HX.out.below HI.out.bel).drew HX3.out).mono ?_
      rintro e w2 ⟨A2, c2, rfl, h1, h2, h3, h4, -⟩
      have HI2 := Lib.hid (HId.out.below h4)
      have HY : Hid (BC w2 (fun z => w.heap.size ≤ z) ⟨A2, x.n, c2⟩ (ls.getD k [])) := ⟨h1, HX3.out, h2, fun _ ad e => Nat.le_trans HI.out.bel.size (h3 ad e)⟩
      refine hK.out _ _ HI2.out.c0 fun _ => ?_
      clear hK K h1 h2 h3 h4
      refine takeH (i := 7) 26 (.pointer (some ⟨w.heap.size, k, none⟩)) rfl rfl (by kernel_rfl) (by kernel_rfl) (by kernel_rfl) (fun _ _ _ h => h) (.inl ⟨by rfl, fun W hW => by go_simp⟩) HI2.out.c0 ?_
      simp only [Act.put, List.setIfInBounds_toArray, List.set_cons_zero, List.set_cons_succ]
      refine wpAnyH_ready (rs := [8]) (by kernel_rfl) (by simp) ?_
      refine AllReadyH.cons rfl (fun K hK => ?_) AllReadyH.nil
      have HI3 := Lib.hid (HI2.out.set ⟨A2, x.n, c2⟩ HY.out)
      obtain ⟨v, hrow⟩ := HI2.out.row hlt
      have hfrow := HI2.out.froz k
      go_simp
      refine hK.out _ _ HI3.out.c0 fun _ => ?_
      clear hK K hrow hfrow
      refine wpAnyH_done (by kernel_rfl) ?_ _
      go_wp2
      go_roundw
      case rel => exact ⟨k + 1, by omega, by go_num, HI3⟩
      case measure => simp [intOf]; omega
    · obtain rfl : k = n := by omega
      go_wp2
      go_ret
      exact ⟨_, _, _, rfl, HI.out.done HL.out, HI.out.bel, by omega, by omega⟩
end Go.Proofs.Ytjionpkflpnejaa

namespace Go.Proofs.Ytjionpkflpnejaa
open Go.RowKit

theorem infos_wr : (Try.prog.info? 70).map (fun i => (i.zero, i.size, i.bytes)) = some (some (.agg (wv 0 ⟨none, 0, 0⟩).toArray), 2, 32) := by kernel_rfl
theorem ownsRow_succ {w : World} {base : Nat} {e : TypeId} {s : Nat} {v : Value} {n : Nat} {cells : List Value} (h : w.ownsRow base e s v (n + 1) cells) : ∃ g cap, v = .slice (some ⟨g, 0, none⟩) (n + 1) cap := by
  rcases h.2 with ⟨_, h0⟩ | ⟨g, cap, _, h1, _⟩
  · omega
  · exact ⟨g, cap, h1⟩

/-- One more write behind a row of them, its bytes new. -/
theorem WR.news (w2 : World) (k : Nat) (s : Sl) : ∀ j u, (wv (k : Int) s)[j]? = some u → (w2.alloc (.cells #[.int .i64 (k : Int), .slice s.a s.n s.c] 70)).cell? ((⟨w2.heap.size, 0, none⟩ : Addr).add j) = some u := fun j u hu =>
  World.news_of_block (heap_alloc_new w2 (.cells #[.int .i64 (k : Int), .slice s.a s.n s.c] 70)) j u (by simpa [wv] using hu)
theorem WR.push {W w2 w8 : World} {base : Nat} {A A' : Option Addr} {c c' : Nat} {l : List (Nat × List UInt8)} {sl : List Sl} (h : WR W base A c l sl) (hsz : base ≤ W.heap.size) (hb : Below W.heap.size W w2) (k : Nat) (b : List UInt8) (s : Sl) (hs : BS w2 s.a s.n b) (hc : s.n ≤ s.c) (hnew : ∀ ad, s.a = some ad → W.heap.size ≤ ad.block)
    (h8 : w8.ownsRow base 70 2 (.slice A' (l.length + 1) c') (l.length + 1) (wcs l sl ++ wv (k : Int) s)) (hg : (w2.alloc (.cells #[.int .i64 (k : Int), .slice s.a s.n s.c] 70)).grownBy w8 (Value.slice A l.length c).ownBlock)
    (hat : (Value.slice A' (l.length + 1) c').ownBlock = (Value.slice A l.length c).ownBlock ∨ (Value.slice A' (l.length + 1) c').ownBlock = some (w2.alloc (.cells #[.int .i64 (k : Int), .slice s.a s.n s.c] 70)).heap.size) :
    WR w8 base A' c' (l ++ [(k, b)]) (sl ++ [s]) ∧ Below base W w8 := by
  have hB : Below W.heap.size W (w2.alloc (.cells #[.int .i64 (k : Int), .slice s.a s.n s.c] 70)) := hb.alloc hb.size _
  refine ⟨(h.below hB).append (x := (k, b)) (s := s) h8 hg hat (hs.alloc _) hc fun _ ad e => ⟨Nat.le_trans hsz (hnew ad e), fun e' => ?_⟩, (hB.mono hsz).trans ((fr_grown hg).below (Nat.le_trans hsz hB.size) fun k e => (h.place k e).1)⟩
  have h1 := (h.place _ e').2
  have h2 := hnew ad e
  omega

/-- The bytes of writes may be written. -/
def Soft (w : World) (sl : List Sl) : Prop := ∀ i (h : i < sl.length), 0 < sl[i].n → ∀ ad, sl[i].a = some ad → ∀ j, w.frozen? ⟨ad.block, j, none⟩ = false
theorem frozen_of_block {w w' : World} {b j : Nat} (h : w'.heap[b]? = w.heap[b]?) : w'.frozen? ⟨b, j, none⟩ = w.frozen? ⟨b, j, none⟩ := by simp only [World.frozen?, h]
theorem WR.soft {W w2 w8 : World} {base : Nat} {A : Option Addr} {c : Nat} {l : List (Nat × List UInt8)} {sl : List Sl} (h : WR W base A c l sl) (hf : Soft W sl) (hb : Below W.heap.size W w2) (k : Nat) (s : Sl) {b : List UInt8} (hs : BS w2 s.a s.n b) (hnew : ∀ ad, s.a = some ad → W.heap.size ≤ ad.block) (hfs : ∀ ad, s.a = some ad → ∀ j, w2.frozen? ⟨ad.block, j, none⟩ = false)
    (hg : (w2.alloc (.cells #[.int .i64 (k : Int), .slice s.a s.n s.c] 70)).grownBy w8 (Value.slice A l.length c).ownBlock) : Soft w8 (sl ++ [s]) := by
  intro i hi h0 ad e j
  by_cases hi' : i < sl.length
  · simp only [List.getElem_append_left hi'] at h0 e
    have hlt := (h.bs i hi').lt_block h0 ad e
    have hsz := hb.size
    have h1 := hf i hi' h0 ad e j
    rw [frozen_of_block (w := w2.alloc (.cells #[.int .i64 (k : Int), .slice s.a s.n s.c] 70)) (hg.block ad.block (by rw [World.size_alloc]; omega) (fun e' => h.off i hi' h0 ad e e'.symm)), frozen_of_block (w := w2) (Below.heap_alloc _ _ _ (by omega)), frozen_of_block (w := W) (hb.block _ hlt)]
    exact h1
  · obtain rfl : i = sl.length := by simp at hi; omega
    have e1 : (sl ++ [s])[sl.length]'hi = s := by simp
    rw [e1] at h0 e
    have hlt := hs.lt_block h0 ad e
    rw [frozen_of_block (w := w2.alloc (.cells #[.int .i64 (k : Int), .slice s.a s.n s.c] 70)) (hg.block ad.block (by rw [World.size_alloc]; omega) (fun e' => by have h2 := (h.place _ e'.symm).2; have h3 := hnew ad e; omega)), frozen_of_block (w := w2) (Below.heap_alloc _ _ _ hlt)]
    exact hfs ad e j

section
variable {w : World} {p m : Nat} {x : Sl} {S : Nat → Prop} {X : TX}
set_option maxHeartbeats 400000 in
theorem changes_nil (w : World) : Calls Try.prog 16 #[.pointer none] w fun e w' => e = .returned (.slice none 0 0) ∧ w' = w := by
  have HC := Lib.hid (tlen_nil w)
  go_enter Try.func16, Try.ntmps16
  go_wp2_with fail
  refine HC.out.mono ?_
  rintro e w' ⟨rfl, rfl⟩
  go_wp2_with fail
  go_loop [3, 9] (fun s i => s = .slice none 0 0 ∧ i = .int .i64 0) (fun _ _ => 0)
  case atStart => exact ⟨rfl, rfl⟩
  case round =>
    obtain ⟨rfl, rfl⟩ := hrel
    go_wp2
    go_ret
    exact ⟨rfl, rfl⟩
/-- Behind Changes. -/
def ChgQ (w : World) (l : List (Nat × List UInt8)) (e : Ending) (w' : World) : Prop := ∃ A c sl, e = .returned (.slice A l.length c) ∧ WR w' w.heap.size A c l sl ∧ Below w.heap.size w w' ∧ Soft w' sl
set_option maxRecDepth 100000 in
set_option maxHeartbeats 2000000 in
theorem changes_any (h : Tq w p m x S X) (hn : x.n ≤ 1000000) : Calls Try.prog 16 #[.pointer (some ⟨p, 0, none⟩)] w (ChgQ w (X.chs x.n)) := by
  obtain ⟨i0, hi0, hz0, hz1, hz2⟩ := info_parts infos_wr
  have HI0 := Lib.hid hi0
  have HZ0 := Lib.hid hz0
  have HZ1 := Lib.hid hz1
  have HZ2 := Lib.hid hz2
  clear hi0 hz0 hz1 hz2
  have HC := Lib.hid (tlen_any h)
  have HT := Lib.hid h
  have HN := Lib.hid hn
  clear h
  go_enter Try.func16, Try.ntmps16
  go_wp2_with fail
  refine HC.out.mono ?_
  rintro e w' ⟨rfl, rfl⟩
  clear HC
  rename World => W0
  go_wp2_with fail
  go_loopw [3, 9] (fun s i wr => ∃ (k c : Nat) (A : Option Addr) (sl : List Sl), k ≤ x.n ∧ i = .int .i64 k ∧ s = .slice A (X.chs k).length c ∧ Hid (Below W0.heap.size W0 wr) ∧ Hid (WR wr W0.heap.size A c (X.chs k) sl) ∧ Hid (Soft wr sl)) (fun _ i _ => x.n - (intOf i).toNat)
  case atStart => exact ⟨0, 0, none, [], by omega, rfl, rfl, Below.refl _ _, WR.nil _ _, fun i h => by simp at h⟩
  case round =>
    obtain ⟨k, c, A, sl, hk, rfl, rfl, HB, HW, HF⟩ := hrel
    by_cases hlt : k < x.n
    · have HT1 := Lib.hid (HT.out.below HB.out)
      have c0 := HT1.out.c0
      have c1 := HT1.out.c1
      obtain ⟨g, y, hxa, hg, hby⟩ := HT1.out.rows.at hlt
      have HY := Lib.hid hby
      clear hby
      rw [hxa] at c0
      cases hp : X.p k with
      | none =>
        have hl := HT1.out.puts.none_at k hp
        have HE : Hid (X.chs (k + 1) = X.chs k) := TX.chs_no (TX.chg_none hp)
        clear hp hxa
        go_wp2_with fail
        go_roundw
        case rel => exact ⟨k + 1, c, A, sl, by omega, by go_num, by rw [HE.out], HB, by show WR _ _ _ _ _ _; rw [HE.out]; exact HW.out, HF⟩
        case measure => simp [intOf]; omega
      | some b =>
        obtain ⟨z, hl, hbz⟩ := HT1.out.puts.some_at k hp
        have HBZ := Lib.hid hbz
        have HQ := Lib.hid (equal_any z.a y.a z.n y.n z.c y.c b (X.l.getD k []) _ hbz.bs HY.out.bs)
        cases hc : X.chg k with
        | false =>
          have HE : Hid (X.chs (k + 1) = X.chs k) := TX.chs_no hc
          rw [TX.chg_of hp, decide_eq_false_iff_not, Decidable.not_not] at hc
          rw [decide_eq_true (show b = X.l.getD k [] from hc)] at HQ
          clear hp hc hbz hxa
          go_wp2_with fail
          refine HQ.out.mono ?_
          rintro e w' ⟨rfl, rfl⟩
          go_wp2_with fail
          go_roundw
          case rel => exact ⟨k + 1, c, A, sl, by omega, by go_num, by rw [HE.out], HB, by show WR _ _ _ _ _ _; rw [HE.out]; exact HW.out, HF⟩
          case measure => simp [intOf]; omega
        | true =>
          have HE : Hid (X.chs (k + 1) = X.chs k ++ [(k, b)]) := by show _ = _; rw [TX.chs_yes hc, TX.get_of hp]
          rw [TX.chg_of hp, decide_eq_true_eq] at hc
          rw [decide_eq_false (show ¬ b = X.l.getD k [] from hc)] at HQ
          have HLN := Lib.hid (TX.chs_len X k)
          clear hp hc hbz hxa
          go_wp2_with fail
          refine HQ.out.mono ?_
          rintro e w' ⟨rfl, rfl⟩
          go_wp2_with fail
          refine (clone_big z.a z.n z.c b _ HBZ.out.bs HBZ.out.few).mono ?_
          rintro e w2 ⟨A2, c2, rfl, h1, h2, h3, h4, h5⟩
          have HB2 := Lib.hid h4
          have HF2 := Lib.hid h5
          have HS2 := Lib.hid h1
          have HC2 := Lib.hid h2
          have HN2 := Lib.hid h3
          have HRM : Hid ((w2.alloc (.cells #[.int .i64 (k : Int), .slice A2 z.n c2] 70)).ownsRow W0.heap.size 70 2 (.slice A (X.chs k).length c) (X.chs k).length (wcs (X.chs k) sl)) := (HW.out.below (HB2.out.alloc HB2.out.size _)).row
          clear h1 h2 h3 h4 h5 HQ
          have hsz : W0.heap.size ≤ (w2.alloc (.cells #[.int .i64 (k : Int), .slice A2 z.n c2] 70)).heap.size := by
            have h5 := HB.out.size
            have h6 := HB2.out.size
            rw [World.size_alloc]
            omega
          have HL1 : Hid ((X.chs k).length ≤ 1000000) := by
            have h5 := HLN.out
            have h6 := HN.out
            show _ ≤ _
            omega
          go_wp2_with (at_builtin
                       go_must (refine wpList_append_own_at _ rfl (.tmp 34) (.tmp 39) 43 rfl W0.heap.size 70 i0 _ 2 32 Try.underlying43 HI0.out HZ0.out HZ1.out HZ2.out rfl (by omega) (.slice A (X.chs k).length c) (X.chs k).length (wcs (X.chs k) sl) rfl HRM.out ⟨w2.heap.size, 0, none⟩ 1 1 (wv (k : Int) ⟨A2, z.n, c2⟩) rfl (by simp [wv]) (WR.news w2 k ⟨A2, z.n, c2⟩) (by simp [wv, Value.oneCell']) (by have := HL1.out; unfold maxLen; omega) (by have := HL1.out; omega) hsz ?_)
                       intro v' w8 hown' hgrow _ hat
                       obtain ⟨g', cap', rfl⟩ := ownsRow_succ hown'
                       have HMO := Lib.hid (HW.out.push HB.out.size HB2.out k b ⟨A2, z.n, c2⟩ HS2.out HC2.out HN2.out hown' hgrow hat)
                       have HFO := Lib.hid (HW.out.soft HF.out HB2.out k ⟨A2, z.n, c2⟩ HS2.out HN2.out HF2.out hgrow)
                       clear hown' hgrow hat)
          go_roundw
          case rel => exact ⟨k + 1, cap', some ⟨g', 0, none⟩, _, by omega, by go_num, by rw [HE.out]; simp, HB.out.trans HMO.out.2, by show WR _ _ _ _ _ _; rw [HE.out]; exact HMO.out.1, HFO⟩
          case measure => simp [intOf]; omega
    · obtain rfl : k = x.n := by omega
      go_wp2
      go_ret
      exact ⟨A, c, sl, rfl, HW.out, HB.out, HF.out⟩
end
end Go.Proofs.Ytjionpkflpnejaa

namespace Go.Proofs.Ytjionpkflpnejaa
open Go.RowKit Go.Shelf

/-- Blocks of slices of bytes, just made. -/
theorem RI.made (w : World) (n : Nat) : RI (w.alloc (.cells (Array.replicate n (.slice none 0 0)) 27)) (some ⟨w.heap.size, 0, none⟩) n (List.replicate n []) := by
  refine ⟨List.length_replicate, fun hn => ⟨w.heap.size, 0, rfl, fun k hk => ⟨⟨none, 0, 0⟩, ?_, ?_, Nat.zero_le _⟩⟩⟩
  · rw [Nat.zero_add, cell_of_row _ _ _ _ _ _ (heap_alloc_new w _)]
    simp [hk]
  · have : (List.replicate n ([] : List UInt8)).getD k [] = [] := by simp [List.getD, hk]
    rw [this]
    exact BS.nil
theorem run_make_rows (w : World) (n : Nat) (hn : n ≤ 1000000) : (Instr.makeSlice 37 (.int .i64 (n : Int)) (.int .i64 (n : Int))).run Try.prog w = .ok (.slice (some ⟨w.heap.size, 0, none⟩) n n) (w.alloc (.cells (Array.replicate n (.slice none 0 0)) 27)) := by
  obtain ⟨ii, hii, hiz, his, hib⟩ := info_parts info_rows
  have hr := run_makeSlice (P := Try.prog) w 37 27 ii (.slice none 0 0) Try.underlying37 hii hiz .i64 .i64 (n : Int) (n : Int) (by omega) (by omega) (by rw [his]; simp; omega) (by rw [hib]; omega) (by omega)
  simp only [Int.toNat_natCast, his, Nat.mul_one] at hr
  rw [hr, madeCells_rows]
section
variable {w : World} {p m : Nat} {x : Sl} {S : Nat → Prop} {X : TX}
set_option maxRecDepth 100000 in
set_option maxHeartbeats 1000000 in
theorem loadM_any (h : Tq w p m x S X) (hn : 0 < x.n) (hl : (X.get 0).length ≤ 2000) :
    Calls Try.prog 13 #[.pointer (some ⟨p, 0, none⟩)] w fun e w' => e = .returned (.tuple #[.agg (mc (Mk.got (X.get 0))).toArray, .int .i64 (Mk.err (X.get 0))]) ∧ Below w.heap.size w w' := by
  have HT := Lib.hid h
  have HL := Lib.hid hl
  have HG : Hid (∀ W, Tq W p m x S X → Calls Try.prog 29 #[.pointer (some ⟨p, 0, none⟩), .int .i64 0] W (GotB W (X.get 0))) := fun W hW => get_ok hW 0 hn
  clear h hl hn
  generalize X.get 0 = l at *
  go_enter Try.func13, Try.ntmps13
  go_upto_region 1 with (refine wpList_alloc_any rfl 25 rfl _ zero_Mk ?_; intro w1 hb1 hs1 hw1)
  have HB1 : Hid (Bw w1 w.heap.size (mc Mk.zero) 25) := hb1
  have HW1 := Lib.hid hw1
  have HT1 := Lib.hid (HT.out.below hw1)
  clear hb1 hs1 hw1 HT
  go_wp2_with fail
  refine (HG.out _ HT1.out).mono ?_
  rintro e w2 ⟨A, n, c, rfl, hbs, -, -, -, hb, -⟩
  have HX := Lib.hid hbs
  have HB2 := Lib.hid (HB1.out.below hb)
  have HW2 := Lib.hid (HW1.out.trans (hb.mono HW1.out.size))
  clear hbs hb HB1 HW1 HT1 HG
  go_wp2_with fail
  refine (getM_any l A n c w2 HX.out (by have := HX.out.1; have := HL.out; omega)).mono ?_
  rintro e w3 ⟨rfl, hb⟩
  have HB3 := Lib.hid (HB2.out.below hb)
  have HW3 := Lib.hid (HW2.out.trans (hb.mono HW2.out.size))
  clear hb HB2 HW2
  go_wp2_with (refine wpList_store_part rfl 25 (.tmp 2) (.tmp 7) rfl w.heap.size 0 (mc (Mk.got l)) rfl rfl 25 _ HB3.out size_Mk (by simp [mc]) (mc_one _) ?_
               intro y hb _ hk
               have HB := Lib.hid hb
               have HK := Lib.hid hk
               clear hb hk)
  exact bodyPost_ret (results_cell rfl _ y w.heap.size (.int .i64 (Mk.err l)) HB.out size_Mk (by rfl) (by rfl) Try.underlying25) rfl ⟨rfl, HW3.out.trans (HK.out.below2 (fun k hk => by omega))⟩
set_option maxRecDepth 100000 in
set_option maxHeartbeats 1000000 in
theorem saveM_any (h : Tq w p m x S X) (hn : 0 < x.n) (hS : ∀ k, w.heap.size ≤ k → S k) (s : Ms) (hw : s.Wide) :
    Calls Try.prog 12 #[.pointer (some ⟨p, 0, none⟩), .agg (mc s).toArray] w fun e w' => e = .returned (.int .i64 (Mk.chkM s)) ∧ Tq w' p m x S (if Mk.okM s = true then X.put 0 (Mk.put s) else X) ∧ ∀ B, B ≤ w.heap.size → B ≤ m → Below B w w' := by
  have HT := Lib.hid h
  have HP : Hid (∀ W, (∀ k, W.heap.size ≤ k → S k) → Tq W p m x S X → ∀ A n c, BS W A n (Mk.put s) → (Mk.put s).length ≤ 96 → Calls Try.prog 28 #[.pointer (some ⟨p, 0, none⟩), .int .i64 0, .slice A n c] W (TPutQ W p m x S (X.put 0 (Mk.put s)) 0)) := fun W hSW hW A n c hb hl => by
    have h1 := tput_any hW hSW 0 A n c (Mk.put s) hb
    rw [show TX.perr x.n 0 (Mk.put s) = 0 from TX.perr_ok (hasB_nat hn) hl, show X.putI x.n 0 (Mk.put s) = X.put 0 (Mk.put s) from TX.putI_ok hn hl] at h1
    exact h1
  have HPM : Hid (∀ W, Calls Try.prog 8 #[.agg (mc s).toArray] W (PutQ (Mk.put s) (Mk.chkM s) W)) := fun W => putM_any s W hw
  have HL : Hid (Mk.okM s = true → (Mk.put s).length ≤ 96) := fun h => by rw [Mk.put_length s h]; split <;> omega
  have HS := Lib.hid hS
  obtain ⟨Z, hZ⟩ : ∃ Z : TX, (if Mk.okM s = true then X.put 0 (Mk.put s) else X) = Z := ⟨_, rfl⟩
  have HZ := Lib.hid hZ
  rw [hZ]
  clear h hn hS hw hZ
  go_enter Try.func12, Try.ntmps12
  go_upto_region 1 with fail
  have HB0 : Hid (Bw (w.alloc (.cells (mc s).toArray 25)) w.heap.size (mc s) 25) := heap_alloc_new w _
  have HW0 : Hid (Below w.heap.size w (w.alloc (.cells (mc s).toArray 25))) := (Below.refl _ w).alloc (Nat.le_refl _) _
  generalize w.alloc (.cells (mc s).toArray 25) = w0 at *
  go_wp2_with (refine wpList_load_part rfl 25 (.tmp 3) rfl _ 0 rfl _ Try.underlying25 rfl (mc s) 25 _ HB0.out size_Mk (fun j u hu => by rw [Nat.zero_add]; exact hu) ?_)
  refine (HPM.out w0).mono ?_
  rintro e w1 ⟨A, n, c, rfl, hown⟩
  have HX := Lib.hid hown.bs
  have HW1 := Lib.hid (HW0.out.trans (hown.2.mono HW0.out.size))
  have HT1 := Lib.hid (HT.out.below HW1.out)
  clear hown HB0 HW0 HPM
  by_cases hok : Mk.okM s = true
  rotate_left
  · rw [show Mk.chkM s = 1 from if_neg hok]
    have HI : Hid (Z = X) := HZ.out.symm.trans (if_neg hok)
    have HE : Hid (Mk.chkM s = 1) := if_neg hok
    clear hok
    go_wp2_with fail
    go_ret
    rw [HI.out, HE.out]
    exact ⟨rfl, HT1.out, fun B hB _ => HW1.out.mono hB⟩
  rw [show Mk.chkM s = 0 from if_pos hok]
  have HI : Hid (Z = X.put 0 (Mk.put s)) := HZ.out.symm.trans (if_pos hok)
  have HE : Hid (Mk.chkM s = 0) := if_pos hok
  have hl := HL.out hok
  clear hok HL
  go_wp2_with fail
  refine (HP.out w1 (fun k hk => HS.out k (Nat.le_trans HW1.out.size hk)) HT1.out A n c HX.out hl).mono ?_
  rintro e w2 ⟨rfl, h1, h2⟩
  have HT2 := Lib.hid h1
  have HC := Lib.hid h2
  clear h1 h2
  go_wp2_with fail
  go_ret
  rw [HI.out, HE.out]
  exact ⟨rfl, HT2.out, fun B hB hm => (HW1.out.mono hB).trans (HC.out.below (Nat.le_trans hB HW1.out.size) (fun k hk => by rw [hk]; exact hm))⟩
end
end Go.Proofs.Ytjionpkflpnejaa

namespace Go.Proofs.Ytjionpkflpnejaa
open Go.RowKit Go.Shelf

def aM : Ms := ⟨true, 0, 0, 0, 0, 0, 0, 0, 0⟩
def bM : Ms := ⟨false, 1, 0, 0, 0, 0, 0, 0, 0⟩
theorem built_aM : Try.prog.built 25 [(0, .bool true)] = some (mc aM).toArray := by kernel_rfl
theorem built_bM : Try.prog.built 25 [(1, .int .u32 1)] = some (mc bM).toArray := by kernel_rfl
theorem aM_wide : aM.Wide := ⟨by decide, by decide, by decide, by decide, by decide, by decide, by decide, by decide⟩
theorem aM_ok : Mk.okM aM = true := by decide +kernel
theorem bM_no : Mk.chkM bM = 1 := by decide +kernel
theorem aM_len : (Mk.put aM).length = 52 := by decide +kernel
set_option maxRecDepth 100000 in
set_option maxHeartbeats 4000000 in
theorem awakeM_any (w : World) : Calls Try.prog 7 #[] w fun e w' => e = .returned (.bool true) ∧ Below w.heap.size w w' := by
  have hmk : ∀ W : World, (Instr.makeSlice 37 (.int .i64 3) (.int .i64 3)).run Try.prog W = .ok (.slice (some ⟨W.heap.size, 0, none⟩) 3 3) (W.alloc (.cells (Array.replicate 3 (.slice none 0 0)) 27)) := fun W => run_make_rows W 3 (by omega)
  go_enter Try.func7, Try.ntmps7
  go_wp2_with (refine Did.list rfl (did_build 25 #[(0, .const (.bool true))] rfl _ built_aM) ?_)
  refine (putM_any aM w aM_wide).mono ?_
  rintro en w1 ⟨A1, n1, c1, rfl, ho1⟩
  rw [show Mk.chkM aM = 0 from if_pos aM_ok]
  have hn1 : n1 = 52 := by have := ho1.bs.1; rw [aM_len] at this; exact this.symm
  subst hn1
  have HB1 := Lib.hid ho1.bs
  have HW1 := Lib.hid ho1.2
  clear ho1
  go_wp2_with fail
  refine (getM_any (Mk.put aM) A1 52 c1 w1 HB1.out (by omega)).mono ?_
  rintro en w2 ⟨rfl, hb2⟩
  rw [(Mk.got_put aM aM_wide aM_ok).1, (Mk.got_put aM aM_wide aM_ok).2]
  have HW2 := Lib.hid (HW1.out.trans (hb2.mono HW1.out.size))
  clear hb2 HW1 HB1
  go_upto_region 3 with (first
    | (refine wpList_alloc_any rfl 25 rfl _ zero_Mk ?_; intro w3 hb3 hs3 hw3)
    | (refine wpList_store_part rfl 25 (.tmp 3) (.tmp 17) rfl w2.heap.size 0 (mc aM) rfl rfl 25 _ hb3 size_Mk (by simp [mc]) (mc_one _) ?_
       intro w4 hb4 hs4 hk4))
  have HC4 : Hid (Bw w4 w2.heap.size (mc aM) 25) := hb4
  have hbw : Below w2.heap.size w2 w4 := hw3.trans (hk4.below2 (fun k hk => by omega))
  have HW4 := Lib.hid (HW2.out.trans (hbw.mono HW2.out.size))
  clear hb3 hs3 hw3 hb4 hs4 hk4 hbw HW2
  generalize w2.heap.size = g at *
  have HRI := Lib.hid (RI.made w4 3)
  have HBa : Hid (Below w4.heap.size w4 (w4.alloc (.cells (Array.replicate 3 (.slice none 0 0)) 27))) := (Below.refl _ _).alloc (Nat.le_refl _) _
  go_wp2_with fail
  refine (new_any _ 3 3 (List.replicate 3 []) _ HRI.out (by omega)).mono ?_
  rintro en w5 ⟨h, m, p, rfl, ht, hb, _, hm⟩
  have HT5 : Hid (Tq w5 p m ⟨some ⟨h, 0, none⟩, 3, 3⟩ (fun z => w4.heap.size ≤ z) (TX.new (List.replicate 3 []))) := ht.mono fun k hk => Nat.le_trans HBa.out.size hk
  have hb5 := HBa.out.trans (hb.mono HBa.out.size)
  have HM5 : Hid (w4.heap.size ≤ m) := Nat.le_trans HBa.out.size hm
  have HC5 := Lib.hid (HC4.out.below hb5)
  have HB5 := Lib.hid hb5
  clear ht hb hm hb5 HBa HRI hmk
  go_wp2_with (refine wpList_load_part rfl 25 (.tmp 3) rfl _ 0 rfl _ Try.underlying25 rfl (mc aM) 25 _ HC5.out size_Mk (fun j u hu => by rw [Nat.zero_add]; exact hu) ?_)
  refine (saveM_any HT5.out (by show 0 < 3; omega) (fun k hk => Nat.le_trans HB5.out.size hk) aM aM_wide).mono ?_
  rintro en w6 ⟨rfl, ht, hb⟩
  rw [if_pos aM_ok] at ht
  have hb6 := HB5.out.trans (hb w4.heap.size HB5.out.size HM5.out)
  have HT6 := Lib.hid ht
  have HC6 := Lib.hid (HC4.out.below hb6)
  have HW6 := Lib.hid (HW4.out.trans (hb6.mono HW4.out.size))
  have HX0 : Hid (((TX.new (List.replicate 3 [])).put 0 (Mk.put aM)).get 0 = Mk.put aM) := by show _ = _; rw [TX.get_put, if_pos rfl]
  rw [show Mk.chkM aM = 0 from if_pos aM_ok]
  clear ht hb hb6 HC4 HC5 HW4 HT5 HB5 HM5
  go_wp2_with fail
  refine (loadM_any HT6.out (by show 0 < 3; omega) (by rw [HX0.out, aM_len]; omega)).mono ?_
  rintro en w7 ⟨rfl, hb⟩
  rw [HX0.out, (Mk.got_put aM aM_wide aM_ok).1, (Mk.got_put aM aM_wide aM_ok).2]
  have HC7 := Lib.hid (HC6.out.below hb)
  have HW7 := Lib.hid (HW6.out.trans (hb.mono HW6.out.size))
  clear hb HC6 HW6 HT6 HX0
  go_upto_region 6 with (first
    | (refine wpList_alloc_any rfl 25 rfl _ zero_Mk ?_; intro w8 hb8 hs8 hw8)
    | (refine wpList_store_part rfl 25 (.tmp 7) (.tmp 27) rfl w7.heap.size 0 (mc aM) rfl rfl 25 _ hb8 size_Mk (by simp [mc]) (mc_one _) ?_
       intro w9 hb9 hs9 hk9))
  have HD9 : Hid (Bw w9 w7.heap.size (mc aM) 25) := hb9
  have hbw : Below w7.heap.size w7 w9 := hw8.trans (hk9.below2 (fun k hk => by omega))
  have HC9 := Lib.hid (HC7.out.below hbw)
  have HW9 := Lib.hid (HW7.out.trans (hbw.mono HW7.out.size))
  clear hb8 hs8 hw8 hb9 hs9 hk9 hbw HC7 HW7
  generalize w7.heap.size = q at *
  have e0 : w9.cell? ⟨g, 0, none⟩ = some (.bool true) := HC9.out.cell 0 _ rfl
  have e1 : w9.cell? ⟨g, 1, none⟩ = some (.int .u32 0) := HC9.out.cell 1 _ rfl
  have e2 : w9.cell? ⟨g, 2, none⟩ = some (.int .u32 0) := HC9.out.cell 2 _ rfl
  have e3 : w9.cell? ⟨g, 3, none⟩ = some (.int .u64 0) := HC9.out.cell 3 _ rfl
  have e4 : w9.cell? ⟨g, 4, none⟩ = some (.int .u64 0) := HC9.out.cell 4 _ rfl
  have e5 : w9.cell? ⟨g, 5, none⟩ = some (.int .u64 0) := HC9.out.cell 5 _ rfl
  have e6 : w9.cell? ⟨g, 6, none⟩ = some (.int .u64 0) := HC9.out.cell 6 _ rfl
  have e7 : w9.cell? ⟨g, 7, none⟩ = some (.int .u32 0) := HC9.out.cell 7 _ rfl
  have e8 : w9.cell? ⟨g, 8, none⟩ = some (.int .u32 0) := HC9.out.cell 8 _ rfl
  have d0 : w9.cell? ⟨q, 0, none⟩ = some (.bool true) := HD9.out.cell 0 _ rfl
  have d1 : w9.cell? ⟨q, 1, none⟩ = some (.int .u32 0) := HD9.out.cell 1 _ rfl
  have d2 : w9.cell? ⟨q, 2, none⟩ = some (.int .u32 0) := HD9.out.cell 2 _ rfl
  have d3 : w9.cell? ⟨q, 3, none⟩ = some (.int .u64 0) := HD9.out.cell 3 _ rfl
  have d4 : w9.cell? ⟨q, 4, none⟩ = some (.int .u64 0) := HD9.out.cell 4 _ rfl
  have d5 : w9.cell? ⟨q, 5, none⟩ = some (.int .u64 0) := HD9.out.cell 5 _ rfl
  have d6 : w9.cell? ⟨q, 6, none⟩ = some (.int .u64 0) := HD9.out.cell 6 _ rfl
  have d7 : w9.cell? ⟨q, 7, none⟩ = some (.int .u32 0) := HD9.out.cell 7 _ rfl
  have d8 : w9.cell? ⟨q, 8, none⟩ = some (.int .u32 0) := HD9.out.cell 8 _ rfl
  have heq : ∀ W : World, (binOp .eql 25 (.agg #[.bool true, .int .u32 0, .int .u32 0, .int .u64 0, .int .u64 0, .int .u64 0, .int .u64 0, .int .u32 0, .int .u32 0]) (.agg #[.bool true, .int .u32 0, .int .u32 0, .int .u64 0, .int .u64 0, .int .u64 0, .int .u64 0, .int .u32 0, .int .u32 0])).run Try.prog W = .ok (.bool true) W := fun W => by
    have := mEq aM aM W
    rw [decide_eq_true rfl] at this
    exact this
  have hbb := built_bM
  clear HC9 HD9
  go_wp2_with fail
  refine (checkM_any bM w9).mono ?_
  rintro en w10 ⟨rfl, hb⟩
  rw [bM_no]
  go_wp2_with fail
  go_ret
  exact ⟨rfl, HW9.out.trans (hb.mono HW9.out.size)⟩
end Go.Proofs.Ytjionpkflpnejaa

namespace Go.Proofs.Ytjionpkflpnejaa
theorem Mk.all_there : True := trivial
end Go.Proofs.Ytjionpkflpnejaa
