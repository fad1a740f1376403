/-
  Rows of bools; what TxnBack knows between two rounds (layer 10).
-/
import Derived.Test.YtnjkcodegcojcaaTIn
import Derived.Laws.MakeOwn
namespace Go.Proofs.Ytnjkcodegcojcaa
open Go.RowKit

section
variable {o : Oper} {a : Act} {w : World} {ops : Array Oper} {rest : List Oper} {Q : Exit → Act → World → Prop}
/-- The cells of bools. -/
def bcs (n : Nat) (p : Nat → Bool) : List Value := (List.range n).map fun i => Value.bool (p i)
def BB (w : World) (g n : Nat) (p : Nat → Bool) : Prop := w.heap[g]? = some (.cells (bcs n p).toArray 4 (0, 0))
def upd {α : Type} (p : Nat → α) (k : Nat) (x : α) : Nat → α := fun i => if i = k then x else p i
theorem infoBool : (Try.prog.info? 4).map (fun i => (i.zero, i.size, i.bytes)) = some (some (.bool false), 1, 1) := by kernel_rfl
theorem made_cells (z : Value) (hz : z.cells = #[z]) (n : Nat) : madeCells z.cells (n * 1) = ((List.range n).map fun _ => z).toArray := by
  apply Array.ext'
  rw [hz]
  simp [madeCells, Nat.mod_one]
theorem wpList_make_row (hgd : o.guard = none) (t e : TypeId) (z : Value) (by_ : Nat) (l c : Operand) (ho : o.op = .makeSlice t l c) (ht : Try.prog.underlying t = some (.slice e))
    (hinf : (Try.prog.info? e).map (fun i => (i.zero, i.size, i.bytes)) = some (some z, 1, by_)) (hz1 : z.cells = #[z]) (hby : by_ ≤ 24) (n : Nat) (hl : a.eval l = .int .i64 (n : Int)) (hc : a.eval c = .int .i64 (n : Int)) (hn : n ≤ 1000000)
    (h : ∀ w', w'.heap[w.heap.size]? = some (.cells ((List.range n).map fun _ => z).toArray e (0, 0)) → w'.heap.size = w.heap.size + 1 → Below w.heap.size w w' → wpList Try.prog ops Q rest (a.put o.dst (.slice (some ⟨w.heap.size, 0, none⟩) n n)) w') : wpList Try.prog ops Q (o :: rest) a w := by
  obtain ⟨i, hi, hz, hs, hb⟩ := info_parts hinf
  have hr := run_makeSlice (P := Try.prog) w t e i z ht hi hz .i64 .i64 (n : Int) (n : Int) (by omega) (by omega) (by rw [hs]; simp; omega) (by rw [hb]; have h1 : by_ * n ≤ 24 * n := Nat.mul_le_mul_right _ hby; have h2 := Int.ofNat_le.2 h1; push_cast at h2; rw [Int.mul_comm] at h2; omega) (by omega)
  rw [hs, Int.toNat_natCast, made_cells z hz1] at hr
  refine Did.list hgd (v := .slice (some ⟨w.heap.size, 0, none⟩) n n) (w' := w.alloc (.cells ((List.range n).map fun _ => z).toArray e)) (.inl ?_) (h _ (heap_alloc_new w _) (by simp) ((Below.refl _ _).alloc (Nat.le_refl _) _))
  unfold execOp
  simp only [ho, hl, hc, Sem.run_bind, hr, Result.andThen_ok]
  rfl
end
section
variable {w w' : World} {g n : Nat}
theorem BB.cell {p : Nat → Bool} (h : BB w g n p) {k : Nat} (hk : k < n) : w.cell? ⟨g, k, none⟩ = some (.bool (p k)) := by
  rw [cell_of_row _ _ _ _ _ _ h]
  simp [bcs, hk]
theorem BB.froz {p : Nat → Bool} (h : BB w g n p) (k : Nat) : w.frozen? ⟨g, k, none⟩ = false := by simp [World.frozen?, show w.heap[g]? = _ from h]
theorem BB.lt {p : Nat → Bool} (h : BB w g n p) : g < w.heap.size := (Array.getElem?_eq_some_iff.1 h).1
theorem BB.below {p : Nat → Bool} (h : BB w g n p) (hb : Below w.heap.size w w') : BB w' g n p := (hb.block g h.lt).trans h
theorem setIf_range {α : Type} (n : Nat) (f : Nat → α) (k : Nat) (x : α) : ((List.range n).map f).toArray.setIfInBounds k x = ((List.range n).map (upd f k x)).toArray := by
  apply Array.ext'
  rw [Array.toList_setIfInBounds]
  apply List.ext_getElem
  · simp
  · intro i h1 h2
    rw [List.getElem_set]
    by_cases e : k = i
    · rw [if_pos e]
      simp [upd, e]
    · rw [if_neg e]
      have e2 : ¬ i = k := fun h => e h.symm
      simp [upd, e2]
theorem BB.set {p : Nat → Bool} (h : BB w g n p) (k : Nat) (x : Bool) : BB (w.setCell ⟨g, k, none⟩ (.bool x)) g n (upd p k x) := by
  have := setRow_heap w g _ (((List.range n).map (upd (fun i => Value.bool (p i)) k (.bool x))).toArray) _ _ h
  rw [← setIf_range] at this
  unfold BB
  rw [setCell_eq_setRow _ _ _ _ _ _ _ h]
  refine this.trans ?_
  rw [setIf_range]
  unfold bcs
  congr 3
  apply List.map_congr_left
  intro i _
  simp only [upd]
  split <;> rfl
theorem BB.congr {p q : Nat → Bool} (h : BB w g n p) (e : ∀ i, i < n → p i = q i) : BB w g n q := by
  unfold BB at h ⊢
  rw [h]
  congr 2
  unfold bcs
  congr 1
  apply List.map_congr_left
  intro i hi
  rw [e i (List.mem_range.1 hi)]
end
/-- All blocks of a transaction are there. -/
theorem Tq.bounded {w : World} {p m : Nat} {x : Sl} {S : Nat → Prop} {X : TX} (h : Tq w p m x S X) : Tq w p m x (fun k => S k ∧ k < w.heap.size) X := by
  have hb : ∀ y l, BC w S y l → BC w (fun k => S k ∧ k < w.heap.size) y l := fun y l hb => ⟨hb.bs, hb.few, hb.cap, fun h0 ad e => ⟨hb.own h0 ad e, hb.bs.lt_block h0 ad e⟩⟩
  obtain ⟨h1, h2, g, rl, h3, h4, h5, h6, h7⟩ := h.rows
  exact ⟨h.cells, ⟨h1, h2, g, rl, h3, ⟨h4, (Array.getElem?_eq_some_iff.1 h6).1⟩, h5, h6, fun i hi => hb _ _ (h7 i hi)⟩, h.puts.imp rfl hb, ⟨h.sp, h.plt⟩, ⟨h.sm, h.mlt⟩⟩

/-- What TxnBack puts first to block j. -/
def spB (ls : List (List UInt8)) (j : Nat) : List UInt8 := [1, 2, 3, UInt8.ofNat (ls.getD j []).length]
/-- TxnBack between two rounds: its transaction, and at gb which blocks change. -/
structure BackI (W0 w : World) (ls : List (List UInt8)) (n p m : Nat) (x : Sl) (gb : Nat) (X : TX) : Prop where
  tq : Tq w p m x (fun z => W0.heap.size ≤ z ∧ z ≠ gb) X
  ll : X.l = ls
  xn : x.n = n
  sp : ∀ j, X.chg j = true → X.get j = spB ls j
  bb : BB w gb n X.chg
  bel : Below W0.heap.size W0 w
  gs : W0.heap.size ≤ gb
section
variable {W0 w w1 w2 w' : World} {ls : List (List UInt8)} {n p m gb : Nat} {x : Sl} {X Y : TX}
theorem BackI.below (h : BackI W0 w ls n p m x gb X) (hb : Below w.heap.size w w') : BackI W0 w' ls n p m x gb X := ⟨h.tq.below hb, h.ll, h.xn, h.sp, h.bb.below hb, h.bel.trans (hb.mono h.bel.size), h.gs⟩
theorem BackI.drew (h : BackI W0 w ls n p m x gb X) : BackI W0 w.drew ls n p m x gb X := h.below (Below.refl _ _).drew
theorem BackI.new (h : BackI W0 w ls n p m x gb X) : ∀ k, w.heap.size ≤ k → W0.heap.size ≤ k ∧ k ≠ gb := fun k hk => ⟨Nat.le_trans h.bel.size hk, by have := h.bb.lt; omega⟩
/-- Behind a Put the bool is not yet told. -/
structure BackP (W0 w : World) (ls : List (List UInt8)) (n p m : Nat) (x : Sl) (gb : Nat) (X Y : TX) : Prop where
  tq : Tq w p m x (fun z => W0.heap.size ≤ z ∧ z ≠ gb) Y
  bb : BB w gb n X.chg
  bel : Below W0.heap.size W0 w
theorem BackI.put (h : BackI W0 w ls n p m x gb X) (ht : Tq w1 p m x (fun z => W0.heap.size ≤ z ∧ z ≠ gb) Y) (hc : Ch (· = m) w w1) : BackP W0 w1 ls n p m x gb X Y :=
  ⟨ht, (hc.1.block gb ⟨h.bb.lt, fun e => h.tq.sm.2 e.symm⟩).trans h.bb, h.bel.trans (hc.below h.bel.size fun k hk => by rw [hk]; exact h.tq.sm.1)⟩
theorem BackP.below (h : BackP W0 w ls n p m x gb X Y) (hb : Below w.heap.size w w') : BackP W0 w' ls n p m x gb X Y := ⟨h.tq.below hb, h.bb.below hb, h.bel.trans (hb.mono h.bel.size)⟩
theorem BackP.drew (h : BackP W0 w ls n p m x gb X Y) : BackP W0 w.drew ls n p m x gb X Y := h.below (Below.refl _ _).drew
theorem chg_put (X : TX) (k j : Nat) (b : List UInt8) : (X.put k b).chg j = if j = k then decide (b ≠ X.was k) else X.chg j := by
  unfold TX.chg
  rw [TX.get_put]
  by_cases e : j = k
  · subst e; simp [TX.was_put]
  · simp [e, TX.was_put]
/-- .. now it is. -/
theorem BackP.tell (h : BackI W0 w ls n p m x gb X) {k : Nat} {b : List UInt8} {v : Bool} (hp : BackP W0 w1 ls n p m x gb X (X.put k b)) (hv : v = decide (b ≠ ls.getD k [])) (hs : v = true → b = spB ls k) : BackI W0 (w1.setCell ⟨gb, k, none⟩ (.bool v)) ls n p m x gb (X.put k b) := by
  have hw : X.was k = ls.getD k [] := by unfold TX.was; rw [h.ll]
  refine ⟨hp.tq.keep fun j hj _ => Below.heap_setCell w1 ⟨gb, k, none⟩ _ j hj.2, h.ll, h.xn, fun j hj => ?_, ?_, hp.bel.setCell h.gs _, h.gs⟩
  · rw [chg_put] at hj
    rw [TX.get_put]
    by_cases e : j = k
    · rw [if_pos e] at hj ⊢
      rw [e]
      exact hs (by rw [hv, ← hw]; exact hj)
    · rw [if_neg e] at hj ⊢
      exact h.sp j hj
  · refine (hp.bb.set k v).congr fun i _ => ?_
    rw [chg_put]
    unfold upd
    rw [hv, hw]
end
end Go.Proofs.Ytnjkcodegcojcaa
