
/-
  A transaction in memory (layer 10): its struct, its blocks' slices, its map; what leaves it as it is.
-/
import Derived.Test.YtjionpkflpnejaaRefR
import Derived.Test.YtjionpkflpnejaaTSl
import Derived.Test.YtjionpkflpnejaaTMath
import Derived.Test.YtjionpkflpnejaaShelf
import Derived.Shelf.SlMaps.Clone
namespace Go.Proofs.Ytjionpkflpnejaa
open Go.RowKit

/-- As many bytes as a slice that is read may have, at most. -/
def big47 : Nat := 140737488355328
theorem le_big47 {n : Nat} (h : n ≤ 1000000) : n ≤ big47 := by unfold big47; omega
/-- A slice of bytes in a cell, its bytes of S. -/
structure BC (w : World) (S : Nat → Prop) (x : Sl) (l : List UInt8) : Prop where
  bs : BS w x.a x.n l
  few : x.n ≤ big47
  cap : x.n ≤ x.c
  own : 0 < x.n → ∀ ad, x.a = some ad → S ad.block
/-- Such a slice, or none. -/
def OC (w : World) (S : Nat → Prop) : Option Value → Option (List UInt8) → Prop
  | none, none => True
  | some v, some l => ∃ x : Sl, v = x.v ∧ BC w S x l
  | _, _ => False
/-- Block m is a map from numbers to slices of bytes. -/
def PM (w : World) (m : Nat) (S : Nat → Prop) (p : Nat → Option (List UInt8)) : Prop :=
  ∃ es clock, w.heap[m]? = some (.map es clock) ∧ (∀ e ∈ es.toList, ∃ i : Int, e.key = .int .i64 i) ∧ ∀ i : Nat, OC w S (look es.toList (i : Int)) (p i)
/-- A slice that reads as rows of bytes, in a block of slices. -/
def BR (w : World) (S : Nat → Prop) (x : Sl) (l : List (List UInt8)) : Prop :=
  l.length = x.n ∧ x.n ≤ x.c ∧ ∃ g, ∃ rl : List Sl, x.a = some ⟨g, 0, none⟩ ∧ S g ∧ rl.length = l.length ∧ w.heap[g]? = some (.cells (rl.map Sl.v).toArray 27 (0, 0)) ∧ ∀ i (h : i < rl.length), BC w S rl[i] (l.getD i [])
/-- At block p lies a transaction, its map at m, its rows in the slice x, all of S. -/
structure Tq (w : World) (p m : Nat) (x : Sl) (S : Nat → Prop) (X : TX) : Prop where
  cells : w.heap[p]? = some (.cells #[x.v, .map (some m)] 62 (0, 0))
  rows : BR w S x X.l
  puts : PM w m S X.p
  sp : S p
  sm : S m
/-- A block that is a map, or a transaction's two cells. -/
def Dull (w : World) (k : Nat) : Prop := (∃ es c, w.heap[k]? = some (.map es c)) ∨ ∃ (x : Sl) (m : Nat), w.heap[k]? = some (.cells #[x.v, .map (some m)] 62 (0, 0))
/-- Of the old blocks at most those of Q have changed, and those were dull. -/
def Ch (Q : Nat → Prop) (w w' : World) : Prop := Fr Q w w' ∧ ∀ k, Q k → Dull w k

theorem Dull.cell {w : World} {k : Nat} (h : Dull w k) (o : Nat) : w.cell? ⟨k, o, none⟩ = none ∨ (∃ x : Sl, w.cell? ⟨k, o, none⟩ = some x.v) ∨ ∃ m, w.cell? ⟨k, o, none⟩ = some (.map (some m)) := by
  rcases h with ⟨es, c, h⟩ | ⟨x, m, h⟩
  · left; simp [World.cell?, h]
  · rw [cell_of_row _ _ _ _ _ _ h]
    match o with
    | 0 => exact .inr (.inl ⟨x, rfl⟩)
    | 1 => exact .inr (.inr ⟨m, rfl⟩)
    | n + 2 => left; simp
theorem Dull.no_int {w : World} {k : Nat} (h : Dull w k) (o : Nat) (q : IntKind) (z : Int) : w.cell? ⟨k, o, none⟩ ≠ some (.int q z) := by
  rcases h.cell o with e | ⟨x, e⟩ | ⟨m, e⟩ <;> rw [e] <;> simp [Sl.v]
theorem Dull.no_bool {w : World} {k : Nat} (h : Dull w k) (o : Nat) (z : Bool) : w.cell? ⟨k, o, none⟩ ≠ some (.bool z) := by
  rcases h.cell o with e | ⟨x, e⟩ | ⟨m, e⟩ <;> rw [e] <;> simp [Sl.v]
theorem Dull.no_str {w : World} {k : Nat} (h : Dull w k) (o : Nat) (z : ByteArray) : w.cell? ⟨k, o, none⟩ ≠ some (.string z) := by
  rcases h.cell o with e | ⟨x, e⟩ | ⟨m, e⟩ <;> rw [e] <;> simp [Sl.v]
theorem Dull.no_row {w : World} {k : Nat} (h : Dull w k) (cs : Array Value) (t : TypeId) (ht : t ≠ 62) : w.heap[k]? ≠ some (.cells cs t (0, 0)) := by
  rcases h with ⟨es, c, h⟩ | ⟨x, m, h⟩ <;> rw [h] <;> simp
  exact fun _ e => ht e.symm

section
variable {w w' : World} {S T Q : Nat → Prop}
theorem Ch.of_below (h : Below w.heap.size w w') : Ch (fun _ => False) w w' := ⟨Fr.of_below h, fun _ h => h.elim⟩
theorem Ch.below (h : Ch Q w w') {B : Nat} (hB : B ≤ w.heap.size) (hQ : ∀ k, Q k → B ≤ k) : Below B w w' := h.1.below hB hQ
theorem Ch.size (h : Ch Q w w') : w.heap.size ≤ w'.heap.size := h.1.size
theorem BS.ch {A : Option Addr} {n : Nat} {l : List UInt8} (h : BS w A n l) (hc : Ch Q w w') : BS w' A n l :=
  ⟨h.1, fun hn => by
    obtain ⟨b, o, e, hcell⟩ := h.2 hn
    refine ⟨b, o, e, fun j hj => ?_⟩
    rw [← hcell j hj]
    exact World.cell?_of_block (hc.1.block b ⟨World.block_lt_of_cell? w _ (hcell j hj), fun hq => (hc.2 b hq).no_int _ _ _ (hcell j hj)⟩)⟩
theorem BC.ch {x : Sl} {l : List UInt8} (h : BC w S x l) (hc : Ch Q w w') : BC w' S x l := ⟨h.bs.ch hc, h.few, h.cap, h.own⟩
theorem BC.keep {x : Sl} {l : List UInt8} (h : BC w S x l) (hk : ∀ k, S k → k < w.heap.size → w'.heap[k]? = w.heap[k]?) : BC w' S x l :=
  ⟨⟨h.bs.1, fun hn => by
    obtain ⟨b, o, e, hcell⟩ := h.bs.2 hn
    refine ⟨b, o, e, fun j hj => ?_⟩
    rw [← hcell j hj]
    exact World.cell?_of_block (hk b (h.own hn _ e) (World.block_lt_of_cell? w _ (hcell j hj)))⟩, h.few, h.cap, h.own⟩
theorem BC.mono {x : Sl} {l : List UInt8} (h : BC w S x l) (hS : ∀ k, S k → T k) : BC w T x l := ⟨h.bs, h.few, h.cap, fun h0 ad e => hS _ (h.own h0 ad e)⟩
theorem OC.imp {v : Option Value} {l : Option (List UInt8)} (h : OC w S v l) (f : ∀ x b, BC w S x b → BC w' T x b) : OC w' T v l := by
  cases v with
  | none => cases l with
    | none => trivial
    | some b => exact h.elim
  | some v => cases l with
    | none => exact h.elim
    | some b => obtain ⟨x, e, hb⟩ := h; exact ⟨x, e, f x b hb⟩
theorem PM.imp {m : Nat} {p : Nat → Option (List UInt8)} (h : PM w m S p) (hm : w'.heap[m]? = w.heap[m]?) (f : ∀ x b, BC w S x b → BC w' T x b) : PM w' m T p := by
  obtain ⟨es, c, h1, h2, h3⟩ := h
  exact ⟨es, c, hm.trans h1, h2, fun i => (h3 i).imp f⟩
theorem PM.lt {m : Nat} {p : Nat → Option (List UInt8)} (h : PM w m S p) : m < w.heap.size := by
  obtain ⟨es, c, h1, _⟩ := h
  exact (Array.getElem?_eq_some_iff.1 h1).1
theorem PM.dull {m : Nat} {p : Nat → Option (List UInt8)} (h : PM w m S p) : Dull w m := by
  obtain ⟨es, c, h1, _⟩ := h
  exact .inl ⟨es, c, h1⟩
theorem BR.imp {x : Sl} {l : List (List UInt8)} (h : BR w S x l) (hS : ∀ k, S k → T k) (hg : ∀ g cs, S g → w.heap[g]? = some (.cells cs 27 (0, 0)) → w'.heap[g]? = w.heap[g]?) (f : ∀ x b, BC w S x b → BC w' T x b) : BR w' T x l := by
  obtain ⟨h1, h2, g, rl, h3, h4, h5, h6, h7⟩ := h
  exact ⟨h1, h2, g, rl, h3, hS g h4, h5, (hg g _ h4 h6).trans h6, fun i hi => f _ _ (h7 i hi)⟩
variable {p m : Nat} {x : Sl} {X : TX}
theorem Tq.plt (h : Tq w p m x S X) : p < w.heap.size := (Array.getElem?_eq_some_iff.1 h.cells).1
theorem Tq.mlt (h : Tq w p m x S X) : m < w.heap.size := h.puts.lt
theorem Tq.ne (h : Tq w p m x S X) : m ≠ p := by
  rintro rfl
  obtain ⟨es, c, h1, _⟩ := h.puts
  rw [h.cells] at h1
  simp at h1
theorem Tq.dull (h : Tq w p m x S X) : Dull w p := .inr ⟨x, m, h.cells⟩
theorem Tq.ch (h : Tq w p m x S X) (hc : Ch Q w w') (hp : ¬ Q p) (hm : ¬ Q m) : Tq w' p m x S X :=
  ⟨(hc.1.block p ⟨h.plt, hp⟩).trans h.cells, h.rows.imp (fun _ h => h) (fun g cs _ hg => hc.1.block g ⟨(Array.getElem?_eq_some_iff.1 hg).1, fun hq => (hc.2 g hq).no_row cs _ (by decide) hg⟩) (fun _ _ hb => hb.ch hc),
    h.puts.imp (hc.1.block m ⟨h.mlt, hm⟩) fun _ _ hb => hb.ch hc, h.sp, h.sm⟩
theorem Tq.keep (h : Tq w p m x S X) (hk : ∀ k, S k → k < w.heap.size → w'.heap[k]? = w.heap[k]?) : Tq w' p m x S X :=
  ⟨(hk p h.sp h.plt).trans h.cells, h.rows.imp (fun _ h => h) (fun g _ hs hg => hk g hs (Array.getElem?_eq_some_iff.1 hg).1) (fun _ _ hb => hb.keep hk), h.puts.imp (hk m h.sm h.mlt) fun _ _ hb => hb.keep hk, h.sp, h.sm⟩
theorem Tq.below (h : Tq w p m x S X) (hb : Below w.heap.size w w') : Tq w' p m x S X := h.keep fun k _ hk => hb.block k hk
theorem Tq.drew (h : Tq w p m x S X) : Tq w.drew p m x S X := h.below (Below.refl _ _).drew
theorem Tq.drewN (h : Tq w p m x S X) (n : Nat) : Tq (w.drewN n) p m x S X := h.keep fun _ _ _ => rfl
theorem Tq.mono (h : Tq w p m x S X) (hS : ∀ k, S k → T k) : Tq w p m x T X :=
  ⟨h.cells, h.rows.imp hS (fun _ _ _ _ => rfl) (fun _ _ hb => hb.mono hS), h.puts.imp rfl fun _ _ hb => hb.mono hS, hS _ h.sp, hS _ h.sm⟩
theorem Tq.c0 (h : Tq w p m x S X) : w.cell? ⟨p, 0, none⟩ = some (.slice x.a x.n x.c) := by rw [cell_of_row _ _ _ _ _ _ h.cells]; rfl
theorem Tq.c1 (h : Tq w p m x S X) : w.cell? ⟨p, 1, none⟩ = some (.map (some m)) := by rw [cell_of_row _ _ _ _ _ _ h.cells]; rfl
theorem Tq.froz (h : Tq w p m x S X) (k : Nat) : w.frozen? ⟨p, k, none⟩ = false := by simp [World.frozen?, h.cells]
theorem Tq.len (h : Tq w p m x S X) : X.l.length = x.n := h.rows.1
/-- Row i. -/
theorem BR.at {l : List (List UInt8)} (h : BR w S x l) {i : Nat} (hi : i < x.n) : ∃ g y, x.a = some ⟨g, 0, none⟩ ∧ w.cell? ⟨g, i, none⟩ = some (.slice (Sl.a y) y.n y.c) ∧ BC w S y (l.getD i []) := by
  obtain ⟨h1, h2, g, rl, h3, h4, h5, h6, h7⟩ := h
  have hr : i < rl.length := by omega
  exact ⟨g, rl[i], h3, by rw [cell_of_row _ _ _ _ _ _ h6]; simp [hr, Sl.v], h7 i hr⟩
end
end Go.Proofs.Ytjionpkflpnejaa
