/-
  A journal in memory, its disk beside it, and slices of writes: what lies where, and what leaves it as it is.
-/
import Derived.Test.YtcieahfhpanogaaJErr
import Derived.Test.YtcieahfhpanogaaDCalls
import Derived.Test.YtcieahfhpanogaaSGetOk
import Derived.Test.YtcieahfhpanogaaShelf
namespace Go.Proofs.Ytcieahfhpanogaa
open Go.RowKit

/-- A slice as it lies in a cell. -/
structure Sl where
  a : Option Addr
  n : Nat
  c : Nat
def Sl.v (x : Sl) : Value := .slice x.a x.n x.c
/-- A journal's cells. -/
def jc (dp q : Nat) (j : J.JS) : Array Value := #[.pointer (some ⟨dp, 0, none⟩), .int .i64 (j.log : Int), .slice (some ⟨q, 0, none⟩) j.nb j.nb, .int .u64 (j.seq : Int), .int .i64 (j.place : Int), .int .i64 (j.used : Int), .int .i64 j.err]
/-- At block p lies the journal j of the disk at dp, its blocks' slices at q; all its blocks are of S. -/
structure Jq (w : World) (p dp q : Nat) (bl : List Sl) (S : Nat → Prop) (j : J.JS) : Prop where
  lt : ∀ k, S k → k < w.heap.size
  sp : S p
  sq : S q
  cells : w.heap[p]? = some (.cells (jc dp q j) 59 (0, 0))
  rows : w.heap[q]? = some (.cells (bl.map Sl.v).toArray 23 (0, 0))
  len : bl.length = j.nb
  bs : ∀ i (h : i < bl.length), BS w bl[i].a bl[i].n (j.B i)
  cap : ∀ i (h : i < bl.length), bl[i].n ≤ bl[i].c
  own : ∀ i (h : i < bl.length), 0 < bl[i].n → ∀ ad, bl[i].a = some ad → S ad.block
def Jm (w : World) (p dp : Nat) (S : Nat → Prop) (j : J.JS) : Prop := ∃ q bl, Jq w p dp q bl S j

section
variable {w w' : World} {p dp q : Nat} {bl : List Sl} {S : Nat → Prop} {j j' : J.JS}
theorem Jq.keep (h : Jq w p dp q bl S j) {T : Nat → Prop} (hf : Fr T w w') (hd : ∀ k, S k → ¬ T k) : Jq w' p dp q bl S j := by
  have hk : ∀ k, S k → w'.heap[k]? = w.heap[k]? := fun k hk => hf.block k ⟨h.lt k hk, hd k hk⟩
  exact ⟨fun k hk => Nat.lt_of_lt_of_le (h.lt k hk) hf.size, h.sp, h.sq, (hk p h.sp).trans h.cells, (hk q h.sq).trans h.rows, h.len, fun i hi => (h.bs i hi).keepK hf fun h0 ad e => ⟨h.lt _ (h.own i hi h0 ad e), hd _ (h.own i hi h0 ad e)⟩, h.cap, h.own⟩
theorem Jq.below (h : Jq w p dp q bl S j) (hb : Below w.heap.size w w') : Jq w' p dp q bl S j := h.keep (T := fun _ => False) (Fr.of_below hb) fun _ _ h => h
theorem Jq.drew (h : Jq w p dp q bl S j) : Jq w.drew p dp q bl S j := h.below (Below.refl _ _).drew
theorem Jq.plt (h : Jq w p dp q bl S j) : p < w.heap.size := h.lt p h.sp
theorem Jq.cell (h : Jq w p dp q bl S j) (k : Nat) (v : Value) (hv : (jc dp q j)[k]? = some v) : w.cell? ⟨p, k, none⟩ = some v := by
  rw [cell_of_row _ _ _ _ _ _ h.cells]
  exact hv
theorem Jq.froz (h : Jq w p dp q bl S j) (k : Nat) : w.frozen? ⟨p, k, none⟩ = false := by simp [World.frozen?, h.cells]
theorem Jq.row (h : Jq w p dp q bl S j) (i : Nat) (hi : i < bl.length) : w.cell? ⟨q, i, none⟩ = some (.slice bl[i].a bl[i].n bl[i].c) := by
  rw [cell_of_row _ _ _ _ _ _ h.rows]
  simp [hi, Sl.v]
theorem Jq.frow (h : Jq w p dp q bl S j) (i : Nat) : w.frozen? ⟨q, i, none⟩ = false := by simp [World.frozen?, h.rows]
theorem Jq.ne (h : Jq w p dp q bl S j) : q ≠ p := by
  rintro rfl
  have := h.rows
  rw [h.cells] at this
  simp only [Option.some.injEq, Obj.cells.injEq] at this
  exact absurd this.2.1 (by decide)
theorem Jq.nobyte (h : Jq w p dp q bl S j) (o : Nat) (z : Int) : w.cell? ⟨p, o, none⟩ ≠ some (.int .u8 z) := by
  rw [cell_of_row _ _ _ _ _ _ h.cells]
  match o with
  | 0 | 1 | 2 | 3 | 4 | 5 | 6 => simp [jc]
  | n + 7 => simp [jc]
theorem Jq.norow (h : Jq w p dp q bl S j) (o : Nat) (z : Int) : w.cell? ⟨q, o, none⟩ ≠ some (.int .u8 z) := by
  rw [cell_of_row _ _ _ _ _ _ h.rows]
  intro e
  simp only [List.getElem?_toArray, List.getElem?_map, Option.map_eq_some_iff] at e
  obtain ⟨x, _, hx⟩ := e
  cases hx
/-- One of the journal's cells is written. -/
theorem Jq.put (h : Jq w p dp q bl S j) (k : Nat) (v : Value) (hj : (jc dp q j).setIfInBounds k v = jc dp q j') (hn : j'.nb = j.nb) (hB : j'.B = j.B) : Jq (w.setCell ⟨p, k, none⟩ v) p dp q bl S j' ∧ Fr S w (w.setCell ⟨p, k, none⟩ v) := by
  have hfr : Fr S w (w.setCell ⟨p, k, none⟩ v) := (Fr.refl S w).setCell (p := ⟨p, k, none⟩) (fun h' => h'.2 h.sp) v
  have hbk : ∀ g, g ≠ p → (w.setCell ⟨p, k, none⟩ v).heap[g]? = w.heap[g]? := fun g hg => Below.heap_setCell w ⟨p, k, none⟩ v g hg
  refine ⟨⟨fun k hk => Nat.lt_of_lt_of_le (h.lt k hk) hfr.size, h.sp, h.sq, ?_, (hbk q h.ne).trans h.rows, by rw [hn]; exact h.len, fun i hi => ?_, h.cap, h.own⟩, hfr⟩
  · rw [setCell_eq_setRow w p k _ _ _ v h.cells, hj]
    exact setRow_heap w p _ _ _ _ h.cells
  · rw [hB]
    exact (h.bs i hi).off h.nobyte fun g _ hg => hbk g hg
/-- A block of it is another one. -/
theorem Jq.set (h : Jq w p dp q bl S j) (i : Nat) (x : Sl) (b : List UInt8) (hb : BS w x.a x.n b) (hc : x.n ≤ x.c) (T : Nat → Prop) (hT : ∀ k, T k → k < w.heap.size) (hx : 0 < x.n → ∀ ad, x.a = some ad → T ad.block) :
    Jq (w.setCell ⟨q, i, none⟩ x.v) p dp q (bl.set i x) (fun k => S k ∨ T k) { j with B := fun k => if i = k then b else j.B k } ∧ Fr S w (w.setCell ⟨q, i, none⟩ x.v) := by
  have hfr : Fr S w (w.setCell ⟨q, i, none⟩ x.v) := (Fr.refl S w).setCell (p := ⟨q, i, none⟩) (fun h' => h'.2 h.sq) _
  have hbk : ∀ g, g ≠ q → (w.setCell ⟨q, i, none⟩ x.v).heap[g]? = w.heap[g]? := fun g hg => Below.heap_setCell w ⟨q, i, none⟩ _ g hg
  refine ⟨⟨fun k hk => Nat.lt_of_lt_of_le (hk.elim (h.lt k) (hT k)) hfr.size, .inl h.sp, .inl h.sq, (hbk p (Ne.symm h.ne)).trans h.cells, ?_, by simpa using h.len, fun k hk => ?_, fun k hk => ?_, fun k hk h0 ad e => ?_⟩, hfr⟩
  · rw [setCell_eq_setRow w q i _ _ _ _ h.rows]
    have := setRow_heap w q _ ((bl.map Sl.v).toArray.setIfInBounds i x.v) _ _ h.rows
    rw [this]
    simp [List.map_set]
  · have hk' : k < bl.length := by simpa using hk
    by_cases e : i = k
    · subst e
      simp only [List.getElem_set_self, if_true]
      exact hb.off h.norow fun g _ hg => hbk g hg
    · simp only [List.getElem_set_ne e, if_neg e]
      exact (h.bs k hk').off h.norow fun g _ hg => hbk g hg
  · by_cases e : i = k
    · subst e
      simpa only [List.getElem_set_self] using hc
    · simp only [List.getElem_set_ne e]
      exact h.cap k (by simpa using hk)
  · by_cases e' : i = k
    · subst e'
      simp only [List.getElem_set_self] at e h0
      exact .inr (hx h0 ad e)
    · simp only [List.getElem_set_ne e'] at e h0
      exact .inl (h.own k (by simpa using hk) h0 ad e)
end

/-- A slice of writes, of blocks X. -/
def WS (w : World) (X : Nat → Prop) (A : Option Addr) (n : Nat) (l : List (Int × List UInt8)) : Prop :=
  l.length = n ∧ (0 < n → ∃ b o, A = some ⟨b, o, none⟩ ∧ X b ∧ ∀ k (h : k < l.length), ∃ x : Sl, w.cell? ⟨b, o + k * 2, none⟩ = some (.int .i64 l[k].1) ∧ w.cell? ⟨b, o + k * 2 + 1, none⟩ = some (.slice x.a x.n x.c) ∧ BS w x.a x.n l[k].2 ∧ x.n ≤ x.c ∧ (0 < x.n → ∀ ad, x.a = some ad → X ad.block))
section
variable {w w' : World} {X : Nat → Prop} {A : Option Addr} {n : Nat} {l : List (Int × List UInt8)}
theorem WS.nil : WS w X A 0 [] := ⟨rfl, fun h => absurd h (by omega)⟩
theorem WS.keepK (h : WS w X A n l) (hk : Keep X w w') : WS w' X A n l := by
  refine ⟨h.1, fun hn => ?_⟩
  obtain ⟨b, o, e, hX, hc⟩ := h.2 hn
  refine ⟨b, o, e, hX, fun k hk' => ?_⟩
  obtain ⟨x, h1, h2, h3, h4, h5⟩ := hc k hk'
  exact ⟨x, (World.cell?_of_block (a := ⟨b, o + k * 2, none⟩) (hk.block b hX)).trans h1, (World.cell?_of_block (a := ⟨b, o + k * 2 + 1, none⟩) (hk.block b hX)).trans h2, h3.keepK hk h5, h4, h5⟩
theorem WS.fr (h : WS w X A n l) {T : Nat → Prop} (hf : Fr T w w') (hd : ∀ k, X k → k < w.heap.size ∧ ¬ T k) : WS w' X A n l := h.keepK (Keep.mono hf hd)
theorem WS.mono (h : WS w X A n l) {Y : Nat → Prop} (hY : ∀ k, X k → Y k) : WS w Y A n l := by
  refine ⟨h.1, fun hn => ?_⟩
  obtain ⟨b, o, e, hX, hc⟩ := h.2 hn
  refine ⟨b, o, e, hY b hX, fun k hk' => ?_⟩
  obtain ⟨x, h1, h2, h3, h4, h5⟩ := hc k hk'
  exact ⟨x, h1, h2, h3, h4, fun hn ad e => hY _ (h5 hn ad e)⟩
theorem WS.at (h : WS w X A n l) (k : Nat) (hk : k < n) : ∃ b o x, ∃ hl : k < l.length, A = some ⟨b, o, none⟩ ∧ X b ∧ w.cell? ⟨b, o + k * 2, none⟩ = some (.int .i64 l[k].1) ∧ w.cell? ⟨b, o + k * 2 + 1, none⟩ = some (.slice (Sl.a x) x.n x.c) ∧ BS w x.a x.n l[k].2 ∧ x.n ≤ x.c ∧ (0 < x.n → ∀ ad, x.a = some ad → X ad.block) := by
  have hl : k < l.length := by rw [h.1]; exact hk
  obtain ⟨b, o, e, hX, hc⟩ := h.2 (by omega)
  obtain ⟨x, h1, h2, h3, h4, h5⟩ := hc k hl
  exact ⟨b, o, x, hl, e, hX, h1, h2, h3, h4, h5⟩
end

/-- A journal, and its disk, of blocks apart. -/
structure JD (w : World) (p dp : Nat) (S D : Nat → Prop) (j : J.JS) (d : DS) : Prop where
  jm : Jm w p dp S j
  dk : Dk w dp D d
  apart : ∀ k, S k → ¬ D k
/-- What a call on a journal leaves. -/
def JStep (p dp : Nat) (S D : Nat → Prop) (j' : J.JS) (d' : DS) (w w' : World) : Prop :=
  ∃ S' D', JD w' p dp S' D' j' d' ∧ Fr (fun k => S k ∨ D k) w w' ∧ (∀ k, S' k → S k ∨ w.heap.size ≤ k) ∧ ∀ k, D' k → D k ∨ w.heap.size ≤ k
theorem JD.lt {w : World} {p dp : Nat} {S D : Nat → Prop} {j : J.JS} {d : DS} (h : JD w p dp S D j d) : ∀ k, S k ∨ D k → k < w.heap.size := fun k hk => hk.elim (fun h' => by obtain ⟨q, bl, hq⟩ := h.jm; exact hq.lt k h') (h.dk.2.1 k)
theorem JD.keep {w w' : World} {p dp : Nat} {S D T : Nat → Prop} {j : J.JS} {d : DS} (h : JD w p dp S D j d) (hf : Fr T w w') (hS : ∀ k, S k → ¬ T k) (hD : ∀ k, D k → ¬ T k) : JD w' p dp S D j d := by
  obtain ⟨⟨q, bl, hq⟩, hd, ha⟩ := h
  exact ⟨⟨q, bl, hq.keep hf hS⟩, hd.keep hf hD, ha⟩
theorem JD.below {w w' : World} {p dp : Nat} {S D : Nat → Prop} {j : J.JS} {d : DS} (h : JD w p dp S D j d) (hb : Below w.heap.size w w') : JD w' p dp S D j d := h.keep (T := fun _ => False) (Fr.of_below hb) (fun _ _ h => h) fun _ _ h => h
theorem JD.stay {w w' : World} {p dp : Nat} {S D : Nat → Prop} {j : J.JS} {d : DS} (h : JD w p dp S D j d) (hb : Below w.heap.size w w') : JStep p dp S D j d w w' := ⟨S, D, h.below hb, Fr.of_below hb, fun _ h => .inl h, fun _ h => .inl h⟩
theorem JStep.trans {p dp : Nat} {S D S1 D1 : Nat → Prop} {j'' : J.JS} {d'' : DS} {w w1 w2 : World} (hf : Fr (fun k => S k ∨ D k) w w1) (hS : ∀ k, S1 k → S k ∨ w.heap.size ≤ k) (hD : ∀ k, D1 k → D k ∨ w.heap.size ≤ k) (h2 : JStep p dp S1 D1 j'' d'' w1 w2) : JStep p dp S D j'' d'' w w2 := by
  obtain ⟨S2, D2, h, hf2, hS2, hD2⟩ := h2
  refine ⟨S2, D2, h, hf.trans hf2 (fun k hk => ?_), fun k hk => ?_, fun k hk => ?_⟩
  · rcases hk with hk | hk
    · exact (hS k hk).imp .inl id
    · exact (hD k hk).imp .inr id
  · rcases hS2 k hk with h | h
    · exact hS k h
    · exact .inr (Nat.le_trans hf.size h)
  · rcases hD2 k hk with h | h
    · exact hD k h
    · exact .inr (Nat.le_trans hf.size h)
/-- A call on the disk alone. -/
theorem JD.disk {w w' : World} {p dp : Nat} {S D : Nat → Prop} {j : J.JS} {d d' : DS} (h : JD w p dp S D j d) (hs : Step dp D d' w w') : ∃ D', JD w' p dp S D' j d' ∧ Fr (fun k => S k ∨ D k) w w' ∧ Fr D w w' ∧ ∀ k, D' k → D k ∨ w.heap.size ≤ k := by
  obtain ⟨D', hd, hf, hD⟩ := hs
  obtain ⟨⟨q, bl, hq⟩, _, ha⟩ := h
  refine ⟨D', ⟨⟨q, bl, hq.keep hf ha⟩, hd, fun k hk hk' => ?_⟩, hf.mono fun k hk => .inr hk, hf, hD⟩
  rcases hD k hk' with h1 | h1
  · exact ha k hk h1
  · have := hq.lt k hk
    omega
/-- A cell of the journal is written. -/
theorem JD.put {w : World} {p dp : Nat} {S D : Nat → Prop} {j j' : J.JS} {d : DS} (h : JD w p dp S D j d) (k : Nat) (v : Value) (hj : ∀ q, (jc dp q j).setIfInBounds k v = jc dp q j') (hn : j'.nb = j.nb) (hB : j'.B = j.B) : JD (w.setCell ⟨p, k, none⟩ v) p dp S D j' d ∧ Fr S w (w.setCell ⟨p, k, none⟩ v) := by
  obtain ⟨⟨q, bl, hq⟩, hd, ha⟩ := h
  obtain ⟨h1, h2⟩ := hq.put (j' := j') k v (hj q) hn hB
  exact ⟨⟨⟨q, bl, h1⟩, hd.keep h2 (fun k hk hk' => ha k hk' hk), ha⟩, h2⟩
/-- The cells of a journal. -/
theorem JD.cell {w : World} {p dp : Nat} {S D : Nat → Prop} {j : J.JS} {d : DS} (h : JD w p dp S D j d) :
    w.cell? ⟨p, 0, none⟩ = some (.pointer (some ⟨dp, 0, none⟩)) ∧ w.cell? ⟨p, 1, none⟩ = some (.int .i64 (j.log : Int)) ∧ w.cell? ⟨p, 3, none⟩ = some (.int .u64 (j.seq : Int)) ∧ w.cell? ⟨p, 4, none⟩ = some (.int .i64 (j.place : Int)) ∧ w.cell? ⟨p, 5, none⟩ = some (.int .i64 (j.used : Int)) ∧ w.cell? ⟨p, 6, none⟩ = some (.int .i64 j.err) ∧ ∀ k, w.frozen? ⟨p, k, none⟩ = false := by
  obtain ⟨⟨q, bl, hq⟩, _, _⟩ := h
  exact ⟨hq.cell 0 _ rfl, hq.cell 1 _ rfl, hq.cell 3 _ rfl, hq.cell 4 _ rfl, hq.cell 5 _ rfl, hq.cell 6 _ rfl, hq.froz⟩
theorem JD.plt {w : World} {p dp : Nat} {S D : Nat → Prop} {j : J.JS} {d : DS} (h : JD w p dp S D j d) : p < w.heap.size := by
  obtain ⟨⟨q, bl, hq⟩, _, _⟩ := h
  exact hq.plt
end Go.Proofs.Ytcieahfhpanogaa
