/-
  What TxnPlays knows between two steps: two transactions, and the document's values of both (layer 10).
-/
import Derived.Test.YtnjkcodegcojcaaTSame
namespace Go.Proofs.Ytnjkcodegcojcaa
open Go.RowKit

/-- Whatever becomes of a block that is none of a transaction's kinds. -/
theorem Tq.off {w w' : World} {p m : Nat} {x : Sl} {S : Nat → Prop} {X : TX} {q : Nat} {cs : Array Value} {t : TypeId} (h : Tq w p m x S X) (hq : w.heap[q]? = some (.cells cs t (0, 0))) (ht : t ≠ 57) (ht2 : t ≠ 25) (hn : ∀ o z, w.cell? ⟨q, o, none⟩ ≠ some (.int .u8 z)) (hk : Keep (· ≠ q) w w') : Tq w' p m x S X := by
  have hb : ∀ y l, BC w S y l → BC w' S y l := fun y l hb => ⟨hb.bs.off hn fun k _ hkq => hk.block k hkq, hb.few, hb.cap, hb.own⟩
  refine ⟨(hk.block p fun e => ?_).trans h.cells, h.rows.imp (fun _ h => h) (fun g cs' _ hg => hk.block g fun e => ?_) hb, h.puts.imp (hk.block m fun e => ?_) hb, h.sp, h.sm⟩
  · rw [← e, h.cells] at hq
    simp only [Option.some.injEq, Obj.cells.injEq] at hq
    exact ht hq.2.1.symm
  · rw [← e, hg] at hq
    simp only [Option.some.injEq, Obj.cells.injEq] at hq
    exact ht2 hq.2.1.symm
  · obtain ⟨es, c, h1, _⟩ := h.puts
    rw [← e, h1] at hq
    simp at hq
/-- A block of values of another type stays. -/
theorem Ch.row {Q : Nat → Prop} {w w' : World} {b : Nat} {cs : Array Value} {t : TypeId} (h : Ch Q w w') (hb : w.heap[b]? = some (.cells cs t (0, 0))) (ht : t ≠ 57) : w'.heap[b]? = some (.cells cs t (0, 0)) :=
  (h.1.block b ⟨(Array.getElem?_eq_some_iff.1 hb).1, fun hq => (h.2 b hq).no_row cs t ht hb⟩).trans hb
theorem below_row {w w' : World} {b : Nat} {o : Obj} (h : Below w.heap.size w w') (hb : w.heap[b]? = some o) : w'.heap[b]? = some o := (h.block b (Array.getElem?_eq_some_iff.1 hb).1).trans hb

/-- Block b holds the document's value. -/
def VB (w : World) (b n : Nat) (X : TX) : Prop := ∃ x y : Sl, w.heap[b]? = some (.cells #[.slice x.a x.n x.c, .slice y.a y.n y.c] 31 (0, 0)) ∧ RT w n x y X
theorem VB.lt {w : World} {b n : Nat} {X : TX} (h : VB w b n X) : b < w.heap.size := by
  obtain ⟨x, y, h, _⟩ := h
  exact (Array.getElem?_eq_some_iff.1 h).1
theorem VB.below {w w' : World} {b n : Nat} {X : TX} (h : VB w b n X) (hb : Below w.heap.size w w') : VB w' b n X := by
  obtain ⟨x, y, h1, h2⟩ := h
  exact ⟨x, y, below_row hb h1, h2.below hb⟩
theorem VB.ch {w w' : World} {b n : Nat} {X : TX} {Q : Nat → Prop} (h : VB w b n X) (hc : Ch Q w w') : VB w' b n X := by
  obtain ⟨x, y, h1, h2⟩ := h
  exact ⟨x, y, hc.row h1 (by decide), h2.ch hc⟩
theorem slices_no {w : World} {b : Nat} {x y : Sl} {t : TypeId} (h : w.heap[b]? = some (.cells #[.slice x.a x.n x.c, .slice y.a y.n y.c] t (0, 0))) (o : Nat) : (∀ z, w.cell? ⟨b, o, none⟩ ≠ some (.string z)) ∧ ∀ q z, w.cell? ⟨b, o, none⟩ ≠ some (.int q z) := by
  rw [cell_of_row _ _ _ _ _ _ h]
  match o with
  | 0 | 1 => simp
  | m + 2 => simp
theorem RT.off {w w' : World} {n b : Nat} {x y x' y' : Sl} {X : TX} {t : TypeId} (h : RT w n x y X) (hb : w.heap[b]? = some (.cells #[.slice x'.a x'.n x'.c, .slice y'.a y'.n y'.c] t (0, 0))) (hk : Keep (· ≠ b) w w') : RT w' n x y X :=
  ⟨h.len, h.xn, h.yn, h.was.off (fun o => (slices_no hb o).1) fun k _ hkb => hk.block k hkb, h.now.off (fun o => (slices_no hb o).1) fun k _ hkb => hk.block k hkb⟩

/-- Between two steps: the transactions X, Y; the document's values of V and U; w is the world of the start. -/
structure PlI (w wr : World) (ls : List (List UInt8)) (n p m : Nat) (x : Sl) (q mq : Nat) (bv bw : Nat) (X Y V U : TX) : Prop where
  t2 : T2 w wr p m x X q mq x Y
  xl : X.l = ls
  yl : Y.l = ls
  xn : x.n = n
  vb : VB wr bv n V
  wb : VB wr bw n U
  vs : w.heap.size ≤ bv
  ws : w.heap.size ≤ bw
  ne : bv ≠ bw
section
variable {w wr wr' : World} {ls : List (List UInt8)} {n p m : Nat} {x : Sl} {q mq bv bw : Nat} {X Y V U Z : TX}
theorem PlI.bel (h : PlI w wr ls n p m x q mq bv bw X Y V U) : Below w.heap.size w wr := h.t2.bel
theorem PlI.below (h : PlI w wr ls n p m x q mq bv bw X Y V U) (hb : Below wr.heap.size wr wr') : PlI w wr' ls n p m x q mq bv bw X Y V U :=
  ⟨h.t2.below hb, h.xl, h.yl, h.xn, h.vb.below hb, h.wb.below hb, h.vs, h.ws, h.ne⟩
theorem PlI.puta (h : PlI w wr ls n p m x q mq bv bw X Y V U) (ht : Tq wr' p m x (fun z => w.heap.size ≤ z) Z) (hc : Ch (· = m) wr wr') (hl : Z.l = ls) : PlI w wr' ls n p m x q mq bv bw Z Y V U :=
  ⟨h.t2.puta ht hc, hl, h.yl, h.xn, h.vb.ch hc, h.wb.ch hc, h.vs, h.ws, h.ne⟩
theorem PlI.putb (h : PlI w wr ls n p m x q mq bv bw X Y V U) (ht : Tq wr' q mq x (fun z => w.heap.size ≤ z) Z) (hc : Ch (· = mq) wr wr') (hl : Z.l = ls) : PlI w wr' ls n p m x q mq bv bw X Z V U :=
  ⟨h.t2.putb ht hc, h.xl, hl, h.xn, h.vb.ch hc, h.wb.ch hc, h.vs, h.ws, h.ne⟩
theorem PlI.taka (h : PlI w wr ls n p m x q mq bv bw X Y V U) {m' : Nat} (ht : Tq wr' p m' x (fun z => w.heap.size ≤ z) (X.take Y)) (hc : Ch (· = p) wr wr') (hm : wr.heap.size ≤ m') : PlI w wr' ls n p m' x q mq bv bw Y Y V U := by
  have e : X.take Y = Y := by
    cases X; cases Y
    unfold TX.take
    have := h.xl.trans h.yl.symm
    simp only at this
    subst this
    rfl
  rw [e] at ht
  exact ⟨h.t2.taka ht hc hm, h.yl, h.yl, h.xn, h.vb.ch hc, h.wb.ch hc, h.vs, h.ws, h.ne⟩
theorem PlI.fork (h : PlI w wr ls n p m x q mq bv bw X Y V U) {e : Ending} (hf : ForkQ wr x (fun z => w.heap.size ≤ z) X e wr') : ∃ q' n', e = .returned (.pointer (some ⟨q', 0, none⟩)) ∧ PlI w wr' ls n p m x q' n' bv bw X X V U := by
  obtain ⟨q', n', he, h2⟩ := T2.of_fork h.t2.a h.t2.bel hf
  obtain ⟨_, _, _, _, hb, _⟩ := hf
  exact ⟨q', n', he, h2, h.xl, h.xl, h.xn, h.vb.below hb, h.wb.below hb, h.vs, h.ws, h.ne⟩
/-- The document's first value is another one, .. -/
theorem PlI.setv (h : PlI w wr ls n p m x q mq bv bw X Y V U) {y z : Sl} (hr : RT wr n y z Z) (hb : wr'.heap[bv]? = some (.cells #[.slice y.a y.n y.c, .slice z.a z.n z.c] 31 (0, 0))) (hk : Keep (· ≠ bv) wr wr') : PlI w wr' ls n p m x q mq bv bw X Y Z U := by
  obtain ⟨x1, x2, h1, h2⟩ := h.vb
  obtain ⟨y1, y2, h3, h4⟩ := h.wb
  have ta := h.t2.a.off h1 (by decide) (by decide) (fun o z => (slices_no h1 o).2 _ z) hk
  have tb := h.t2.b.off h1 (by decide) (by decide) (fun o z => (slices_no h1 o).2 _ z) hk
  exact ⟨⟨ta, tb, h.t2.bel.trans (Keep.mono hk fun k hk' e => by have := h.vs; have : k < w.heap.size := hk'; omega).below, h.t2.np, h.t2.nm⟩, h.xl, h.yl, h.xn, ⟨y, z, hb, hr.off h1 hk⟩, ⟨y1, y2, (hk.block bw h.ne.symm).trans h3, h4.off h1 hk⟩, h.vs, h.ws, h.ne⟩
/-- .. or its second one. -/
theorem PlI.setw (h : PlI w wr ls n p m x q mq bv bw X Y V U) {y z : Sl} (hr : RT wr n y z Z) (hb : wr'.heap[bw]? = some (.cells #[.slice y.a y.n y.c, .slice z.a z.n z.c] 31 (0, 0))) (hk : Keep (· ≠ bw) wr wr') : PlI w wr' ls n p m x q mq bv bw X Y V Z := by
  obtain ⟨x1, x2, h1, h2⟩ := h.wb
  obtain ⟨y1, y2, h3, h4⟩ := h.vb
  have ta := h.t2.a.off h1 (by decide) (by decide) (fun o z => (slices_no h1 o).2 _ z) hk
  have tb := h.t2.b.off h1 (by decide) (by decide) (fun o z => (slices_no h1 o).2 _ z) hk
  exact ⟨⟨ta, tb, h.t2.bel.trans (Keep.mono hk fun k hk' e => by have := h.ws; have : k < w.heap.size := hk'; omega).below, h.t2.np, h.t2.nm⟩, h.xl, h.yl, h.xn, ⟨y1, y2, (hk.block bv h.ne).trans h3, h4.off h1 hk⟩, ⟨y, z, hb, hr.off h1 hk⟩, h.vs, h.ws, h.ne⟩
end
/-- Get at whatever place. -/
theorem get_any {w : World} {p m n : Nat} {x : Sl} {S : Nat → Prop} {X : TX} (h : Tq w p m x S X) (hn : x.n = n) (i : Int) : Calls Try.prog 15 #[.pointer (some ⟨p, 0, none⟩), .int .i64 i] w (GotB w (gotT X n i)) := by
  cases hh : hasB n i with
  | false =>
    have e : gotT X n i = [] := by simp [gotT, hh]
    rw [e]
    exact get_no h i (by rw [hn]; exact hh)
  | true =>
    have e : gotT X n i = X.get i.toNat := by simp [gotT, hh]
    rw [e]
    simp only [hasB, Bool.and_eq_true, decide_eq_true_eq] at hh
    obtain ⟨k, rfl⟩ := Int.eq_ofNat_of_zero_le hh.1
    exact get_ok h k (by omega)
end Go.Proofs.Ytnjkcodegcojcaa
