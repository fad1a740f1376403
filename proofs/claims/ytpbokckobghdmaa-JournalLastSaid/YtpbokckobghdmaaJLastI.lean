/-
  For the law of the last change of each block, plain: which change was the last, and what it left.
  A byte's last three bits, as a walk writes them.
  For the law of the last change of each block: what stays from round to round.
-/
import Derived.Test.YtpbokckobghdmaaJTop
namespace Go.Proofs.Ytpbokckobghdmaa

/-- Behind i changes: the last one of block k, counted from 1; 0 if there was none. -/
def lastOf (ats : List UInt8) : Nat → Nat → Nat
  | 0, _ => 0
  | i + 1, k => if (ats.getD i 0 &&& 7).toNat = k then i + 1 else lastOf ats i k
/-- What it left. -/
def lastB (ats : List UInt8) (i k : Nat) : List UInt8 := if lastOf ats i k = 0 then [] else [UInt8.ofNat (lastOf ats i k - 1), ats.getD (lastOf ats i k - 1) 0]
theorem lastOf_le (ats : List UInt8) (i k : Nat) : lastOf ats i k ≤ i := by
  induction i with
  | zero => exact Nat.le_refl _
  | succ i ih => unfold lastOf; split <;> omega
theorem lastOf_and (ats : List UInt8) (i k : Nat) (h : lastOf ats i k ≠ 0) : (ats.getD (lastOf ats i k - 1) 0 &&& 7).toNat = k := by
  induction i with
  | zero => exact absurd rfl h
  | succ i ih =>
    unfold lastOf at h ⊢
    split
    · rename_i e; simpa using e
    · rename_i e; rw [if_neg e] at h; exact ih h
theorem lastB_zero (ats : List UInt8) : lastB ats 0 = fun _ => [] := by funext k; rfl
theorem lastB_succ (ats : List UInt8) (i k : Nat) : J.apl [((ats.getD i 0 &&& 7).toNat, [UInt8.ofNat i, ats.getD i 0])] (lastB ats i) k = lastB ats (i + 1) k := by
  show (if (ats.getD i 0 &&& 7).toNat = k then [UInt8.ofNat i, ats.getD i 0] else lastB ats i k) = _
  by_cases e : (ats.getD i 0 &&& 7).toNat = k
  · have h : lastOf ats (i + 1) k = i + 1 := by unfold lastOf; rw [if_pos e]
    rw [if_pos e]
    unfold lastB
    rw [h, if_neg (by omega), Nat.add_sub_cancel]
  · have h : lastOf ats (i + 1) k = lastOf ats i k := by conv => lhs; unfold lastOf; rw [if_neg e]
    rw [if_neg e]
    unfold lastB
    rw [h]
end Go.Proofs.Ytpbokckobghdmaa

namespace Go.Proofs.Ytpbokckobghdmaa
open Go.RowKit
theorem and7_all : ∀ n : Fin 256, wrap64 (bits BinOp.and IntKind.u8 ((n.val : Nat) : Int) 7) = ((n.val &&& 7 : Nat) : Int) := by decide +kernel
theorem and7 (x : UInt8) : wrap64 (bits BinOp.and IntKind.u8 (x.toNat : Int) 7) = ((x &&& 7).toNat : Int) := by
  have h := and7_all ⟨x.toNat, x.toNat_lt⟩
  rw [h, UInt8.toNat_and]
  rfl
theorem band7_all : ∀ n : Fin 256, bits BinOp.and IntKind.u8 ((n.val : Nat) : Int) 7 = ((n.val &&& 7 : Nat) : Int) := by decide +kernel
theorem band7 (x : UInt8) : bits BinOp.and IntKind.u8 (x.toNat : Int) 7 = ((x &&& 7).toNat : Int) := by
  have h := band7_all ⟨x.toNat, x.toNat_lt⟩
  rw [h, UInt8.toNat_and]
  rfl
theorem and7_lt (x : UInt8) : (x &&& 7).toNat < 8 := by
  rw [UInt8.toNat_and]
  exact Nat.lt_of_le_of_lt Nat.and_le_right (by decide)
end Go.Proofs.Ytpbokckobghdmaa

namespace Go.Proofs.Ytpbokckobghdmaa
open Go.RowKit

theorem ok_one (y : Nat) (a x : UInt8) (h : y < 8) : J.okW 8 [((y : Int), [a, x])] = true := by
  simp [J.okW, J.rises]
  omega
/-- One write of two bytes, as the law builds it. -/
theorem one_ws (w : World) (y : Nat) (a x : UInt8) : WS ((w.alloc (.cells #[.int .u8 (a.toNat : Int), .int .u8 (x.toNat : Int)] 5)).alloc (.cells #[.int .i64 (y : Int), .slice (some ⟨w.heap.size, 0, none⟩) 2 2] 37)) (fun k => w.heap.size ≤ k ∧ k < w.heap.size + 2) (some ⟨w.heap.size + 1, 0, none⟩) 1 [((y : Int), [a, x])] := by
  refine ⟨rfl, fun _ => ⟨w.heap.size + 1, 0, rfl, ⟨by omega, by omega⟩, fun k hk => ?_⟩⟩
  obtain rfl : k = 0 := by simpa using hk
  have g := heap_alloc_new (w.alloc (.cells #[.int .u8 (a.toNat : Int), .int .u8 (x.toNat : Int)] 5)) (.cells #[.int .i64 (y : Int), .slice (some ⟨w.heap.size, 0, none⟩) 2 2] 37)
  rw [World.size_alloc] at g
  have b : BS (w.alloc (.cells #[.int .u8 (a.toNat : Int), .int .u8 (x.toNat : Int)] 5)) (some ⟨w.heap.size, 0, none⟩) 2 [a, x] := BS.of_block (heap_alloc_new w _)
  exact ⟨⟨some ⟨w.heap.size, 0, none⟩, 2, 2⟩, by rw [cell_of_row _ _ _ _ _ _ g]; rfl, by rw [cell_of_row _ _ _ _ _ _ g]; rfl, b.alloc _, Nat.le_refl _, fun _ ad e => by cases e; exact ⟨Nat.le_refl _, by show w.heap.size < _; omega⟩⟩
/-- Behind i changes. -/
structure LsI (w W : World) (p dp g : Nat) (ats : List UInt8) (i : Nat) (S D : Nat → Prop) (j : J.JS) (d : DS) (s t : Nat) (c : List J.Chg) : Prop where
  live : Live W p dp S D j d s t c
  calm : J.Calm d
  n : d.n = 40
  log : j.log = 6
  nb : j.nb = 8
  seq : j.seq = i
  B : ∀ k, k < 8 → j.B k = lastB ats i k
  pend : d.pend.length ≤ 8 + 6 * i
  row : W.heap[g]? = some (.cells ((List.range 8).map fun k => Value.int .i64 (lastOf ats i k : Int)).toArray 3 (0, 0))
  far : ¬ (S g ∨ D g)
  bel : Below w.heap.size w W
  hS : ∀ k, S k ∨ D k → w.heap.size ≤ k
  hg : w.heap.size ≤ g


theorem range_set {n y : Nat} (f : Nat → Value) (v : Value) : ((List.range n).map f).toArray.setIfInBounds y v = ((List.range n).map fun q => if y = q then v else f q).toArray := by
  apply Array.ext
  · simp
  · intro i h1 h2
    simp only [List.size_toArray, List.length_map, List.length_range] at h2
    simp only [List.setIfInBounds_toArray, List.getElem_toArray, List.getElem_set, List.getElem_map, List.getElem_range]
section
variable {w W W5 W6 : World} {p dp g k : Nat} {ats : List UInt8} {S D S6 D6 : Nat → Prop} {j j6 : J.JS} {d d6 : DS} {s t s6 t6 : Nat} {c c6 : List J.Chg}
theorem LsI.glt (h : LsI w W p dp g ats k S D j d s t c) : g < W.heap.size := (Array.getElem?_eq_some_iff.1 h.row).1
theorem LsI.step (h : LsI w W p dp g ats k S D j d s t c) (hW : Below W.heap.size W W5) (hf : Fr (fun k => S k ∨ D k) W5 W6) (hl : Live W6 p dp S6 D6 j6 d6 s6 t6 c6) (hS : ∀ k, S6 k → S k ∨ W5.heap.size ≤ k) (hD : ∀ k, D6 k → D k ∨ W5.heap.size ≤ k) {y : Nat} (hy : y = (ats.getD k 0 &&& 7).toNat)
    (q1 : J.Calm d6) (q2 : d6.n = d.n) (q3 : j6.log = j.log) (q4 : j6.nb = j.nb) (q5 : j6.seq = j.seq + 1) (q6 : j6.B = J.apl (J.asChg [((y : Int), [UInt8.ofNat k, ats.getD k 0])]) j.B) (q7 : d6.pend.length ≤ d.pend.length + 2 * 1 + 2) :
    LsI w (W6.setCell ⟨g, y, none⟩ (.int .i64 ((k : Int) + 1))) p dp g ats (k + 1) S6 D6 j6 d6 s6 t6 c6 ∧ d6.pend.length ≤ 8 + 6 * k + 4 := by
  have hg := h.glt
  have hg5 : g < W5.heap.size := Nat.lt_of_lt_of_le hg hW.size
  have hrow6 : W6.heap[g]? = some (.cells ((List.range 8).map fun q => Value.int .i64 (lastOf ats k q : Int)).toArray 3 (0, 0)) := by
    rw [hf.block g ⟨hg5, h.far⟩, hW.block g hg]
    exact h.row
  have hne : ∀ i, S6 i ∨ D6 i → i ≠ g := by
    rintro i (hi | hi) rfl
    · rcases hS _ hi with h1 | h1
      · exact h.far (.inl h1)
      · omega
    · rcases hD _ hi with h1 | h1
      · exact h.far (.inr h1)
      · omega
  have hfr : Fr (fun i => i = g) W6 (W6.setCell ⟨g, y, none⟩ (.int .i64 ((k : Int) + 1))) := (Fr.refl (fun i => i = g) W6).setCell (p := ⟨g, y, none⟩) (fun h' => h'.2 rfl) _
  have b5 : Below w.heap.size w W5 := h.bel.trans (hW.mono h.bel.size)
  have b6 : Below w.heap.size w W6 := b5.trans (hf.below b5.size h.hS)
  refine ⟨⟨hl.keep hfr (fun i hi => hne i (.inl hi)) (fun i hi => hne i (.inr hi)), q1, q2.trans h.n, q3.trans h.log, q4.trans h.nb, by rw [q5, h.seq], fun q hq => ?_, by have := h.pend; omega, ?_, fun hh => hne g hh rfl, b6.setCell h.hg _, fun i hi => ?_, h.hg⟩, by have := h.pend; omega⟩
  · rw [q6, ← lastB_succ ats k q, ← hy]
    show (if (y : Int).toNat = q then _ else j.B q) = if y = q then _ else lastB ats k q
    rw [h.B q hq, Int.toNat_natCast]
  · rw [setCell_eq_setRow W6 g y _ _ _ _ hrow6, setRow_heap W6 g _ _ _ _ hrow6, range_set]
    congr 4
    funext q
    have e : lastOf ats (k + 1) q = if y = q then k + 1 else lastOf ats k q := by rw [hy]; rfl
    show _ = Value.int .i64 ((lastOf ats (k + 1) q : Nat) : Int)
    rw [e]
    split
    · rfl
    · rfl
  · rcases hi with hi | hi
    · rcases hS _ hi with h1 | h1
      · exact h.hS _ (.inl h1)
      · exact Nat.le_trans b5.size h1
    · rcases hD _ hi with h1 | h1
      · exact h.hS _ (.inr h1)
      · exact Nat.le_trans b5.size h1
theorem LsI.ck (h : LsI w W p dp g ats k S D j d s t c) (hl : LStep W W6 p dp S D { j with used := 0 } d6 s6 t6 c6) (q1 : J.Calm d6) (q2 : d6.n = d.n) (q3 : d6.pend.length ≤ 8 + 6 * k) : ∃ S' D', LsI w W6 p dp g ats k S' D' { j with used := 0 } d6 s6 t6 c6 := by
  obtain ⟨S', D', h1, h2, h3, h4⟩ := hl
  refine ⟨S', D', h1, q1, q2.trans h.n, h.log, h.nb, h.seq, h.B, q3, (h2.block g ⟨h.glt, h.far⟩).trans h.row, ?_, h.bel.trans (h2.below h.bel.size h.hS), fun i hi => ?_, h.hg⟩
  · have := h.glt
    rintro (hi | hi)
    · rcases h3 _ hi with h5 | h5
      · exact h.far (.inl h5)
      · omega
    · rcases h4 _ hi with h5 | h5
      · exact h.far (.inr h5)
      · omega
  · have := h.bel.size
    rcases hi with hi | hi
    · rcases h3 _ hi with h5 | h5
      · exact h.hS _ (.inl h5)
      · omega
    · rcases h4 _ hi with h5 | h5
      · exact h.hS _ (.inr h5)
      · omega
end
/-- Behind the crash, opened again. -/
structure LsR (w W : World) (p dp g : Nat) (ats : List UInt8) (n : Nat) (S D : Nat → Prop) (j : J.JS) (d : DS) (s t : Nat) (c : List J.Chg) : Prop where
  live : Live W p dp S D j d s t c
  nb : j.nb = 8
  B : ∀ k, k < 8 → j.B k = lastB ats n k
  row : W.heap[g]? = some (.cells ((List.range 8).map fun k => Value.int .i64 (lastOf ats n k : Int)).toArray 3 (0, 0))
  bel : Below w.heap.size w W
theorem LsR.glt {w W : World} {p dp g : Nat} {ats : List UInt8} {n : Nat} {S D : Nat → Prop} {j : J.JS} {d : DS} {s t : Nat} {c : List J.Chg} (h : LsR w W p dp g ats n S D j d s t c) : g < W.heap.size := (Array.getElem?_eq_some_iff.1 h.row).1
theorem LsR.below {w W W' : World} {p dp g : Nat} {ats : List UInt8} {n : Nat} {S D : Nat → Prop} {j : J.JS} {d : DS} {s t : Nat} {c : List J.Chg} (h : LsR w W p dp g ats n S D j d s t c) (hb : Below W.heap.size W W') : LsR w W' p dp g ats n S D j d s t c :=
  ⟨h.live.below hb, h.nb, h.B, (hb.block g h.glt).trans h.row, h.bel.trans (hb.mono h.bel.size)⟩
end Go.Proofs.Ytpbokckobghdmaa
