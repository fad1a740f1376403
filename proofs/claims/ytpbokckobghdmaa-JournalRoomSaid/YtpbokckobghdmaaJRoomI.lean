/-
  For the law of the log's room: the writes that it builds; what stays from round to round.
-/
import Derived.Test.YtpbokckobghdmaaJTailM
namespace Go.Proofs.Ytpbokckobghdmaa
open Go.RowKit

/-- The first m writes of round i. -/
def lr (i m : Nat) : List (Nat × List UInt8) := (List.range m).map fun q => (q, [UInt8.ofNat i, UInt8.ofNat q])
theorem lr_len (i m : Nat) : (lr i m).length = m := by simp [lr]
theorem lr_succ (i m : Nat) : lr i (m + 1) = lr i m ++ [(m, [UInt8.ofNat i, UInt8.ofNat m])] := by
  unfold lr
  rw [List.range_succ, List.map_append]
  rfl
def lw (i m : Nat) : List (Int × List UInt8) := (lr i m).map fun x => ((x.1 : Int), x.2)
theorem lw_len (i m : Nat) : (lw i m).length = m := by simp [lw, lr_len]
theorem lw_at (i m k : Nat) (hk : k < (lw i m).length) : (lw i m)[k] = ((k : Int), [UInt8.ofNat i, UInt8.ofNat k]) := by
  simp [lw, lr]
theorem rises_lw (i : Nat) : ∀ (n m : Nat) (v : Int), v < (m : Int) → m + n ≤ 20 → J.rises 20 v ((List.range' m n).map fun q : Nat => ((q : Int), [UInt8.ofNat i, UInt8.ofNat q])) = true
  | 0, _, _, _, _ => rfl
  | n + 1, m, v, hv, h => by
    rw [List.range'_succ, List.map_cons]
    simp only [J.rises, Bool.and_eq_true, decide_eq_true_iff]
    refine ⟨⟨⟨hv, by omega⟩, by simp⟩, rises_lw i n (m + 1) _ (by omega) (by omega)⟩
theorem okW_lw (i m : Nat) (h1 : 1 ≤ m) (h20 : m ≤ 20) : J.okW 20 (lw i m) = true := by
  have e : lw i m = (List.range' 0 m).map fun q : Nat => ((q : Int), [UInt8.ofNat i, UInt8.ofNat q]) := by
    unfold lw lr
    rw [List.map_map, List.range_eq_range']
    rfl
  unfold J.okW
  rw [lw_len, decide_eq_true h1, decide_eq_true (show m ≤ 100 by omega), e, rises_lw i m 0 (-1) (by omega) (by omega)]
  rfl
/-- Behind i rounds. -/
structure RmI (w W : World) (p dp kk i cnt : Nat) (S D : Nat → Prop) (j : J.JS) (d : DS) (s t : Nat) (c : List J.Chg) : Prop where
  live : Live W p dp S D j d s t c
  calm : J.Calm d
  n : d.n = 60
  log : j.log = kk
  nb : j.nb = 20
  seq : j.seq = cnt
  cnt : cnt ≤ i
  pend : d.pend.length ≤ 20 + 40 * i
  bel : Below w.heap.size w W
  hS : ∀ k, S k ∨ D k → w.heap.size ≤ k
section
variable {w W W' : World} {p dp kk i cnt cnt' : Nat} {S D : Nat → Prop} {j j' : J.JS} {d d' : DS} {s t s' t' : Nat} {c c' : List J.Chg}
theorem RmI.below (h : RmI w W p dp kk i cnt S D j d s t c) (hb : Below W.heap.size W W') : RmI w W' p dp kk i cnt S D j d s t c := ⟨h.live.below hb, h.calm, h.n, h.log, h.nb, h.seq, h.cnt, h.pend, h.bel.trans (hb.mono h.bel.size), h.hS⟩
theorem RmI.on (h : RmI w W p dp kk i cnt S D j d s t c) : RmI w W p dp kk (i + 1) cnt S D j d s t c := ⟨h.live, h.calm, h.n, h.log, h.nb, h.seq, by have := h.cnt; omega, by have := h.pend; omega, h.bel, h.hS⟩
theorem RmI.step (h : RmI w W p dp kk i cnt S D j d s t c) (hl : LStep W W' p dp S D j' d' s' t' c') (h1 : J.Calm d') (h2 : d'.n = d.n) (h3 : j'.log = j.log) (h4 : j'.nb = j.nb) (h5 : j'.seq = cnt') (h6 : cnt' ≤ i + 1) (h7 : d'.pend.length ≤ d.pend.length + 40) : ∃ S' D', RmI w W' p dp kk (i + 1) cnt' S' D' j' d' s' t' c' := by
  obtain ⟨S', D', k1, k2, k3, k4⟩ := hl
  refine ⟨S', D', k1, h1, h2.trans h.n, h3.trans h.log, h4.trans h.nb, h5, h6, by have := h.pend; omega, h.bel.trans (k2.below h.bel.size h.hS), fun k hk => ?_⟩
  have := h.bel.size
  rcases hk with hk | hk
  · rcases k3 k hk with h5 | h5
    · exact h.hS k (.inl h5)
    · omega
  · rcases k4 k hk with h5 | h5
    · exact h.hS k (.inr h5)
    · omega
end
section
variable {W W8 : World} {base k q : Nat} {A A' : Option Addr} {c c' : Nat} {sl : List Sl}
theorem WR.below {W' : World} {l : List (Nat × List UInt8)} (h : WR W base A c l sl) (hb : Below W.heap.size W W') : WR W' base A c l sl := h.keep (fun _ => False) (Fr.of_below hb) (fun _ h => h.elim) (fun _ h => h.elim)
theorem WR.place {l : List (Nat × List UInt8)} (h : WR W base A c l sl) (b : Nat) (e : (Value.slice A l.length c).ownBlock = some b) : base ≤ b ∧ b < W.heap.size := by
  rcases h.row.2 with ⟨h0, _⟩ | ⟨g, cap, cur, h1, h2, h3, h4⟩
  · rw [h0] at e; cases e
  · rw [h1] at e
    obtain rfl : g = b := by simpa [Value.ownBlock] using e
    exact ⟨h2, (Array.getElem?_eq_some_iff.1 h3).1⟩
theorem room_below : Below W.heap.size W ((W.alloc (.cells #[.int .u8 (k : Int), .int .u8 (q : Int)] 5)).alloc (.cells #[.int .i64 (q : Int), .slice (some ⟨W.heap.size, 0, none⟩) 2 2] 37)) := ((Below.refl _ _).alloc (Nat.le_refl _) _).alloc (by rw [World.size_alloc]; omega) _
theorem room_size : ((W.alloc (.cells #[.int .u8 (k : Int), .int .u8 (q : Int)] 5)).alloc (.cells #[.int .i64 (q : Int), .slice (some ⟨W.heap.size, 0, none⟩) 2 2] 37)).heap.size = W.heap.size + 2 := by simp only [World.size_alloc]
theorem room_news : ∀ j u, (wv (q : Int) ⟨some ⟨W.heap.size, 0, none⟩, 2, 2⟩)[j]? = some u → ((W.alloc (.cells #[.int .u8 (k : Int), .int .u8 (q : Int)] 5)).alloc (.cells #[.int .i64 (q : Int), .slice (some ⟨W.heap.size, 0, none⟩) 2 2] 37)).cell? ((⟨W.heap.size + 1, 0, none⟩ : Addr).add j) = some u := fun j u hu => by
  have g := heap_alloc_new (W.alloc (.cells #[.int .u8 (k : Int), .int .u8 (q : Int)] 5)) (.cells #[.int .i64 (q : Int), .slice (some ⟨W.heap.size, 0, none⟩) 2 2] 37)
  rw [World.size_alloc] at g
  exact World.news_of_block g j u (by simpa [wv] using hu)
theorem WR.room (h : WR W base A c (lr k q) sl) : ((W.alloc (.cells #[.int .u8 (k : Int), .int .u8 (q : Int)] 5)).alloc (.cells #[.int .i64 (q : Int), .slice (some ⟨W.heap.size, 0, none⟩) 2 2] 37)).ownsRow base 37 2 (.slice A q c) q (wcs (lr k q) sl) := by
  have := (h.below (room_below (k := k) (q := q))).row
  rwa [lr_len] at this
theorem WR.more (h : WR W base A c (lr k q) sl) (hbase : base ≤ W.heap.size) (hk : k < 256) (hq : q < 256) (h8 : W8.ownsRow base 37 2 (.slice A' (q + 1) c') (q + 1) (wcs (lr k q) sl ++ wv (q : Int) ⟨some ⟨W.heap.size, 0, none⟩, 2, 2⟩)) (hg : ((W.alloc (.cells #[.int .u8 (k : Int), .int .u8 (q : Int)] 5)).alloc (.cells #[.int .i64 (q : Int), .slice (some ⟨W.heap.size, 0, none⟩) 2 2] 37)).grownBy W8 (Value.slice A q c).ownBlock)
    (hat : (Value.slice A' (q + 1) c').ownBlock = (Value.slice A q c).ownBlock ∨ (Value.slice A' (q + 1) c').ownBlock = some ((W.alloc (.cells #[.int .u8 (k : Int), .int .u8 (q : Int)] 5)).alloc (.cells #[.int .i64 (q : Int), .slice (some ⟨W.heap.size, 0, none⟩) 2 2] 37)).heap.size) : WR W8 base A' c' (lr k (q + 1)) (sl ++ [⟨some ⟨W.heap.size, 0, none⟩, 2, 2⟩]) ∧ Below base ((W.alloc (.cells #[.int .u8 (k : Int), .int .u8 (q : Int)] 5)).alloc (.cells #[.int .i64 (q : Int), .slice (some ⟨W.heap.size, 0, none⟩) 2 2] 37)) W8 := by
  have hWA := h.below (room_below (k := k) (q := q))
  have hl : (lr k q).length = q := lr_len k q
  have hbs : BS ((W.alloc (.cells #[.int .u8 (k : Int), .int .u8 (q : Int)] 5)).alloc (.cells #[.int .i64 (q : Int), .slice (some ⟨W.heap.size, 0, none⟩) 2 2] 37)) (some ⟨W.heap.size, 0, none⟩) 2 [UInt8.ofNat k, UInt8.ofNat q] := by
    refine BS.alloc ?_ _
    have e : (Obj.cells #[.int .u8 (k : Int), .int .u8 (q : Int)] 5 : Obj) = .cells (bc [UInt8.ofNat k, UInt8.ofNat q]).toArray 5 := by
      show _ = Obj.cells #[.int .u8 ((UInt8.ofNat k).toNat : Int), .int .u8 ((UInt8.ofNat q).toNat : Int)] 5
      rw [J.ofNat_toNat (show k ≤ 255 by omega), J.ofNat_toNat (show q ≤ 255 by omega)]
    rw [e]
    exact BS.of_block (heap_alloc_new W _)
  have ho : ∀ b, (Value.slice A q c).ownBlock = some b → base ≤ b ∧ b < W.heap.size := fun b e => h.place b (by rw [hl]; exact e)
  refine ⟨?_, ?_⟩
  · rw [lr_succ]
    refine hWA.append (x := (q, [UInt8.ofNat k, UInt8.ofNat q])) (s := ⟨some ⟨W.heap.size, 0, none⟩, 2, 2⟩) (by rw [hl]; exact h8) (by rw [hl]; exact hg) (by rw [hl]; exact hat) hbs (Nat.le_refl _) fun _ ad e => ?_
    cases e
    refine ⟨hbase, fun e => ?_⟩
    rw [hl] at e
    have := (ho _ e).2
    exact Nat.lt_irrefl _ this
  · exact (fr_grown hg).below (by rw [room_size]; omega) fun b e => (ho b e).1
end
end Go.Proofs.Ytpbokckobghdmaa
