
/-
  Frames, slices as they lie in a cell, slices of writes: what layers 5 and above share (the texts of layer 5 hold the same: where they are laid, this one is not).
-/
import Derived.Test.YtjionpkflpnejaaDMem
import Derived.Test.YtjionpkflpnejaaRef
import Derived.Test.YtjionpkflpnejaaRow4
import Derived.Test.YtjionpkflpnejaaRow3
import Derived.Test.YtjionpkflpnejaaRow2
import Derived.Test.YtjionpkflpnejaaRow
import Derived.Test.YtjionpkflpnejaaAwake
import Derived.Test.YtjionpkflpnejaaWriter2
import Derived.Test.YtjionpkflpnejaaWriter
import Derived.Test.YtjionpkflpnejaaBase
import Derived.Test.YtjionpkflpnejaaProg
import Derived.Deep.RegionHeld3
import Derived.Deep.RegionLaw
import Derived.Deep.LoopGhost
import Derived.Deep.DeepMust
import Derived.KernelRfl
import Derived.Lib.SlBytesConst
import Derived.Lib.SlBytesRow
import Derived.Deep.RegionWith
namespace Go.Proofs.Ytjionpkflpnejaa
open Go.RowKit

/-- All that is not of S is as it was. -/
def Fr (S : Nat → Prop) (w w' : World) : Prop := Keep (fun k => k < w.heap.size ∧ ¬ S k) w w'

theorem Fr.refl (S : Nat → Prop) (w : World) : Fr S w w := Keep.refl _ _
theorem Fr.trans {S S' : Nat → Prop} {w w1 w2 : World} (h : Fr S w w1) (h2 : Fr S' w1 w2) (hS : ∀ k, S' k → S k ∨ w.heap.size ≤ k) : Fr S w w2 :=
  Keep.trans h (h2.mono fun k hk => ⟨Nat.lt_of_lt_of_le hk.1 h.size, fun h' => by rcases hS k h' with h' | h'; exact hk.2 h'; omega⟩)
theorem Fr.of_below {S : Nat → Prop} {w w' : World} (h : Below w.heap.size w w') : Fr S w w' := (Keep.of_below h).mono fun _ hk => hk.1
theorem Fr.mono {S S' : Nat → Prop} {w w' : World} (h : Fr S w w') (hS : ∀ k, S k → S' k) : Fr S' w w' := Keep.mono h fun k hk => ⟨hk.1, fun h' => hk.2 (hS k h')⟩
theorem Fr.below {S : Nat → Prop} {w w' : World} (h : Fr S w w') {B : Nat} (hB : B ≤ w.heap.size) (hS : ∀ k, S k → B ≤ k) : Below B w w' :=
  Keep.below (Keep.mono h fun k hk => ⟨Nat.lt_of_lt_of_le hk hB, fun h' => by have := hS k h'; omega⟩)

theorem BS.keepK {K : Nat → Prop} {w w' : World} {A : Option Addr} {n : Nat} {l : List UInt8} (h : BS w A n l) (hk : Keep K w w') (hA : 0 < n → ∀ ad, A = some ad → K ad.block) : BS w' A n l :=
  ⟨h.1, fun hn => by
    obtain ⟨b, o, e, hc⟩ := h.2 hn
    exact ⟨b, o, e, fun j hj => (World.cell?_of_block (hk.block b (hA hn _ e))).trans (hc j hj)⟩⟩

/-- A slice as it lies in a cell. -/
structure Sl where
  a : Option Addr
  n : Nat
  c : Nat
def Sl.v (x : Sl) : Value := .slice x.a x.n x.c
/-- A slice of writes, of blocks X. -/
def WS (w : World) (X : Nat → Prop) (A : Option Addr) (n : Nat) (l : List (Int × List UInt8)) : Prop :=
  l.length = n ∧ (0 < n → ∃ b o, A = some ⟨b, o, none⟩ ∧ X b ∧ ∀ k (h : k < l.length), ∃ x : Sl, w.cell? ⟨b, o + k * 2, none⟩ = some (.int .i64 l[k].1) ∧ w.cell? ⟨b, o + k * 2 + 1, none⟩ = some (.slice x.a x.n x.c) ∧ BS w x.a x.n l[k].2 ∧ x.n ≤ x.c ∧ (0 < x.n → ∀ ad, x.a = some ad → X ad.block))
section
variable {w w' : World} {X : Nat → Prop} {A : Option Addr} {n : Nat} {l : List (Int × List UInt8)}
theorem WS.nil : WS w X A 0 [] := ⟨rfl, fun h => absurd h (by omega)⟩
theorem WS.keepK (h : WS w X A n l) (hk : Keep X w w') : WS w' X A n l := by
  refine ⟨h.1, fun hn => ?_⟩
  obtain ⟨b, o, e, hX, hc⟩ := h.2 hn
  refine ⟨b, o, e, hX, fun k hk' => ?_⟩
  obtain ⟨x, h1, h2, h3, h4, h5⟩ := hc k hk'
  exact ⟨x, (World.cell?_of_block (a := ⟨b, o + k * 2, none⟩) (hk.block b hX)).trans h1, (World.cell?_of_block (a := ⟨b, o + k * 2 + 1, none⟩) (hk.block b hX)).trans h2, h3.keepK hk h5, h4, h5⟩
theorem WS.fr (h : WS w X A n l) {T : Nat → Prop} (hf : Fr T w w') (hd : ∀ k, X k → k < w.heap.size ∧ ¬ T k) : WS w' X A n l := h.keepK (Keep.mono hf hd)
theorem WS.mono (h : WS w X A n l) {Y : Nat → Prop} (hY : ∀ k, X k → Y k) : WS w Y A n l := by
  refine ⟨h.1, fun hn => ?_⟩
  obtain ⟨b, o, e, hX, hc⟩ := h.2 hn
  refine ⟨b, o, e, hY b hX, fun k hk' => ?_⟩
  obtain ⟨x, h1, h2, h3, h4, h5⟩ := hc k hk'
  exact ⟨x, h1, h2, h3, h4, fun hn ad e => hY _ (h5 hn ad e)⟩
theorem WS.at (h : WS w X A n l) (k : Nat) (hk : k < n) : ∃ b o x, ∃ hl : k < l.length, A = some ⟨b, o, none⟩ ∧ X b ∧ w.cell? ⟨b, o + k * 2, none⟩ = some (.int .i64 l[k].1) ∧ w.cell? ⟨b, o + k * 2 + 1, none⟩ = some (.slice (Sl.a x) x.n x.c) ∧ BS w x.a x.n l[k].2 ∧ x.n ≤ x.c ∧ (0 < x.n → ∀ ad, x.a = some ad → X ad.block) := by
  have hl : k < l.length := by rw [h.1]; exact hk
  obtain ⟨b, o, e, hX, hc⟩ := h.2 (by omega)
  obtain ⟨x, h1, h2, h3, h4, h5⟩ := hc k hl
  exact ⟨b, o, x, hl, e, hX, h1, h2, h3, h4, h5⟩
end

theorem Own.new {w w' : World} {A : Option Addr} {n c : Nat} {l : List UInt8} (h : Own w w' A n c l) : ∀ ad, A = some ad → w.heap.size ≤ ad.block := by
  intro ad e
  rcases h.1.2 with ⟨h1, _⟩ | ⟨g, cap, cur, h1, h2, _⟩
  · injection h1 with h1 _ _
    rw [h1] at e
    cases e
  · injection h1 with h1 _ _
    rw [h1] at e
    cases e
    exact h2
/-- A write as cells. -/
def wv (i : Int) (x : Sl) : List Value := [.int .i64 i, .slice x.a x.n x.c]
theorem size_wr : (Try.prog.info? 70).map (·.size) = some 2 := by kernel_rfl
theorem zero_wr : (Try.prog.info? 70).bind (·.zero) = some (.agg (wv 0 ⟨none, 0, 0⟩).toArray) := by kernel_rfl
theorem wv_one (i : Int) (x : Sl) : (wv i x).toArray.all (·.oneCell') = true := by simp [wv, Value.oneCell']
theorem WS.news {w : World} {b o : Nat} {i : Int} {x : Sl} (h1 : w.cell? ⟨b, o, none⟩ = some (.int .i64 i)) (h2 : w.cell? ⟨b, o + 1, none⟩ = some (.slice x.a x.n x.c)) : ∀ j u, (wv i x)[j]? = some u → w.cell? ((⟨b, o, none⟩ : Addr).add j) = some u := by
  intro j u hu
  rw [add_plain]
  match j with
  | 0 => simp [wv] at hu; subst hu; exact h1
  | 1 => simp [wv] at hu; subst hu; exact h2
  | n + 2 => simp [wv] at hu

/-- The cells of writes. -/
def wcs : List (Nat × List UInt8) → List Sl → List Value
  | x :: l, s :: r => wv x.1 s ++ wcs l r
  | _, _ => []
theorem wcs_len : ∀ (l : List (Nat × List UInt8)) (sl : List Sl), sl.length = l.length → (wcs l sl).length = l.length * 2
  | [], _, _ => by simp [wcs]
  | x :: l, [], h => by simp at h
  | x :: l, s :: r, h => by
    have := wcs_len l r (by simpa using h)
    simp only [wcs, List.length_append, this, List.length_cons]
    simp [wv]
    omega
theorem wcs_snoc : ∀ (l : List (Nat × List UInt8)) (sl : List Sl) (x : Nat × List UInt8) (s : Sl), sl.length = l.length → wcs (l ++ [x]) (sl ++ [s]) = wcs l sl ++ wv x.1 s
  | [], [], x, s, _ => by simp [wcs]
  | [], _ :: _, _, _, h => by simp at h
  | _ :: _, [], _, _, h => by simp at h
  | y :: l, t :: r, x, s, h => by
    simp only [List.cons_append, wcs, wcs_snoc l r x s (by simpa using h), List.append_assoc]
theorem wcs_get : ∀ (l : List (Nat × List UInt8)) (sl : List Sl) (h : sl.length = l.length) (k : Nat) (hk : k < l.length), (wcs l sl)[k * 2]? = some (.int .i64 (l[k].1 : Int)) ∧ (wcs l sl)[k * 2 + 1]? = some (.slice (sl[k]'(by omega)).a (sl[k]'(by omega)).n (sl[k]'(by omega)).c)
  | [], _, _, k, hk => by simp at hk
  | _ :: _, [], h, _, _ => by simp at h
  | x :: l, s :: r, h, k, hk => by
    match k with
    | 0 => simp [wcs, wv]
    | k + 1 =>
      have := wcs_get l r (by simpa using h) k (by simpa using hk)
      simp only [wcs]
      rw [show (k + 1) * 2 = k * 2 + 2 by omega, List.getElem?_append_right (by simp [wv]), List.getElem?_append_right (by simp [wv])]
      simpa [wv] using this
/-- Writes in a row of the call's own. -/
structure WR (W : World) (base : Nat) (A : Option Addr) (c : Nat) (l : List (Nat × List UInt8)) (sl : List Sl) : Prop where
  len : sl.length = l.length
  row : W.ownsRow base 70 2 (.slice A l.length c) l.length (wcs l sl)
  bs : ∀ i (h : i < sl.length), BS W sl[i].a sl[i].n (l[i]'(by rw [← len]; exact h)).2
  cap : ∀ i (h : i < sl.length), sl[i].n ≤ sl[i].c
  own : ∀ i (h : i < sl.length), 0 < sl[i].n → ∀ ad, sl[i].a = some ad → base ≤ ad.block
  off : ∀ i (h : i < sl.length), 0 < sl[i].n → ∀ ad, sl[i].a = some ad → (Value.slice A l.length c).ownBlock ≠ some ad.block
theorem WR.ws {W : World} {base : Nat} {A : Option Addr} {c : Nat} {l : List (Nat × List UInt8)} {sl : List Sl} (h : WR W base A c l sl) : WS W (fun k => base ≤ k) A l.length (l.map fun x => ((x.1 : Int), x.2)) := by
  refine ⟨by simp, fun hn => ?_⟩
  rcases h.row.2 with ⟨h1, h2⟩ | ⟨g, cap, cur, h1, h2, h3, h4, h5, h6, h7⟩
  · omega
  · injection h1 with h1 _ _
    refine ⟨g, 0, h1, h2, fun k hk => ?_⟩
    have hkl : k < l.length := by simpa using hk
    obtain ⟨w1, w2⟩ := wcs_get l sl h.len k hkl
    have cell : ∀ j v, j < l.length * 2 → (wcs l sl)[j]? = some v → W.cell? ⟨g, 0 + j, none⟩ = some v := fun j v hj hv => by
      rw [Nat.zero_add, cell_of_row _ _ _ _ _ _ h3]
      rw [← h7, List.getElem?_take, if_pos hj] at hv
      simpa using hv
    refine ⟨sl[k]'(by rw [h.len]; exact hkl), ?_, ?_, ?_, h.cap k (by rw [h.len]; exact hkl), h.own k (by rw [h.len]; exact hkl)⟩
    · rw [cell _ _ (by omega) w1]
      simp
    · rw [Nat.add_assoc, cell _ _ (by omega) w2]
    · simpa using h.bs k (by rw [h.len]; exact hkl)
theorem WR.nil (W : World) (base : Nat) : WR W base none 0 [] [] := ⟨rfl, World.ownsRow_nil _ _ _ _, fun i h => by simp at h, fun i h => by simp at h, fun i h => by simp at h, fun i h => by simp at h⟩
/-- A row's block is a row of writes; bytes are bytes: whatever else is written leaves them. -/
theorem WR.keep {W W' : World} {base : Nat} {A : Option Addr} {c : Nat} {l : List (Nat × List UInt8)} {sl : List Sl} (h : WR W base A c l sl) (T : Nat → Prop) (hf : Fr T W W') (hT : ∀ k, T k → ∀ cur, W.heap[k]? ≠ some (.cells cur 70 (0, 0))) (hB : ∀ k, T k → ∀ o z, W.cell? ⟨k, o, none⟩ ≠ some (.int .u8 z)) : WR W' base A c l sl := by
  refine ⟨h.len, ⟨h.row.1, ?_⟩, fun i hi => ?_, h.cap, h.own, h.off⟩
  · rcases h.row.2 with h1 | ⟨g, cap, cur, h1, h2, h3, h4⟩
    · exact .inl h1
    · exact .inr ⟨g, cap, cur, h1, h2, (hf.block g ⟨(Array.getElem?_eq_some_iff.1 h3).1, fun hg => hT g hg cur h3⟩).trans h3, h4⟩
  · obtain ⟨b1, b2⟩ := h.bs i hi
    refine ⟨b1, fun hn => ?_⟩
    obtain ⟨b, o, e, hc⟩ := b2 hn
    refine ⟨b, o, e, fun j hj => ?_⟩
    rw [← hc j hj]
    exact World.cell?_of_block (hf.block b ⟨World.block_lt_of_cell? W _ (hc j hj), fun hb => hB b hb _ _ (hc j hj)⟩)

theorem WR.append {w7 w8 : World} {base : Nat} {A A' : Option Addr} {c c' : Nat} {l : List (Nat × List UInt8)} {sl : List Sl} {x : Nat × List UInt8} {s : Sl} (h : WR w7 base A c l sl) (h8 : w8.ownsRow base 70 2 (.slice A' (l.length + 1) c') (l.length + 1) (wcs l sl ++ wv x.1 s)) (hg : w7.grownBy w8 (Value.slice A l.length c).ownBlock)
    (hat : (Value.slice A' (l.length + 1) c').ownBlock = (Value.slice A l.length c).ownBlock ∨ (Value.slice A' (l.length + 1) c').ownBlock = some w7.heap.size) (hb : BS w7 s.a s.n x.2) (hc : s.n ≤ s.c) (hs : 0 < s.n → ∀ ad, s.a = some ad → base ≤ ad.block ∧ (Value.slice A l.length c).ownBlock ≠ some ad.block) : WR w8 base A' c' (l ++ [x]) (sl ++ [s]) := by
  have keepB : ∀ (a : Option Addr) (n : Nat) (b : List UInt8), BS w7 a n b → (0 < n → ∀ ad, a = some ad → (Value.slice A l.length c).ownBlock ≠ some ad.block) → BS w8 a n b := fun a n b hB ho =>
    ⟨hB.1, fun hn => by
      obtain ⟨bb, o, e, hcell⟩ := hB.2 hn
      exact ⟨bb, o, e, fun j hj => (World.cell?_of_block (hg.block bb (World.block_lt_of_cell? w7 _ (hcell j hj)) (fun e' => ho hn _ e e'.symm))).trans (hcell j hj)⟩⟩
  have offB : ∀ (a : Option Addr) (n : Nat) (b : List UInt8), BS w7 a n b → (0 < n → ∀ ad, a = some ad → (Value.slice A l.length c).ownBlock ≠ some ad.block) → (0 < n → ∀ ad, a = some ad → (Value.slice A' (l.length + 1) c').ownBlock ≠ some ad.block) := fun a n b hB ho hn ad e => by
    rcases hat with h1 | h1
    · rw [h1]; exact ho hn ad e
    · rw [h1]
      have := hB.lt_block hn ad e
      simp
      omega
  have hlen : (sl ++ [s]).length = (l ++ [x]).length := by simp [h.len]
  refine ⟨hlen, ?_, fun i hi => ?_, fun i hi => ?_, fun i hi h0 ad e => ?_, fun i hi h0 ad e => ?_⟩
  · rw [List.length_append, wcs_snoc _ _ _ _ h.len]; exact h8
  · by_cases hi' : i < sl.length
    · simp only [List.getElem_append_left hi', List.getElem_append_left (show i < l.length by rw [← h.len]; exact hi')]
      exact keepB _ _ _ (h.bs i hi') (h.off i hi')
    · obtain rfl : i = sl.length := by simp at hi; omega
      have e1 : (sl ++ [s])[sl.length]'hi = s := by simp
      have e2 : ∀ hh, (l ++ [x])[sl.length]'hh = x := by intro hh; simp [h.len]
      rw [e1, e2]
      exact keepB _ _ _ hb fun hn ad e => (hs hn ad e).2
  · by_cases hi' : i < sl.length
    · simp only [List.getElem_append_left hi']; exact h.cap i hi'
    · obtain rfl : i = sl.length := by simp at hi; omega
      have e1 : (sl ++ [s])[sl.length]'hi = s := by simp
      rw [e1]; exact hc
  · by_cases hi' : i < sl.length
    · simp only [List.getElem_append_left hi'] at h0 e; exact h.own i hi' h0 ad e
    · obtain rfl : i = sl.length := by simp at hi; omega
      have e1 : (sl ++ [s])[sl.length]'hi = s := by simp
      rw [e1] at h0 e; exact (hs h0 ad e).1
  · rw [List.length_append]
    show (Value.slice A' (l.length + 1) c').ownBlock ≠ _
    by_cases hi' : i < sl.length
    · simp only [List.getElem_append_left hi'] at h0 e; exact offB _ _ _ (h.bs i hi') (h.off i hi') h0 ad e
    · obtain rfl : i = sl.length := by simp at hi; omega
      have e1 : (sl ++ [s])[sl.length]'hi = s := by simp
      rw [e1] at h0 e; exact offB _ _ _ hb (fun hn ad e => (hs hn ad e).2) h0 ad e
theorem fr_grown {W W' : World} {v : Value} (hg : W.grownBy W' v.ownBlock) : Fr (fun i => v.ownBlock = some i) W W' := ⟨hg.os, hg.tape, hg.output, hg.size, fun i hi => hg.block i hi.1 (fun e => hi.2 e.symm)⟩
theorem WR.below {W W' : World} {base : Nat} {A : Option Addr} {c : Nat} {sl : List Sl} {l : List (Nat × List UInt8)} (h : WR W base A c l sl) (hb : Below W.heap.size W W') : WR W' base A c l sl := h.keep (fun _ => False) (Fr.of_below hb) (fun _ h => h.elim) (fun _ h => h.elim)
theorem WR.place {W : World} {base : Nat} {A : Option Addr} {c : Nat} {sl : List Sl} {l : List (Nat × List UInt8)} (h : WR W base A c l sl) (b : Nat) (e : (Value.slice A l.length c).ownBlock = some b) : base ≤ b ∧ b < W.heap.size := by
  rcases h.row.2 with ⟨h0, _⟩ | ⟨g, cap, cur, h1, h2, h3, h4⟩
  · rw [h0] at e; cases e
  · rw [h1] at e
    obtain rfl : g = b := by simpa [Value.ownBlock] using e
    exact ⟨h2, (Array.getElem?_eq_some_iff.1 h3).1⟩
end Go.Proofs.Ytjionpkflpnejaa
