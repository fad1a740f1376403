/-
  The walk of DiskPlays: what it is told of, and what stands in its loop.
-/
import Derived.Test.YthokobooekmegaaDPairs
namespace Go.Proofs.Ythokobooekmegaa
open Go.RowKit

/-- A slice of acts, as they came in. -/
def AC (w : World) (A : Option Addr) (m : Nat) : Prop := 0 < m → ∃ b o, A = some ⟨b, o, none⟩ ∧ ∀ j, j < m → ∃ (x y z : Int) (B : Option Addr) (n c : Nat) (L : List UInt8),
  w.cell? ⟨b, o + j * 4, none⟩ = some (.int .i64 x) ∧ w.cell? ⟨b, o + j * 4 + 1, none⟩ = some (.int .i64 y) ∧ w.cell? ⟨b, o + j * 4 + 2, none⟩ = some (.int .i64 z) ∧ w.cell? ⟨b, o + j * 4 + 3, none⟩ = some (.slice B n c) ∧
  BS w B n L ∧ n ≤ maxLen ∧ -9223372036854775808 ≤ x ∧ x ≤ 9223372036854775807 ∧ -9223372036854775808 ≤ z ∧ z ≤ 9223372036854775807
theorem AC.at {w W : World} {A : Option Addr} {m : Nat} (h : AC w A m) (hb : Below w.heap.size w W) {j : Nat} (hj : j < m) : ∃ (b o : Nat) (x y z : Int) (B : Option Addr) (n c : Nat) (L : List UInt8), A = some ⟨b, o, none⟩ ∧
    W.cell? ⟨b, o + j * 4, none⟩ = some (.int .i64 x) ∧ W.cell? ⟨b, o + j * 4 + 1, none⟩ = some (.int .i64 y) ∧ W.cell? ⟨b, o + j * 4 + 2, none⟩ = some (.int .i64 z) ∧ W.cell? ⟨b, o + j * 4 + 3, none⟩ = some (.slice B n c) ∧
    BS W B n L ∧ n ≤ maxLen ∧ (-9223372036854775808 ≤ z ∧ z ≤ 9223372036854775807) ∧ (0 < n → ∀ ad, B = some ad → ad.block < w.heap.size) := by
  obtain ⟨b, o, e, hc⟩ := h (by omega)
  obtain ⟨x, y, z, B, n, c, L, h1, h2, h3, h4, h5, h6, h7, h8, h9⟩ := hc j hj
  have hk : ∀ k u, w.cell? ⟨b, k, none⟩ = some u → W.cell? ⟨b, k, none⟩ = some u := fun k u hu => (hb.cell (p := ⟨b, k, none⟩) (World.block_lt_of_cell? w _ hu)).trans hu
  refine ⟨b, o, x, y, z, B, n, c, L, e, hk _ _ h1, hk _ _ h2, hk _ _ h3, hk _ _ h4, h5.below hb, h6, h9, fun hn ad e => ?_⟩
  obtain ⟨b', o', rfl, _, hcell⟩ := h5.at hn
  cases e
  exact World.block_lt_of_cell? w _ hcell
theorem RefD.ltL {W : World} {AL AW : Option Addr} {cW : Nat} {s : DS} (h : RefD W AL AW cW s) (hn : 0 < s.n) : ∀ ad, AL = some ad → ad.block < W.heap.size := fun ad e => by
  obtain ⟨b, e', hc⟩ := h.1 hn
  rw [e] at e'
  cases e'
  exact World.block_lt_of_cell? W _ (hc 0 hn)
theorem RefD.ltW {W : World} {AL AW : Option Addr} {cW : Nat} {s : DS} (h : RefD W AL AW cW s) : ∀ ad, AW = some ad → ad.block < W.heap.size := fun ad e => by
  by_cases h0 : s.pend = []
  · rw [(h.2.1 h0).1] at e
    cases e
  · obtain ⟨b, e', hc⟩ := h.2.2 (List.length_pos_iff.2 h0)
    rw [e] at e'
    cases e'
    exact World.block_lt_of_cell? W _ (hc 0 (List.length_pos_iff.2 h0)).1
/-- The document's state s lies at block q, the disk's s' at p, apart; w is the world of the start. -/
def Mid (w : World) (q p : Nat) (S : Nat → Prop) (s s' : DS) (AL AW : Option Addr) (cL cW : Nat) (W : World) : Prop :=
  Dk W p S s' ∧ RefD W AL AW cW s ∧ W.heap[q]? = some (.cells #[.slice AL s.n cL, .slice AW s.pend.length cW, .int .i64 (nrm s.left), .bool s.down] 31 (0, 0)) ∧ Below w.heap.size w W ∧
  w.heap.size ≤ q ∧ 0 < s.n ∧ (∀ x, S x → w.heap.size ≤ x ∧ x ≠ q) ∧ (∀ ad, AL = some ad → ¬ S ad.block ∧ ad.block ≠ q) ∧ (∀ ad, AW = some ad → ¬ S ad.block ∧ ad.block ≠ q)
section
variable {w W W' W'' : World} {q p : Nat} {S : Nat → Prop} {s s' s'' : DS} {AL AW AL' AW' : Option Addr} {cL cW cL' cW' : Nat}
theorem Mid.lt (h : Mid w q p S s s' AL AW cL cW W) : q < W.heap.size := (Array.getElem?_eq_some_iff.1 h.2.2.1).1
theorem Mid.below (h : Mid w q p S s s' AL AW cL cW W) (hb : Below W.heap.size W W') : Mid w q p S s s' AL AW cL cW W' :=
  ⟨h.1.below hb, h.2.1.below hb, (hb.block _ h.lt).trans h.2.2.1, h.2.2.2.1.trans (hb.mono h.2.2.2.1.size), h.2.2.2.2⟩
theorem Mid.step (h : Mid w q p S s s' AL AW cL cW W) (hs : Step p S s'' W W') : Fr S W W' ∧ ∃ S', Mid w q p S' s s'' AL AW cL cW W' := by
  have hq := h.lt
  obtain ⟨hd, hr, hb, hw, hwq, hn, hS, hL, hW⟩ := h
  obtain ⟨S', hd', hf, hS'⟩ := hs
  refine ⟨hf, S', hd', hr.fr hf (fun ad e => (hL ad e).1) (fun ad e => (hW ad e).1), (hf.block q ⟨hq, fun h => (hS q h).2 rfl⟩).trans hb, hw.trans (hf.below hw.size fun k hk => (hS k hk).1), hwq, hn, fun x hx => ?_, fun ad e => ⟨fun hx => ?_, (hL ad e).2⟩, fun ad e => ⟨fun hx => ?_, (hW ad e).2⟩⟩
  · rcases hS' x hx with h | h
    · exact hS x h
    · exact ⟨Nat.le_trans hw.size h, by omega⟩
  · rcases hS' _ hx with h | h
    · exact (hL ad e).1 h
    · have := hr.ltL hn ad e
      omega
  · rcases hS' _ hx with h | h
    · exact (hW ad e).1 h
    · have := hr.ltW ad e
      omega
theorem StepR.below (h : StepR s' AL AW AL' AW' cW' W W') (hb : Below W'.heap.size W' W'') : StepR s' AL AW AL' AW' cW' W W'' := ⟨h.1.below hb, h.2.1.trans (hb.mono h.2.1.size), h.2.2⟩
theorem Mid.doc (h : Mid w q p S s s' AL AW cL cW W) (hn : s'.n = s.n) (hr : StepR s' AL AW AL' AW' cW' W W')
    (hb : W''.heap[q]? = some (.cells #[.slice AL' s'.n cL', .slice AW' s'.pend.length cW', .int .i64 (nrm s'.left), .bool s'.down] 31 (0, 0))) (hk : Keep (· ≠ q) W' W'') : Mid w q p S s' s' AL' AW' cL' cW' W'' := by
  have hq := h.lt
  obtain ⟨hd, _, _, hw, hwq, hn0, hS, hL, hW⟩ := h
  obtain ⟨h1, h2, h3, h4⟩ := hr
  have hf : Fr (fun k => k = q) W' W'' := hk.mono fun k hk => hk.2
  have a1 : ∀ ad, AL' = some ad → ¬ S ad.block ∧ ad.block ≠ q := fun ad e => by
    rcases h3 ad e with h | h
    · exact hL ad h
    · exact ⟨fun hx => by have := hd.2.1 _ hx; omega, by omega⟩
  have a2 : ∀ ad, AW' = some ad → ¬ S ad.block ∧ ad.block ≠ q := fun ad e => by
    rcases h4 ad e with h | h
    · exact hW ad h
    · exact ⟨fun hx => by have := hd.2.1 _ hx; omega, by omega⟩
  exact ⟨(hd.below h2).keep hf fun k hk e => (hS k hk).2 e, h1.fr hf (fun ad e => (a1 ad e).2) (fun ad e => (a2 ad e).2), hb, (hw.trans (h2.mono hw.size)).trans (hf.below (Nat.le_trans hw.size h2.size) fun k hk => by rw [hk]; exact hwq), hwq, by omega, hS, a1, a2⟩
end
/-- The lowest four bits. -/
theorem and15 (n : Int) : Go.bits BinOp.and IntKind.i64 n 15 = n % 16 := by
  have h15 : (BitVec.ofInt 64 15).toNat = 2 ^ 4 - 1 := by decide
  have key : (BitVec.ofInt 64 n &&& BitVec.ofInt 64 15).toNat = (n % ((2 ^ 64 : Nat) : Int)).toNat % 2 ^ 4 := by
    rw [BitVec.toNat_and, BitVec.toNat_ofInt, h15, Nat.and_two_pow_sub_one_eq_mod]
  show IntKind.i64.wrap ((BitVec.ofInt 64 n &&& BitVec.ofInt 64 15).toNat : Nat) = n % 16
  rw [key, IntKind.wrap_i64]
  omega
/-- What full hands back. -/
theorem full_BS {w : World} {g : Nat} {l : List UInt8} {t : TypeId} {fr : Nat × Nat} (h : w.heap[g]? = some (.cells (bc l).toArray t fr)) (hl : l.length = 128) (n : Nat) (hn : n ≤ 128) : BS w (some ⟨g, 0, none⟩) n (l.take n) := by
  refine ⟨by simp; omega, fun _ => ⟨g, 0, rfl, fun j hj => ?_⟩⟩
  have hj' : j < l.length := by simp at hj; omega
  have := block_cell h (j := j) (b := l[j]) (List.getElem?_eq_getElem hj')
  simpa using this
end Go.Proofs.Ythokobooekmegaa
