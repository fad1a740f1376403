/-
  What TxnForks knows: a transaction whose puts are two bytes each; a row of texts of the call's own (layer 10).
-/
import Derived.Test.YtnjkcodegcojcaaTIn
namespace Go.Proofs.Ytnjkcodegcojcaa
open Go.RowKit

theorem tmod_nat (x k : Nat) : ((x : Int).tmod (k : Int)) = ((x % k : Nat) : Int) := rfl
/-- Two bytes in a block. -/
theorem two_block {w : World} {g : Nat} {a y : UInt8} {t : TypeId} {fr : Nat × Nat} (h : w.heap[g]? = some (.cells #[.int .u8 (a.toNat : Int), .int .u8 (y.toNat : Int)] t fr)) : BS w (some ⟨g, 0, none⟩) 2 [a, y] := BS.of_block (l := [a, y]) h
/-- Puts of two bytes each, on the blocks ls. -/
structure Two (ls : List (List UInt8)) (X : TX) : Prop where
  ll : X.l = ls
  two : ∀ j b, X.p j = some b → b.length = 2
theorem Two.new (ls : List (List UInt8)) : Two ls (TX.new ls) := ⟨rfl, fun j b h => by cases h⟩
theorem Two.put {ls : List (List UInt8)} {X : TX} (h : Two ls X) (k : Nat) (a y : UInt8) : Two ls (X.put k [a, y]) := ⟨h.ll, fun j b hb => by
  simp only [TX.put] at hb
  by_cases e : j = k
  · rw [if_pos e] at hb; cases hb; rfl
  · rw [if_neg e] at hb; exact h.two j b hb⟩
/-- Whatever is not of two bytes is what was there. -/
theorem Two.get {ls : List (List UInt8)} {X : TX} (h : Two ls X) (j : Nat) (hl : (X.get j).length ≠ 2) : X.get j = ls.getD j [] := by
  cases hp : X.p j with
  | none => rw [TX.get_none hp]; unfold TX.was; rw [h.ll]
  | some b => exact absurd (h.two j b hp) (by rw [TX.get_of hp] at hl; exact hl)
theorem get_take (X Y : TX) (h : X.l = Y.l) (j : Nat) : (X.take Y).get j = Y.get j := by unfold TX.get TX.take TX.was; rw [h]

/-- A transaction, and what is known of it. -/
structure FK (W0 w : World) (ls : List (List UInt8)) (n p m : Nat) (x : Sl) (X : TX) : Prop where
  tq : Tq w p m x (fun z => W0.heap.size ≤ z) X
  xn : x.n = n
  tw : Two ls X
  bel : Below W0.heap.size W0 w
section
variable {W0 w w' : World} {ls : List (List UInt8)} {n p m : Nat} {x : Sl} {X Y : TX}
theorem FK.below (h : FK W0 w ls n p m x X) (hb : Below w.heap.size w w') : FK W0 w' ls n p m x X := ⟨h.tq.below hb, h.xn, h.tw, h.bel.trans (hb.mono h.bel.size)⟩
theorem FK.new (h : FK W0 w ls n p m x X) : ∀ k, w.heap.size ≤ k → W0.heap.size ≤ k := fun _ hk => Nat.le_trans h.bel.size hk
theorem FK.put (h : FK W0 w ls n p m x X) {k : Nat} {a y : UInt8} (ht : Tq w' p m x (fun z => W0.heap.size ≤ z) (X.put k [a, y])) (hc : Ch (· = m) w w') : FK W0 w' ls n p m x (X.put k [a, y]) :=
  ⟨ht, h.xn, h.tw.put k a y, h.bel.trans (hc.below h.bel.size fun k hk => by rw [hk]; exact h.tq.sm)⟩
end

/-- The cells of texts. -/
def sc (l : List (List UInt8)) : List Value := l.map fun b => Value.string (txt b)
theorem sc_length (l : List (List UInt8)) : (sc l).length = l.length := by simp [sc]
theorem sc_snoc (l : List (List UInt8)) (b : List UInt8) : sc (l ++ [b]) = sc l ++ [.string (txt b)] := by simp [sc]
theorem info_str : (Try.prog.info? 9).map (fun i => (i.zero, i.size, i.bytes)) = some (some (.string ⟨#[]⟩), 1, 16) := by kernel_rfl
/-- Texts in a row of the call's own. -/
def SR (W : World) (base : Nat) (A : Option Addr) (c : Nat) (l : List (List UInt8)) : Prop := W.ownsRow base 9 1 (.slice A l.length c) l.length (sc l)
section
variable {W W' w2 w8 : World} {base : Nat} {A A' : Option Addr} {c c' : Nat} {l : List (List UInt8)}
theorem SR.nil (W : World) (base : Nat) : SR W base none 0 [] := World.ownsRow_nil _ _ _ _
theorem SR.keep (h : SR W base A c l) (hk : ∀ (g : Nat) (cs : Array Value), W.heap[g]? = some (Obj.cells cs 9 (0, 0)) → W'.heap[g]? = W.heap[g]?) : SR W' base A c l := by
  refine ⟨h.1, ?_⟩
  rcases h.2 with h1 | ⟨g, cap, cur, h1, h2, h3, h4⟩
  · exact .inl h1
  · exact .inr ⟨g, cap, cur, h1, h2, (hk g cur h3).trans h3, h4⟩
theorem SR.below (h : SR W base A c l) (hb : Below W.heap.size W W') : SR W' base A c l := SR.keep h fun g _ hg => hb.block g (Array.getElem?_eq_some_iff.1 hg).1
theorem SR.ch {Q : Nat → Prop} (h : SR W base A c l) (hc : Ch Q W W') : SR W' base A c l := SR.keep h fun g cs hg => hc.1.block g ⟨(Array.getElem?_eq_some_iff.1 hg).1, fun hq => (hc.2 g hq).no_row cs _ (by decide) hg⟩
theorem SR.at (h : SR W base A c l) {k : Nat} (hk : k < l.length) : ∃ g, A = some ⟨g, 0, none⟩ ∧ base ≤ g ∧ W.cell? ⟨g, k, none⟩ = some (.string (txt l[k])) := by
  rcases h.2 with ⟨_, h0⟩ | ⟨g, cap, cur, h1, h2, h3, _⟩
  · omega
  · injection h1 with h1
    subst h1
    have := World.ownsRow.cells h (g := g) rfl k (.string (txt l[k])) (by simp [sc, hk])
    rw [add_plain, Nat.zero_add] at this
    exact ⟨g, rfl, h2, this⟩
theorem SR.place (h : SR W base A c l) (b : Nat) (e : (Value.slice A l.length c).ownBlock = some b) : base ≤ b ∧ b < W.heap.size := by
  rcases h.2 with ⟨h0, _⟩ | ⟨g, cap, cur, h1, h2, h3, h4⟩
  · rw [h0] at e; cases e
  · rw [h1] at e
    obtain rfl : g = b := by simpa [Value.ownBlock] using e
    exact ⟨h2, (Array.getElem?_eq_some_iff.1 h3).1⟩
theorem SR.news (w2 : World) (b : List UInt8) : ∀ j u, ([Value.string (txt b)])[j]? = some u → (w2.alloc (.cells #[.string (txt b)] 9)).cell? ((⟨w2.heap.size, 0, none⟩ : Addr).add j) = some u := fun j u hu =>
  World.news_of_block (heap_alloc_new w2 (.cells #[.string (txt b)] 9)) j u (by simpa using hu)
theorem SR.push (h : SR W base A c l) (hsz : base ≤ W.heap.size) (hb : Below W.heap.size W w2) (b : List UInt8) (h8 : w8.ownsRow base 9 1 (.slice A' (l.length + 1) c') (l.length + 1) (sc l ++ [.string (txt b)])) (hg : (w2.alloc (.cells #[.string (txt b)] 9)).grownBy w8 (Value.slice A l.length c).ownBlock) : SR w8 base A' c' (l ++ [b]) ∧ Below base W w8 := by
  have hB : Below W.heap.size W (w2.alloc (.cells #[.string (txt b)] 9)) := hb.alloc hb.size _
  refine ⟨?_, (hB.mono hsz).trans ((fr_grown hg).below (Nat.le_trans hsz hB.size) fun k e => (h.place k e).1)⟩
  unfold SR
  rw [List.length_append, sc_snoc]
  exact h8
end
/-- What the first k blocks were. -/
def wasL (X : TX) (k : Nat) : List (List UInt8) := (List.range k).map X.get
theorem wasL_len (X : TX) (k : Nat) : (wasL X k).length = k := by simp [wasL]
theorem wasL_succ (X : TX) (k : Nat) : wasL X (k + 1) = wasL X k ++ [X.get k] := by simp [wasL, List.range_succ]
theorem wasL_at (X : TX) {n k : Nat} (h : k < n) : (wasL X n)[k]'(by rw [wasL_len]; exact h) = X.get k := by simp [wasL]
/-- What is written over block 0 at last. -/
def othB : List UInt8 := [111, 116, 104, 101, 114]
theorem oth_block {w : World} {g : Nat} {t : TypeId} {fr : Nat × Nat} (h : w.heap[g]? = some (.cells #[.int .u8 111, .int .u8 116, .int .u8 104, .int .u8 101, .int .u8 114] t fr)) : BS w (some ⟨g, 0, none⟩) 5 othB := BS.of_block (l := othB) h
theorem get_last {X Y : TX} {ls : List (List UInt8)} (hx : Two ls X) (hy : Two ls Y) {k : Nat} (hk : 1 ≤ k) : ((X.take Y).put 0 othB).get k = Y.get k := by
  rw [TX.get_put, if_neg (by omega), get_take X Y (by rw [hx.ll, hy.ll])]
end Go.Proofs.Ytnjkcodegcojcaa
