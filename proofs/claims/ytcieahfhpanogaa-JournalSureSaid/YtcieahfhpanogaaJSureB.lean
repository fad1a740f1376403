/-
  A journal of the laws of 16 sectors' log and six blocks, on a disk that does not stop; Open behind a crash; a write of an argument.
  Writes as they came in: an argument of type []journal.Write.
  For the law of a journal that is opened again: six texts in a block beside the journal; what stays from call to call.
  For the law of crashes: a journal whose disk may stop; what a change leaves, and what is there behind a crash and Open.
  The law of crashes: its last loop, which reads what is there, as a declaration of its own.
  The law of crashes: the two loops that make what is wanted, as declarations of their own.
-/
import Derived.Test.YtcieahfhpanogaaJTailM
import Derived.Deep.RegionHeld
import Derived.Test.YtcieahfhpanogaaJTop
import Derived.Test.YtcieahfhpanogaaRows
import Derived.WalkKit
import Derived.ProofKit
import Derived.OpenShut
import Derived.ShutString
import Derived.ChangeOld
import Derived.Below
import Derived.Deep.Slices
import Derived.Deep.Fields
namespace Go.Proofs.Ytcieahfhpanogaa
open Go.RowKit

/-- A journal of the law, on a disk that does not stop. -/
structure TS (w W : World) (p dp : Nat) (S D : Nat → Prop) (j : J.JS) (d : DS) (s t : Nat) (c : List J.Chg) : Prop where
  live : Live W p dp S D j d s t c
  calm : J.Calm d
  n : d.n = 40
  log : j.log = 16
  nb : j.nb = 6
  bel : Below w.heap.size w W
  hS : ∀ k, S k ∨ D k → w.heap.size ≤ k
section
variable {w W W' : World} {p dp q : Nat} {S D S' D' : Nat → Prop} {j j' : J.JS} {d d' : DS} {s t s' t' : Nat} {c c' : List J.Chg}
theorem TS.below (h : TS w W p dp S D j d s t c) (hb : Below W.heap.size W W') : TS w W' p dp S D j d s t c := ⟨h.live.below hb, h.calm, h.n, h.log, h.nb, h.bel.trans (hb.mono h.bel.size), h.hS⟩
theorem TS.step (h : TS w W p dp S D j d s t c) (hl : LStep W W' p dp S D j' d' s' t' c') (h1 : J.Calm d') (h2 : d'.n = d.n) (h3 : j'.log = j.log) (h4 : j'.nb = j.nb) : ∃ S' D', TS w W' p dp S' D' j' d' s' t' c' := by
  obtain ⟨S', D', k1, k2, k3, k4⟩ := hl
  refine ⟨S', D', k1, h1, h2.trans h.n, h3.trans h.log, h4.trans h.nb, h.bel.trans (k2.below h.bel.size h.hS), fun k hk => ?_⟩
  have := h.bel.size
  rcases hk with hk | hk
  · rcases k3 k hk with h5 | h5
    · exact h.hS k (.inl h5)
    · omega
  · rcases k4 k hk with h5 | h5
    · exact h.hS k (.inr h5)
    · omega
theorem below_ws (hb : Below w.heap.size w W) {A : Option Addr} {n : Nat} {l : List (Int × List UInt8)} (hw : WS w (fun k => k < w.heap.size) A n l) : WS W (fun k => k < w.heap.size) A n l := hw.keepK ((Keep.of_below hb).mono fun _ hk => hk)
theorem TS.off (h : TS w W p dp S D j d s t c) : ∀ k, k < w.heap.size → k < W.heap.size ∧ ¬ (S k ∨ D k) := fun k hk => ⟨Nat.lt_of_lt_of_le hk h.bel.size, fun h' => by have := h.hS k h'; omega⟩
/-- A crash, and Open behind it. -/
theorem crash_open {A : Option Addr} {m cp : Nat} {L : List UInt8} (h : JD W p dp S D j d) (hb : Below w.heap.size w W) (hS : ∀ k, S k ∨ D k → w.heap.size ≤ k) (hs : d.pend.length ≤ 1000000) (hL : BS w A m L) (hm : m ≤ maxLen) :
    Calls Try.prog 15 #[.pointer (some ⟨dp, 0, none⟩), .slice A m cp] W fun e W' => (∃ v : Int, e = .returned (.int .i64 v)) ∧ ∃ D', Dk W' dp D' (d.crashed L) ∧ Below w.heap.size w W' ∧ ∀ k, D' k → w.heap.size ≤ k := by
  refine (crash_all dp D d A m cp L W h.dk hs (hL.below hb) (fun h0 ad e hD => ?_) hm).mono ?_
  · have h1 := hS _ (.inr hD)
    have h2 := hL.lt_block h0 ad e
    omega
  rintro e W' ⟨rfl, hst⟩
  obtain ⟨D', k1, k2, -, k4⟩ := h.disk hst
  exact ⟨⟨_, rfl⟩, D', k1.dk, hb.trans (k2.below hb.size hS), fun k hk => (k4 k hk).elim (fun h => hS k (.inr h)) fun h => Nat.le_trans hb.size h⟩
theorem open_ts {B : Nat → List UInt8} {L : List UInt8} (h : Dk W dp D (d.crashed L)) (hb : Below w.heap.size w W) (hD : ∀ k, D k → w.heap.size ≤ k) (hn : d.n = 40) (hi : J.Inv d 16 6 s t c B) (hsq : s + c.length + 1 < 18446744073709551616) :
    Calls Try.prog 11 #[.pointer (some ⟨dp, 0, none⟩), .int .i64 16, .int .i64 6] W fun e W' => ∃ q S' D' j' d', e = .returned (.tuple #[.pointer (some ⟨q, 0, none⟩), .int .i64 0]) ∧ TS w W' q dp S' D' j' d' s t c ∧ (∀ i, i < 6 → j'.B i = B i) ∧ d'.pend.length ≤ 6 ∧ j'.seq = s + c.length := by
  refine (open_live h (by show (0 : Nat) ≤ _; omega) 16 6 (by omega) (by omega) (by omega) (by omega) (by show 1 + 16 + 6 ≤ d.n; omega) (J.crashed_calm _ _) (J.Inv.crash (show 0 < 16 by omega) hi L) hsq).mono ?_
  rintro e W' ⟨q, S9, D9, j9, d9, rfl, hl9, hc9, hn9, hlog9, hnb9, hB9, hp9, hf9, hS9, hD9⟩
  refine ⟨q, S9, D9, j9, d9, rfl, ⟨hl9, hc9, by rw [hn9]; exact hn, hlog9, hnb9, hb.trans (hf9.below hb.size hD), fun k hk => ?_⟩, hB9, ?_, hl9.seq⟩
  · rcases hk with hk | hk
    · exact Nat.le_trans hb.size (hS9 k hk)
    · exact (hD9 k hk).elim (hD k) fun h => Nat.le_trans hb.size h
  · have : d9.pend.length ≤ 0 + 6 := hp9
    omega
/-- A write of the law's argument, in whichever world it is looked at. -/
theorem ws_held {A : Option Addr} {n : Nat} {l : List (Int × List UInt8)} (hw : WS w (fun k => k < w.heap.size) A n l) (k : Nat) (hk : k < n) (hkl : k < l.length) (y : Nat) (hy : (y : Int) = l[k].1) :
    ∃ b o x, A = some ⟨b, o, none⟩ ∧ ∀ W, Below w.heap.size w W → W.cell? ⟨b, o + k * 2, none⟩ = some (.int .i64 (y : Int)) ∧ W.cell? ⟨b, o + k * 2 + 1, none⟩ = some (.slice (Sl.a x) x.n x.c) ∧ (convert 23 9 (.slice x.a x.n x.c)).run Try.prog W = .ok (.string (txt l[k].2)) W := by
  obtain ⟨b, o, x, hkl', e, hX, g1, g2, g3, -, g5⟩ := hw.at k hk
  refine ⟨b, o, x, e, fun W hb => ?_⟩
  have hc : ∀ i, W.cell? ⟨b, i, none⟩ = w.cell? ⟨b, i, none⟩ := fun i => hb.cell (p := ⟨b, i, none⟩) hX
  exact ⟨by rw [hc, g1, hy], by rw [hc, g2], run_convert_bs W _ _ _ _ (g3.below hb)⟩
end
end Go.Proofs.Ytcieahfhpanogaa

namespace Go.Proofs.Ytcieahfhpanogaa
open Go.ChangeShapes Go.WideShapes Go.ChangeAt Go.RowKit
open Go.ChangeMaps (open_string shut_string)

theorem list_of {α : Type} {P : Nat → α → Prop} : ∀ n : Nat, (∀ j, j < n → ∃ a, P j a) → ∃ l : List α, l.length = n ∧ ∀ j (hj : j < l.length), P j l[j]
  | 0, _ => ⟨[], rfl, fun j hj => absurd hj (Nat.not_lt_zero _)⟩
  | n + 1, h => by
    obtain ⟨l, h1, h2⟩ := list_of n fun j hj => h j (by omega)
    obtain ⟨a, ha⟩ := h n (by omega)
    refine ⟨l ++ [a], by simp [h1], fun j hj => ?_⟩
    simp only [List.length_append, List.length_cons, List.length_nil] at hj
    rcases Nat.lt_or_ge j l.length with h3 | h3
    · rw [List.getElem_append_left h3]; exact h2 j h3
    · obtain rfl : j = l.length := by omega
      rw [List.getElem_append_right (Nat.le_refl _)]
      simp only [Nat.sub_self, List.getElem_cons_zero]
      rw [h1]; exact ha
theorem wf_int {n : Int} (h : (Lit.int .i64 n).wf = true) : -9223372036854775808 ≤ n ∧ n ≤ 9223372036854775807 := by
  simp [Lit.wf, IntKind.min, IntKind.max, IntKind.bits, IntKind.signed] at h
  omega
theorem two_at {cs : List Value} (h : cs.length = 2) : ∃ a b, cs = [a, b] := by
  match cs, h with
  | [a, b], _ => exact ⟨a, b, rfl⟩
/-- Writes as they came in. -/
structure WI (W : World) (A : Option Addr) (n : Nat) (l : List (Int × List UInt8)) : Prop where
  ws : WS W (fun k => k < W.heap.size) A n l
  few : n ≤ maxLen
  len : ∀ x ∈ l, x.2.length ≤ maxLen
  at' : ∀ x ∈ l, -9223372036854775808 ≤ x.1 ∧ x.1 ≤ 9223372036854775807
set_option maxRecDepth 100000 in
theorem writes_cs {H : Type} {enc : TypeId × Value → H} {W : World} {fuel : Nat} {v : Value} {d : DataW H × List MemPlace} (h : DataW.trod enc Try.prog W 0 (fun _ => true) true fuel 35 [v] = some d) :
    ∃ A len cap l, v = .slice A len cap ∧ WI W A len l ∧ len ≤ cap := by
  rcases Go.Deep.open_slice (e := 37) Try.underlying35 h with ⟨hcs, _⟩ | ⟨a, len, c, m, n, D, Pl, hcs, _, hl, hm, hmm, _, hi⟩
  · simp only [List.cons.injEq, and_true] at hcs
    exact ⟨none, 0, 0, [], hcs, ⟨WS.nil, Nat.zero_le _, (fun x hx => by cases hx), (fun x hx => by cases hx)⟩, Nat.le_refl _⟩
  · simp only [List.cons.injEq, and_true] at hcs
    subst hcs
    simp only [if_true] at hmm
    subst hmm
    have h2 : Try.prog.cellsOf 37 = 2 := by kernel_rfl
    rw [h2] at hi
    have main : ∀ j, j < len → ∃ y : Int × List UInt8, (∃ x : Sl, W.cell? (a.add (j * 2)) = some (.int .i64 y.1) ∧ W.cell? (a.add (j * 2 + 1)) = some (.slice x.a x.n x.c) ∧ BS W x.a x.n y.2 ∧ x.n ≤ x.c) ∧ y.2.length ≤ maxLen ∧ -9223372036854775808 ≤ y.1 ∧ y.1 ≤ 9223372036854775807 := fun j hj => by
      obtain ⟨cs', hc, ht⟩ := hi j (by omega)
      obtain ⟨_, hlen, hat⟩ := World.cells?_some hc
      obtain ⟨v0, v1, rfl⟩ := two_at hlen
      obtain ⟨xs, n', _, _, _, hxl, hg⟩ := DataW.trod_struct Try.underlying37 ht
      have k0 : DataW.trod enc Try.prog W 0 (fun _ => true) true n' 3 [v0] = xs[0]? := hg 0 _ rfl
      have k1 : DataW.trod enc Try.prog W 0 (fun _ => true) true n' 23 [v1] = xs[1]? := hg 1 _ rfl
      have t0 := hat 0 (by omega)
      have t1 := hat 1 (by omega)
      rw [Go.Deep.add_add] at t0 t1
      have hxs : xs.length = 2 := hxl.trans rfl
      obtain ⟨y0, e0⟩ : ∃ y, xs[0]? = some y := ⟨_, List.getElem?_eq_getElem (by omega)⟩
      obtain ⟨y1, e1⟩ : ∃ y, xs[1]? = some y := ⟨_, List.getElem?_eq_getElem (by omega)⟩
      obtain ⟨x, hx, _, wx⟩ := DataW.trod_int Try.underlying3 (k0.trans e0)
      simp only [List.cons.injEq, and_true] at hx
      subst hx
      have hx := wf_int wx
      have hrow : ∃ (B : Option Addr) (l c : Nat) (L : List UInt8), v1 = .slice B l c ∧ BS W B l L ∧ l ≤ c ∧ c ≤ maxLen := by
        rcases open_ints Try.underlying23 Try.underlying5 (by kernel_rfl) (k1.trans e1) with ⟨hcs, _⟩ | ⟨x, l, c, zs, hcs, _, hl, hm, hz, _, hcell, hwz⟩
        · simp only [List.cons.injEq, and_true] at hcs
          exact ⟨none, 0, 0, [], hcs, ⟨rfl, fun h => absurd h (by omega)⟩, Nat.le_refl _, Nat.zero_le _⟩
        · simp only [List.cons.injEq, and_true] at hcs
          have hr : IsRow .u8 W (some x) l c zs := .inr ⟨_, rfl, hl, hm, by simpa using hz, hcell, hwz⟩
          obtain ⟨L, hL⟩ := hr.bs
          exact ⟨some x, l, c, L, hcs, hL, hl, hm⟩
      obtain ⟨B, l, c, L, rfl, hL, hlc, hcm⟩ := hrow
      exact ⟨(x, L), ⟨⟨B, l, c⟩, t0, t1, hL, hlc⟩, by rw [hL.1]; omega, hx.1, hx.2⟩
    obtain ⟨l, hl1, hl2⟩ := list_of len main
    refine ⟨some a, len, _, l, rfl, ⟨⟨hl1, fun hn => ?_⟩, by omega, fun x hx => ?_, fun x hx => ?_⟩, hl⟩
    · obtain ⟨b, o, sp⟩ := a
      obtain ⟨_, ⟨_, h0, _⟩, _⟩ := main 0 hn
      have hs : sp = none := by simpa [Addr.add] using World.cell?_spot h0
      subst hs
      have hb : b < W.heap.size := World.block_lt_of_cell? W _ h0
      refine ⟨b, o, rfl, hb, fun k hk => ?_⟩
      obtain ⟨⟨x, g0, g1, g2, g3⟩, -⟩ := hl2 k hk
      rw [add_plain] at g0 g1
      exact ⟨x, g0, by rw [Nat.add_assoc]; exact g1, g2, g3, fun h ad e => g2.lt_block h ad e⟩
    · obtain ⟨i, hi', rfl⟩ := List.getElem_of_mem hx
      exact (hl2 i hi').2.1
    · obtain ⟨i, hi', rfl⟩ := List.getElem_of_mem hx
      exact (hl2 i hi').2.2
theorem writes_in {H : Type} {enc : TypeId × Value → H} {W : World} {A : Option Addr} {len cap : Nat} {d : DataW H} {p : List MemPlace} (h : DataW.Trod enc Try.prog W 0 (fun _ => true) true 35 (.slice A len cap) d p) : ∃ l, WI W A len l := by
  obtain ⟨fuel, hf⟩ := h
  have hf' : DataW.trod enc Try.prog W 0 (fun _ => true) true fuel 35 [.slice A len cap] = some (d, p) := hf
  obtain ⟨A', len', cap', l, e, h1, -⟩ := writes_cs hf'
  cases e
  exact ⟨l, h1⟩
end Go.Proofs.Ytcieahfhpanogaa

namespace Go.Proofs.Ytcieahfhpanogaa
open Go.ChangeShapes Go.WideShapes Go.ChangeAt Go.RowKit
open Go.ChangeMaps (open_string shut_string)

/-- Changes as they came in. -/
structure CI (W : World) (A : Option Addr) (n : Nat) (ls : List (List (Int × List UInt8))) : Prop where
  len : ls.length = n
  few : n ≤ maxLen
  row : 0 < n → ∃ b o, A = some ⟨b, o, none⟩ ∧ b < W.heap.size ∧ ∀ k (h : k < ls.length), ∃ x : Sl, W.cell? ⟨b, o + k, none⟩ = some (.slice x.a x.n x.c) ∧ WI W x.a x.n ls[k]
/-- Rows of bytes as they came in. -/
structure PI (W : World) (A : Option Addr) (n : Nat) (ls : List (List UInt8)) : Prop where
  len : ls.length = n
  few : n ≤ maxLen
  row : 0 < n → ∃ b o, A = some ⟨b, o, none⟩ ∧ b < W.heap.size ∧ ∀ k (h : k < ls.length), ∃ x : Sl, W.cell? ⟨b, o + k, none⟩ = some (.slice x.a x.n x.c) ∧ BS W x.a x.n ls[k] ∧ x.n ≤ x.c ∧ x.c ≤ maxLen
theorem one_at {cs : List Value} (h : cs.length = 1) : ∃ a, cs = [a] := by
  match cs, h with
  | [a], _ => exact ⟨a, rfl⟩
set_option maxRecDepth 100000 in
theorem changes_in {H : Type} {enc : TypeId × Value → H} {W : World} {A : Option Addr} {len cap : Nat} {d : DataW H} {p : List MemPlace} (h : DataW.Trod enc Try.prog W 0 (fun _ => true) true 22 (.slice A len cap) d p) : ∃ ls, CI W A len ls := by
  obtain ⟨fuel, hf⟩ := h
  rcases Go.Deep.open_slice (e := 35) Try.underlying22 hf with ⟨hcs, _⟩ | ⟨a, l, c, m, n, D, Pl, hcs, _, hl, hm, hmm, _, hi⟩
  · simp [Value.cells] at hcs
    obtain ⟨rfl, rfl, rfl⟩ := hcs
    exact ⟨[], rfl, Nat.zero_le _, fun h => absurd h (by omega)⟩
  · simp [Value.cells] at hcs
    obtain ⟨rfl, rfl, rfl⟩ := hcs
    simp only [if_true] at hmm
    subst hmm
    have h1 : Try.prog.cellsOf 35 = 1 := by kernel_rfl
    rw [h1] at hi
    have main : ∀ j, j < len → ∃ y : List (Int × List UInt8), ∃ x : Sl, W.cell? (a.add j) = some (.slice x.a x.n x.c) ∧ WI W x.a x.n y := fun j hj => by
      obtain ⟨cs', hc, ht⟩ := hi j (by omega)
      obtain ⟨_, hlen, hat⟩ := World.cells?_some hc
      obtain ⟨v0, rfl⟩ := one_at hlen
      have t0 := hat 0 (by omega)
      rw [Go.Deep.add_add, Nat.mul_one, Nat.add_zero] at t0
      obtain ⟨B, l', c', y, rfl, hy, -⟩ := writes_cs ht
      exact ⟨y, ⟨B, l', c'⟩, t0, hy⟩
    obtain ⟨ls, hl1, hl2⟩ := list_of len main
    refine ⟨ls, hl1, by omega, fun hn => ?_⟩
    obtain ⟨b, o, sp⟩ := a
    obtain ⟨_, _, h0, _⟩ := main 0 hn
    have hs : sp = none := by simpa [Addr.add] using World.cell?_spot h0
    subst hs
    refine ⟨b, o, rfl, World.block_lt_of_cell? W _ h0, fun k hk => ?_⟩
    obtain ⟨x, g0, g1⟩ := hl2 k hk
    rw [add_plain] at g0
    exact ⟨x, g0, g1⟩
set_option maxRecDepth 100000 in
theorem rows_in {H : Type} {enc : TypeId × Value → H} {W : World} {A : Option Addr} {len cap : Nat} {d : DataW H} {p : List MemPlace} (h : DataW.Trod enc Try.prog W 0 (fun _ => true) true 24 (.slice A len cap) d p) : ∃ ls, PI W A len ls := by
  obtain ⟨fuel, hf⟩ := h
  rcases Go.Deep.open_slice (e := 23) Try.underlying24 hf with ⟨hcs, _⟩ | ⟨a, l, c, m, n, D, Pl, hcs, _, hl, hm, hmm, _, hi⟩
  · simp [Value.cells] at hcs
    obtain ⟨rfl, rfl, rfl⟩ := hcs
    exact ⟨[], rfl, Nat.zero_le _, fun h => absurd h (by omega)⟩
  · simp [Value.cells] at hcs
    obtain ⟨rfl, rfl, rfl⟩ := hcs
    simp only [if_true] at hmm
    subst hmm
    have h1 : Try.prog.cellsOf 23 = 1 := by kernel_rfl
    rw [h1] at hi
    have main : ∀ j, j < len → ∃ y : List UInt8, ∃ x : Sl, W.cell? (a.add j) = some (.slice x.a x.n x.c) ∧ BS W x.a x.n y ∧ x.n ≤ x.c ∧ x.c ≤ maxLen := fun j hj => by
      obtain ⟨cs', hc, ht⟩ := hi j (by omega)
      obtain ⟨_, hlen, hat⟩ := World.cells?_some hc
      obtain ⟨v0, rfl⟩ := one_at hlen
      have t0 := hat 0 (by omega)
      rw [Go.Deep.add_add, Nat.mul_one, Nat.add_zero] at t0
      rcases open_ints Try.underlying23 Try.underlying5 (by kernel_rfl) ht with ⟨hcs, _⟩ | ⟨x, l, c, zs, hcs, _, hl, hm, hz, _, hcell, hwz⟩
      · simp only [List.cons.injEq, and_true] at hcs
        subst hcs
        exact ⟨[], ⟨none, 0, 0⟩, t0, BS.nil, Nat.le_refl _, Nat.zero_le _⟩
      · simp only [List.cons.injEq, and_true] at hcs
        subst hcs
        have hr : IsRow .u8 W (some x) l c zs := .inr ⟨_, rfl, hl, hm, by simpa using hz, hcell, hwz⟩
        obtain ⟨L, hL⟩ := hr.bs
        exact ⟨L, ⟨some x, l, c⟩, t0, hL, hl, hm⟩
    obtain ⟨ls, hl1, hl2⟩ := list_of len main
    refine ⟨ls, hl1, by omega, fun hn => ?_⟩
    obtain ⟨b, o, sp⟩ := a
    obtain ⟨_, _, h0, _⟩ := main 0 hn
    have hs : sp = none := by simpa [Addr.add] using World.cell?_spot h0
    subst hs
    refine ⟨b, o, rfl, World.block_lt_of_cell? W _ h0, fun k hk => ?_⟩
    obtain ⟨x, g0, g1⟩ := hl2 k hk
    rw [add_plain] at g0
    exact ⟨x, g0, g1⟩
end Go.Proofs.Ytcieahfhpanogaa

namespace Go.Proofs.Ytcieahfhpanogaa
open Go.RowKit

/-- Six texts. -/
def six (f : Nat → List UInt8) : Array Value := #[.string (txt (f 0)), .string (txt (f 1)), .string (txt (f 2)), .string (txt (f 3)), .string (txt (f 4)), .string (txt (f 5))]
theorem six_get (f : Nat → List UInt8) {j : Nat} (h : j < 6) : (six f)[j]? = some (.string (txt (f j))) := by
  match j, h with
  | 0, _ => rfl
  | 1, _ => rfl
  | 2, _ => rfl
  | 3, _ => rfl
  | 4, _ => rfl
  | 5, _ => rfl
def upd (f : Nat → List UInt8) (k : Nat) (b : List UInt8) : Nat → List UInt8 := fun j => if j = k then b else f j
theorem six_set (f : Nat → List UInt8) {k : Nat} (h : k < 6) (b : List UInt8) : (six f).setIfInBounds k (.string (txt b)) = six (upd f k b) := by
  match k, h with
  | 0, _ => rfl
  | 1, _ => rfl
  | 2, _ => rfl
  | 3, _ => rfl
  | 4, _ => rfl
  | 5, _ => rfl
theorem infos_str : (Try.prog.info? 9).map (fun i => (i.zero, i.size, i.bytes)) = some (some (.string (txt [])), 1, 16) := by kernel_rfl
theorem six_new : (List.replicate 6 (Value.string (txt []))).toArray = six fun _ => [] := rfl
/-- The block g holds six texts. -/
def Six (W : World) (g : Nat) (f : Nat → List UInt8) : Prop := W.heap[g]? = some (.cells (six f) 9 (0, 0))
section
variable {W W' : World} {g : Nat} {f : Nat → List UInt8}
theorem Six.lt (h : Six W g f) : g < W.heap.size := (Array.getElem?_eq_some_iff.1 h).1
theorem Six.fr (h : Six W g f) {T : Nat → Prop} (hf : Fr T W W') (hT : ¬ T g) : Six W' g f := (hf.block g ⟨h.lt, hT⟩).trans h
theorem Six.below (h : Six W g f) (hb : Below W.heap.size W W') : Six W' g f := (hb.block g h.lt).trans h
theorem Six.cell (h : Six W g f) {i : Nat} (hi : i < 6) : W.cell? ⟨g, i, none⟩ = some (.string (txt (f i))) := by rw [cell_of_row _ _ _ _ _ _ h, six_get f hi]
theorem Six.frozen (h : Six W g f) (i : Nat) : W.frozen? ⟨g, i, none⟩ = false := by
  have h' : W.heap[g]? = some (.cells (six f) 9 (0, 0)) := h
  simp [World.frozen?, h']
theorem Six.set (h : Six W g f) {i : Nat} (hi : i < 6) (b : List UInt8) : Six (W.setCell ⟨g, i, none⟩ (.string (txt b))) g (upd f i b) ∧ Fr (fun k => k = g) W (W.setCell ⟨g, i, none⟩ (.string (txt b))) := by
  refine ⟨?_, (Fr.refl (fun k => k = g) W).setCell (p := ⟨g, i, none⟩) (fun h => h.2 rfl) _⟩
  unfold Six
  rw [setCell_eq_setRow _ _ _ _ _ _ _ h, setRow_heap _ _ _ _ _ _ h, six_set f hi]
end

/-- A journal of the law, and six texts beside it. -/
structure TG (w W : World) (p dp g : Nat) (S D : Nat → Prop) (j : J.JS) (d : DS) (s t : Nat) (c : List J.Chg) (f : Nat → List UInt8) : Prop where
  ts : TS w W p dp S D j d s t c
  row : Six W g f
  far : ¬ (S g ∨ D g)
  hg : w.heap.size ≤ g
/-- A journal of the law whose disk may have been crashed behind it, and six texts beside it. -/
structure CD (w W : World) (p dp g : Nat) (S D : Nat → Prop) (j : J.JS) (d : DS) (s t : Nat) (c : List J.Chg) (f : Nat → List UInt8) : Prop where
  jd : JD W p dp S D j d
  inv : J.Inv d 16 6 s t c j.B
  calm : J.Calm d
  n : d.n = 40
  used : j.used = J.size c
  seq : j.seq = s + c.length
  bel : Below w.heap.size w W
  hS : ∀ k, S k ∨ D k → w.heap.size ≤ k
  row : Six W g f
  far : ¬ (S g ∨ D g)
  hg : w.heap.size ≤ g
section
variable {w W W' : World} {p dp q g : Nat} {S D S' D' : Nat → Prop} {j j' : J.JS} {d d' : DS} {s t s' t' : Nat} {c c' : List J.Chg} {f : Nat → List UInt8}
theorem TG.below (h : TG w W p dp g S D j d s t c f) (hb : Below W.heap.size W W') : TG w W' p dp g S D j d s t c f := ⟨h.ts.below hb, h.row.below hb, h.far, h.hg⟩
theorem far_of (hr : Six W g f) (hf : ¬ (S g ∨ D g)) (hS : ∀ k, S' k → S k ∨ W.heap.size ≤ k) (hD : ∀ k, D' k → D k ∨ W.heap.size ≤ k) : ¬ (S' g ∨ D' g) := by
  have := hr.lt
  rintro (h | h)
  · rcases hS g h with h1 | h1
    · exact hf (.inl h1)
    · omega
  · rcases hD g h with h1 | h1
    · exact hf (.inr h1)
    · omega
theorem TG.step (h : TG w W p dp g S D j d s t c f) (hl : LStep W W' p dp S D j' d' s' t' c') (h1 : J.Calm d') (h2 : d'.n = d.n) (h3 : j'.log = j.log) (h4 : j'.nb = j.nb) : ∃ S' D', TG w W' p dp g S' D' j' d' s' t' c' f := by
  obtain ⟨S', D', k1, k2, k3, k4⟩ := hl
  refine ⟨S', D', ⟨k1, h1, h2.trans h.ts.n, h3.trans h.ts.log, h4.trans h.ts.nb, h.ts.bel.trans (k2.below h.ts.bel.size h.ts.hS), fun k hk => ?_⟩, h.row.fr k2 h.far, far_of h.row h.far k3 k4, h.hg⟩
  have := h.ts.bel.size
  rcases hk with hk | hk
  · rcases k3 k hk with h5 | h5
    · exact h.ts.hS k (.inl h5)
    · omega
  · rcases k4 k hk with h5 | h5
    · exact h.ts.hS k (.inr h5)
    · omega
theorem TG.set (h : TG w W p dp g S D j d s t c f) {i : Nat} (hi : i < 6) (b : List UInt8) : TG w (W.setCell ⟨g, i, none⟩ (.string (txt b))) p dp g S D j d s t c (upd f i b) := by
  obtain ⟨h1, h2⟩ := h.row.set hi b
  refine ⟨⟨h.ts.live.keep h2 (fun k hk e => h.far (.inl (e ▸ hk))) (fun k hk e => h.far (.inr (e ▸ hk))), h.ts.calm, h.ts.n, h.ts.log, h.ts.nb, h.ts.bel.setCell h.hg _, h.ts.hS⟩, h1, h.far, h.hg⟩
theorem TG.cd (h : TG w W p dp g S D j d s t c f) : CD w W p dp g S D j d s t c f := by
  have hi := h.ts.live.inv.inv
  rw [h.ts.log, h.ts.nb] at hi
  exact ⟨h.ts.live.jd, hi, h.ts.calm, h.ts.n, h.ts.live.inv.used, h.ts.live.seq, h.ts.bel, h.ts.hS, h.row, h.far, h.hg⟩
/-- A crash. -/
theorem TG.crash (h : TG w W p dp g S D j d s t c f) (hs : d.pend.length ≤ 1000000) :
    Calls Try.prog 15 #[.pointer (some ⟨dp, 0, none⟩), .slice none 0 0] W fun e W' => (∃ v : Int, e = .returned (.int .i64 v)) ∧ ∃ D', CD w W' p dp g S D' j (d.crashed []) s t c f := by
  refine (crash_all dp D d none 0 0 [] W h.ts.live.jd.dk hs BS.nil (fun h0 => absurd h0 (by omega)) (by unfold maxLen; omega)).mono ?_
  rintro e W' ⟨rfl, hst⟩
  obtain ⟨D', k1, k2, -, k4⟩ := h.ts.live.jd.disk hst
  have hi := h.ts.live.inv.inv
  rw [h.ts.log, h.ts.nb] at hi
  refine ⟨⟨_, rfl⟩, D', k1, J.Inv.crash (show 0 < 16 by omega) hi [], J.crashed_calm _ _, h.ts.n, h.ts.live.inv.used, h.ts.live.seq, h.ts.bel.trans (k2.below h.ts.bel.size h.ts.hS), fun k hk => ?_, h.row.fr k2 h.far, far_of h.row h.far (fun _ h => .inl h) k4, h.hg⟩
  rcases hk with hk | hk
  · exact h.ts.hS k (.inl hk)
  · exact (k4 k hk).elim (fun h' => h.ts.hS k (.inr h')) fun h' => Nat.le_trans h.ts.bel.size h'
/-- Open again. -/
theorem CD.open (h : CD w W p dp g S D j d s t c f) (hs : d.pend.length ≤ 800000) (hsq : j.seq + 1 < 18446744073709551616) :
    Calls Try.prog 11 #[.pointer (some ⟨dp, 0, none⟩), .int .i64 16, .int .i64 6] W fun e W' => ∃ q S' D' j' d', e = .returned (.tuple #[.pointer (some ⟨q, 0, none⟩), .int .i64 0]) ∧ TG w W' q dp g S' D' j' d' s t c f ∧ (∀ i, i < 6 → j'.B i = j.B i) ∧ d'.pend.length ≤ d.pend.length + 6 ∧ j'.seq = j.seq ∧ j'.used = j.used := by
  refine (open_live h.jd.dk (by omega) 16 6 (by omega) (by omega) (by omega) (by omega) (by rw [h.n]; omega) h.calm h.inv (by rw [← h.seq]; exact hsq)).mono ?_
  rintro e W' ⟨q, S9, D9, j9, d9, rfl, hl9, hc9, hn9, hlog9, hnb9, hB9, hp9, hf9, hS9, hD9⟩
  have hlt := h.row.lt
  refine ⟨q, S9, D9, j9, d9, rfl, ⟨⟨hl9, hc9, by rw [hn9]; exact h.n, hlog9, hnb9, h.bel.trans (hf9.below h.bel.size fun k hk => h.hS k (.inr hk)), fun k hk => ?_⟩, h.row.fr hf9 (fun h' => h.far (.inr h')), ?_, h.hg⟩, hB9, hp9, ?_, ?_⟩
  · rcases hk with hk | hk
    · exact Nat.le_trans h.bel.size (hS9 k hk)
    · exact (hD9 k hk).elim (fun h' => h.hS k (.inr h')) fun h' => Nat.le_trans h.bel.size h'
  · rintro (h' | h')
    · have := hS9 g h'; omega
    · rcases hD9 g h' with h1 | h1
      · exact h.far (.inr h1)
      · omega
  · rw [h.seq]; exact hl9.seq
  · rw [h.used]; exact hl9.inv.used
/-- Commit, all ways. -/
theorem TG.commit (h : TG w W p dp g S D j d s t c f) (hsq : j.seq + 1 < 18446744073709551616) (hs : d.pend.length ≤ 800000) (A : Option Addr) (n cp : Nat) (l : List (Int × List UInt8)) (hw : WS w (fun k => k < w.heap.size) A n l) (hn : n ≤ 20) :
    Calls Try.prog 14 #[.pointer (some ⟨p, 0, none⟩), .slice A n cp] W fun e W' => ∃ (r : Int) (S' D' : Nat → Prop) (j' : J.JS) (d' : DS) (s' t' : Nat) (c' : List J.Chg), e = .returned (.int .i64 r) ∧ TG w W' p dp g S' D' j' d' s' t' c' f ∧ d'.pend.length ≤ d.pend.length + 42 ∧ (r = 0 ∧ J.okW 6 l = true ∧ j'.seq = j.seq + 1 ∧ j'.B = J.apl (J.asChg l) j.B ∨ r ≠ 0 ∧ j'.seq = j.seq ∧ j'.B = j.B) := by
  have hl : l.length = n := hw.1
  have hw' := below_ws h.ts.bel hw
  cases hok : J.okW 6 l with
  | false =>
    refine (h.ts.live.commitNo hsq hs _ A n cp l hw' h.ts.off (by omega) (by rw [h.ts.nb]; exact hok)).mono ?_
    rintro e W' ⟨rfl, l1⟩
    obtain ⟨S', D', h'⟩ := h.step l1 h.ts.calm rfl rfl rfl
    exact ⟨1, S', D', j, d, s, t, c, rfl, h', by omega, .inr ⟨by decide, rfl, rfl⟩⟩
  | true =>
    have h6 : l.length ≤ 6 := okW_len hok
    refine (h.ts.live.commitOk h.ts.calm hsq hs _ A n cp l hw' h.ts.off (by omega) (by rw [h.ts.nb]; exact hok) (by rw [h.ts.log]; omega)).mono ?_
    rintro e W' ⟨rfl, j', d', s', t', c', l1, q1, q2, q3, q4, q5, q6, q7⟩
    obtain ⟨S', D', h'⟩ := h.step l1 q1 q2 q3 q4
    exact ⟨0, S', D', j', d', s', t', c', rfl, h', by omega, .inl ⟨rfl, rfl, q5, q6⟩⟩
/-- Checkpoint. -/
theorem TG.ckpt (h : TG w W p dp g S D j d s t c f) (hsq : j.seq < 18446744073709551616) (hs : d.pend.length ≤ 800000) :
    Calls Try.prog 17 #[.pointer (some ⟨p, 0, none⟩)] W fun e W' => e = .returned (.int .i64 0) ∧ ∃ (S' D' : Nat → Prop) (j' : J.JS) (d' : DS) (s' t' : Nat) (c' : List J.Chg), TG w W' p dp g S' D' j' d' s' t' c' f ∧ d'.pend.length ≤ d.pend.length + 1 ∧ j'.seq = j.seq ∧ j'.B = j.B := by
  refine (h.ts.live.ckptOk h.ts.calm hsq hs).mono ?_
  rintro e W' ⟨rfl, d', s', t', c', l1, q1, q2, q3⟩
  obtain ⟨S', D', h'⟩ := h.step l1 q1 q2 rfl rfl
  exact ⟨rfl, S', D', _, d', s', t', c', h', q3, rfl, rfl⟩
end
/-- What the law knows behind i rounds. -/
structure AgI (w W : World) (p dp g i cnt : Nat) (S D : Nat → Prop) (j : J.JS) (d : DS) (s t : Nat) (c : List J.Chg) (f : Nat → List UInt8) : Prop where
  tg : TG w W p dp g S D j d s t c f
  seq : j.seq = cnt
  cnt : cnt ≤ i
  pend : d.pend.length ≤ 6 + 50 * i
  B : ∀ k, k < 6 → j.B k = f k
theorem AgI.below {w W W' : World} {p dp g i cnt : Nat} {S D : Nat → Prop} {j : J.JS} {d : DS} {s t : Nat} {c : List J.Chg} {f : Nat → List UInt8} (h : AgI w W p dp g i cnt S D j d s t c f) (hb : Below W.heap.size W W') : AgI w W' p dp g i cnt S D j d s t c f := ⟨h.tg.below hb, h.seq, h.cnt, h.pend, h.B⟩
/-- A change of the law's argument, in whichever world it is looked at. -/
theorem ci_held {w : World} {A : Option Addr} {n : Nat} {ls : List (List (Int × List UInt8))} (h : CI w A n ls) (k : Nat) (hk : k < n) (hkl : k < ls.length) :
    ∃ b o x, A = some ⟨b, o, none⟩ ∧ WI w (Sl.a x) x.n ls[k] ∧ ∀ W, Below w.heap.size w W → W.cell? ⟨b, o + k, none⟩ = some (.slice x.a x.n x.c) := by
  obtain ⟨b, o, e, hX, hc⟩ := h.row (by omega)
  obtain ⟨x, g1, g2⟩ := hc k hkl
  exact ⟨b, o, x, e, g2, fun W hb => (hb.cell (p := ⟨b, o + k, none⟩) hX).trans g1⟩
end Go.Proofs.Ytcieahfhpanogaa

namespace Go.Proofs.Ytcieahfhpanogaa
open Go.RowKit

/-- Six texts in a block beside the journal. -/
structure SX (w W : World) (S D : Nat → Prop) (g : Nat) (f : Nat → List UInt8) : Prop where
  row : Six W g f
  far : ¬ (S g ∨ D g)
  hg : w.heap.size ≤ g
/-- What lay beside lies beside. -/
def Mv (w W W' : World) (S D S' D' : Nat → Prop) : Prop := ∀ g f, SX w W S D g f → SX w W' S' D' g f
/-- A journal of the law: its disk may stop. -/
structure SG (w W : World) (p dp kk cnt : Nat) (S D : Nat → Prop) (j : J.JS) (d : DS) (s t : Nat) (c : List J.Chg) : Prop where
  jd : JD W p dp S D j d
  inv : J.JInv d j s t c
  err : j.err = 0 ∨ j.err = 20
  n : d.n = 40
  log : j.log = kk
  nb : j.nb = 6
  seq : j.seq ≤ cnt
  pend : d.pend.length ≤ 6 + 50 * cnt
  bel : Below w.heap.size w W
  hS : ∀ k, S k ∨ D k → w.heap.size ≤ k
/-- Which blocks may be there behind a change that was told r. -/
def Fin' (r : Int) (l : List (Int × List UInt8)) (B0 B : Nat → List UInt8) : Prop :=
  r = 0 ∧ J.okW 6 l = true ∧ B = J.apl (J.asChg l) B0 ∨ r = 20 ∧ (B = B0 ∨ J.okW 6 l = true ∧ B = J.apl (J.asChg l) B0) ∨ (r = 1 ∨ r = 21) ∧ B = B0
/-- Behind a change. -/
structure SC (w W : World) (p dp kk cnt : Nat) (S D : Nat → Prop) (j : J.JS) (d : DS) (B0 : Nat → List UInt8) (l : List (Int × List UInt8)) (r : Int) : Prop where
  jd : JD W p dp S D j d
  n : d.n = 40
  pend : d.pend.length ≤ 48 + 50 * cnt
  bel : Below w.heap.size w W
  hS : ∀ k, S k ∨ D k → w.heap.size ≤ k
  told : r = 0 ∨ r = 20 ∨ r = 1 ∨ r = 21
  die : ∀ L, ∃ s t c B, J.Good (d.crashed L).F kk 6 s t c B ∧ s + c.length ≤ cnt + 1 ∧ Fin' r l B0 B
  on : r ≠ 20 → ∃ s t c, J.JInv d j s t c ∧ (j.err = 0 ∨ j.err = 20) ∧ j.log = kk ∧ j.nb = 6 ∧ j.seq ≤ cnt + 1 ∧ Fin' r l B0 j.B
/-- A disk behind a crash. -/
structure CK (w W : World) (dp kk cnt : Nat) (D : Nat → Prop) (d : DS) (B0 : Nat → List UInt8) (l : List (Int × List UInt8)) (r : Int) : Prop where
  dk : Dk W dp D d
  n : d.n = 40
  pend : d.pend.length = 0
  calm : J.Calm d
  bel : Below w.heap.size w W
  hD : ∀ k, D k → w.heap.size ≤ k
  ex : ∃ s t c B, J.Inv d kk 6 s t c B ∧ s + c.length ≤ cnt + 1 ∧ Fin' r l B0 B
section
variable {w W W' : World} {p dp q g kk cnt : Nat} {S D S' D' : Nat → Prop} {j j' : J.JS} {d d' : DS} {s t s' t' : Nat} {c c' : List J.Chg} {f : Nat → List UInt8} {B0 : Nat → List UInt8} {l : List (Int × List UInt8)} {r : Int}
theorem SX.below (h : SX w W S D g f) (hb : Below W.heap.size W W') : SX w W' S D g f := ⟨h.row.below hb, h.far, h.hg⟩
theorem SG.below (h : SG w W p dp kk cnt S D j d s t c) (hb : Below W.heap.size W W') : SG w W' p dp kk cnt S D j d s t c := ⟨h.jd.below hb, h.inv, h.err, h.n, h.log, h.nb, h.seq, h.pend, h.bel.trans (hb.mono h.bel.size), h.hS⟩
theorem mv_of (hf : Fr (fun k => S k ∨ D k) W W') (hS : ∀ k, S' k → S k ∨ W.heap.size ≤ k) (hD : ∀ k, D' k → D k ∨ W.heap.size ≤ k) : Mv w W W' S D S' D' := fun _ _ h => ⟨h.row.fr hf h.far, far_of h.row h.far hS hD, h.hg⟩
theorem hS_of (hz : w.heap.size ≤ W.heap.size) (h : ∀ k, S k ∨ D k → w.heap.size ≤ k) (hS : ∀ k, S' k → S k ∨ W.heap.size ≤ k) (hD : ∀ k, D' k → D k ∨ W.heap.size ≤ k) : ∀ k, S' k ∨ D' k → w.heap.size ≤ k := fun k hk => by
  rcases hk with hk | hk
  · exact (hS k hk).elim (fun h' => h k (.inl h')) fun h' => Nat.le_trans hz h'
  · exact (hD k hk).elim (fun h' => h k (.inr h')) fun h' => Nat.le_trans hz h'
theorem SG.off (h : SG w W p dp kk cnt S D j d s t c) : ∀ k, k < w.heap.size → k < W.heap.size ∧ ¬ (S k ∨ D k) := fun k hk => ⟨Nat.lt_of_lt_of_le hk h.bel.size, fun h' => by have := h.hS k h'; omega⟩
theorem SX.fresh (h : SG w W p dp kk cnt S D j d s t c) (hr : Six W' W.heap.size f) : SX w W' S D W.heap.size f := ⟨hr, fun h' => Nat.lt_irrefl _ (h.jd.lt _ h'), h.bel.size⟩
theorem SG.put (h : SG w W p dp kk cnt S D j d s t c) (hx : SX w W S D g f) {i : Nat} (hi : i < 6) (b : List UInt8) : SG w (W.setCell ⟨g, i, none⟩ (.string (txt b))) p dp kk cnt S D j d s t c := by
  obtain ⟨-, h2⟩ := hx.row.set hi b
  exact ⟨h.jd.keep h2 (fun k hk e => hx.far (.inl (e ▸ hk))) (fun k hk e => hx.far (.inr (e ▸ hk))), h.inv, h.err, h.n, h.log, h.nb, h.seq, h.pend, h.bel.setCell hx.hg _, h.hS⟩
theorem SX.put (hx : SX w W S D g f) {i : Nat} (hi : i < 6) (b : List UInt8) : SX w (W.setCell ⟨g, i, none⟩ (.string (txt b))) S D g (upd f i b) := ⟨(hx.row.set hi b).1, hx.far, hx.hg⟩
theorem SX.other {g' : Nat} {f' : Nat → List UInt8} (h : SX w W S D g' f') (hx : SX w W S D g f) {i : Nat} (hi : i < 6) (b : List UInt8) (hne : g' ≠ g) : SX w (W.setCell ⟨g, i, none⟩ (.string (txt b))) S D g' f' := ⟨h.row.fr (hx.row.set hi b).2 hne, h.far, h.hg⟩
/-- Stop. -/
theorem SG.stop (h : SG w W p dp kk cnt S D j d s t c) (k : Int) (hlo : -9223372036854775808 ≤ k) (hhi : k ≤ 9223372036854775807) :
    Calls Try.prog 13 #[.pointer (some ⟨dp, 0, none⟩), .int .i64 k] W fun e W' => (∃ v, e = .returned v) ∧ ∃ D', SG w W' p dp kk cnt S D' j { d with left := k } s t c ∧ Mv w W W' S D S D' := by
  refine (stop_all dp D d k W h.jd.dk hlo hhi).mono ?_
  rintro e W' ⟨he, hst⟩
  obtain ⟨D', k1, k2, -, k4⟩ := h.jd.disk hst
  exact ⟨he, D', ⟨k1, h.inv.left k, h.err, h.n, h.log, h.nb, h.seq, h.pend, h.bel.trans (k2.below h.bel.size h.hS), hS_of h.bel.size h.hS (fun _ h => .inl h) k4⟩, mv_of k2 (fun _ h => .inl h) k4⟩
/-- Commit, all ways. -/
theorem SG.commit (h : SG w W p dp kk cnt S D j d s t c) (hk8 : 8 ≤ kk) (hk : kk ≤ 19) (hcnt : cnt ≤ 100) (A : Option Addr) (n cp : Nat) (hw : WS w (fun k => k < w.heap.size) A n l) (hn : n ≤ 20) :
    Calls Try.prog 14 #[.pointer (some ⟨p, 0, none⟩), .slice A n cp] W fun e W' => ∃ (r : Int) (S' D' : Nat → Prop) (j' : J.JS) (d' : DS), e = .returned (.int .i64 r) ∧ SC w W' p dp kk cnt S' D' j' d' j.B l r ∧ Mv w W W' S D S' D' := by
  have hl : l.length = n := hw.1
  have hw' := below_ws h.bel hw
  have hlog : 0 < j.log := by rw [h.log]; omega
  have hpl : j.place < j.log := by rw [h.inv.place]; exact Nat.mod_lt _ hlog
  have hus : j.used ≤ j.log := by rw [h.inv.used]; exact h.inv.inv.good.fits
  have hsq : j.seq + 1 < 18446744073709551616 := by have := h.seq; omega
  have hps := h.pend
  refine (commit_any h.jd h.inv.log4 h.inv.log200 h.inv.nb400 hpl hus hsq h.inv.lens (by omega) _ A n cp l hw' h.off (by omega)).mono ?_
  rintro e W' ⟨rfl, S', D', k1, k2, k3, k4⟩
  have hN := J.commitJ_n d j l
  have hP := commitJ_pend l d j
  obtain ⟨hE, hE'⟩ := J.commitJ_err (l := l) h.err hlog (by rw [h.log, h.nb, h.n]; omega) h.inv.lens
  have hseq := h.inv.seq
  have hsc := h.seq
  have hgood : ∀ L, J.Good (d.crashed L).F kk 6 s t c j.B := fun L => by
    have := h.inv.inv.crashed hlog L
    rwa [h.log, h.nb] at this
  refine ⟨_, S', D', _, _, rfl, ⟨k1, hN.trans h.n, by omega, h.bel.trans (k2.below h.bel.size h.hS), hS_of h.bel.size h.hS k3 k4, ?_, ?_, ?_⟩, mv_of k2 k3 k4⟩
  · rcases hE with h1 | h1 | ⟨h1, -⟩
    · exact .inl h1
    · exact .inr (.inl h1)
    · exact .inr (.inr h1)
  · intro L
    rcases h.err with he | he
    · by_cases hok : J.okW j.nb l = true
      · by_cases hf : l.length + 1 ≤ j.log
        · obtain ⟨g1, g2⟩ := J.commitJ_inv h.inv he hsq hok hf
          rw [h.nb] at hok
          by_cases hr : (J.commitJ d j l).2.2 = 0
          · obtain ⟨s1, t1, c1, e1, u1, hi1, hj1⟩ := g1 hr
            have hl1 : (J.commitJ d j l).2.1.log = kk := by rw [hj1]; exact h.log
            have hn1 : (J.commitJ d j l).2.1.nb = 6 := by rw [hj1]; exact h.nb
            have hq1 : (J.commitJ d j l).2.1.seq = j.seq + 1 := by rw [hj1]; rfl
            have hb1 : (J.commitJ d j l).2.1.B = J.apl (J.asChg l) j.B := by rw [hj1]; rfl
            have hgd := hi1.inv.crashed (by rw [hl1]; omega) L
            rw [hl1, hn1] at hgd
            exact ⟨s1, t1, c1, _, hgd, by rw [← hi1.seq, hq1]; omega, .inl ⟨hr, hok, hb1⟩⟩
          · have h20 : (J.commitJ d j l).2.2 = 20 := by
              rcases hE with h1 | h1 | ⟨h1, -, h2⟩
              · exact absurd h1 hr
              · exact h1
              · have h3 := (g2 hr).1
                rw [h2, he] at h3
                exact absurd h3.symm hr
            have hei := (g2 hr).2 L
            rw [h.log, h.nb] at hei
            rcases hei with ⟨s1, t1, c1, h1, h2⟩ | ⟨s1, t1, c1, h1, h2⟩
            · exact ⟨s1, t1, c1, _, h1, by omega, .inr (.inl ⟨h20, .inl rfl⟩)⟩
            · exact ⟨s1, t1, c1, _, h1, by omega, .inr (.inl ⟨h20, .inr ⟨hok, rfl⟩⟩)⟩
        · have e : J.commitJ d j l = (d, j, 21) := by unfold J.commitJ; rw [if_pos he, if_pos hok, if_neg hf]
          rw [e]
          exact ⟨s, t, c, _, hgood L, by omega, .inr (.inr ⟨.inr rfl, rfl⟩)⟩
      · have e : J.commitJ d j l = (d, j, 1) := by unfold J.commitJ; rw [if_pos he, if_neg hok]
        rw [e]
        exact ⟨s, t, c, _, hgood L, by omega, .inr (.inr ⟨.inl rfl, rfl⟩)⟩
    · have e : J.commitJ d j l = (d, j, 20) := by unfold J.commitJ; rw [if_neg (by rw [he]; decide), he]
      rw [e]
      exact ⟨s, t, c, _, hgood L, by omega, .inr (.inl ⟨rfl, .inl rfl⟩)⟩
  · intro hr20
    rcases hE with h1 | h1 | ⟨h1, h2, h3⟩
    · have he : j.err = 0 := by
        rcases h.err with he | he
        · exact he
        · have e : J.commitJ d j l = (d, j, 20) := by unfold J.commitJ; rw [if_neg (by rw [he]; decide), he]
          rw [e] at h1
          change (_ : Int) = 0 at h1
          exact absurd h1 (by show ¬ ((20 : Int) = 0); decide)
      have hok : J.okW j.nb l = true := by
        by_cases hok : J.okW j.nb l = true
        · exact hok
        · have e : J.commitJ d j l = (d, j, 1) := by unfold J.commitJ; rw [if_pos he, if_neg hok]
          rw [e] at h1
          change (_ : Int) = 0 at h1
          exact absurd h1 (by show ¬ ((1 : Int) = 0); decide)
      have hf : l.length + 1 ≤ j.log := by
        by_cases hf : l.length + 1 ≤ j.log
        · exact hf
        · have e : J.commitJ d j l = (d, j, 21) := by unfold J.commitJ; rw [if_pos he, if_pos hok, if_neg hf]
          rw [e] at h1
          change (_ : Int) = 0 at h1
          exact absurd h1 (by show ¬ ((21 : Int) = 0); decide)
      obtain ⟨s1, t1, c1, e1, u1, hi1, hj1⟩ := (J.commitJ_inv h.inv he hsq hok hf).1 h1
      rw [h.nb] at hok
      exact ⟨s1, t1, c1, hi1, hE', by rw [hj1]; exact h.log, by rw [hj1]; exact h.nb, by rw [hj1]; show j.seq + 1 ≤ _; omega, .inl ⟨h1, hok, by rw [hj1]; rfl⟩⟩
    · exact absurd h1 hr20
    · rw [h2, h3]
      exact ⟨s, t, c, h.inv, h.err, h.log, h.nb, by omega, .inr (.inr ⟨h1, rfl⟩)⟩
/-- Without a crash. -/
theorem SC.keep (h : SC w W p dp kk cnt S D j d B0 l r) (hr : r ≠ 20) : ∃ s t c, SG w W p dp kk (cnt + 1) S D j d s t c ∧ Fin' r l B0 j.B := by
  obtain ⟨s, t, c, h1, h2, h3, h4, h5, h6⟩ := h.on hr
  exact ⟨s, t, c, ⟨h.jd, h1, h2, h.n, h3, h4, h5, by have := h.pend; omega, h.bel, h.hS⟩, h6⟩
/-- A crash. -/
theorem SC.crash (h : SC w W p dp kk cnt S D j d B0 l r) (hcnt : cnt ≤ 100) {A : Option Addr} {m cp : Nat} {L : List UInt8} (hL : BS w A m L) (hm : m ≤ maxLen) :
    Calls Try.prog 15 #[.pointer (some ⟨dp, 0, none⟩), .slice A m cp] W fun e W' => (∃ v : Int, e = .returned (.int .i64 v)) ∧ ∃ D' d', CK w W' dp kk cnt D' d' B0 l r ∧ Mv w W W' S D (fun _ => False) D' := by
  have hp := h.pend
  refine (crash_all dp D d A m cp L W h.jd.dk (by omega) (hL.below h.bel) (fun h0 ad e hD => ?_) hm).mono ?_
  · have h1 := h.hS _ (.inr hD)
    have h2 := hL.lt_block h0 ad e
    omega
  rintro e W' ⟨rfl, hst⟩
  obtain ⟨D', k1, k2, -, k4⟩ := h.jd.disk hst
  obtain ⟨s, t, c, B, g1, g2, g3⟩ := h.die L
  exact ⟨⟨_, rfl⟩, D', _, ⟨k1.dk, h.n, rfl, J.crashed_calm _ _, h.bel.trans (k2.below h.bel.size h.hS), fun k hk => (k4 k hk).elim (fun h' => h.hS k (.inr h')) fun h' => Nat.le_trans h.bel.size h', s, t, c, B, ⟨g1, fun x hx => by cases hx⟩, g2, g3⟩, mv_of k2 (fun _ h => absurd h id) k4⟩
/-- Open behind it. -/
theorem CK.open (h : CK w W dp kk cnt D d B0 l r) (hk8 : 8 ≤ kk) (hk : kk ≤ 19) (hcnt : cnt ≤ 100) :
    Calls Try.prog 11 #[.pointer (some ⟨dp, 0, none⟩), .int .i64 (kk : Int), .int .i64 6] W fun e W' => ∃ q S' D' j' d' s t c B, e = .returned (.tuple #[.pointer (some ⟨q, 0, none⟩), .int .i64 0]) ∧ SG w W' q dp kk (cnt + 1) S' D' j' d' s t c ∧ Fin' r l B0 B ∧ (∀ i, i < 6 → j'.B i = B i) ∧ Mv w W W' (fun _ => False) D S' D' := by
  obtain ⟨s, t, c, B, g1, g2, g3⟩ := h.ex
  have hp := h.pend
  refine (open_live h.dk (by omega) kk 6 (by omega) (by omega) (by omega) (by omega) (by rw [h.n]; omega) h.calm g1 (by omega)).mono ?_
  rintro e W' ⟨q, S9, D9, j9, d9, rfl, hl9, hc9, hn9, hlog9, hnb9, hB9, hp9, hf9, hS9, hD9⟩
  refine ⟨q, S9, D9, j9, d9, s, t, c, B, rfl, ⟨hl9.jd, hl9.inv, .inl hl9.err, hn9.trans h.n, hlog9, hnb9, by rw [hl9.seq]; exact g2, by omega, h.bel.trans (hf9.below h.bel.size h.hD), fun k hk' => ?_⟩, g3, hB9, fun g f hx => ?_⟩
  · rcases hk' with hk' | hk'
    · exact Nat.le_trans h.bel.size (hS9 k hk')
    · exact (hD9 k hk').elim (h.hD k) fun h' => Nat.le_trans h.bel.size h'
  · have hlt := hx.row.lt
    refine ⟨hx.row.fr hf9 (fun h' => hx.far (.inr h')), ?_, hx.hg⟩
    rintro (h' | h')
    · have := hS9 g h'; omega
    · rcases hD9 g h' with h1 | h1
      · exact hx.far (.inr h1)
      · omega
end
/-- A row of bytes of the law's argument, in whichever world it is looked at. -/
theorem pi_held {w : World} {A : Option Addr} {n : Nat} {ls : List (List UInt8)} (h : PI w A n ls) (k : Nat) (hk : k < n) (hkl : k < ls.length) :
    ∃ b o x, A = some ⟨b, o, none⟩ ∧ BS w (Sl.a x) x.n ls[k] ∧ x.n ≤ maxLen ∧ ∀ W, Below w.heap.size w W → W.cell? ⟨b, o + k, none⟩ = some (.slice x.a x.n x.c) := by
  obtain ⟨b, o, e, hX, hc⟩ := h.row (by omega)
  obtain ⟨x, g1, g2, g3, g4⟩ := hc k hkl
  exact ⟨b, o, x, e, g2, Nat.le_trans g3 g4, fun W hb => (hb.cell (p := ⟨b, o + k, none⟩) hX).trans g1⟩
/-- A write of the law's argument, its place any number. -/
theorem ws_held' {w : World} {A : Option Addr} {n : Nat} {l : List (Int × List UInt8)} (hw : WS w (fun k => k < w.heap.size) A n l) (k : Nat) (hk : k < n) (hkl : k < l.length) :
    ∃ b o x, A = some ⟨b, o, none⟩ ∧ ∀ W, Below w.heap.size w W → W.cell? ⟨b, o + k * 2, none⟩ = some (.int .i64 l[k].1) ∧ W.cell? ⟨b, o + k * 2 + 1, none⟩ = some (.slice (Sl.a x) x.n x.c) ∧ (convert 23 9 (.slice x.a x.n x.c)).run Try.prog W = .ok (.string (txt l[k].2)) W := by
  obtain ⟨b, o, x, hkl', e, hX, g1, g2, g3, -, g5⟩ := hw.at k hk
  refine ⟨b, o, x, e, fun W hb => ?_⟩
  have hc : ∀ i, W.cell? ⟨b, i, none⟩ = w.cell? ⟨b, i, none⟩ := fun i => hb.cell (p := ⟨b, i, none⟩) hX
  exact ⟨by rw [hc, g1], by rw [hc, g2], run_convert_bs W _ _ _ _ (g3.below hb)⟩
theorem txt_inj {a b : List UInt8} (h : txt a = txt b) : a = b := by
  have := congrArg ByteArray.toList h
  rwa [show (txt a).toList = a from ByteArray.toList_mk _, show (txt b).toList = b from ByteArray.toList_mk _] at this
/-- The law's two rows of texts tell what may be there behind a change. -/
def Tells (r : Int) (l : List (Int × List UInt8)) (B0 f1 f2 : Nat → List UInt8) : Prop :=
  ∀ B, Fin' r l B0 B → ((∀ i, i < 6 → B i = f1 i) ∨ ∀ i, i < 6 → B i = f2 i) ∧ (r = 0 → ∀ i, i < 6 → B i = f2 i)
theorem tells_of {r : Int} {l : List (Int × List UInt8)} {B0 f1 F f4 f5 : Nat → List UInt8} (hB : ∀ i, i < 6 → B0 i = f1 i) (hF : J.okW 6 l = true → ∀ i, i < 6 → F i = J.apl (J.asChg l) f1 i) (h5 : (r = 1 ∨ r = 21) ∧ f5 = f1 ∨ (r = 0 ∨ r = 20) ∧ f5 = F) (h4 : r = 0 ∧ f4 = f5 ∨ r ≠ 0 ∧ f4 = f1) : Tells r l B0 f4 f5 := by
  have new : J.okW 6 l = true → ∀ i, i < 6 → J.apl (J.asChg l) B0 i = F i := fun hok i hi => by rw [hF hok i hi]; exact J.apl_same _ _ (hB i hi)
  rintro B (⟨h0, hok, rfl⟩ | ⟨h20, hb⟩ | ⟨h1, rfl⟩)
  · have e5 : f5 = F := by
      rcases h5 with ⟨h5, -⟩ | ⟨-, h5⟩
      · omega
      · exact h5
    rw [e5]
    exact ⟨.inr (new hok), fun _ => new hok⟩
  · have e5 : f5 = F := by
      rcases h5 with ⟨h5, -⟩ | ⟨-, h5⟩
      · omega
      · exact h5
    have e4 : f4 = f1 := by
      rcases h4 with ⟨h4, -⟩ | ⟨-, h4⟩
      · omega
      · exact h4
    refine ⟨?_, fun h => absurd h (by omega)⟩
    rcases hb with rfl | ⟨hok, rfl⟩
    · rw [e4]; exact .inl hB
    · rw [e5]; exact .inr (new hok)
  · have e4 : f4 = f1 := by
      rcases h4 with ⟨h4, -⟩ | ⟨-, h4⟩
      · omega
      · exact h4
    rw [e4]
    exact ⟨.inl hB, fun h => absurd h (by omega)⟩
theorem all_step {o : Bool} {m : Nat} {B f : Nat → List UInt8} (h : o = true ↔ ∀ i, i < m → B i = f i) : (o && decide (B m = f m)) = true ↔ ∀ i, i < m + 1 → B i = f i := by
  rw [Bool.and_eq_true, decide_eq_true_iff, h]
  refine ⟨fun ⟨h1, h2⟩ i hi => ?_, fun h1 => ⟨fun i hi => h1 i (by omega), h1 m (by omega)⟩⟩
  by_cases e : i = m
  · rw [e]; exact h2
  · exact h1 i (by omega)
end Go.Proofs.Ytcieahfhpanogaa

namespace Go.Proofs.Ytcieahfhpanogaa
open Go.RowKit

theorem txt_list (l : List UInt8) : (txt l).toList = l := by
  rw [ByteArray.toList_eq]
  rfl
theorem txt_same (a b : List UInt8) : ((txt a).toList == (txt b).toList) = decide (a = b) := by
  rw [txt_list, txt_list]
  by_cases h : a = b
  · rw [h, decide_eq_true rfl]
    exact beq_self_eq_true _
  · rw [decide_eq_false h]
    exact beq_false_of_ne h
/-- The loops of a piece of code that lie in no other one of its loops. -/
def loopsOf : Code → List Code
  | .loop c => [c]
  | .seq a b => loopsOf a ++ loopsOf b
  | .block _ c => loopsOf c
  | .scope c => loopsOf c
  | .cond _ a b => loopsOf a ++ loopsOf b
  | _ => []
noncomputable def bodyA : Code := (loopsOf (Try.f3.body.getD .skip)).headD .skip
noncomputable def bodyD : Code := (loopsOf bodyA).getD 2 .skip

set_option maxRecDepth 1000000 in
set_option maxHeartbeats 8000000 in
theorem sure_loop4 (w W : World) (q dp kk cnt : Nat) (S D : Nat → Prop) (j : J.JS) (d : DS) (s t : Nat) (c : List J.Chg) (g4 g5 : Nat) (f4 f5 : Nat → List UInt8) (c0 c1 c2 c3 c4 c5 c6 c7 c8 c9 c10 c11 c12 c14 c16 c17 c19 c20 c21 c22 c27 c28 c29 c30 c31 c32 c33 c34 c35 c36 c37 c38 c39 c40 c41 c42 c43 c44 c45 c46 c47 c48 c49 c50 c51 c52 c53 c54 c55 c56 c57 c58 c59 c60 c61 c62 c63 c64 c65 c66 c67 c68 c69 c70 c71 c72 c73 c74 c75 c76 c77 c78 c79 c80 c81 c82 c83 c84 c85 c86 c87 c88 c89 c90 c91 c92 c93 c94 c95 c96 c97 c98 c99 c100 c101 c102 c103 c104 c105 c106 c107 c108 c109 c110 c111 c112 c113 c114 c115 c116 c117 c118 c119 c120 c121 c122 c123 c124 c125 c126 c127 c128 c129 c130 c131 c132 c133 c134 c135 c136 c137 c138 c139 c140 c141 c142 c143 c144 c145 c146 c147 c148 c149 c150 c151 c152 c153 c154 c155 c156 c157 c158 c159 c160 c161 c162 c163 c164 c165 c166 c167 c168 c169 c170 c171 c172 c173 c174 c175 c176 c177 c178 c179 c180 c181 c208 c209 c210 c211 c212 c213 c214 c215 c216 c217 c218 c219 c220 c221 c222 c223 c224 c225 : Value) (u26 u182 u183 u184 u185 u186 u187 u188 u189 u190 u191 u192 u193 u194 u195 u196 u197 u198 u199 u200 u201 u202 u203 u204 u205 u206 u207 : Value) (Q0 : Exit → Act → World → Prop)
    (hg : SG w W q dp kk cnt S D j d s t c) (hx : SX w W S D g4 f4 ∧ SX w W S D g5 f5)
    (hexit : ∀ (o y : Bool) (v26 v182 v183 v184 v185 v186 v187 v188 v189 v190 v191 v192 v193 v194 v195 v196 v197 v198 v199 v200 v201 v202 v203 v204 v205 v206 v207 : Value) (W' : World), (o = true ↔ ∀ i, i < 6 → j.B i = f4 i) → (y = true ↔ ∀ i, i < 6 → j.B i = f5 i) → SG w W' q dp kk cnt S D j d s t c → SX w W' S D g4 f4 → SX w W' S D g5 f5 →
      Q0 (.exit 6) ⟨List.toArray (c0 :: c1 :: c2 :: c3 :: c4 :: c5 :: c6 :: c7 :: c8 :: c9 :: c10 :: c11 :: c12 :: .pointer (some ⟨q, 0, none⟩) :: c14 :: .slice (some ⟨g4, 0, none⟩) 6 6 :: c16 :: c17 :: .slice (some ⟨g5, 0, none⟩) 6 6 :: c19 :: c20 :: c21 :: c22 :: .bool o :: .bool y :: .int .i64 6 :: v26 :: c27 :: c28 :: c29 :: c30 :: c31 :: c32 :: c33 :: c34 :: c35 :: c36 :: c37 :: c38 :: c39 :: c40 :: c41 :: c42 :: c43 :: c44 :: c45 :: c46 :: c47 :: c48 :: c49 :: c50 :: c51 :: c52 :: c53 :: c54 :: c55 :: c56 :: c57 :: c58 :: c59 :: c60 :: c61 :: c62 :: c63 :: c64 :: c65 :: c66 :: c67 :: c68 :: c69 :: c70 :: c71 :: c72 :: c73 :: c74 :: c75 :: c76 :: c77 :: c78 :: c79 :: c80 :: c81 :: c82 :: c83 :: c84 :: c85 :: c86 :: c87 :: c88 :: c89 :: c90 :: c91 :: c92 :: c93 :: c94 :: c95 :: c96 :: c97 :: c98 :: c99 :: c100 :: c101 :: c102 :: c103 :: c104 :: c105 :: c106 :: c107 :: c108 :: c109 :: c110 :: c111 :: c112 :: c113 :: c114 :: c115 :: c116 :: c117 :: c118 :: c119 :: c120 :: c121 :: c122 :: c123 :: c124 :: c125 :: c126 :: c127 :: c128 :: c129 :: c130 :: c131 :: c132 :: c133 :: c134 :: c135 :: c136 :: c137 :: c138 :: c139 :: c140 :: c141 :: c142 :: c143 :: c144 :: c145 :: c146 :: c147 :: c148 :: c149 :: c150 :: c151 :: c152 :: c153 :: c154 :: c155 :: c156 :: c157 :: c158 :: c159 :: c160 :: c161 :: c162 :: c163 :: c164 :: c165 :: c166 :: c167 :: c168 :: c169 :: c170 :: c171 :: c172 :: c173 :: c174 :: c175 :: c176 :: c177 :: c178 :: c179 :: c180 :: c181 :: v182 :: v183 :: v184 :: v185 :: v186 :: v187 :: v188 :: v189 :: v190 :: v191 :: v192 :: v193 :: v194 :: v195 :: v196 :: v197 :: v198 :: v199 :: v200 :: v201 :: v202 :: v203 :: v204 :: v205 :: v206 :: v207 :: c208 :: c209 :: c210 :: c211 :: c212 :: c213 :: c214 :: c215 :: c216 :: c217 :: c218 :: c219 :: c220 :: c221 :: c222 :: c223 :: c224 :: c225 :: []), []⟩ W') :
    Code.wp Try.prog (Code.loop bodyD) Q0 ⟨List.toArray (c0 :: c1 :: c2 :: c3 :: c4 :: c5 :: c6 :: c7 :: c8 :: c9 :: c10 :: c11 :: c12 :: .pointer (some ⟨q, 0, none⟩) :: c14 :: .slice (some ⟨g4, 0, none⟩) 6 6 :: c16 :: c17 :: .slice (some ⟨g5, 0, none⟩) 6 6 :: c19 :: c20 :: c21 :: c22 :: .bool true :: .bool true :: .int .i64 0 :: u26 :: c27 :: c28 :: c29 :: c30 :: c31 :: c32 :: c33 :: c34 :: c35 :: c36 :: c37 :: c38 :: c39 :: c40 :: c41 :: c42 :: c43 :: c44 :: c45 :: c46 :: c47 :: c48 :: c49 :: c50 :: c51 :: c52 :: c53 :: c54 :: c55 :: c56 :: c57 :: c58 :: c59 :: c60 :: c61 :: c62 :: c63 :: c64 :: c65 :: c66 :: c67 :: c68 :: c69 :: c70 :: c71 :: c72 :: c73 :: c74 :: c75 :: c76 :: c77 :: c78 :: c79 :: c80 :: c81 :: c82 :: c83 :: c84 :: c85 :: c86 :: c87 :: c88 :: c89 :: c90 :: c91 :: c92 :: c93 :: c94 :: c95 :: c96 :: c97 :: c98 :: c99 :: c100 :: c101 :: c102 :: c103 :: c104 :: c105 :: c106 :: c107 :: c108 :: c109 :: c110 :: c111 :: c112 :: c113 :: c114 :: c115 :: c116 :: c117 :: c118 :: c119 :: c120 :: c121 :: c122 :: c123 :: c124 :: c125 :: c126 :: c127 :: c128 :: c129 :: c130 :: c131 :: c132 :: c133 :: c134 :: c135 :: c136 :: c137 :: c138 :: c139 :: c140 :: c141 :: c142 :: c143 :: c144 :: c145 :: c146 :: c147 :: c148 :: c149 :: c150 :: c151 :: c152 :: c153 :: c154 :: c155 :: c156 :: c157 :: c158 :: c159 :: c160 :: c161 :: c162 :: c163 :: c164 :: c165 :: c166 :: c167 :: c168 :: c169 :: c170 :: c171 :: c172 :: c173 :: c174 :: c175 :: c176 :: c177 :: c178 :: c179 :: c180 :: c181 :: u182 :: u183 :: u184 :: u185 :: u186 :: u187 :: u188 :: u189 :: u190 :: u191 :: u192 :: u193 :: u194 :: u195 :: u196 :: u197 :: u198 :: u199 :: u200 :: u201 :: u202 :: u203 :: u204 :: u205 :: u206 :: u207 :: c208 :: c209 :: c210 :: c211 :: c212 :: c213 :: c214 :: c215 :: c216 :: c217 :: c218 :: c219 :: c220 :: c221 :: c222 :: c223 :: c224 :: c225 :: []), []⟩ W := by
  have HG := Lib.hid hg
  have HX := Lib.hid hx
  have HE := Lib.hid hexit
  clear hg hx hexit
  conv => arg 2; arg 1; whnf
  go_loopw [23, 24, 25] (fun ov yv b wr => ∃ (m : Nat) (o y : Bool), m ≤ 6 ∧ b = .int .i64 m ∧ ov = .bool o ∧ yv = .bool y ∧ Hid (o = true ↔ ∀ i, i < m → j.B i = f4 i) ∧ Hid (y = true ↔ ∀ i, i < m → j.B i = f5 i) ∧ Hid (SG w wr q dp kk cnt S D j d s t c) ∧ Hid (SX w wr S D g4 f4 ∧ SX w wr S D g5 f5)) (fun _ _ b _ => 6 - (intOf b).toNat)
  case atStart => exact ⟨0, true, true, by omega, rfl, rfl, rfl, ⟨fun _ i hi => absurd hi (Nat.not_lt_zero _), fun _ => rfl⟩, ⟨fun _ i hi => absurd hi (Nat.not_lt_zero _), fun _ => rfl⟩, HG.out, HX.out⟩
  case round =>
    obtain ⟨m, o, y, hm, rfl, rfl, rfl, HO, HY, HGR, HXR⟩ := hrel
    by_cases hlm : m < 6
    · have hmi : (m : Int) < 6 := by omega
      go_wp2_with fail
      refine (readJ_any HGR.out.jd.jm m (by rw [HGR.out.nb]; exact hlm) (HGR.out.inv.lens m (by rw [HGR.out.nb]; exact hlm))).mono ?_
      rintro e w11 ⟨A7, n7, c7', rfl, hb7, -, -, hw7⟩
      have H11 : Hid (SG w w11 q dp kk cnt S D j d s t c ∧ SX w w11 S D g4 f4 ∧ SX w w11 S D g5 f5) := ⟨HGR.out.below hw7, HXR.out.1.below hw7, HXR.out.2.below hw7⟩
      have x7 := run_convert_bs w11 A7 n7 c7' _ hb7
      have x4 := H11.out.2.1.row.cell hlm
      have x5 := H11.out.2.2.row.cell hlm
      have HO' := Lib.hid (all_step HO.out)
      have HY' := Lib.hid (all_step HY.out)
      clear hb7 hw7 HO HY
      obtain ⟨e4, HE4'⟩ : ∃ e4 : Bool, Hid (e4 = decide (j.B m = f4 m)) := ⟨_, Lib.hid rfl⟩
      obtain ⟨e5, HE5'⟩ : ∃ e5 : Bool, Hid (e5 = decide (j.B m = f5 m)) := ⟨_, Lib.hid rfl⟩
      rw [← HE4'.out] at HO'
      rw [← HE5'.out] at HY'
      have q4 : ((txt (j.B m)).toList == (txt (f4 m)).toList) = e4 := by rw [HE4'.out]; exact txt_same _ _
      have q5 : ((txt (j.B m)).toList == (txt (f5 m)).toList) = e5 := by rw [HE5'.out]; exact txt_same _ _
      clear HE4' HE5'
      cases o <;> cases y
      all_goals
        go_wp2
        go_roundw
        case rel => exact ⟨m + 1, _, _, by omega, by go_num, rfl, rfl, HO'.out, HY'.out, H11.out.1, H11.out.2⟩
        case measure => simp [intOf]; omega
    · obtain rfl : m = 6 := by omega
      go_wp2
      exact HE.out o y _ _ _ _ _ _ _ _ _ _ _ _ _ _ _ _ _ _ _ _ _ _ _ _ _ _ _ _ HO.out HY.out HGR.out HXR.out.1 HXR.out.2
end Go.Proofs.Ytcieahfhpanogaa

namespace Go.Proofs.Ytcieahfhpanogaa
open Go.RowKit

noncomputable def bodyB : Code := (loopsOf bodyA).getD 0 .skip
noncomputable def bodyC : Code := (loopsOf bodyA).getD 1 .skip

set_option maxRecDepth 1000000 in
set_option maxHeartbeats 8000000 in
theorem sure_loop2 (w W : World) (p dp kk cnt : Nat) (S D : Nat → Prop) (j : J.JS) (d : DS) (s t : Nat) (c : List J.Chg) (g1 g2 : Nat) (f1 f2 : Nat → List UInt8) (hne : g1 ≠ g2) (c0 c1 c2 c3 c4 c5 c6 c7 c8 c9 c10 c11 c12 c13 c14 c16 c17 c20 c21 c22 c23 c24 c25 c26 c27 c28 c29 c30 c31 c32 c33 c34 c35 c36 c37 c38 c39 c40 c41 c42 c43 c44 c45 c46 c47 c48 c49 c50 c51 c52 c53 c54 c55 c56 c57 c58 c59 c60 c61 c62 c63 c64 c65 c66 c67 c68 c69 c70 c71 c72 c73 c74 c75 c76 c77 c78 c79 c80 c81 c82 c83 c84 c85 c97 c98 c99 c100 c101 c102 c103 c104 c105 c106 c107 c108 c109 c110 c111 c112 c113 c114 c115 c116 c117 c118 c119 c120 c121 c122 c123 c124 c125 c126 c127 c128 c129 c130 c131 c132 c133 c134 c135 c136 c137 c138 c139 c140 c141 c142 c143 c144 c145 c146 c147 c148 c149 c150 c151 c152 c153 c154 c155 c156 c157 c158 c159 c160 c161 c162 c163 c164 c165 c166 c167 c168 c169 c170 c171 c172 c173 c174 c175 c176 c177 c178 c179 c180 c181 c182 c183 c184 c185 c186 c187 c188 c189 c190 c191 c192 c193 c194 c195 c196 c197 c198 c199 c200 c201 c202 c203 c204 c205 c206 c207 c208 c209 c210 c211 c212 c213 c214 c215 c216 c217 c218 c219 c220 c221 c222 c223 c224 c225 : Value) (u86 u87 u88 u89 u90 u91 u92 u93 u94 u95 u96 : Value) (Q0 : Exit → Act → World → Prop)
    (hg : SG w W p dp kk cnt S D j d s t c) (hx1 : SX w W S D g1 f1) (hx2 : SX w W S D g2 f2)
    (hexit : ∀ (F : Nat → List UInt8) (v86 v87 v88 v89 v90 v91 v92 v93 v94 v95 v96 : Value) (W' : World), SG w W' p dp kk cnt S D j d s t c → SX w W' S D g1 f1 → SX w W' S D g2 F → (∀ i, i < 6 → F i = f1 i) → Q0 (.exit 2) ⟨List.toArray (c0 :: c1 :: c2 :: c3 :: c4 :: c5 :: c6 :: c7 :: c8 :: c9 :: c10 :: c11 :: c12 :: c13 :: c14 :: .slice (some ⟨g1, 0, none⟩) 6 6 :: c16 :: c17 :: .slice (some ⟨g2, 0, none⟩) 6 6 :: .int .i64 6 :: c20 :: c21 :: c22 :: c23 :: c24 :: c25 :: c26 :: c27 :: c28 :: c29 :: c30 :: c31 :: c32 :: c33 :: c34 :: c35 :: c36 :: c37 :: c38 :: c39 :: c40 :: c41 :: c42 :: c43 :: c44 :: c45 :: c46 :: c47 :: c48 :: c49 :: c50 :: c51 :: c52 :: c53 :: c54 :: c55 :: c56 :: c57 :: c58 :: c59 :: c60 :: c61 :: c62 :: c63 :: c64 :: c65 :: c66 :: c67 :: c68 :: c69 :: c70 :: c71 :: c72 :: c73 :: c74 :: c75 :: c76 :: c77 :: c78 :: c79 :: c80 :: c81 :: c82 :: c83 :: c84 :: c85 :: v86 :: v87 :: v88 :: v89 :: v90 :: v91 :: v92 :: v93 :: v94 :: v95 :: v96 :: c97 :: c98 :: c99 :: c100 :: c101 :: c102 :: c103 :: c104 :: c105 :: c106 :: c107 :: c108 :: c109 :: c110 :: c111 :: c112 :: c113 :: c114 :: c115 :: c116 :: c117 :: c118 :: c119 :: c120 :: c121 :: c122 :: c123 :: c124 :: c125 :: c126 :: c127 :: c128 :: c129 :: c130 :: c131 :: c132 :: c133 :: c134 :: c135 :: c136 :: c137 :: c138 :: c139 :: c140 :: c141 :: c142 :: c143 :: c144 :: c145 :: c146 :: c147 :: c148 :: c149 :: c150 :: c151 :: c152 :: c153 :: c154 :: c155 :: c156 :: c157 :: c158 :: c159 :: c160 :: c161 :: c162 :: c163 :: c164 :: c165 :: c166 :: c167 :: c168 :: c169 :: c170 :: c171 :: c172 :: c173 :: c174 :: c175 :: c176 :: c177 :: c178 :: c179 :: c180 :: c181 :: c182 :: c183 :: c184 :: c185 :: c186 :: c187 :: c188 :: c189 :: c190 :: c191 :: c192 :: c193 :: c194 :: c195 :: c196 :: c197 :: c198 :: c199 :: c200 :: c201 :: c202 :: c203 :: c204 :: c205 :: c206 :: c207 :: c208 :: c209 :: c210 :: c211 :: c212 :: c213 :: c214 :: c215 :: c216 :: c217 :: c218 :: c219 :: c220 :: c221 :: c222 :: c223 :: c224 :: c225 :: []), []⟩ W') :
    Code.wp Try.prog (Code.loop bodyB) Q0 ⟨List.toArray (c0 :: c1 :: c2 :: c3 :: c4 :: c5 :: c6 :: c7 :: c8 :: c9 :: c10 :: c11 :: c12 :: c13 :: c14 :: .slice (some ⟨g1, 0, none⟩) 6 6 :: c16 :: c17 :: .slice (some ⟨g2, 0, none⟩) 6 6 :: .int .i64 0 :: c20 :: c21 :: c22 :: c23 :: c24 :: c25 :: c26 :: c27 :: c28 :: c29 :: c30 :: c31 :: c32 :: c33 :: c34 :: c35 :: c36 :: c37 :: c38 :: c39 :: c40 :: c41 :: c42 :: c43 :: c44 :: c45 :: c46 :: c47 :: c48 :: c49 :: c50 :: c51 :: c52 :: c53 :: c54 :: c55 :: c56 :: c57 :: c58 :: c59 :: c60 :: c61 :: c62 :: c63 :: c64 :: c65 :: c66 :: c67 :: c68 :: c69 :: c70 :: c71 :: c72 :: c73 :: c74 :: c75 :: c76 :: c77 :: c78 :: c79 :: c80 :: c81 :: c82 :: c83 :: c84 :: c85 :: u86 :: u87 :: u88 :: u89 :: u90 :: u91 :: u92 :: u93 :: u94 :: u95 :: u96 :: c97 :: c98 :: c99 :: c100 :: c101 :: c102 :: c103 :: c104 :: c105 :: c106 :: c107 :: c108 :: c109 :: c110 :: c111 :: c112 :: c113 :: c114 :: c115 :: c116 :: c117 :: c118 :: c119 :: c120 :: c121 :: c122 :: c123 :: c124 :: c125 :: c126 :: c127 :: c128 :: c129 :: c130 :: c131 :: c132 :: c133 :: c134 :: c135 :: c136 :: c137 :: c138 :: c139 :: c140 :: c141 :: c142 :: c143 :: c144 :: c145 :: c146 :: c147 :: c148 :: c149 :: c150 :: c151 :: c152 :: c153 :: c154 :: c155 :: c156 :: c157 :: c158 :: c159 :: c160 :: c161 :: c162 :: c163 :: c164 :: c165 :: c166 :: c167 :: c168 :: c169 :: c170 :: c171 :: c172 :: c173 :: c174 :: c175 :: c176 :: c177 :: c178 :: c179 :: c180 :: c181 :: c182 :: c183 :: c184 :: c185 :: c186 :: c187 :: c188 :: c189 :: c190 :: c191 :: c192 :: c193 :: c194 :: c195 :: c196 :: c197 :: c198 :: c199 :: c200 :: c201 :: c202 :: c203 :: c204 :: c205 :: c206 :: c207 :: c208 :: c209 :: c210 :: c211 :: c212 :: c213 :: c214 :: c215 :: c216 :: c217 :: c218 :: c219 :: c220 :: c221 :: c222 :: c223 :: c224 :: c225 :: []), []⟩ W := by
  have HG := Lib.hid hg
  have HX1 := Lib.hid hx1
  have HX2 := Lib.hid hx2
  have HE := Lib.hid hexit
  have HNE := Lib.hid hne
  clear hg hx1 hx2 hexit hne
  conv => arg 2; arg 1; whnf
  go_loopw [19] (fun b wr => ∃ m : Nat, m ≤ 6 ∧ b = .int .i64 m ∧ ∃ F, Hid (SG w wr p dp kk cnt S D j d s t c) ∧ Hid (SX w wr S D g1 f1) ∧ Hid (SX w wr S D g2 F) ∧ Hid (∀ i, i < m → F i = f1 i)) (fun b _ => 6 - (intOf b).toNat)
  case atStart => exact ⟨0, by omega, rfl, _, HG.out, HX1.out, HX2.out, fun i hi => absurd hi (Nat.not_lt_zero _)⟩
  case round =>
    obtain ⟨m, hm, rfl, F, HGM, HXM, HFM, HEM⟩ := hrel
    by_cases hlm : m < 6
    · have hmi : (m : Int) < 6 := by omega
      have x1 := HXM.out.row.cell hlm
      have x2 := HFM.out.row.cell hlm
      have x3 := HFM.out.row.frozen m
      have HST : Hid (SG w (wr.setCell ⟨g2, m, none⟩ (.string (txt (f1 m)))) p dp kk cnt S D j d s t c ∧ SX w (wr.setCell ⟨g2, m, none⟩ (.string (txt (f1 m)))) S D g1 f1 ∧ SX w (wr.setCell ⟨g2, m, none⟩ (.string (txt (f1 m)))) S D g2 (upd F m (f1 m))) := ⟨HGM.out.put HFM.out hlm _, HXM.out.other HFM.out hlm _ HNE.out, HFM.out.put hlm _⟩
      go_wp2
      go_roundw
      case rel => exact ⟨m + 1, by omega, by go_num, _, HST.out.1, HST.out.2.1, HST.out.2.2, fun i hi => by
        unfold upd
        by_cases e : i = m
        · rw [if_pos e, e]
        · rw [if_neg e]; exact HEM.out i (by omega)⟩
      case measure => simp [intOf]; omega
    · obtain rfl : m = 6 := by omega
      go_wp2
      exact HE.out F _ _ _ _ _ _ _ _ _ _ _ _ HGM.out HXM.out HFM.out HEM.out

set_option maxRecDepth 1000000 in
set_option maxHeartbeats 8000000 in
theorem sure_loop3 (w W : World) (p dp kk k n1 c1x bc oc : Nat) (xa : Option Addr) (xn xc : Nat) (lk : List (Int × List UInt8)) (S D : Nat → Prop) (j : J.JS) (d : DS) (s t : Nat) (c : List J.Chg) (g1 g2 : Nat) (f1 F0 : Nat → List UInt8) (hne : g1 ≠ g2) (hlt : k < n1)
    (hw : WI w xa xn lk) (hx : ∀ W, Below w.heap.size w W → W.cell? ⟨bc, oc + k, none⟩ = some (.slice xa xn xc)) (hxn : xn ≤ 9223372036854775807) (c0 c2 c3 c4 c5 c6 c7 c8 c9 c10 c11 c12 c13 c14 c15 c17 c19 c22 c23 c24 c25 c26 c27 c28 c29 c30 c31 c32 c33 c34 c35 c36 c37 c38 c39 c40 c41 c42 c43 c44 c45 c46 c47 c48 c49 c50 c51 c52 c53 c54 c55 c56 c57 c58 c59 c60 c61 c62 c63 c64 c65 c66 c67 c68 c69 c70 c71 c72 c73 c74 c75 c76 c77 c78 c79 c80 c81 c82 c83 c84 c85 c86 c87 c88 c89 c90 c91 c92 c93 c94 c95 c96 c128 c129 c130 c131 c132 c133 c134 c135 c136 c137 c138 c139 c140 c141 c142 c143 c144 c145 c146 c147 c148 c149 c150 c151 c152 c153 c154 c155 c156 c157 c158 c159 c160 c161 c162 c163 c164 c165 c166 c167 c168 c169 c170 c171 c172 c173 c174 c175 c176 c177 c178 c179 c180 c181 c182 c183 c184 c185 c186 c187 c188 c189 c190 c191 c192 c193 c194 c195 c196 c197 c198 c199 c200 c201 c202 c203 c204 c205 c206 c207 c208 c209 c210 c211 c212 c213 c214 c215 c216 c217 c218 c219 c220 c221 c222 c223 c224 c225 : Value) (u21 u97 u98 u99 u100 u101 u102 u103 u104 u105 u106 u107 u108 u109 u110 u111 u112 u113 u114 u115 u116 u117 u118 u119 u120 u121 u122 u123 u124 u125 u126 u127 : Value) (Q0 : Exit → Act → World → Prop)
    (hg : SG w W p dp kk k S D j d s t c) (hx1 : SX w W S D g1 f1) (hx2 : SX w W S D g2 F0) (hF : ∀ i, i < 6 → F0 i = f1 i)
    (hexit : ∀ (F : Nat → List UInt8) (v21 v97 v98 v99 v100 v101 v102 v103 v104 v105 v106 v107 v108 v109 v110 v111 v112 v113 v114 v115 v116 v117 v118 v119 v120 v121 v122 v123 v124 v125 v126 v127 : Value) (W' : World), SG w W' p dp kk k S D j d s t c → SX w W' S D g1 f1 → SX w W' S D g2 F → (J.okW 6 lk = true → ∀ i, i < 6 → F i = J.apl (J.asChg lk) f1 i) → Q0 (.exit 4) ⟨List.toArray (c0 :: .slice (some ⟨bc, oc, none⟩) n1 c1x :: c2 :: c3 :: c4 :: c5 :: c6 :: c7 :: c8 :: c9 :: c10 :: c11 :: c12 :: c13 :: c14 :: c15 :: .int .i64 (k : Int) :: c17 :: .slice (some ⟨g2, 0, none⟩) 6 6 :: c19 :: .int .i64 (xn : Int) :: v21 :: c22 :: c23 :: c24 :: c25 :: c26 :: c27 :: c28 :: c29 :: c30 :: c31 :: c32 :: c33 :: c34 :: c35 :: c36 :: c37 :: c38 :: c39 :: c40 :: c41 :: c42 :: c43 :: c44 :: c45 :: c46 :: c47 :: c48 :: c49 :: c50 :: c51 :: c52 :: c53 :: c54 :: c55 :: c56 :: c57 :: c58 :: c59 :: c60 :: c61 :: c62 :: c63 :: c64 :: c65 :: c66 :: c67 :: c68 :: c69 :: c70 :: c71 :: c72 :: c73 :: c74 :: c75 :: c76 :: c77 :: c78 :: c79 :: c80 :: c81 :: c82 :: c83 :: c84 :: c85 :: c86 :: c87 :: c88 :: c89 :: c90 :: c91 :: c92 :: c93 :: c94 :: c95 :: c96 :: v97 :: v98 :: v99 :: v100 :: v101 :: v102 :: v103 :: v104 :: v105 :: v106 :: v107 :: v108 :: v109 :: v110 :: v111 :: v112 :: v113 :: v114 :: v115 :: v116 :: v117 :: v118 :: v119 :: v120 :: v121 :: v122 :: v123 :: v124 :: v125 :: v126 :: v127 :: c128 :: c129 :: c130 :: c131 :: c132 :: c133 :: c134 :: c135 :: c136 :: c137 :: c138 :: c139 :: c140 :: c141 :: c142 :: c143 :: c144 :: c145 :: c146 :: c147 :: c148 :: c149 :: c150 :: c151 :: c152 :: c153 :: c154 :: c155 :: c156 :: c157 :: c158 :: c159 :: c160 :: c161 :: c162 :: c163 :: c164 :: c165 :: c166 :: c167 :: c168 :: c169 :: c170 :: c171 :: c172 :: c173 :: c174 :: c175 :: c176 :: c177 :: c178 :: c179 :: c180 :: c181 :: c182 :: c183 :: c184 :: c185 :: c186 :: c187 :: c188 :: c189 :: c190 :: c191 :: c192 :: c193 :: c194 :: c195 :: c196 :: c197 :: c198 :: c199 :: c200 :: c201 :: c202 :: c203 :: c204 :: c205 :: c206 :: c207 :: c208 :: c209 :: c210 :: c211 :: c212 :: c213 :: c214 :: c215 :: c216 :: c217 :: c218 :: c219 :: c220 :: c221 :: c222 :: c223 :: c224 :: c225 :: []), []⟩ W') :
    Code.wp Try.prog (Code.loop bodyC) Q0 ⟨List.toArray (c0 :: .slice (some ⟨bc, oc, none⟩) n1 c1x :: c2 :: c3 :: c4 :: c5 :: c6 :: c7 :: c8 :: c9 :: c10 :: c11 :: c12 :: c13 :: c14 :: c15 :: .int .i64 (k : Int) :: c17 :: .slice (some ⟨g2, 0, none⟩) 6 6 :: c19 :: .int .i64 0 :: u21 :: c22 :: c23 :: c24 :: c25 :: c26 :: c27 :: c28 :: c29 :: c30 :: c31 :: c32 :: c33 :: c34 :: c35 :: c36 :: c37 :: c38 :: c39 :: c40 :: c41 :: c42 :: c43 :: c44 :: c45 :: c46 :: c47 :: c48 :: c49 :: c50 :: c51 :: c52 :: c53 :: c54 :: c55 :: c56 :: c57 :: c58 :: c59 :: c60 :: c61 :: c62 :: c63 :: c64 :: c65 :: c66 :: c67 :: c68 :: c69 :: c70 :: c71 :: c72 :: c73 :: c74 :: c75 :: c76 :: c77 :: c78 :: c79 :: c80 :: c81 :: c82 :: c83 :: c84 :: c85 :: c86 :: c87 :: c88 :: c89 :: c90 :: c91 :: c92 :: c93 :: c94 :: c95 :: c96 :: u97 :: u98 :: u99 :: u100 :: u101 :: u102 :: u103 :: u104 :: u105 :: u106 :: u107 :: u108 :: u109 :: u110 :: u111 :: u112 :: u113 :: u114 :: u115 :: u116 :: u117 :: u118 :: u119 :: u120 :: u121 :: u122 :: u123 :: u124 :: u125 :: u126 :: u127 :: c128 :: c129 :: c130 :: c131 :: c132 :: c133 :: c134 :: c135 :: c136 :: c137 :: c138 :: c139 :: c140 :: c141 :: c142 :: c143 :: c144 :: c145 :: c146 :: c147 :: c148 :: c149 :: c150 :: c151 :: c152 :: c153 :: c154 :: c155 :: c156 :: c157 :: c158 :: c159 :: c160 :: c161 :: c162 :: c163 :: c164 :: c165 :: c166 :: c167 :: c168 :: c169 :: c170 :: c171 :: c172 :: c173 :: c174 :: c175 :: c176 :: c177 :: c178 :: c179 :: c180 :: c181 :: c182 :: c183 :: c184 :: c185 :: c186 :: c187 :: c188 :: c189 :: c190 :: c191 :: c192 :: c193 :: c194 :: c195 :: c196 :: c197 :: c198 :: c199 :: c200 :: c201 :: c202 :: c203 :: c204 :: c205 :: c206 :: c207 :: c208 :: c209 :: c210 :: c211 :: c212 :: c213 :: c214 :: c215 :: c216 :: c217 :: c218 :: c219 :: c220 :: c221 :: c222 :: c223 :: c224 :: c225 :: []), []⟩ W := by
  have HG := Lib.hid hg
  have HX1 := Lib.hid hx1
  have HX2 := Lib.hid hx2
  have HFE := Lib.hid hF
  have HE := Lib.hid hexit
  have HNE := Lib.hid hne
  have HW := Lib.hid hw
  have HX := Lib.hid hx
  have NL : Hid (lk.length = xn) := hw.ws.1
  have hki : (k : Int) < (n1 : Int) := by omega
  clear hg hx1 hx2 hF hexit hne hw hx
  conv => arg 2; arg 1; whnf
  go_loopw [20] (fun b wr => ∃ m : Nat, m ≤ xn ∧ b = .int .i64 m ∧ ∃ F, Hid (SG w wr p dp kk k S D j d s t c) ∧ Hid (SX w wr S D g1 f1) ∧ Hid (SX w wr S D g2 F) ∧ Hid (J.okW 6 lk = true → ∀ i, i < 6 → F i = J.apl (J.asChg (lk.take m)) f1 i)) (fun b _ => xn - (intOf b).toNat)
  case atStart => exact ⟨0, by omega, rfl, F0, HG.out, HX1.out, HX2.out, fun _ => HFE.out⟩
  case round =>
    obtain ⟨m, hm, rfl, F, HGM, HXM, HFM, HEM⟩ := hrel
    have hcx := HX.out wr HGM.out.bel
    by_cases hlm : m < xn
    · have hml : m < lk.length := by rw [NL.out]; exact hlm
      have hmi : (m : Int) < (xn : Int) := by omega
      obtain ⟨bw, ow, z, rfl, hz2⟩ := ws_held' HW.out.ws m hlm hml
      have HZ := Lib.hid hz2
      clear hz2
      obtain ⟨v1, v2, -⟩ := HZ.out wr HGM.out.bel
      obtain ⟨y, HY⟩ : ∃ y, Hid (y = lk[m].1) := ⟨_, Lib.hid rfl⟩
      rw [← HY.out] at v1
      go_upto_region 27 with (fail)
      have HBY : Hid (Below wr.heap.size wr (wr.alloc (.cells #[.int .i64 y, .slice z.a z.n z.c] 37))) := (Below.refl _ _).alloc (Nat.le_refl _) _
      have HRX : Hid ((wr.alloc (.cells #[.int .i64 y, .slice z.a z.n z.c] 37)).heap[wr.heap.size]? = some (.cells #[.int .i64 y, .slice z.a z.n z.c] 37 (0, 0))) := heap_alloc_new wr _
      generalize wr.alloc (.cells #[.int .i64 y, .slice z.a z.n z.c] 37) = w7 at *
      have HS7 : Hid (SG w w7 p dp kk k S D j d s t c ∧ SX w w7 S D g1 f1 ∧ SX w w7 S D g2 F) := ⟨HGM.out.below HBY.out, HXM.out.below HBY.out, HFM.out.below HBY.out⟩
      generalize wr.heap.size = gx at *
      obtain ⟨-, -, v3⟩ := HZ.out w7 HS7.out.1.bel
      have hx0 : w7.cell? ⟨gx, 0, none⟩ = some (.int .i64 y) := by rw [cell_of_row _ _ _ _ _ _ HRX.out]; rfl
      have hx1 : w7.cell? ⟨gx, 1, none⟩ = some (.slice z.a z.n z.c) := by rw [cell_of_row _ _ _ _ _ _ HRX.out]; rfl
      clear v1 v2 hcx HBY
      by_cases hy0 : 0 ≤ y
      · by_cases hy6 : y < 6
        · obtain ⟨yn, HYN⟩ : ∃ yn : Nat, Hid ((yn : Int) = y) := ⟨y.toNat, by show ((_ : Nat) : Int) = _; omega⟩
          have hyn : yn < 6 := by have := HYN.out; omega
          rw [← HYN.out] at hx0 hy0 hy6
          have v4 := HS7.out.2.2.row.cell hyn
          have v5 := HS7.out.2.2.row.frozen yn
          have HST : Hid (SG w (w7.setCell ⟨g2, yn, none⟩ (.string (txt lk[m].2))) p dp kk k S D j d s t c ∧ SX w (w7.setCell ⟨g2, yn, none⟩ (.string (txt lk[m].2))) S D g1 f1 ∧ SX w (w7.setCell ⟨g2, yn, none⟩ (.string (txt lk[m].2))) S D g2 (upd F yn lk[m].2)) := ⟨HS7.out.1.put HS7.out.2.2 hyn _, HS7.out.2.1.other HS7.out.2.2 hyn _ HNE.out, HS7.out.2.2.put hyn _⟩
          have HAP : Hid (J.okW 6 lk = true → ∀ i, i < 6 → upd F yn lk[m].2 i = J.apl (J.asChg (lk.take (m + 1))) f1 i) := fun hok i hi => by
            rw [apl_take lk f1 m hml, ← HY.out, ← HYN.out, Int.toNat_natCast]
            unfold upd
            by_cases e : i = yn
            · rw [if_pos e, if_pos e.symm]
            · rw [if_neg e, if_neg (Ne.symm e)]; exact HEM.out hok i hi
          generalize lk[m].2 = L at *
          go_wp2
          go_roundw
          case rel => exact ⟨m + 1, by omega, by go_num, _, HST.out.1, HST.out.2.1, HST.out.2.2, HAP.out⟩
          case measure => simp [intOf]; omega
        · go_wp2
          go_roundw
          case rel => exact ⟨m + 1, by omega, by go_num, F, HS7.out.1, HS7.out.2.1, HS7.out.2.2, fun hok => absurd (okW_at hok m hml).2.1 (by rw [← HY.out]; exact hy6)⟩
          case measure => simp [intOf]; omega
      · go_wp2
        go_roundw
        case rel => exact ⟨m + 1, by omega, by go_num, F, HS7.out.1, HS7.out.2.1, HS7.out.2.2, fun hok => absurd (okW_at hok m hml).1 (by rw [← HY.out]; exact hy0)⟩
        case measure => simp [intOf]; omega
    · obtain rfl : m = xn := by omega
      have HOKA : Hid (J.okW 6 lk = true → ∀ i, i < 6 → F i = J.apl (J.asChg lk) f1 i) := by
        have h := HEM.out
        rw [List.take_of_length_le (by rw [NL.out]; exact Nat.le_refl _)] at h
        exact h
      go_wp2
      exact HE.out F _ _ _ _ _ _ _ _ _ _ _ _ _ _ _ _ _ _ _ _ _ _ _ _ _ _ _ _ _ _ _ _ _ HGM.out HXM.out HFM.out HOKA.out
end Go.Proofs.Ytcieahfhpanogaa
