/-
  Writes as they came in: an argument of type []journal.Write.
-/
import Derived.Test.YtpjcdnfnghekcaaJTop
import Derived.Test.YtpjcdnfnghekcaaRows
import Derived.WalkKit
import Derived.ProofKit
import Derived.OpenShut
import Derived.ShutString
import Derived.ChangeOld
import Derived.Below
import Derived.Deep.Slices
import Derived.Deep.Fields
namespace Go.Proofs.Ytpjcdnfnghekcaa
open Go.ChangeShapes Go.WideShapes Go.ChangeAt Go.RowKit
open Go.ChangeMaps (open_string shut_string)

theorem list_of {α : Type} {P : Nat → α → Prop} : ∀ n : Nat, (∀ j, j < n → ∃ a, P j a) → ∃ l : List α, l.length = n ∧ ∀ j (hj : j < l.length), P j l[j]
  | 0, _ => ⟨[], rfl, fun j hj => absurd hj (Nat.not_lt_zero _)⟩
  | n + 1, h => by
    obtain ⟨l, h1, h2⟩ := list_of n fun j hj => h j (by omega)
    obtain ⟨a, ha⟩ := h n (by omega)
    refine ⟨l ++ [a], by simp [h1], fun j hj => ?_⟩
    simp only [List.length_append, List.length_cons, List.length_nil] at hj
    rcases Nat.lt_or_ge j l.length with h3 | h3
    · rw [List.getElem_append_left h3]; exact h2 j h3
    · obtain rfl : j = l.length := by omega
      rw [List.getElem_append_right (Nat.le_refl _)]
      simp only [Nat.sub_self, List.getElem_cons_zero]
      rw [h1]; exact ha
theorem wf_int {n : Int} (h : (Lit.int .i64 n).wf = true) : -9223372036854775808 ≤ n ∧ n ≤ 9223372036854775807 := by
  simp [Lit.wf, IntKind.min, IntKind.max, IntKind.bits, IntKind.signed] at h
  omega
theorem two_at {cs : List Value} (h : cs.length = 2) : ∃ a b, cs = [a, b] := by
  match cs, h with
  | [a, b], _ => exact ⟨a, b, rfl⟩
/-- Writes as they came in. -/
structure WI (W : World) (A : Option Addr) (n : Nat) (l : List (Int × List UInt8)) : Prop where
  ws : WS W (fun k => k < W.heap.size) A n l
  few : n ≤ maxLen
  len : ∀ x ∈ l, x.2.length ≤ maxLen
  at' : ∀ x ∈ l, -9223372036854775808 ≤ x.1 ∧ x.1 ≤ 9223372036854775807
set_option maxRecDepth 100000 in
theorem writes_cs {H : Type} {enc : TypeId × Value → H} {W : World} {fuel : Nat} {v : Value} {d : DataW H × List MemPlace} (h : DataW.trod enc Try.prog W 0 (fun _ => true) true fuel 35 [v] = some d) :
    ∃ A len cap l, v = .slice A len cap ∧ WI W A len l ∧ len ≤ cap := by
  rcases Go.Deep.open_slice (e := 37) Try.underlying35 h with ⟨hcs, _⟩ | ⟨a, len, c, m, n, D, Pl, hcs, _, hl, hm, hmm, _, hi⟩
  · simp only [List.cons.injEq, and_true] at hcs
    exact ⟨none, 0, 0, [], hcs, ⟨WS.nil, Nat.zero_le _, (fun x hx => by cases hx), (fun x hx => by cases hx)⟩, Nat.le_refl _⟩
  · simp only [List.cons.injEq, and_true] at hcs
    subst hcs
    simp only [if_true] at hmm
    subst hmm
    have h2 : Try.prog.cellsOf 37 = 2 := by kernel_rfl
    rw [h2] at hi
    have main : ∀ j, j < len → ∃ y : Int × List UInt8, (∃ x : Sl, W.cell? (a.add (j * 2)) = some (.int .i64 y.1) ∧ W.cell? (a.add (j * 2 + 1)) = some (.slice x.a x.n x.c) ∧ BS W x.a x.n y.2 ∧ x.n ≤ x.c) ∧ y.2.length ≤ maxLen ∧ -9223372036854775808 ≤ y.1 ∧ y.1 ≤ 9223372036854775807 := fun j hj => by
      obtain ⟨cs', hc, ht⟩ := hi j (by omega)
      obtain ⟨_, hlen, hat⟩ := World.cells?_some hc
      obtain ⟨v0, v1, rfl⟩ := two_at hlen
      obtain ⟨xs, n', _, _, _, hxl, hg⟩ := DataW.trod_struct Try.underlying37 ht
      have k0 : DataW.trod enc Try.prog W 0 (fun _ => true) true n' 3 [v0] = xs[0]? := hg 0 _ rfl
      have k1 : DataW.trod enc Try.prog W 0 (fun _ => true) true n' 23 [v1] = xs[1]? := hg 1 _ rfl
      have t0 := hat 0 (by omega)
      have t1 := hat 1 (by omega)
      rw [Go.Deep.add_add] at t0 t1
      have hxs : xs.length = 2 := hxl.trans rfl
      obtain ⟨y0, e0⟩ : ∃ y, xs[0]? = some y := ⟨_, List.getElem?_eq_getElem (by omega)⟩
      obtain ⟨y1, e1⟩ : ∃ y, xs[1]? = some y := ⟨_, List.getElem?_eq_getElem (by omega)⟩
      obtain ⟨x, hx, _, wx⟩ := DataW.trod_int Try.underlying3 (k0.trans e0)
      simp only [List.cons.injEq, and_true] at hx
      subst hx
      have hx := wf_int wx
      have hrow : ∃ (B : Option Addr) (l c : Nat) (L : List UInt8), v1 = .slice B l c ∧ BS W B l L ∧ l ≤ c ∧ c ≤ maxLen := by
        rcases open_ints Try.underlying23 Try.underlying5 (by kernel_rfl) (k1.trans e1) with ⟨hcs, _⟩ | ⟨x, l, c, zs, hcs, _, hl, hm, hz, _, hcell, hwz⟩
        · simp only [List.cons.injEq, and_true] at hcs
          exact ⟨none, 0, 0, [], hcs, ⟨rfl, fun h => absurd h (by omega)⟩, Nat.le_refl _, Nat.zero_le _⟩
        · simp only [List.cons.injEq, and_true] at hcs
          have hr : IsRow .u8 W (some x) l c zs := .inr ⟨_, rfl, hl, hm, by simpa using hz, hcell, hwz⟩
          obtain ⟨L, hL⟩ := hr.bs
          exact ⟨some x, l, c, L, hcs, hL, hl, hm⟩
      obtain ⟨B, l, c, L, rfl, hL, hlc, hcm⟩ := hrow
      exact ⟨(x, L), ⟨⟨B, l, c⟩, t0, t1, hL, hlc⟩, by rw [hL.1]; omega, hx.1, hx.2⟩
    obtain ⟨l, hl1, hl2⟩ := list_of len main
    refine ⟨some a, len, _, l, rfl, ⟨⟨hl1, fun hn => ?_⟩, by omega, fun x hx => ?_, fun x hx => ?_⟩, hl⟩
    · obtain ⟨b, o, sp⟩ := a
      obtain ⟨_, ⟨_, h0, _⟩, _⟩ := main 0 hn
      have hs : sp = none := by simpa [Addr.add] using World.cell?_spot h0
      subst hs
      have hb : b < W.heap.size := World.block_lt_of_cell? W _ h0
      refine ⟨b, o, rfl, hb, fun k hk => ?_⟩
      obtain ⟨⟨x, g0, g1, g2, g3⟩, -⟩ := hl2 k hk
      rw [add_plain] at g0 g1
      exact ⟨x, g0, by rw [Nat.add_assoc]; exact g1, g2, g3, fun h ad e => g2.lt_block h ad e⟩
    · obtain ⟨i, hi', rfl⟩ := List.getElem_of_mem hx
      exact (hl2 i hi').2.1
    · obtain ⟨i, hi', rfl⟩ := List.getElem_of_mem hx
      exact (hl2 i hi').2.2
theorem writes_in {H : Type} {enc : TypeId × Value → H} {W : World} {A : Option Addr} {len cap : Nat} {d : DataW H} {p : List MemPlace} (h : DataW.Trod enc Try.prog W 0 (fun _ => true) true 35 (.slice A len cap) d p) : ∃ l, WI W A len l := by
  obtain ⟨fuel, hf⟩ := h
  have hf' : DataW.trod enc Try.prog W 0 (fun _ => true) true fuel 35 [.slice A len cap] = some (d, p) := hf
  obtain ⟨A', len', cap', l, e, h1, -⟩ := writes_cs hf'
  cases e
  exact ⟨l, h1⟩
end Go.Proofs.Ytpjcdnfnghekcaa

namespace Go.Proofs.Ytpjcdnfnghekcaa
open Go.ChangeShapes Go.WideShapes Go.ChangeAt Go.RowKit
open Go.ChangeMaps (open_string shut_string)

/-- Changes as they came in. -/
structure CI (W : World) (A : Option Addr) (n : Nat) (ls : List (List (Int × List UInt8))) : Prop where
  len : ls.length = n
  few : n ≤ maxLen
  row : 0 < n → ∃ b o, A = some ⟨b, o, none⟩ ∧ b < W.heap.size ∧ ∀ k (h : k < ls.length), ∃ x : Sl, W.cell? ⟨b, o + k, none⟩ = some (.slice x.a x.n x.c) ∧ WI W x.a x.n ls[k]
/-- Rows of bytes as they came in. -/
structure PI (W : World) (A : Option Addr) (n : Nat) (ls : List (List UInt8)) : Prop where
  len : ls.length = n
  few : n ≤ maxLen
  row : 0 < n → ∃ b o, A = some ⟨b, o, none⟩ ∧ b < W.heap.size ∧ ∀ k (h : k < ls.length), ∃ x : Sl, W.cell? ⟨b, o + k, none⟩ = some (.slice x.a x.n x.c) ∧ BS W x.a x.n ls[k] ∧ x.n ≤ x.c ∧ x.c ≤ maxLen
theorem one_at {cs : List Value} (h : cs.length = 1) : ∃ a, cs = [a] := by
  match cs, h with
  | [a], _ => exact ⟨a, rfl⟩
set_option maxRecDepth 100000 in
theorem changes_in {H : Type} {enc : TypeId × Value → H} {W : World} {A : Option Addr} {len cap : Nat} {d : DataW H} {p : List MemPlace} (h : DataW.Trod enc Try.prog W 0 (fun _ => true) true 22 (.slice A len cap) d p) : ∃ ls, CI W A len ls := by
  obtain ⟨fuel, hf⟩ := h
  rcases Go.Deep.open_slice (e := 35) Try.underlying22 hf with ⟨hcs, _⟩ | ⟨a, l, c, m, n, D, Pl, hcs, _, hl, hm, hmm, _, hi⟩
  · simp [Value.cells] at hcs
    obtain ⟨rfl, rfl, rfl⟩ := hcs
    exact ⟨[], rfl, Nat.zero_le _, fun h => absurd h (by omega)⟩
  · simp [Value.cells] at hcs
    obtain ⟨rfl, rfl, rfl⟩ := hcs
    simp only [if_true] at hmm
    subst hmm
    have h1 : Try.prog.cellsOf 35 = 1 := by kernel_rfl
    rw [h1] at hi
    have main : ∀ j, j < len → ∃ y : List (Int × List UInt8), ∃ x : Sl, W.cell? (a.add j) = some (.slice x.a x.n x.c) ∧ WI W x.a x.n y := fun j hj => by
      obtain ⟨cs', hc, ht⟩ := hi j (by omega)
      obtain ⟨_, hlen, hat⟩ := World.cells?_some hc
      obtain ⟨v0, rfl⟩ := one_at hlen
      have t0 := hat 0 (by omega)
      rw [Go.Deep.add_add, Nat.mul_one, Nat.add_zero] at t0
      obtain ⟨B, l', c', y, rfl, hy, -⟩ := writes_cs ht
      exact ⟨y, ⟨B, l', c'⟩, t0, hy⟩
    obtain ⟨ls, hl1, hl2⟩ := list_of len main
    refine ⟨ls, hl1, by omega, fun hn => ?_⟩
    obtain ⟨b, o, sp⟩ := a
    obtain ⟨_, _, h0, _⟩ := main 0 hn
    have hs : sp = none := by simpa [Addr.add] using World.cell?_spot h0
    subst hs
    refine ⟨b, o, rfl, World.block_lt_of_cell? W _ h0, fun k hk => ?_⟩
    obtain ⟨x, g0, g1⟩ := hl2 k hk
    rw [add_plain] at g0
    exact ⟨x, g0, g1⟩
set_option maxRecDepth 100000 in
theorem rows_in {H : Type} {enc : TypeId × Value → H} {W : World} {A : Option Addr} {len cap : Nat} {d : DataW H} {p : List MemPlace} (h : DataW.Trod enc Try.prog W 0 (fun _ => true) true 24 (.slice A len cap) d p) : ∃ ls, PI W A len ls := by
  obtain ⟨fuel, hf⟩ := h
  rcases Go.Deep.open_slice (e := 23) Try.underlying24 hf with ⟨hcs, _⟩ | ⟨a, l, c, m, n, D, Pl, hcs, _, hl, hm, hmm, _, hi⟩
  · simp [Value.cells] at hcs
    obtain ⟨rfl, rfl, rfl⟩ := hcs
    exact ⟨[], rfl, Nat.zero_le _, fun h => absurd h (by omega)⟩
  · simp [Value.cells] at hcs
    obtain ⟨rfl, rfl, rfl⟩ := hcs
    simp only [if_true] at hmm
    subst hmm
    have h1 : Try.prog.cellsOf 23 = 1 := by kernel_rfl
    rw [h1] at hi
    have main : ∀ j, j < len → ∃ y : List UInt8, ∃ x : Sl, W.cell? (a.add j) = some (.slice x.a x.n x.c) ∧ BS W x.a x.n y ∧ x.n ≤ x.c ∧ x.c ≤ maxLen := fun j hj => by
      obtain ⟨cs', hc, ht⟩ := hi j (by omega)
      obtain ⟨_, hlen, hat⟩ := World.cells?_some hc
      obtain ⟨v0, rfl⟩ := one_at hlen
      have t0 := hat 0 (by omega)
      rw [Go.Deep.add_add, Nat.mul_one, Nat.add_zero] at t0
      rcases open_ints Try.underlying23 Try.underlying5 (by kernel_rfl) ht with ⟨hcs, _⟩ | ⟨x, l, c, zs, hcs, _, hl, hm, hz, _, hcell, hwz⟩
      · simp only [List.cons.injEq, and_true] at hcs
        subst hcs
        exact ⟨[], ⟨none, 0, 0⟩, t0, BS.nil, Nat.le_refl _, Nat.zero_le _⟩
      · simp only [List.cons.injEq, and_true] at hcs
        subst hcs
        have hr : IsRow .u8 W (some x) l c zs := .inr ⟨_, rfl, hl, hm, by simpa using hz, hcell, hwz⟩
        obtain ⟨L, hL⟩ := hr.bs
        exact ⟨L, ⟨some x, l, c⟩, t0, hL, hl, hm⟩
    obtain ⟨ls, hl1, hl2⟩ := list_of len main
    refine ⟨ls, hl1, by omega, fun hn => ?_⟩
    obtain ⟨b, o, sp⟩ := a
    obtain ⟨_, _, h0, _⟩ := main 0 hn
    have hs : sp = none := by simpa [Addr.add] using World.cell?_spot h0
    subst hs
    refine ⟨b, o, rfl, World.block_lt_of_cell? W _ h0, fun k hk => ?_⟩
    obtain ⟨x, g0, g1⟩ := hl2 k hk
    rw [add_plain] at g0
    exact ⟨x, g0, g1⟩
end Go.Proofs.Ytpjcdnfnghekcaa
