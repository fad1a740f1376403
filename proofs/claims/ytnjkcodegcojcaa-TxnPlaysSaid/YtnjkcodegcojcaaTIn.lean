/-
  Arguments of layer 10's laws as they came in: rows of bytes, acts.
-/
import Derived.Test.YtnjkcodegcojcaaTTwo
import Derived.Test.YtnjkcodegcojcaaRows
import Derived.WalkKit
import Derived.ProofKit
import Derived.OpenShut
import Derived.ShutString
import Derived.ChangeOld
import Derived.Below
import Derived.Deep.Slices
import Derived.Deep.Fields
namespace Go.Proofs.Ytnjkcodegcojcaa
open Go.ChangeShapes Go.WideShapes Go.ChangeAt Go.RowKit
open Go.ChangeMaps (open_string shut_string)

theorem list_of {α : Type} {P : Nat → α → Prop} : ∀ n : Nat, (∀ j, j < n → ∃ a, P j a) → ∃ l : List α, l.length = n ∧ ∀ j (hj : j < l.length), P j l[j]
  | 0, _ => ⟨[], rfl, fun j hj => absurd hj (Nat.not_lt_zero _)⟩
  | n + 1, h => by
    obtain ⟨l, h1, h2⟩ := list_of n fun j hj => h j (by omega)
    obtain ⟨a, ha⟩ := h n (by omega)
    refine ⟨l ++ [a], by simp [h1], fun j hj => ?_⟩
    simp only [List.length_append, List.length_cons, List.length_nil] at hj
    rcases Nat.lt_or_ge j l.length with h3 | h3
    · rw [List.getElem_append_left h3]; exact h2 j h3
    · obtain rfl : j = l.length := by omega
      rw [List.getElem_append_right (Nat.le_refl _)]
      simp only [Nat.sub_self, List.getElem_cons_zero]
      rw [h1]; exact ha
theorem wf_int {n : Int} (h : (Lit.int .i64 n).wf = true) : -9223372036854775808 ≤ n ∧ n ≤ 9223372036854775807 := by
  simp [Lit.wf, IntKind.min, IntKind.max, IntKind.bits, IntKind.signed] at h
  omega
/-- Rows of bytes as they came in. -/
structure RP (W : World) (A : Option Addr) (n : Nat) (ls : List (List UInt8)) : Prop where
  len : ls.length = n
  few : n ≤ maxLen
  row : 0 < n → ∃ b o, A = some ⟨b, o, none⟩ ∧ b < W.heap.size ∧ ∀ k (_ : k < n), ∃ x : Sl, W.cell? ⟨b, o + k, none⟩ = some (.slice x.a x.n x.c) ∧ BS W x.a x.n (ls.getD k [])
theorem RP.ri {W : World} {A : Option Addr} {n : Nat} {ls : List (List UInt8)} (h : RP W A n ls) (hs : ∀ k, k < n → (ls.getD k []).length ≤ big47) : RI W A n ls :=
  ⟨h.len, fun hn => by
    obtain ⟨b, o, e, _, hc⟩ := h.row hn
    refine ⟨b, o, e, fun k hk => ?_⟩
    obtain ⟨x, h1, h2⟩ := hc k hk
    exact ⟨x, h1, h2, by rw [← h2.1]; exact hs k hk⟩⟩
theorem RP.at {W w : World} {A : Option Addr} {n : Nat} {ls : List (List UInt8)} (h : RP W A n ls) (hb : Below W.heap.size W w) {k : Nat} (hk : k < n) : ∃ b o, ∃ x : Sl, A = some ⟨b, o, none⟩ ∧ w.cell? ⟨b, o + k, none⟩ = some (.slice x.a x.n x.c) ∧ BS w x.a x.n (ls.getD k []) := by
  obtain ⟨b, o, e, hlt, hc⟩ := h.row (by omega)
  obtain ⟨x, h1, h2⟩ := hc k hk
  exact ⟨b, o, x, e, (hb.cell (p := ⟨b, o + k, none⟩) hlt).trans h1, h2.below hb⟩
theorem one_at {cs : List Value} (h : cs.length = 1) : ∃ a, cs = [a] := by
  match cs, h with
  | [a], _ => exact ⟨a, rfl⟩
set_option maxRecDepth 100000 in
theorem rows_in {H : Type} {enc : TypeId × Value → H} {W : World} {A : Option Addr} {len cap : Nat} {d : DataW H} {p : List MemPlace} (h : DataW.Trod enc Try.prog W 0 (fun _ => true) true 22 (.slice A len cap) d p) : ∃ ls, RP W A len ls := by
  obtain ⟨fuel, hf⟩ := h
  rcases Go.Deep.open_slice (e := 25) Try.underlying22 hf with ⟨hcs, _⟩ | ⟨a, l, c, m, n, D, Pl, hcs, _, hl, hm, hmm, _, hi⟩
  · simp [Value.cells] at hcs
    obtain ⟨rfl, rfl, rfl⟩ := hcs
    exact ⟨[], rfl, Nat.zero_le _, fun h => absurd h (by omega)⟩
  · simp [Value.cells] at hcs
    obtain ⟨rfl, rfl, rfl⟩ := hcs
    simp only [if_true] at hmm
    subst hmm
    have h1 : Try.prog.cellsOf 25 = 1 := by kernel_rfl
    rw [h1] at hi
    have main : ∀ j, j < len → ∃ y : List UInt8, ∃ x : Sl, W.cell? (a.add j) = some (.slice x.a x.n x.c) ∧ BS W x.a x.n y := fun j hj => by
      obtain ⟨cs', hc, ht⟩ := hi j (by omega)
      obtain ⟨_, hlen, hat⟩ := World.cells?_some hc
      obtain ⟨v0, rfl⟩ := one_at hlen
      have t0 := hat 0 (by omega)
      rw [Go.Deep.add_add, Nat.mul_one, Nat.add_zero] at t0
      rcases open_ints Try.underlying25 Try.underlying5 (by kernel_rfl) ht with ⟨hcs, _⟩ | ⟨x, l, c, zs, hcs, _, hl, hm, hz, _, hcell, hwz⟩
      · simp only [List.cons.injEq, and_true] at hcs
        subst hcs
        exact ⟨[], ⟨none, 0, 0⟩, t0, BS.nil⟩
      · simp only [List.cons.injEq, and_true] at hcs
        subst hcs
        have hr : IsRow .u8 W (some x) l c zs := .inr ⟨_, rfl, hl, hm, by simpa using hz, hcell, hwz⟩
        obtain ⟨L, hL⟩ := hr.bs
        exact ⟨L, ⟨some x, l, c⟩, t0, hL⟩
    obtain ⟨ls, hl1, hl2⟩ := list_of len main
    refine ⟨ls, hl1, by omega, fun hn => ?_⟩
    obtain ⟨b, o, sp⟩ := a
    obtain ⟨_, _, h0, _⟩ := main 0 hn
    have hs : sp = none := by simpa [Addr.add] using World.cell?_spot h0
    subst hs
    refine ⟨b, o, rfl, World.block_lt_of_cell? W _ h0, fun k hk => ?_⟩
    have hk' : k < ls.length := by omega
    obtain ⟨x, g0, g1⟩ := hl2 k hk'
    rw [add_plain] at g0
    exact ⟨x, g0, by simpa [List.getD, hk'] using g1⟩

/-- Acts as they came in. -/
def AC (w : World) (A : Option Addr) (m : Nat) : Prop := 0 < m → ∃ b o, A = some ⟨b, o, none⟩ ∧ b < w.heap.size ∧ ∀ j, j < m → ∃ (x z : Int) (B : Option Addr) (n c : Nat) (L : List UInt8),
  w.cell? ⟨b, o + j * 3, none⟩ = some (.int .i64 x) ∧ w.cell? ⟨b, o + j * 3 + 1, none⟩ = some (.int .i64 z) ∧ w.cell? ⟨b, o + j * 3 + 2, none⟩ = some (.slice B n c) ∧
  BS w B n L ∧ n ≤ maxLen ∧ (-9223372036854775808 ≤ x ∧ x ≤ 9223372036854775807) ∧ (-9223372036854775808 ≤ z ∧ z ≤ 9223372036854775807)
theorem AC.at {w W : World} {A : Option Addr} {m : Nat} (h : AC w A m) (hb : Below w.heap.size w W) {j : Nat} (hj : j < m) : ∃ (b o : Nat) (x z : Int) (B : Option Addr) (n c : Nat) (L : List UInt8), A = some ⟨b, o, none⟩ ∧
    W.cell? ⟨b, o + j * 3, none⟩ = some (.int .i64 x) ∧ W.cell? ⟨b, o + j * 3 + 1, none⟩ = some (.int .i64 z) ∧ W.cell? ⟨b, o + j * 3 + 2, none⟩ = some (.slice B n c) ∧
    BS w B n L ∧ BS W B n L ∧ n ≤ maxLen ∧ (-9223372036854775808 ≤ x ∧ x ≤ 9223372036854775807) ∧ (-9223372036854775808 ≤ z ∧ z ≤ 9223372036854775807) := by
  obtain ⟨b, o, e, hlt, hc⟩ := h (by omega)
  obtain ⟨x, z, B, n, c, L, h1, h2, h3, h4, h5, h6, h7⟩ := hc j hj
  have hk : ∀ k u, w.cell? ⟨b, k, none⟩ = some u → W.cell? ⟨b, k, none⟩ = some u := fun k u hu => (hb.cell (p := ⟨b, k, none⟩) hlt).trans hu
  exact ⟨b, o, x, z, B, n, c, L, e, hk _ _ h1, hk _ _ h2, hk _ _ h3, h4, h4.below hb, h5, h6, h7⟩
theorem three_at {cs : List Value} (h : cs.length = 3) : ∃ a b c, cs = [a, b, c] := by
  match cs, h with
  | [a, b, c], _ => exact ⟨a, b, c, rfl⟩
set_option maxRecDepth 100000 in
theorem acts_in {H : Type} {enc : TypeId × Value → H} {W : World} {A : Option Addr} {len cap : Nat} {d : DataW H} {p : List MemPlace} (h : DataW.Trod enc Try.prog W 0 (fun _ => true) true 23 (.slice A len cap) d p) :
    AC W A len ∧ len ≤ maxLen := by
  obtain ⟨fuel, hf⟩ := h
  rcases Go.Deep.open_slice (e := 35) Try.underlying23 hf with ⟨hcs, _⟩ | ⟨a, l, c, m, n, D, Pl, hcs, _, hl, hm, hmm, _, hi⟩
  · simp [Value.cells] at hcs
    obtain ⟨rfl, rfl, rfl⟩ := hcs
    exact ⟨fun h => absurd h (by omega), Nat.zero_le _⟩
  · simp [Value.cells] at hcs
    obtain ⟨rfl, rfl, rfl⟩ := hcs
    simp only [if_true] at hmm
    subst hmm
    have h3 : Try.prog.cellsOf 35 = 3 := by kernel_rfl
    rw [h3] at hi
    have main : ∀ j, j < len → ∃ (x z : Int) (B : Option Addr) (n c : Nat) (L : List UInt8),
        W.cell? (a.add (j * 3)) = some (.int .i64 x) ∧ W.cell? (a.add (j * 3 + 1)) = some (.int .i64 z) ∧ W.cell? (a.add (j * 3 + 2)) = some (.slice B n c) ∧
        BS W B n L ∧ n ≤ maxLen ∧ (-9223372036854775808 ≤ x ∧ x ≤ 9223372036854775807) ∧ (-9223372036854775808 ≤ z ∧ z ≤ 9223372036854775807) := fun j hj => by
      obtain ⟨cs', hc, ht⟩ := hi j (by omega)
      obtain ⟨_, hlen, hat⟩ := World.cells?_some hc
      obtain ⟨v0, v1, v2, rfl⟩ := three_at hlen
      obtain ⟨xs, n', _, _, _, hxl, hg⟩ := DataW.trod_struct Try.underlying35 ht
      have k0 : DataW.trod enc Try.prog W 0 (fun _ => true) true n' 3 [v0] = xs[0]? := hg 0 _ rfl
      have k1 : DataW.trod enc Try.prog W 0 (fun _ => true) true n' 3 [v1] = xs[1]? := hg 1 _ rfl
      have k2 : DataW.trod enc Try.prog W 0 (fun _ => true) true n' 25 [v2] = xs[2]? := hg 2 _ rfl
      have t0 := hat 0 (by omega)
      have t1 := hat 1 (by omega)
      have t2 := hat 2 (by omega)
      rw [Go.Deep.add_add] at t0 t1 t2
      have hxs : xs.length = 3 := hxl
      obtain ⟨y0, e0⟩ : ∃ y, xs[0]? = some y := ⟨_, List.getElem?_eq_getElem (by omega)⟩
      obtain ⟨y1, e1⟩ : ∃ y, xs[1]? = some y := ⟨_, List.getElem?_eq_getElem (by omega)⟩
      obtain ⟨y2, e2⟩ : ∃ y, xs[2]? = some y := ⟨_, List.getElem?_eq_getElem (by omega)⟩
      obtain ⟨x, hx, _, wx⟩ := DataW.trod_int Try.underlying3 (k0.trans e0)
      obtain ⟨z, hz, _, wz⟩ := DataW.trod_int Try.underlying3 (k1.trans e1)
      simp only [List.cons.injEq, and_true] at hx hz
      subst hx hz
      have hrow : ∃ (B : Option Addr) (l c : Nat) (L : List UInt8), v2 = .slice B l c ∧ BS W B l L ∧ l ≤ maxLen := by
        rcases open_ints Try.underlying25 Try.underlying5 (by kernel_rfl) (k2.trans e2) with ⟨hcs, _⟩ | ⟨x, l, c, zs, hcs, _, hl, hm, hz, _, hcell, hwz⟩
        · simp only [List.cons.injEq, and_true] at hcs
          exact ⟨none, 0, 0, [], hcs, ⟨rfl, fun h => absurd h (by omega)⟩, Nat.zero_le _⟩
        · simp only [List.cons.injEq, and_true] at hcs
          have hr : IsRow .u8 W (some x) l c zs := .inr ⟨_, rfl, hl, hm, by simpa using hz, hcell, hwz⟩
          obtain ⟨L, hL⟩ := hr.bs
          exact ⟨some x, l, c, L, hcs, hL, Nat.le_trans hl hm⟩
      obtain ⟨B, l, c, L, rfl, hL, hlm⟩ := hrow
      exact ⟨x, z, B, l, c, L, t0, t1, t2, hL, hlm, wf_int wx, wf_int wz⟩
    refine ⟨fun hn => ?_, by omega⟩
    obtain ⟨b, o, sp⟩ := a
    obtain ⟨_, _, _, _, _, _, h0, _⟩ := main 0 hn
    have hs : sp = none := by simpa [Addr.add] using World.cell?_spot h0
    subst hs
    refine ⟨b, o, rfl, World.block_lt_of_cell? W _ h0, fun j hj => ?_⟩
    obtain ⟨x, z, B, l, c, L, h0, h1, h2, hr⟩ := main j hj
    rw [add_plain] at h0 h1 h2
    exact ⟨x, z, B, l, c, L, h0, h1, h2, hr⟩
end Go.Proofs.Ytnjkcodegcojcaa
