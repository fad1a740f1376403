/-
  Arguments of layer 12: slices of slots, rows of them.
-/
import Derived.Test.YtnhokkdieijkhaaGreatDoorVIn
namespace Go.Proofs.YtnhokkdieijkhaaGreatDoor
open Go.ChangeShapes Go.WideShapes Go.ChangeAt Go.RowKit

theorem list_ex {α : Type} {P : Nat → α → Prop} : ∀ n : Nat, (∀ j, j < n → ∃ a, P j a) → ∃ l : List α, l.length = n ∧ ∀ j (hj : j < l.length), P j l[j]
  | 0, _ => ⟨[], rfl, fun j hj => absurd hj (Nat.not_lt_zero _)⟩
  | n + 1, h => by
    obtain ⟨l, h1, h2⟩ := list_ex n fun j hj => h j (by omega)
    obtain ⟨a, ha⟩ := h n (by omega)
    refine ⟨l ++ [a], by simp [h1], fun j hj => ?_⟩
    simp only [List.length_append, List.length_cons, List.length_nil] at hj
    rcases Nat.lt_or_ge j l.length with h3 | h3
    · rw [List.getElem_append_left h3]; exact h2 j h3
    · obtain rfl : j = l.length := by omega
      rw [List.getElem_append_right (Nat.le_refl _)]
      simp only [Nat.sub_self, List.getElem_cons_zero]
      rw [h1]; exact ha
theorem wf_n64 {n : Int} (h : (Lit.int .u64 n).wf = true) : 0 ≤ n ∧ n < 18446744073709551616 := by
  simp [Lit.wf, IntKind.min, IntKind.max, IntKind.bits, IntKind.signed] at h
  omega
theorem wf_n32 {n : Int} (h : (Lit.int .u32 n).wf = true) : 0 ≤ n ∧ n < 4294967296 := by
  simp [Lit.wf, IntKind.min, IntKind.max, IntKind.bits, IntKind.signed] at h
  omega
theorem nine_cs {cs : List Value} (h : cs.length = 9) : ∃ a b c d e f g i j, cs = [a, b, c, d, e, f, g, i, j] := by
  match cs, h with
  | [a, b, c, d, e, f, g, i, j], _ => exact ⟨a, b, c, d, e, f, g, i, j, rfl⟩
section
variable {H : Type} {enc : TypeId × Value → H} {W : World} {m : Nat} {v : Value} {y : DataW H × List MemPlace}
theorem cell_u32 {t : TypeId} (ht : Tryz.prog.underlying t = some (.int .u32)) (h : DataW.trod enc Tryz.prog W 0 (fun _ => true) true m t [v] = some y) : ∃ a : Nat, v = .int .u32 (a : Int) ∧ a < 4294967296 := by
  obtain ⟨a, h1, _, w1⟩ := DataW.trod_int ht h
  simp only [List.cons.injEq, and_true] at h1
  subst h1
  have b := wf_n32 w1
  obtain ⟨a, rfl⟩ := Int.eq_ofNat_of_zero_le b.1
  exact ⟨a, rfl, by omega⟩
theorem cell_u64 {t : TypeId} (ht : Tryz.prog.underlying t = some (.int .u64)) (h : DataW.trod enc Tryz.prog W 0 (fun _ => true) true m t [v] = some y) : ∃ a : Nat, v = .int .u64 (a : Int) ∧ a < 18446744073709551616 := by
  obtain ⟨a, h1, _, w1⟩ := DataW.trod_int ht h
  simp only [List.cons.injEq, and_true] at h1
  subst h1
  have b := wf_n64 w1
  obtain ⟨a, rfl⟩ := Int.eq_ofNat_of_zero_le b.1
  exact ⟨a, rfl, by omega⟩
theorem cell_bytes (h : DataW.trod enc Tryz.prog W 0 (fun _ => true) true m 30 [v] = some y) : ∃ (A : Option Addr) (n cp : Nat) (l : List UInt8), v = .slice A n cp ∧ BS W A n l ∧ n ≤ cp ∧ n ≤ maxLen := by
  rcases open_ints Tryz.underlying30 Tryz.underlying5 (by kernel_rfl) h with ⟨hcs, _⟩ | ⟨x, l, cap, zs, hcs, _, hl, hm, hz, _, hcell, hwz⟩
  · simp only [List.cons.injEq, and_true] at hcs
    exact ⟨none, 0, 0, [], hcs, BS.nil, Nat.le_refl _, Nat.zero_le _⟩
  · simp only [List.cons.injEq, and_true] at hcs
    have hr : IsRow .u8 W (some x) l cap zs := .inr ⟨_, rfl, hl, hm, by simpa using hz, hcell, hwz⟩
    obtain ⟨xs, h1⟩ := hr.bs
    exact ⟨some x, l, cap, xs, hcs, h1, hl, Nat.le_trans hl hm⟩
end
/-- Slots as they came in. -/
structure SI2 (W : World) (A : Option Addr) (n : Nat) (l : List Vl.Th) : Prop where
  ss : SS W A n l
  few : n ≤ maxLen
  fits : ∀ s ∈ l, Fits s
  len : ∀ s ∈ l, s.dt.length ≤ maxLen
theorem SI2.below {W W' : World} {A : Option Addr} {n : Nat} {l : List Vl.Th} (h : SI2 W A n l) (hb : Below W.heap.size W W') : SI2 W' A n l := ⟨h.ss.below hb, h.few, h.fits, h.len⟩
set_option maxRecDepth 100000 in
theorem slots_cs {H : Type} {enc : TypeId × Value → H} {W : World} {fuel : Nat} {v : Value} {d : DataW H × List MemPlace} (h : DataW.trod enc Tryz.prog W 0 (fun _ => true) true fuel 27 [v] = some d) :
    ∃ A len cap l, v = .slice A len cap ∧ SI2 W A len l ∧ len ≤ cap := by
  rcases Go.Deep.open_slice (e := 32) Tryz.underlying27 h with ⟨hcs, _⟩ | ⟨a, len, c, m, n, D, Pl, hcs, _, hl, hm, hmm, _, hi⟩
  · simp only [List.cons.injEq, and_true] at hcs
    exact ⟨none, 0, 0, [], hcs, ⟨SS.nil, Nat.zero_le _, (fun x hx => by cases hx), (fun x hx => by cases hx)⟩, Nat.le_refl _⟩
  · simp only [List.cons.injEq, and_true] at hcs
    subst hcs
    simp only [if_true] at hmm
    subst hmm
    have h9 : Tryz.prog.cellsOf 32 = 9 := by kernel_rfl
    rw [h9] at hi
    have main : ∀ j, j < len → ∃ s : Vl.Th, (∃ x : Sl, (∀ k u, (sc s (.slice x.a x.n x.c))[k]? = some u → W.cell? (a.add (j * 9 + k)) = some u) ∧ BS W x.a x.n s.dt ∧ x.n ≤ x.c) ∧ Fits s ∧ s.dt.length ≤ maxLen := fun j hj => by
      obtain ⟨cs', hc, ht⟩ := hi j (by omega)
      obtain ⟨_, hlen, hat⟩ := World.cells?_some hc
      obtain ⟨v0, v1, v2, v3, v4, v5, v6, v7, v8, rfl⟩ := nine_cs hlen
      obtain ⟨ys, n', _, _, _, hyl, hg⟩ := DataW.trod_struct Tryz.underlying32 ht
      have hys : ys.length = 9 := hyl.trans rfl
      have k0 : DataW.trod enc Tryz.prog W 0 (fun _ => true) true n' 28 [v0] = ys[0]? := hg 0 _ rfl
      have k1 : DataW.trod enc Tryz.prog W 0 (fun _ => true) true n' 28 [v1] = ys[1]? := hg 1 _ rfl
      have k2 : DataW.trod enc Tryz.prog W 0 (fun _ => true) true n' 28 [v2] = ys[2]? := hg 2 _ rfl
      have k3 : DataW.trod enc Tryz.prog W 0 (fun _ => true) true n' 28 [v3] = ys[3]? := hg 3 _ rfl
      have k4 : DataW.trod enc Tryz.prog W 0 (fun _ => true) true n' 28 [v4] = ys[4]? := hg 4 _ rfl
      have k5 : DataW.trod enc Tryz.prog W 0 (fun _ => true) true n' 29 [v5] = ys[5]? := hg 5 _ rfl
      have k6 : DataW.trod enc Tryz.prog W 0 (fun _ => true) true n' 29 [v6] = ys[6]? := hg 6 _ rfl
      have k7 : DataW.trod enc Tryz.prog W 0 (fun _ => true) true n' 29 [v7] = ys[7]? := hg 7 _ rfl
      have k8 : DataW.trod enc Tryz.prog W 0 (fun _ => true) true n' 30 [v8] = ys[8]? := hg 8 _ rfl
      obtain ⟨y0, e0⟩ : ∃ y, ys[0]? = some y := ⟨_, List.getElem?_eq_getElem (by omega)⟩
      obtain ⟨y1, e1⟩ : ∃ y, ys[1]? = some y := ⟨_, List.getElem?_eq_getElem (by omega)⟩
      obtain ⟨y2, e2⟩ : ∃ y, ys[2]? = some y := ⟨_, List.getElem?_eq_getElem (by omega)⟩
      obtain ⟨y3, e3⟩ : ∃ y, ys[3]? = some y := ⟨_, List.getElem?_eq_getElem (by omega)⟩
      obtain ⟨y4, e4⟩ : ∃ y, ys[4]? = some y := ⟨_, List.getElem?_eq_getElem (by omega)⟩
      obtain ⟨y5, e5⟩ : ∃ y, ys[5]? = some y := ⟨_, List.getElem?_eq_getElem (by omega)⟩
      obtain ⟨y6, e6⟩ : ∃ y, ys[6]? = some y := ⟨_, List.getElem?_eq_getElem (by omega)⟩
      obtain ⟨y7, e7⟩ : ∃ y, ys[7]? = some y := ⟨_, List.getElem?_eq_getElem (by omega)⟩
      obtain ⟨y8, e8⟩ : ∃ y, ys[8]? = some y := ⟨_, List.getElem?_eq_getElem (by omega)⟩
      obtain ⟨a0, rfl, b0⟩ := cell_u32 Tryz.underlying28 (k0.trans e0)
      obtain ⟨a1, rfl, b1⟩ := cell_u32 Tryz.underlying28 (k1.trans e1)
      obtain ⟨a2, rfl, b2⟩ := cell_u32 Tryz.underlying28 (k2.trans e2)
      obtain ⟨a3, rfl, b3⟩ := cell_u32 Tryz.underlying28 (k3.trans e3)
      obtain ⟨a4, rfl, b4⟩ := cell_u32 Tryz.underlying28 (k4.trans e4)
      obtain ⟨a5, rfl, b5⟩ := cell_u64 Tryz.underlying29 (k5.trans e5)
      obtain ⟨a6, rfl, b6⟩ := cell_u64 Tryz.underlying29 (k6.trans e6)
      obtain ⟨a7, rfl, b7⟩ := cell_u64 Tryz.underlying29 (k7.trans e7)
      obtain ⟨A, n, cp, l, rfl, hbs, hbc, hbn⟩ := cell_bytes (k8.trans e8)
      refine ⟨⟨a0, a1, a2, a3, a4, a5, a6, a7, l⟩, ⟨⟨A, n, cp⟩, fun k u hu => ?_, hbs, hbc⟩, ⟨b0, b1, ⟨b2, b3, b4, b5, b6, b7⟩⟩, by show l.length ≤ _; rw [hbs.1]; exact hbn⟩
      have hk : k < 9 := by have := (List.getElem?_eq_some_iff.1 hu).1; rwa [sc_len] at this
      have t0 := hat k hk
      rw [Go.Deep.add_add] at t0
      rw [t0]
      exact hu
    obtain ⟨l, hl1, hl2⟩ := list_ex len main
    refine ⟨some a, len, _, l, rfl, ⟨⟨hl1, fun hn => ?_⟩, by omega, fun x hx => ?_, fun x hx => ?_⟩, hl⟩
    · obtain ⟨b, o, sp⟩ := a
      obtain ⟨s, ⟨x, h0, _⟩, _⟩ := main 0 hn
      have h0 := h0 0 _ rfl
      have hs : sp = none := by simpa [Addr.add] using World.cell?_spot h0
      subst hs
      refine ⟨b, o, rfl, fun k hk => ?_⟩
      obtain ⟨⟨x, g0, g1, g2⟩, -⟩ := hl2 k hk
      refine ⟨x, fun j u hu => ?_, g1, g2⟩
      have := g0 j u hu
      rw [add_plain] at this
      rw [Nat.add_assoc]
      exact this
    · obtain ⟨i, hi', rfl⟩ := List.getElem_of_mem hx
      exact (hl2 i hi').2.1
    · obtain ⟨i, hi', rfl⟩ := List.getElem_of_mem hx
      exact (hl2 i hi').2.2
theorem slots_in {H : Type} {enc : TypeId × Value → H} {W : World} {A : Option Addr} {len cap : Nat} {d : DataW H} {p : List MemPlace} (h : DataW.Trod enc Tryz.prog W 0 (fun _ => true) true 27 (.slice A len cap) d p) : ∃ l, SI2 W A len l := by
  obtain ⟨fuel, hf⟩ := h
  have hf' : DataW.trod enc Tryz.prog W 0 (fun _ => true) true fuel 27 [.slice A len cap] = some (d, p) := hf
  obtain ⟨A', len', cap', l, e, h1, -⟩ := slots_cs hf'
  cases e
  exact ⟨l, h1⟩
/-- Rows of slots as they came in. -/
structure RI2 (W : World) (A : Option Addr) (n : Nat) (ls : List (List Vl.Th)) : Prop where
  len : ls.length = n
  few : n ≤ maxLen
  row : 0 < n → ∃ b o, A = some ⟨b, o, none⟩ ∧ b < W.heap.size ∧ ∀ k (h : k < ls.length), ∃ x : Sl, W.cell? ⟨b, o + k, none⟩ = some (.slice x.a x.n x.c) ∧ SI2 W x.a x.n ls[k]
theorem RI2.below {W W' : World} {A : Option Addr} {n : Nat} {ls : List (List Vl.Th)} (h : RI2 W A n ls) (hb : Below W.heap.size W W') : RI2 W' A n ls :=
  ⟨h.len, h.few, fun hn => by
    obtain ⟨b, o, e, hlt, hc⟩ := h.row hn
    refine ⟨b, o, e, Nat.lt_of_lt_of_le hlt hb.size, fun k hk => ?_⟩
    obtain ⟨x, h1, h2⟩ := hc k hk
    exact ⟨x, (hb.cell (p := ⟨b, o + k, none⟩) hlt).trans h1, h2.below hb⟩⟩
theorem one_cs {cs : List Value} (h : cs.length = 1) : ∃ a, cs = [a] := by
  match cs, h with
  | [a], _ => exact ⟨a, rfl⟩
set_option maxRecDepth 100000 in
theorem srows_in {H : Type} {enc : TypeId × Value → H} {W : World} {A : Option Addr} {len cap : Nat} {d : DataW H} {p : List MemPlace} (h : DataW.Trod enc Tryz.prog W 0 (fun _ => true) true 22 (.slice A len cap) d p) : ∃ ls, RI2 W A len ls := by
  obtain ⟨fuel, hf⟩ := h
  rcases Go.Deep.open_slice (e := 27) Tryz.underlying22 hf with ⟨hcs, _⟩ | ⟨a, l, c, m, n, D, Pl, hcs, _, hl, hm, hmm, _, hi⟩
  · simp [Value.cells] at hcs
    obtain ⟨rfl, rfl, rfl⟩ := hcs
    exact ⟨[], rfl, Nat.zero_le _, fun h => absurd h (by omega)⟩
  · simp [Value.cells] at hcs
    obtain ⟨rfl, rfl, rfl⟩ := hcs
    simp only [if_true] at hmm
    subst hmm
    have h1 : Tryz.prog.cellsOf 27 = 1 := by kernel_rfl
    rw [h1] at hi
    have main : ∀ j, j < len → ∃ y : List Vl.Th, ∃ x : Sl, W.cell? (a.add j) = some (.slice x.a x.n x.c) ∧ SI2 W x.a x.n y := fun j hj => by
      obtain ⟨cs', hc, ht⟩ := hi j (by omega)
      obtain ⟨_, hlen, hat⟩ := World.cells?_some hc
      obtain ⟨v0, rfl⟩ := one_cs hlen
      have t0 := hat 0 (by omega)
      rw [Go.Deep.add_add, Nat.mul_one, Nat.add_zero] at t0
      obtain ⟨B, l', c', y, rfl, hy, -⟩ := slots_cs ht
      exact ⟨y, ⟨B, l', c'⟩, t0, hy⟩
    obtain ⟨ls, hl1, hl2⟩ := list_ex len main
    refine ⟨ls, hl1, by omega, fun hn => ?_⟩
    obtain ⟨b, o, sp⟩ := a
    obtain ⟨_, _, h0, _⟩ := main 0 hn
    have hs : sp = none := by simpa [Addr.add] using World.cell?_spot h0
    subst hs
    refine ⟨b, o, rfl, World.block_lt_of_cell? W _ h0, fun k hk => ?_⟩
    obtain ⟨x, g0, g1⟩ := hl2 k hk
    rw [add_plain] at g0
    exact ⟨x, g0, g1⟩
end Go.Proofs.YtnhokkdieijkhaaGreatDoor
