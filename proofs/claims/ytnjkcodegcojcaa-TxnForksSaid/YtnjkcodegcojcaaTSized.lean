/-
  Rows of bytes as they came in, none longer than what is read may be (layer 10).
-/
import Derived.Test.YtnjkcodegcojcaaTIn
import Derived.SizedLaws
namespace Go.Proofs.Ytnjkcodegcojcaa
open Go.ChangeShapes Go.WideShapes Go.ChangeAt Go.RowKit
open Go.ChangeMaps (open_string shut_string)

theorem weightsAll_mem {H : Type} {P : Program} {e : TypeId} {d : DataW H} {n : Nat} : ∀ {l : List (DataW H)}, d ∈ l → n ∈ d.weights P e → n ∈ DataW.weightsAll P e l
  | [], h, _ => by cases h
  | x :: r, h, hn => by
    simp only [DataW.weightsAll, List.mem_append]
    rcases List.mem_cons.1 h with rfl | h
    · exact .inl hn
    · exact .inr (weightsAll_mem h hn)
theorem bytes_u8 : Try.prog.bytesOf 5 = 1 := by kernel_rfl
set_option maxRecDepth 100000 in
theorem rows_sized {H : Type} {enc : TypeId × Value → H} {W : World} {A : Option Addr} {len cap : Nat} {d : DataW H} {p : List MemPlace} (h : DataW.Trod enc Try.prog W 0 (fun _ => true) true 22 (.slice A len cap) d p) (hw : ∀ n ∈ d.weights Try.prog 22, n ≤ reachBytes) : ∃ ls, RP W A len ls ∧ ∀ k, k < len → (ls.getD k []).length ≤ big47 := by
  obtain ⟨fuel, hf⟩ := h
  rcases Go.Deep.open_slice (e := 25) Try.underlying22 hf with ⟨hcs, _⟩ | ⟨a, l, c, m, n, D, Pl, hcs, _, hl, hm, hmm, hx0, hi⟩
  · simp [Value.cells] at hcs
    obtain ⟨rfl, rfl, rfl⟩ := hcs
    exact ⟨[], ⟨rfl, Nat.zero_le _, fun h => absurd h (by omega)⟩, fun k hk => by omega⟩
  · simp [Value.cells] at hcs
    obtain ⟨rfl, rfl, rfl⟩ := hcs
    simp only [if_true] at hmm
    subst hmm
    have h1 : Try.prog.cellsOf 25 = 1 := by kernel_rfl
    rw [h1] at hi
    simp only [Prod.mk.injEq] at hx0
    have hD : ∀ j, j < len → ∀ z ∈ (D j).weights Try.prog 25, z ≤ reachBytes := fun j hj z hz => by
      refine hw z ?_
      rw [hx0.1]
      simp only [DataW.weights, Try.underlying22, List.mem_cons, List.mem_append]
      exact .inr (.inl (weightsAll_mem (List.mem_map.2 ⟨j, List.mem_range.2 hj, rfl⟩) hz))
    have main : ∀ j, j < len → ∃ y : List UInt8, (∃ x : Sl, W.cell? (a.add j) = some (.slice x.a x.n x.c) ∧ BS W x.a x.n y) ∧ y.length ≤ big47 := fun j hj => by
      obtain ⟨cs', hc, ht⟩ := hi j (by omega)
      obtain ⟨_, hlen, hat⟩ := World.cells?_some hc
      obtain ⟨v0, rfl⟩ := one_at hlen
      have t0 := hat 0 (by omega)
      rw [Go.Deep.add_add, Nat.mul_one, Nat.add_zero] at t0
      rcases open_ints Try.underlying25 Try.underlying5 (by kernel_rfl) ht with ⟨hcs, _⟩ | ⟨x, l, c, zs, hcs, _, hl, hm, hz, hd, hcell, hwz⟩
      · simp only [List.cons.injEq, and_true] at hcs
        subst hcs
        exact ⟨[], ⟨⟨none, 0, 0⟩, t0, BS.nil⟩, Nat.zero_le _⟩
      · simp only [List.cons.injEq, and_true] at hcs
        subst hcs
        have hr : IsRow .u8 W (some x) l c zs := .inr ⟨_, rfl, hl, hm, by simpa using hz, hcell, hwz⟩
        obtain ⟨L, hL⟩ := hr.bs
        refine ⟨L, ⟨⟨some x, l, c⟩, t0, hL⟩, ?_⟩
        simp only [Prod.mk.injEq] at hd
        have h9 := hD j hj (((lits .u8 (zs.take l) : List (DataW H)).length + (lits .u8 (zs.drop l) : List (DataW H)).length) * Try.prog.bytesOf 5) (by rw [hd.1]; simp [DataW.weights, Try.underlying25])
        have hzl : zs.length = c := by simpa using hz
        rw [bytes_u8, Nat.mul_one] at h9
        simp only [lits, List.length_map, List.length_take, List.length_drop, reachBytes] at h9
        have := hL.1
        unfold big47
        omega
    obtain ⟨ls, hl1, hl2⟩ := list_of len main
    have hgd : ∀ k (hk : k < len), ls.getD k [] = ls[k]'(by omega) := fun k hk => by simp [List.getD, show k < ls.length by omega]
    refine ⟨ls, ⟨hl1, by omega, fun hn => ?_⟩, fun k hk => by rw [hgd k hk]; exact (hl2 k (by omega)).2⟩
    obtain ⟨b, o, sp⟩ := a
    obtain ⟨_, ⟨_, h0, _⟩, _⟩ := main 0 hn
    have hs : sp = none := by simpa [Addr.add] using World.cell?_spot h0
    subst hs
    refine ⟨b, o, rfl, World.block_lt_of_cell? W _ h0, fun k hk => ?_⟩
    obtain ⟨⟨x, g0, g1⟩, -⟩ := hl2 k (by omega)
    rw [add_plain] at g0
    exact ⟨x, g0, by rw [hgd k hk]; exact g1⟩
end Go.Proofs.Ytnjkcodegcojcaa
