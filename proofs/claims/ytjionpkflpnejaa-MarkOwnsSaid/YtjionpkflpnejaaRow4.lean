
/-
  Slices of numbers that came in; many numbers put and read: plain facts.
-/
import Derived.Test.YtjionpkflpnejaaRow3
namespace Go.Proofs.Ytjionpkflpnejaa
open Go.RowKit

/-- A slice of numbers (of kind k) reads as xs. -/
def NS (k : IntKind) (w : World) (A : Option Addr) (n : Nat) (xs : List Nat) : Prop :=
  xs.length = n ∧ (0 < n → ∃ b o, A = some ⟨b, o, none⟩ ∧ ∀ j (hj : j < xs.length), w.cell? ⟨b, o + j, none⟩ = some (.int k (xs[j] : Int)))
theorem NS.below {k : IntKind} {w w' : World} {A : Option Addr} {n : Nat} {xs : List Nat} (h : NS k w A n xs) (hb : Below w.heap.size w w') : NS k w' A n xs :=
  ⟨h.1, fun hn => by
    obtain ⟨b, o, e, hc⟩ := h.2 hn
    exact ⟨b, o, e, fun j hj => (hb.cell (p := ⟨b, o + j, none⟩) (World.block_lt_of_cell? w _ (hc j hj))).trans (hc j hj)⟩⟩
theorem NS.at {k : IntKind} {w : World} {A : Option Addr} {n : Nat} {xs : List Nat} (h : NS k w A n xs) {i : Nat} (hi : i < n) :
    ∃ b o, A = some ⟨b, o, none⟩ ∧ ∃ hj : i < xs.length, w.cell? ⟨b, o + i, none⟩ = some (.int k (xs[i] : Int)) := by
  obtain ⟨b, o, e, hc⟩ := h.2 (by omega)
  have hj : i < xs.length := by rw [h.1]; exact hi
  exact ⟨b, o, e, hj, hc i hj⟩
/-- A slice of numbers none of which is below 0. -/
theorem IsRow.ns {k : IntKind} {w : World} {a : Option Addr} {len cap : Nat} {zs : List Int} (h : IsRow k w a len cap zs) (B : Nat) (hk : ∀ z, (Lit.int k z).wf = true → 0 ≤ z ∧ z < (B : Int)) : ∃ xs, NS k w a len xs ∧ ∀ x ∈ xs, x < B := by
  obtain ⟨hl, _, hz, hw, hc⟩ := h.cells
  refine ⟨(zs.take len).map fun z => z.toNat, ⟨by simp; omega, fun hn => ?_⟩, fun x hx => ?_⟩
  · obtain ⟨b, o, rfl, hcell⟩ := hc hn
    refine ⟨b, o, rfl, fun j hj => ?_⟩
    have hj' : j < len := by simp at hj; omega
    rw [hcell j hj']
    have hjz : j < zs.length := by omega
    obtain ⟨h1, _⟩ := hk _ (hw _ (List.getElem_mem hjz))
    simp [List.getD, List.getElem?_eq_getElem hjz]
    omega
  · simp only [List.mem_map] at hx
    obtain ⟨z, hz1, rfl⟩ := hx
    obtain ⟨h1, h2⟩ := hk _ (hw _ (List.mem_of_mem_take hz1))
    omega

/-- Numbers of n bytes each, one behind the other. -/
def enc (n : Nat) (xs : List Nat) : List UInt8 := xs.flatMap (be n)
theorem enc_length (n : Nat) (xs : List Nat) : (enc n xs).length = n * xs.length := by
  induction xs with
  | nil => rfl
  | cons x xs ih =>
    unfold enc at *
    rw [List.flatMap_cons, List.length_append, be_length, ih, List.length_cons, Nat.mul_succ]
    omega
theorem enc_snoc (n : Nat) (xs : List Nat) (k : Nat) (h : k < xs.length) : enc n (xs.take (k + 1)) = enc n (xs.take k) ++ be n xs[k] := by
  unfold enc
  rw [List.take_succ_eq_append_getElem h, List.flatMap_append]
  simp
theorem enc_drop (n : Nat) (xs : List Nat) (k : Nat) : (enc n xs).drop (n * k) = enc n (xs.drop k) := by
  induction k generalizing xs with
  | zero => simp
  | succ k ih =>
    cases xs with
    | nil => simp [enc]
    | cons x xs =>
      have e : enc n (x :: xs) = be n x ++ enc n xs := by unfold enc; rw [List.flatMap_cons]
      rw [e, Nat.mul_succ, Nat.add_comm, ← List.drop_drop, List.drop_append_of_le_length (by rw [be_length]; exact Nat.le_refl _), List.drop_of_length_le (l := be n x) (by rw [be_length]; exact Nat.le_refl _), List.nil_append, ih, List.drop_succ_cons]
/-- The i-th number of what was put, cut at k, is read, if it is whole. -/
theorem rdN_enc (n : Nat) (xs : List Nat) (t : List UInt8) (i k : Nat) (hi : i < xs.length) (hk : n * i + n ≤ k) (hx : xs[i] < 256 ^ n) :
    rdN n (((enc n xs ++ t).take k).drop (n * i), 0) = ((((enc n xs ++ t).take k).drop (n * (i + 1)), 0), xs[i]) := by
  have hlen : (enc n xs).length = n * xs.length := enc_length n xs
  have hil : n * (i + 1) ≤ n * xs.length := Nat.mul_le_mul_left n hi
  have e : ((enc n xs ++ t).take k).drop (n * i) = be n xs[i] ++ ((enc n xs ++ t).take k).drop (n * (i + 1)) := by
    have e1 : (enc n xs).drop (n * i) = be n xs[i] ++ (enc n xs).drop (n * (i + 1)) := by
      rw [enc_drop, enc_drop, List.drop_eq_getElem_cons hi]
      unfold enc
      rw [List.flatMap_cons]
    rw [Nat.mul_succ] at hil
    rw [List.drop_take, List.drop_take, List.drop_append_of_le_length (by rw [hlen]; omega), List.drop_append_of_le_length (by rw [hlen, Nat.mul_succ]; omega), e1, List.append_assoc, List.take_append, be_length,
      List.take_of_length_le (by rw [be_length]; omega)]
    congr 2
    rw [Nat.mul_succ]
    omega
  rw [e, rdN_be n xs[i] _ hx]
/-- A byte string that was put, cut anywhere, ends too early. -/
theorem rdO_cut (m : Int) (b : List UInt8) (j : Nat) (hj : j < (opq b).length) (hb : b.length < 4294967296) (hm : (b.length : Int) ≤ m) : ∃ l, rdO m ((opq b).take j, 0) = ((l, 10), []) := by
  have hol := opq_length b
  by_cases h4 : j < 4
  · have e := rdN_short 4 ((opq b).take j) (by rw [List.length_take]; omega)
    unfold rdO
    rw [e]
    simp
  · have e0 : (opq b).take j = be 4 b.length ++ (b ++ List.replicate (pad b.length) 0).take (j - 4) := by
      unfold opq
      rw [List.append_assoc, List.take_append, be_length, List.take_of_length_le (by rw [be_length]; omega)]
    have e : rdN 4 ((opq b).take j, 0) = (((b ++ List.replicate (pad b.length) 0).take (j - 4), 0), b.length) := by
      rw [e0, rdN_be 4 b.length _ (by simpa using hb)]
    unfold rdO
    rw [e]
    simp only [ne_eq, not_true_eq_false, if_false]
    rw [if_neg (by omega), if_pos (by rw [List.length_take, List.length_append, List.length_replicate]; omega)]
    exact ⟨_, rfl⟩
theorem Own.cap {w w' : World} {A : Option Addr} {n c : Nat} {l : List UInt8} (h : Own w w' A n c l) : n ≤ c := by
  rcases h.1.2 with ⟨h1, h0⟩ | ⟨g, cap, cur, h1, h2, h3, h4, _⟩
  · omega
  · injection h1 with h1 _ h5
    omega
end Go.Proofs.Ytjionpkflpnejaa
