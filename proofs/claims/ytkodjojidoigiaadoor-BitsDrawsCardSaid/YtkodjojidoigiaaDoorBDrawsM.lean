/-
  What is drawn, plain: each free, in order, none lower left out; all of them taken, and given back (BitsDraws, layer 6).
-/
import Derived.Test.YtkodjojidoigiaaDoorBMath
namespace Go.Proofs.YtkodjojidoigiaaDoor
namespace Bt

theorem fr_sorted (l : List UInt8) (n : Nat) : (fr l n).Pairwise (· < ·) := List.Pairwise.filter _ List.pairwise_lt_range
theorem sorted_get {L : List Nat} (h : L.Pairwise (· < ·)) {i j : Nat} (hij : i < j) (hj : j < L.length) : L[i]'(by omega) < L[j] := List.pairwise_iff_getElem.1 h i j (by omega) hj hij
/-- What is drawn where there are enough. -/
structure Drawn (l : List UInt8) (N : Nat) (D : List Nat) : Prop where
  sorted : D.Pairwise (· < ·)
  free : ∀ i (h : i < D.length), has l D[i] = false ∧ D[i] < N
  gap : ∀ i (h : i < D.length) j, j < D[i] → (∀ i' (h' : i' < i), D[i']'(by omega) < j) → has l j = true
theorem drawn_take (l : List UInt8) (N y : Nat) : Drawn l N ((fr l N).take y) := by
  have hs := fr_sorted l N
  refine ⟨hs.sublist (List.take_sublist _ _), fun i h => ?_, fun i h j hj hl => ?_⟩
  · rw [List.getElem_take]
    have := (fr_mem l N _).1 (List.getElem_mem (l := fr l N) (n := i) (by rw [List.length_take] at h; omega))
    exact ⟨this.2, this.1⟩
  · rw [List.getElem_take] at hj
    have hi : i < (fr l N).length := by rw [List.length_take] at h; omega
    cases hh : has l j with
    | true => rfl
    | false =>
      exfalso
      have hN := ((fr_mem l N _).1 (List.getElem_mem hi)).1
      obtain ⟨i', hi', e⟩ := List.mem_iff_getElem.1 ((fr_mem l N j).2 ⟨by omega, hh⟩)
      rcases Nat.lt_trichotomy i' i with h1 | h1 | h1
      · have := hl i' h1
        rw [List.getElem_take] at this
        omega
      · subst h1; omega
      · have := sorted_get hs h1 hi'
        omega
theorem cnt_set (L : List UInt8) (x : Nat) : ∀ N, cnt (wit L x true) N = cnt L N + if has L x = false ∧ x < N then 1 else 0
  | 0 => by simp [cnt_zero]
  | N + 1 => by
    rw [cnt_succ, cnt_set L x N, cnt_succ, has_wit]
    by_cases e : N = x
    · subst e
      cases h : has L N <;> simp
    · rw [if_neg e]
      by_cases hx : x < N
      · have h2 : x < N + 1 := by omega
        simp only [hx, h2, and_true]
        omega
      · have h2 : ¬ x < N + 1 := by omega
        simp only [hx, h2, and_false, if_false]
        omega
/-- With the first i of them taken. -/
structure Took (l : List UInt8) (N : Nat) (D : List Nat) (i : Nat) (C : List UInt8) : Prop where
  has : ∀ j, has C j = (has l j || decide (j ∈ D.take i))
  cnt : cnt C N = cnt l N + i
  len : C.length ≤ 40
theorem mem_take_succ {D : List Nat} {i : Nat} (h : i < D.length) (j : Nat) : j ∈ D.take (i + 1) ↔ j ∈ D.take i ∨ j = D[i] := by
  rw [List.take_succ_eq_append_getElem h, List.mem_append, List.mem_singleton]
theorem not_in_take {D : List Nat} (hs : D.Pairwise (· < ·)) {i : Nat} (h : i < D.length) : D[i] ∉ D.take i := by
  intro hm
  obtain ⟨k, hk, e⟩ := List.mem_iff_getElem.1 hm
  rw [List.length_take] at hk
  rw [List.getElem_take] at e
  have := sorted_get hs (show k < i by omega) h
  omega
theorem not_in_drop {D : List Nat} (hs : D.Pairwise (· < ·)) {i : Nat} (h : i < D.length) : D[i] ∉ D.drop (i + 1) := by
  intro hm
  obtain ⟨k, hk, e⟩ := List.mem_iff_getElem.1 hm
  rw [List.length_drop] at hk
  rw [List.getElem_drop] at e
  have := sorted_get hs (show i < i + 1 + k by omega) (by omega)
  omega
theorem Took.start (l : List UInt8) (N : Nat) (D : List Nat) (hl : l.length ≤ 40) : Took l N D 0 (trim l) :=
  ⟨fun j => by rw [has_trim]; simp, by rw [cnt_ext (has_trim l)]; rfl, Nat.le_trans (trim_length l) hl⟩
theorem Took.next {l : List UInt8} {N : Nat} {D : List Nat} {i : Nat} {C : List UInt8} (hD : Drawn l N D) (h : Took l N D i C) (hi : i < D.length) (hN : N ≤ 255) : Took l N D (i + 1) (wit C D[i] true) := by
  have h1 := hD.free i hi
  refine ⟨fun j => ?_, ?_, ?_⟩
  · rw [has_wit, h.has]
    by_cases e : j = D[i]
    · rw [if_pos e]
      have : j ∈ D.take (i + 1) := (mem_take_succ hi j).2 (.inr e)
      simp [this]
    · rw [if_neg e]
      have : (j ∈ D.take (i + 1)) = (j ∈ D.take i) := by
        apply propext
        rw [mem_take_succ hi]
        exact ⟨fun h => h.elim id fun h => absurd h e, .inl⟩
      simp only [this]
  · rw [cnt_set, h.cnt, h.has]
    have : Bt.has l D[i] = false ∧ decide (D[i] ∈ D.take i) = false := ⟨h1.1, by simpa using not_in_take hD.sorted hi⟩
    rw [this.1, this.2]
    simp [h1.2]; omega
  · have := wit_length C D[i] true
    have := h.len
    omega
/-- With the first i of them given back. -/
structure Gave (l : List UInt8) (D : List Nat) (i : Nat) (C : List UInt8) : Prop where
  has : ∀ j, has C j = (has l j || decide (j ∈ D.drop i))
  len : C.length ≤ 40
  trm : Trimmed C
theorem Gave.start {l : List UInt8} {N : Nat} {D : List Nat} {C : List UInt8} (h : Took l N D D.length C) (ht : Trimmed C) : Gave l D 0 C :=
  ⟨fun j => by rw [h.has, List.take_length]; rfl, h.len, ht⟩
theorem Gave.next {l : List UInt8} {N : Nat} {D : List Nat} {i : Nat} {C : List UInt8} (hD : Drawn l N D) (h : Gave l D i C) (hi : i < D.length) (hN : N ≤ 255) : Gave l D (i + 1) (wit C D[i] false) := by
  have h1 := hD.free i hi
  refine ⟨fun j => ?_, ?_, wit_trimmed _ _ _⟩
  · rw [has_wit, h.has]
    have hm : j ∈ D.drop i ↔ j = D[i] ∨ j ∈ D.drop (i + 1) := by rw [List.drop_eq_getElem_cons hi, List.mem_cons]
    by_cases e : j = D[i]
    · rw [if_pos e, e, h1.1]
      have := not_in_drop hD.sorted hi
      simp [this]
    · rw [if_neg e]
      have : (j ∈ D.drop i) = (j ∈ D.drop (i + 1)) := by
        apply propext
        rw [hm]
        exact ⟨fun h => h.elim (fun h => absurd h e) id, .inr⟩
      simp only [this]
  · have := wit_length C D[i] false
    have := h.len
    omega
theorem Gave.end {l : List UInt8} {D : List Nat} {C : List UInt8} (h : Gave l D D.length C) : C = trim l :=
  trimmed_ext h.trm (trim_trimmed l) fun k => by rw [h.has, has_trim]; simp
theorem drw_parts (l : List UInt8) (N : Nat) (y : Nat) : (drwE l (N : Int) (y : Int) ≠ 0 ∧ drwE l (N : Int) (y : Int) = 66 ∧ (N : Int) - (cnt l N : Int) < (y : Int)) ∨ (drwE l (N : Int) (y : Int) = 0 ∧ drw l (N : Int) (y : Int) = (fr l N).take y ∧ ((fr l N).take y).length = y) := by
  have h := fr_cnt l N
  have h0 : ¬ ((y : Int) < 0) := by omega
  unfold drw drwE
  simp only [Int.toNat_natCast, if_neg h0]
  by_cases hy : ((fr l N).length : Int) < (y : Int)
  · left
    simp only [if_pos hy]
    exact ⟨by omega, trivial, by omega⟩
  · right
    simp only [if_neg hy]
    exact ⟨trivial, trivial, by rw [List.length_take]; omega⟩
end Bt
end Go.Proofs.YtkodjojidoigiaaDoor
