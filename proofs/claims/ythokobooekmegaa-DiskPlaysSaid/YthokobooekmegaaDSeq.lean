/-
  Writes one behind the other, plain: what is there behind them, and behind a crash.
-/
import Derived.Test.YthokobooekmegaaDPicks
namespace Go.Proofs.Ythokobooekmegaa
open Go.RowKit

/-- The first k writes of a row. -/
def wrs (g : Nat → Int × List UInt8) (k : Nat) : List (Int × List UInt8) := (List.range k).map g
theorem wrs_len (g : Nat → Int × List UInt8) (k : Nat) : (wrs g k).length = k := by simp [wrs]
theorem wrs_succ (g : Nat → Int × List UInt8) (k : Nat) : wrs g (k + 1) = wrs g k ++ [g k] := by simp [wrs, List.range_succ]
theorem wrs_get {g : Nat → Int × List UInt8} {k j : Nat} (h : j < k) : (wrs g k)[j]? = some (g j) := by simp [wrs, h]
/-- A disk that never stops, with such writes. -/
def sG (n : Nat) (F : Int → List UInt8) (g : Nat → Int × List UInt8) (k : Nat) : DS := ⟨n, F, wrs g k, -1, false⟩
theorem sG_push (n : Nat) (F : Int → List UInt8) (g : Nat → Int × List UInt8) (k : Nat) : (sG n F g k).count.push (g k).1 (g k).2 = sG n F g (k + 1) := by
  rw [DS.count_left rfl]
  unfold DS.push sG
  rw [wrs_succ]
theorem sG_flush (n : Nat) (F : Int → List UInt8) (g g' : Nat → Int × List UInt8) (k : Nat) : (sG n F g k).count.flushed = sG n (sG n F g k).read g' 0 := by
  rw [DS.count_left rfl]
  rfl
theorem rd_wrs (g : Nat → Int × List UInt8) (hg : ∀ j, (g j).1 = (j : Int)) (i : Nat) (d : List UInt8) : ∀ k, rd (wrs g k) (i : Int) d = if i < k then (g i).2 else d
  | 0 => by simp [wrs, rd]
  | k + 1 => by
    rw [wrs_succ, rd_snoc, rd_wrs g hg i d k, hg]
    by_cases e : k = i
    · subst e; simp
    · rw [if_neg (by omega)]
      by_cases h : i < k
      · rw [if_pos h, if_pos (by omega)]
      · rw [if_neg h, if_neg (by omega)]
theorem rd_cases (l : List (Int × List UInt8)) (i : Int) (d : List UInt8) : rd l i d = d ∨ ∃ x ∈ l, x.1 = i ∧ rd l i d = x.2 := by
  induction l generalizing d with
  | nil => exact .inl rfl
  | cons y l ih =>
    have e : rd (y :: l) i d = rd l i (if y.1 = i then y.2 else d) := rfl
    rw [e]
    rcases ih (if y.1 = i then y.2 else d) with h | ⟨x, hx, h1, h2⟩
    · by_cases hy : y.1 = i
      · rw [if_pos hy] at h ⊢
        exact .inr ⟨y, by simp, hy, h⟩
      · rw [if_neg hy] at h ⊢
        exact .inl h
    · exact .inr ⟨x, by simp [hx], h1, h2⟩
theorem cho_mem {L : List UInt8} {l : List (Int × List UInt8)} {x : Int × List UInt8} : ∀ {k : Nat}, x ∈ cho L l k → ∃ j, j < k ∧ bit L j = true ∧ l[j]? = some x
  | 0, h => by cases h
  | k + 1, h => by
    simp only [cho, List.mem_append] at h
    rcases h with h | h
    · obtain ⟨j, h1, h2, h3⟩ := cho_mem h
      exact ⟨j, by omega, h2, h3⟩
    · split at h
      · rename_i hb
        exact ⟨k, by omega, hb, by simpa using h⟩
      · cases h
/-- What a sector is behind a crash. -/
theorem crash_read (n : Nat) (F : Int → List UInt8) (g : Nat → Int × List UInt8) (m : Nat) (P : List UInt8) (i : Int) :
    ((sG n F g m).crashed P).read i = F i ∨ ∃ k, k < m ∧ bit P k = true ∧ (g k).1 = i ∧ ((sG n F g m).crashed P).read i = (g k).2 := by
  show rd (cho P (wrs g m) (wrs g m).length) i (F i) = F i ∨ ∃ k, k < m ∧ bit P k = true ∧ (g k).1 = i ∧ rd (cho P (wrs g m) (wrs g m).length) i (F i) = (g k).2
  rw [wrs_len]
  rcases rd_cases (cho P (wrs g m) m) i (F i) with h | ⟨x, hx, h1, h2⟩
  · exact .inl h
  · obtain ⟨k, hk, hb, he⟩ := cho_mem hx
    rw [wrs_get hk] at he
    injection he with he
    subst he
    exact .inr ⟨k, hk, hb, h1, h2⟩
end Go.Proofs.Ythokobooekmegaa
