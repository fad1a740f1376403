
/-
  Transactions, plain: blocks as they were, what was put, what changes (layer 10). Nothing of the program is named here.
-/
import Derived.Test.YtjionpkflpnejaaBase
namespace Go.Proofs.Ytjionpkflpnejaa

/-- A transaction: the blocks as they were, and what was put. -/
structure TX where
  l : List (List UInt8)
  p : Nat → Option (List UInt8)
namespace TX
def new (l : List (List UInt8)) : TX := ⟨l, fun _ => none⟩
def was (X : TX) (i : Nat) : List UInt8 := X.l.getD i []
def get (X : TX) (i : Nat) : List UInt8 := (X.p i).getD (X.was i)
def put (X : TX) (i : Nat) (b : List UInt8) : TX := { X with p := fun j => if j = i then some b else X.p j }
def take (X Y : TX) : TX := { X with p := Y.p }
/-- Does block i change? -/
def chg (X : TX) (i : Nat) : Bool := decide (X.get i ≠ X.was i)
/-- The changes of the first k blocks. -/
def chs (X : TX) : Nat → List (Nat × List UInt8)
  | 0 => []
  | k + 1 => X.chs k ++ if X.chg k then [(k, X.get k)] else []
theorem chs_yes {X : TX} {k : Nat} (h : X.chg k = true) : X.chs (k + 1) = X.chs k ++ [(k, X.get k)] := by simp [chs, h]
theorem chs_no {X : TX} {k : Nat} (h : X.chg k = false) : X.chs (k + 1) = X.chs k := by simp [chs, h]
theorem chs_len (X : TX) : ∀ k, (X.chs k).length ≤ k
  | 0 => Nat.le_refl _
  | k + 1 => by
    have := chs_len X k
    cases h : X.chg k
    · rw [chs_no h]; omega
    · rw [chs_yes h, List.length_append]; simp; omega
theorem chg_of {X : TX} {i : Nat} {b : List UInt8} (h : X.p i = some b) : X.chg i = decide (b ≠ X.was i) := by simp [chg, get, h]
theorem chg_none {X : TX} {i : Nat} (h : X.p i = none) : X.chg i = false := by simp [chg, get, h]
theorem get_of {X : TX} {i : Nat} {b : List UInt8} (h : X.p i = some b) : X.get i = b := by simp [get, h]
theorem get_none {X : TX} {i : Nat} (h : X.p i = none) : X.get i = X.was i := by simp [get, h]
theorem get_put (X : TX) (i j : Nat) (b : List UInt8) : (X.put i b).get j = if j = i then b else X.get j := by
  unfold get put
  by_cases h : j = i
  · simp [h]
  · simp [h, was]
theorem was_put (X : TX) (i j : Nat) (b : List UInt8) : (X.put i b).was j = X.was j := rfl
theorem get_new (l : List (List UInt8)) (j : Nat) : (new l).get j = (new l).was j := rfl
/-- Two of the same blocks that have the same puts are the same. -/
theorem chs_congr {X Y : TX} (h : ∀ i, X.chg i = Y.chg i) (hg : ∀ i, X.get i = Y.get i) : ∀ k, X.chs k = Y.chs k
  | 0 => rfl
  | k + 1 => by simp only [chs, chs_congr h hg k, h k, hg k]
/-- All that changes, as it is told, is at its place. -/
theorem chs_at (X : TX) : ∀ (k : Nat) (j : Nat), j < k → X.chg j = true → (X.chs k)[(X.chs j).length]? = some (j, X.get j)
  | 0, j, h, _ => absurd h (Nat.not_lt_zero _)
  | k + 1, j, h, hc => by
    by_cases e : j = k
    · subst e
      rw [chs_yes hc, List.getElem?_append_right (Nat.le_refl _)]
      simp
    · have ih := chs_at X k j (by omega) hc
      have hl := (List.getElem?_eq_some_iff.1 ih).1
      cases hk : X.chg k
      · rw [chs_no hk]; exact ih
      · rw [chs_yes hk, List.getElem?_append_left hl]; exact ih
end TX
end Go.Proofs.Ytjionpkflpnejaa
