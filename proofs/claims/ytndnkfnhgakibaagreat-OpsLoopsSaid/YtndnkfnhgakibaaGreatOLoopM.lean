/-
  What OpsLoops' walk wants, plain (layer 13).
-/
import Derived.Test.YtndnkfnhgakibaaGreatOFin2
import Derived.Test.YtndnkfnhgakibaaGreatOGood
import Derived.Test.YtndnkfnhgakibaaGreatOKit
namespace Go.Proofs.YtndnkfnhgakibaaGreat
namespace Op
def mkD (n : Nat) : Cl := cl 7 n 1 [100]
def lkE (b : Nat) : Cl := cl 1 b 1 [101]
theorem mkD_wide {n : Nat} (h : n < 100) : (mkD n).Wide := cl_wide (by decide) (by omega) (by decide)
theorem lkE_wide {n : Nat} (h : n < 100) : (lkE n).Wide := cl_wide (by decide) (by omega) (by decide)
theorem chC_wide {a b : Nat} (h : a < 100) (hb : b < 100) : (chC a b).Wide := by
  constructor <;> first | (show a < _; omega) | (show b < _; omega) | (show (0 : Nat) < _; omega) | (show (1 : Nat) < _; omega) | (show (12 : Nat) < _; omega)
theorem ch_sound : ∀ n, n < 100 → Sound (chT n)
  | 0, _ => Sound.format
  | n + 1, h => (ch_sound n (by omega)).step (c := mkD n) (mkD_wide (by omega)) (by show 1 ≤ 7; omega) (by show 7 ≤ 16; omega) (by show 7 ≠ 12; omega)
/-- A refused rename changes nothing. -/
theorem ch_refused {n a b : Nat} (hn : n < 9) (ha : a < n) (hb : b < n + 1) (hab : a < b) : (stepR (chT n) (chC a b)).1.ch = (chT n).ch := by
  have h := ch2 n hn a ha b hb
  rw [if_pos hab] at h
  have he := do_stepR (c := chC a b) (ch_sound n (by omega)).inv.may rfl h.1
  have : doT (chT n) (chC a b) = chT n := doT_refused (by rw [he.2, h.2]; decide)
  rw [← he.1, this]
end Op
/-- The handles of so many directories, one below the other. -/
def hL : Nat → List Value
  | 0 => hc 0 1
  | j + 1 => hL j ++ hc (j + 1) 1
theorem hL_len : ∀ j, (hL j).length = (j + 1) * 2
  | 0 => rfl
  | j + 1 => by rw [hL, List.length_append, hL_len j]; show _ + 2 = _; omega
theorem hL_at (i : Nat) : ∀ j, i ≤ j → (hL j)[i * 2]? = some (.int .u32 (i : Int)) ∧ (hL j)[i * 2 + 1]? = some (.int .u32 1)
  | 0, h => by
    have : i = 0 := by omega
    subst this
    exact ⟨rfl, rfl⟩
  | j + 1, h => by
    have hl := hL_len j
    by_cases e : i = j + 1
    · subst e
      rw [hL]
      refine ⟨?_, ?_⟩
      · rw [List.getElem?_append_right (by omega), hl, Nat.sub_self]
        rfl
      · rw [List.getElem?_append_right (by omega), hl, show (j + 1) * 2 + 1 - (j + 1) * 2 = 1 by omega]
        rfl
    · have := hL_at i j (by omega)
      rw [hL, List.getElem?_append_left (by omega), List.getElem?_append_left (by omega)]
      exact this
end Go.Proofs.YtndnkfnhgakibaaGreat
