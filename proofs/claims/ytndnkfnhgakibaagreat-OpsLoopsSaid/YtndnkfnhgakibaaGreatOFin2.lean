/-
  The laws of few inputs, reckoned (layer 13): renames of files, of directories. Nothing of the program is named here.
-/
import Derived.Test.YtndnkfnhgakibaaGreatOPA
import Derived.Test.YtndnkfnhgakibaaGreatOFin
namespace Go.Proofs.YtndnkfnhgakibaaGreat
namespace Op
def rnT1 (a : Nat) : TT := (step (format 20) (cl 6 0 1 (nmd a))).1
def rnR1 (a : Nat) : Rp := (step (format 20) (cl 6 0 1 (nmd a))).2
def rnT2 (a : Nat) : TT := (step (rnT1 a) { cl 5 1 1 [] with dt := [111, 110, 101] }).1
def rnT3 (a b : Nat) : TT := (step (rnT2 a) (cl 6 0 1 (nmd b))).1
def rnR3 (a b : Nat) : Rp := (step (rnT2 a) (cl 6 0 1 (nmd b))).2
def rnS (a b : Nat) (th : Bool) : TT := if th && decide (a ≠ b) then rnT3 a b else rnT2 a
def rnC (a b : Nat) : Cl := { cl 12 0 1 (nmd a) with toi := 0, tog := 1, tn := nmd b }
def rnT4 (a b : Nat) (th : Bool) : TT := (stepR (rnS a b th) (rnC a b)).1
def rnR4 (a b : Nat) (th : Bool) : Rp := (stepR (rnS a b th) (rnC a b)).2
theorem rn1 : ∀ a, a < 4 → (rnR1 a).st = 0 ∧ (rnR1 a).ati = 1 ∧ (rnR1 a).atg = 1 := by decide +kernel
theorem rn3 : ∀ a, a < 4 → ∀ b, b < 4 → a ≠ b → (rnR3 a b).st = 0 ∧ (rnR3 a b).ati = 2 ∧ (rnR3 a b).atg = 1 := by decide +kernel
theorem rn4 : ∀ a, a < 4 → ∀ b, b < 4 → ∀ th : Bool, plainB (rnS a b th) (rnC a b) = true ∧ (rnR4 a b th).st = 0 := by decide +kernel
theorem rn5 : ∀ a, a < 4 → ∀ b, b < 4 → ∀ th : Bool, (step (rnT4 a b th) (cl 1 0 1 (nmd b))).2.st = 0 ∧ (step (rnT4 a b th) (cl 1 0 1 (nmd b))).2.ati = 1 ∧ (step (rnT4 a b th) (cl 1 0 1 (nmd b))).2.atg = 1 ∧ ((step (rnT4 a b th) (cl 1 0 1 (nmd a))).2.st = 0 ↔ a = b) ∧ (step (rnT4 a b th) { cl 4 1 1 [] with cnt := 9 }).2.dt = [111, 110, 101] := by decide +kernel
theorem rn6 : ∀ a, a < 4 → ∀ b, b < 4 → a ≠ b → (step (rnT4 a b true) (cl 2 2 1 [])).2.st = 69 := by decide +kernel
/-! A chain of directories. -/
def chT : Nat → TT
  | 0 => format 40
  | n + 1 => (step (chT n) (cl 7 n 1 [100])).1
def chR (n : Nat) : Rp := (step (chT n) (cl 7 n 1 [100])).2
theorem ch1 : ∀ n, n < 8 → (chR n).st = 0 ∧ (chR n).ati = n + 1 ∧ (chR n).atg = 1 := by decide +kernel
def chC (a b : Nat) : Cl := { cl 12 a 1 [100] with toi := b, tog := 1, tn := [101] }
theorem ch2 : ∀ n, n < 9 → ∀ a, a < n → ∀ b, b < n + 1 → plainB (chT n) (chC a b) = true ∧ (if a < b then (stepR (chT n) (chC a b)).2.st = 64 else (stepR (chT n) (chC a b)).2.st = 0 ∧ (step (stepR (chT n) (chC a b)).1 (cl 1 b 1 [101])).2.ati = a + 1 ∧ (step (stepR (chT n) (chC a b)).1 (cl 1 b 1 [101])).2.atg = 1) := by decide +kernel
end Op
end Go.Proofs.YtndnkfnhgakibaaGreat
