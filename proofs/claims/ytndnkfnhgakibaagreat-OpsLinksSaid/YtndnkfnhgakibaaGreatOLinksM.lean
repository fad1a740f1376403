/-
  What OpsLinks' walk wants, plain (layer 13). Nothing of the program is named here.
-/
import Derived.Test.YtndnkfnhgakibaaGreatOFin
import Derived.Test.YtndnkfnhgakibaaGreatOKit
namespace Go.Proofs.YtndnkfnhgakibaaGreat
namespace Op
def lkC (n : Nat) : Cl := { cl 13 1 1 [] with toi := 0, tog := 1, tn := [108, UInt8.ofNat (97 + n)] }
def rmN (k : Nat) : List UInt8 := if k = 0 then [102] else [108, UInt8.ofNat (96 + k)]
def rmC (k : Nat) : Cl := cl 10 0 1 (rmN k)
def lkD : Cl := { cl 13 0 1 [] with toi := 0, tog := 1, tn := [122] }
theorem lkC_wide (n : Nat) : (lkC n).Wide := by constructor <;> (refine of_decide_eq_true ?_; kernel_rfl)
theorem rmC_wide (n : Nat) : (rmC n).Wide := by constructor <;> (refine of_decide_eq_true ?_; kernel_rfl)
theorem lkD_wide : lkD.Wide := by constructor <;> decide
theorem rmN_len (k : Nat) : (rmN k).length ≤ 100 := by
  unfold rmN
  split
  · show 1 ≤ 100; omega
  · show 2 ≤ 100; omega
theorem lk_sound : ∀ n, Sound (lkT n)
  | 0 => Sound.format.step (c := cl 6 0 1 [102]) (cl_wide (by decide) (by decide) (by decide)) (by decide) (by decide) (by decide)
  | n + 1 => (lk_sound n).step (c := lkC n) (lkC_wide n) (by show 1 ≤ 13; omega) (by show 13 ≤ 16; omega) (by show 13 ≠ 12; omega)
theorem rm_sound (n : Nat) : ∀ k, Sound (rmT n k)
  | 0 => lk_sound n
  | k + 1 => (rm_sound n k).step (c := rmC k) (rmC_wide k) (by show 1 ≤ 10; omega) (by show 10 ≤ 16; omega) (by show 10 ≠ 12; omega)
theorem lk_d : ∀ n, n < 8 → ∀ k, k < n + 2 → (step (rmT n k) lkD).2.st = 63 := by decide +kernel
theorem lk_r : (step (format 30) (cl 6 0 1 [102])).2.st = 0 ∧ (step (format 30) (cl 6 0 1 [102])).2.ati = 1 ∧ (step (format 30) (cl 6 0 1 [102])).2.atg = 1 := by decide +kernel
end Op
end Go.Proofs.YtndnkfnhgakibaaGreat
