/-
  What OpsDirs' walk wants, plain (layer 13). Nothing of the program is named here.
-/
import Derived.Test.YtpbpdnjlomhkdaaGreatOFin
import Derived.Test.YtpbpdnjlomhkdaaGreatOKit
namespace Go.Proofs.YtpbpdnjlomhkdaaGreat
namespace Op
def drC (b : Bool) (n : Nat) : Cl := { cl (if b then 8 else 6) 1 1 (nmd n) with dt := [120] }
def drR (b : Bool) (n : Nat) : Rp := (step (drT b n) (drC b n)).2
def drX (k : Nat) : Cl := cl 11 1 1 (nmd k)
def drY (k : Nat) : Cl := cl 10 1 1 (nmd k)
/-- The directory's things are taken away, one by one. -/
def rdT (b : Bool) (n : Nat) : Nat → TT
  | 0 => drT b n
  | k + 1 => (step (rdT b n k) (drY k)).1
theorem nmd_len : ∀ n, n < 4 → (nmd n).length ≤ 100 := by decide
theorem drC_wide (b : Bool) {n : Nat} (h : n < 4) : (drC b n).Wide := by
  constructor <;> (cases b <;> (revert n; decide))
theorem drX_wide {n : Nat} (h : n < 4) : (drX n).Wide := by constructor <;> (revert n; decide)
theorem drY_wide {n : Nat} (h : n < 4) : (drY n).Wide := by constructor <;> (revert n; decide)
theorem dr_sound (b : Bool) : ∀ n, n < 5 → Sound (drT b n)
  | 0, _ => Sound.format.step (c := cl 7 0 1 [100]) (cl_wide (by decide) (by decide) (by decide)) (by decide) (by decide) (by decide)
  | n + 1, h => (dr_sound b n (by omega)).step (c := drC b n) (drC_wide b (by omega)) (by cases b <;> first | (show 1 ≤ 6; omega) | (show 1 ≤ 8; omega)) (by cases b <;> first | (show 6 ≤ 16; omega) | (show 8 ≤ 16; omega)) (by cases b <;> first | (show 6 ≠ 12; omega) | (show 8 ≠ 12; omega))
theorem rd_sound (b : Bool) (n : Nat) (h : n < 5) : ∀ k, k < 5 → Sound (rdT b n k)
  | 0, _ => dr_sound b n h
  | k + 1, hk => (rd_sound b n h k (by omega)).step (c := drY k) (drY_wide (by omega)) (by show 1 ≤ 10; omega) (by show 10 ≤ 16; omega) (by show 10 ≠ 12; omega)
theorem dr_r : (step (format 20) (cl 7 0 1 [100])).2.st = 0 ∧ (step (format 20) (cl 7 0 1 [100])).2.ati = 1 ∧ (step (format 20) (cl 7 0 1 [100])).2.atg = 1 := by decide +kernel
theorem rd_ok : ∀ b : Bool, ∀ n, n < 4 → ∀ k, k < n → (step (rdT b n k) (drX k)).2.st = 62 ∧ (step (rdT b n k) (drY k)).2.st = 0 := by decide +kernel
theorem rd_end : ∀ b : Bool, ∀ n, n < 4 → (step (rdT b n n) (cl 11 0 1 [100])).2.st = 0 ∧ (step (step (rdT b n n) (cl 11 0 1 [100])).1 (cl 1 1 1 [97])).2.st = 69 ∧ Vl.tot (step (rdT b n n) (cl 11 0 1 [100])).1.s = 0 := by decide +kernel
end Op
end Go.Proofs.YtpbpdnjlomhkdaaGreat
