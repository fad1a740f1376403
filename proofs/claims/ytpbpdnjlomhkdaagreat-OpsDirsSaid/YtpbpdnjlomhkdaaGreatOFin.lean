/-
  The laws of few inputs, reckoned (layer 13): links, directories, renames of files. Nothing of the program is named here.
-/
import Derived.Test.YtpbpdnjlomhkdaaGreatOPA
namespace Go.Proofs.YtpbpdnjlomhkdaaGreat
namespace Op
/-- Named: some names. -/
def nmd (k : Nat) : List UInt8 := [[97], [98], [99], [100, 100]].getD k []
/-! Links: a file, n links to it, k names of it removed. -/
def lkT : Nat → TT
  | 0 => (step (format 30) (cl 6 0 1 [102])).1
  | n + 1 => (step (lkT n) { cl 13 1 1 [] with toi := 0, tog := 1, tn := [108, UInt8.ofNat (97 + n)] }).1
def lkR (n : Nat) : Rp := (step (lkT n) { cl 13 1 1 [] with toi := 0, tog := 1, tn := [108, UInt8.ofNat (97 + n)] }).2
theorem lk_ok : ∀ n, n < 7 → (lkR n).st = 0 ∧ (lkR n).ati = 1 ∧ (lkR n).atg = 1 ∧ (lkR n).ln = n + 2 := by decide +kernel
def rmT (n : Nat) : Nat → TT
  | 0 => lkT n
  | k + 1 => (step (rmT n k) (cl 10 0 1 (if k = 0 then [102] else [108, UInt8.ofNat (96 + k)]))).1
def rmR (n k : Nat) : Rp := (step (rmT n k) (cl 10 0 1 (if k = 0 then [102] else [108, UInt8.ofNat (96 + k)]))).2
theorem rm_ok : ∀ n, n < 8 → ∀ k, k < n + 1 → (rmR n k).st = 0 ∧ (rmR n k).ati = 0 ∧ (rmR n k).atg = 1 := by decide +kernel
def rmG (n k : Nat) : Rp := (step (rmT n k) (cl 2 1 1 [])).2
theorem rm_get : ∀ n, n < 8 → ∀ k, k < n + 2 → (if k = n + 1 then (rmG n k).st = 69 else (rmG n k).st = 0 ∧ (rmG n k).ln = n + 1 - k) := by decide +kernel
/-! Directories: one with n things in it. -/
def drT (b : Bool) : Nat → TT
  | 0 => (step (format 20) (cl 7 0 1 [100])).1
  | n + 1 => (step (drT b n) { cl (if b then 8 else 6) 1 1 (nmd n) with dt := [120] }).1
theorem dr_ok : ∀ b : Bool, ∀ n, n < 4 → (step (drT b n) (cl 10 0 1 [100])).2.st = 63 ∧ (if n = 0 then (step (drT b n) (cl 11 0 1 [100])).2.st = 0 else (step (drT b n) (cl 11 0 1 [100])).2.st = 68) := by decide +kernel
end Op
end Go.Proofs.YtpbpdnjlomhkdaaGreat
