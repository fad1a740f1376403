
/-
  DirNames walked (layer 8).
-/
import Derived.Test.YtjionpkflpnejaaEAwake
import Derived.Deep.DeepCutAuto
namespace Go.Proofs.Ytjionpkflpnejaa
open Go.RowKit Go.Shelf

/-- What a name must be ahead of its bytes. -/
def headOk (l : List UInt8) : Bool := decide (1 ≤ l.length) && decide (l.length ≤ 24) && !(l == [46]) && !(l == [46, 46])
theorem nameOk_head (l : List UInt8) : nameOk l = (headOk l && !parts l) := by
  rw [nameOk_eq]
  unfold headOk
  have e1 : (!decide (l.length < 1)) = decide (1 ≤ l.length) := by
    rw [← decide_not]
    exact decide_eq_decide.2 (by omega)
  have e2 : (!decide (24 < l.length)) = decide (l.length ≤ 24) := by
    rw [← decide_not]
    exact decide_eq_decide.2 (by omega)
  rw [e1, e2]
theorem parts_take (l : List UInt8) (k : Nat) (h : k < l.length) : parts (l.take (k + 1)) = (parts (l.take k) || (l[k] == 0 || l[k] == 47)) := by
  unfold parts
  rw [List.take_succ_eq_append_getElem h, List.any_append]
  simp
theorem parts_at (l : List UInt8) (k : Nat) (h : k < l.length) : ∃ x : UInt8, (∀ hk : k < (txt l).size, (txt l)[k]'hk = x) ∧ parts (l.take (k + 1)) = (parts (l.take k) || (x == 0 || x == 47)) :=
  ⟨l[k], fun _ => rfl, parts_take l k h⟩
theorem fnd_nil (nm : List UInt8) : fnd [] nm = -1 := rfl
theorem addE_nil (e : En) (h : 0 < e.ck) : addE [] e = if nameOk e.nm = true then 0 else 67 := by
  unfold addE
  cases nameOk e.nm
  · rfl
  · rw [if_neg (by simp), if_neg (by rw [fnd_nil]; omega), if_neg (by show ¬ e.ck ≤ 0; omega)]
    rfl
theorem u8_ne (b c : UInt8) (n : Int) (hc : (c.toNat : Int) = n) : (((b.toNat : Int)) != n) = !(b == c) := by
  rw [← hc]
  by_cases h : b = c
  · subst h; simp
  · have h2 : b.toNat ≠ c.toNat := fun e => h (UInt8.toNat_inj.1 e)
    have e1 : (b == c) = false := by simpa using h
    rw [e1]
    simp
    omega
end Go.Proofs.Ytjionpkflpnejaa
