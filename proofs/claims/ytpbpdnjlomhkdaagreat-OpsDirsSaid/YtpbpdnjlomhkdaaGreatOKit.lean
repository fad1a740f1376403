/-
  More on a law's variables (layer 13).
-/
import Derived.Test.YtpbpdnjlomhkdaaGreatOAwake
import Derived.Test.YtpbpdnjlomhkdaaGreatOPA
namespace Go.Proofs.YtpbpdnjlomhkdaaGreat
open Go.RowKit Go.Shelf
theorem VT.left {w0 W : World} {vs us : List (Nat × Vr)} (h : VT w0 W (vs ++ us)) : VT w0 W vs := by
  have hat : ∀ (i : Nat) x, vs[i]? = some x → (vs ++ us)[i]? = some x := fun i x hi => by
    have := (List.getElem?_eq_some_iff.1 hi).1
    rw [List.getElem?_append_left this]
    exact hi
  exact ⟨h.bel, fun i g v hi => h.var i g v (hat i _ hi), fun i j g u v hi hj => h.dis i j g u v (hat i _ hi) (hat j _ hj)⟩
theorem Op.Sound.step {t : Op.TT} {c : Cl} (h : Op.Sound t) (hw : c.Wide) (h1 : 1 ≤ c.op) (h2 : c.op ≤ 16) (h3 : c.op ≠ 12) : Op.Sound (Op.step t c).1 := by
  rw [← (Op.do_step h.inv.may h1 h2 h3).1]
  exact h.doT hw
theorem e108 : Value.int .u8 108 = Value.int .u8 (((108 : UInt8).toNat : Nat) : Int) := congrArg (Value.int .u8) (by decide)
theorem e102 : Value.int .u8 102 = Value.int .u8 (((102 : UInt8).toNat : Nat) : Int) := congrArg (Value.int .u8) (by decide)
theorem e101 : Value.int .u8 101 = Value.int .u8 (((101 : UInt8).toNat : Nat) : Int) := congrArg (Value.int .u8) (by decide)
theorem txt_self (l : List UInt8) : (txt l == txt l) = true := by
  show ((txt l).data == (txt l).data) = true
  simp
theorem txt_ne {a b : List UInt8} (h : a ≠ b) : (txt a == txt b) = false := by
  refine Bool.eq_false_iff.2 fun e => ?_
  have e1 : ((txt a).data == (txt b).data) = true := e
  have e2 := congrArg ByteArray.toList (show txt a = txt b from ByteArray.ext (by simpa using e1))
  rw [txt_toList, txt_toList] at e2
  exact h e2
end Go.Proofs.YtpbpdnjlomhkdaaGreat
