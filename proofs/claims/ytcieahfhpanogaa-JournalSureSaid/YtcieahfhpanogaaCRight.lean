/-
  Contract of layer 2: Right.
-/
import Derived.Test.YtcieahfhpanogaaCSeal
namespace Go.Proofs.Ytcieahfhpanogaa
open Go.RowKit

theorem num_sum (N : BitVec 32) (q : List UInt8) (hq : q.length = 4) : decide ((num q : Int) = (N.toNat : Int)) = decide (be 4 N.toNat = q) := by
  rw [decide_eq_decide]
  have hN := N.isLt
  constructor
  · intro h
    have h2 : num q = N.toNat := by omega
    rw [← h2, ← hq, be_num]
  · intro h
    rw [← h, num_be4 _ (by omega)]
theorem right_eq (l : List UInt8) (h : 4 ≤ l.length) : right l = decide ((num (l.drop (l.length - 4)) : Int) = ((sum (l.take (l.length - 4))).toNat : Int)) := by
  rw [num_sum _ _ (by rw [List.length_drop]; omega)]
  unfold right
  rw [decide_eq_true h, Bool.true_and, decide_eq_decide]
  unfold sealed
  conv => lhs; rhs; rw [← List.take_append_drop (l.length - 4) l]
  constructor
  · intro h
    exact List.append_cancel_left h
  · intro h
    rw [h]

/-- What Right leans on, in each world on its way. -/
def RInv (w : World) (A : Option Addr) (n : Nat) (l : List UInt8) (W : World) : Prop := Below w.heap.size w W ∧ BS W A n l
theorem RInv.step {w W W' : World} {A : Option Addr} {n : Nat} {l : List UInt8} (h : RInv w A n l W) (hb : Below W.heap.size W W') : RInv w A n l W' := ⟨h.1.trans (hb.mono h.1.size), h.2.below hb⟩
theorem RInv.drew {w W : World} {A : Option Addr} {n : Nat} {l : List UInt8} (h : RInv w A n l W) : RInv w A n l W.drew := ⟨h.1.drew, h.2.drew⟩

theorem number_at (w W : World) (b o n c : Nat) (l : List UInt8) (h : RInv w (some ⟨b, o, none⟩) n l W) (h4 : 4 ≤ n) (hnc : n ≤ c) :
    Calls Try.prog 78 #[.slice (some ⟨b, o + (n - 4), none⟩) (n - (n - 4)) (c - (n - 4))] W fun e w' => e = .returned (.int .u32 (num (l.drop (n - 4)) : Int)) ∧ W = w' := by
  have e : n - (n - 4) = 4 := by omega
  have hd := h.2.drop (k := n - 4) (c := c) (by omega) hnc
  rw [if_neg (by omega), e] at hd
  rw [e]
  have ha : Option.map (fun x => Addr.add x (n - 4)) (some (⟨b, o, none⟩ : Addr)) = some ⟨b, o + (n - 4), none⟩ := by rw [Option.map_some, add_plain]
  rw [ha] at hd
  exact number_any _ _ _ W hd
theorem of_at (w W : World) (A : Option Addr) (n c k : Nat) (l : List UInt8) (h : RInv w A n l W) (hk : k ≤ n) (hn : n ≤ 3000000) :
    Calls Try.prog 77 #[.slice A k c] W fun e w' => e = .returned (.int .u32 ((sum (l.take k)).toNat : Int)) ∧ RInv w A n l w' :=
  (of_any A k c (l.take k) W (h.2.take hk) (by omega)).mono fun _ _ ⟨h1, h2⟩ => ⟨h1, h.step h2⟩

set_option maxRecDepth 100000 in
set_option maxHeartbeats 2000000 in
theorem right_any (A : Option Addr) (n c : Nat) (l : List UInt8) (w : World) (h : BS w A n l) (hn : n ≤ 3000000) (hnc : n ≤ c) :
    Calls Try.prog 63 #[.slice A n c] w fun e w' => e = .returned (.bool (right l)) ∧ Below w.heap.size w w' := by
  by_cases h4 : n < 4
  · have HR : Hid (right l = false) := right_short l (by rw [h.1]; exact h4)
    clear h
    go_enter Try.func63, Try.ntmps63
    have hd : decide ((n : Int) - 4 < 0) = true := by simp; omega
    go_wp2
    go_ret
    exact ⟨by rw [HR.out]; rfl, Below.refl _ _⟩
  · have HE : Hid ((((num (l.drop (n - 4)) : Nat) : Int) == ((sum (l.take (n - 4))).toNat : Int)) = right l) := by
      have := right_eq l (by rw [h.1]; omega)
      rw [h.1] at this
      show _ = _
      rw [this, Bool.eq_iff_iff]
      simp
    have HI : Hid (RInv w A n l w.drew) := RInv.drew ⟨Below.refl _ _, h⟩
    obtain ⟨b, o, rfl, hcs⟩ := h.2 (by omega)
    clear h hcs
    go_enter Try.func63, Try.ntmps63
    have hd : decide ((n : Int) - 4 < 0) = false := by simp; omega
    go_wp2_with fail
    go_region_with
      (first
        | (go_at_call 78
           refine (number_at w _ b o n c l (Hid.out (p := RInv w (some ⟨b, o, none⟩) n l _) (by assumption)) (by omega) hnc).mono ?_
           rintro e w' ⟨rfl, rfl⟩)
        | (go_at_call 77
           refine (of_at w _ (some ⟨b, o, none⟩) n c (n - 4) l (Hid.out (p := RInv w (some ⟨b, o, none⟩) n l _) (by assumption)) (by omega) hn).mono ?_
           rintro e w5 ⟨rfl, h5⟩
           have I5 := Lib.hid h5
           clear h5))
    all_goals
      go_wp2_with fail
      go_ret
      exact ⟨congrArg (fun b => Ending.returned (Value.bool b)) HE.out, I5.out.1⟩
end Go.Proofs.Ytcieahfhpanogaa
