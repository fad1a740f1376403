/-
  The document's answers for layer 6: Has, Count, Same.
-/
import Derived.Test.YtkodjojidoigiaaDoorBCount
import Derived.Test.YtkodjojidoigiaaDoorBDraw
import Derived.IntWalk
namespace Go.Proofs.YtkodjojidoigiaaDoor
open Go.RowKit

/-- A byte halved k times. -/
theorem halved (b : UInt8) (k : Nat) : (b.toNat / 2 ^ k % 2 = 1) = (b.toNat.testBit k = true) := by
  rw [Nat.testBit_eq_decide_div_mod_eq]
  simp
theorem txt_at (l : List UInt8) (k : Nat) (h : k < l.length) : (txt l)[k]'(by rw [txt_size]; exact h) = l[k] := rfl

set_option maxRecDepth 100000 in
set_option maxHeartbeats 1000000 in
theorem refHas_any (l : List UInt8) (i : Int) (w : World) (hi : i ≤ 1000000000) (hl : l.length ≤ 1000000) :
    Calls Tryd.prog 12 #[.string (txt l), .int .i64 i] w fun e w' => e = .returned (.bool (Bt.hasI l i)) ∧ w = w' := by
  by_cases h0 : 0 ≤ i
  · obtain ⟨k, rfl⟩ := Int.eq_ofNat_of_zero_le h0
    have HE := Lib.hid (Bt.hasI_nat l k)
    have hs := txt_size l
    by_cases hk : k / 8 < l.length
    · have HX : Hid (Bt.has l k = (l[k / 8].toNat / 2 ^ (7 - k % 8) % 2 == 1)) := by
        show _ = _
        unfold Bt.has
        rw [List.getD_eq_getElem?_getD, List.getElem?_eq_getElem hk, Option.getD_some, Nat.testBit_eq_decide_div_mod_eq]
        rfl
      have hd : (k : Int) / 8 < ((txt l).size : Int) := by rw [hs]; omega
      have hd2 : decide ((k : Int) < 0) = false := by simp
      have HSZ := Lib.hid hs
      clear hs
      have HTX := Lib.hid (txt_at l (k / 8) hk)
      have hby := ((txt l)[k / 8]'(by rw [txt_size]; exact hk)).toNat_lt
      have H0 : Hid ((k : Int) % 8 = ((k % 8 : Nat) : Int)) := by show _ = _; omega
      go_enter Tryd.func12, Tryd.ntmps12
      go_wp2_with fail
      rw [H0.out]
      have HB : Hid (((txt l)[k / 8]'(by rw [txt_size]; exact hk)).toNat = l[k / 8].toNat) := by show _ = _; rw [HTX.out]
      rw [HB.out]
      have hb2 : l[k / 8].toNat < 256 := l[k / 8].toNat_lt
      clear hby HTX HB
      generalize l[k / 8].toNat = b at *
      go_loop [5, 6] (fun x i => ∃ j : Nat, k % 8 ≤ j ∧ j ≤ 7 ∧ i = .int .i64 j ∧ x = .int .i64 ((b / 2 ^ (j - k % 8) : Nat) : Int)) (fun _ i => 7 - (intOf i).toNat)
      case atStart => exact ⟨k % 8, Nat.le_refl _, by omega, rfl, by simp⟩
      case round =>
        obtain ⟨j, hj1, hj2, rfl, rfl⟩ := hrel
        have hq : b / 2 ^ (j - k % 8) < 256 := Nat.lt_of_le_of_lt (Nat.div_le_self _ _) hb2
        by_cases hlt : j < 7
        · have HS : Hid (b / 2 ^ (j + 1 - k % 8) = b / 2 ^ (j - k % 8) / 2) := by
            show _ = _
            rw [show j + 1 - k % 8 = (j - k % 8) + 1 by omega, Nat.pow_succ, Nat.div_div_eq_div_mul]
          generalize b / 2 ^ (j - k % 8) = q at *
          go_wp2
          go_round
          case rel => exact ⟨j + 1, by omega, by omega, by go_num, by rw [HS.out]; simp⟩
          case measure => simp [intOf]; omega
        · have hj7 : j = 7 := by omega
          subst hj7
          generalize b / 2 ^ (7 - k % 8) = q at *
          have HQ : Hid (((q : Int) % 2 == 1) = (q % 2 == 1)) := by
            show _ = _
            rw [Bool.eq_iff_iff]
            simp; omega
          go_wp2
          rw [HQ.out, ← HX.out, ← HE.out]
          go_ret
          exact ⟨rfl, rfl⟩
    · have HX : Hid (Bt.hasI l (k : Int) = false) := by show _ = _; rw [HE.out]; exact Bt.has_out (by omega)
      have hd : ((txt l).size : Int) ≤ (k : Int) / 8 := by rw [hs]; omega
      have hd2 : decide ((k : Int) < 0) = false := by simp
      clear hs
      go_enter Tryd.func12, Tryd.ntmps12
      go_wp2
      rw [HX.out]
      go_ret
      exact ⟨rfl, rfl⟩
  · have HX := Lib.hid (Bt.hasI_neg l (by omega : i < 0))
    have hd : decide (i < 0) = true := by simp; omega
    go_enter Tryd.func12, Tryd.ntmps12
    go_wp2
    rw [HX.out]
    go_ret
    exact ⟨rfl, rfl⟩
end Go.Proofs.YtkodjojidoigiaaDoor
