/-
  The walk of CrcSealed: what is sealed twice is right, and so is what is ahead of its last four bytes; fewer than four bytes aren't: the law's function returns true for every input.
-/
import Derived.Test.YtlnnokjkohcdnaaCAwake
import Derived.Deep.QuietTactic
import Derived.BigQuiet
namespace Go.Proofs.Ytlnnokjkohcdnaa
open Go.RowKit

theorem sealed_take (l : List UInt8) (n : Nat) (h : l.length = n) : (sealed l).take n = l := by
  subst h
  unfold sealed
  rw [List.take_append_of_le_length (Nat.le_refl _), List.take_of_length_le (Nat.le_refl _)]

set_option maxRecDepth 100000 in
set_option maxHeartbeats 4000000 in
theorem sealed_walk (A : Option Addr) (n c : Nat) (l : List UInt8) (w : World) (hb : BS w A n l) (hnc : n ≤ c) :
    Calls Try.prog 6 #[.slice A n c] w fun e w' => e = .returned (.bool true) ∧ Below w.heap.size w w' := by
  have HA := Lib.hid (awake_any w)
  have HB := Lib.hid hb
  have Hn : Hid (l.length = n) := hb.1
  clear hb
  by_cases h300 : 300 < n
  · go_enter Try.func6, Try.ntmps6
    have hd : decide ((300 : Int) < (n : Int)) = true := by simp; omega
    go_wp2_with fail
    refine HA.out.mono ?_
    rintro e w1 ⟨rfl, hw1⟩
    have HW1 := Lib.hid hw1
    clear hw1
    go_wp2_with fail
    go_ret
    exact ⟨rfl, HW1.out⟩
  · go_enter Try.func6, Try.ntmps6
    have hd : decide ((300 : Int) < (n : Int)) = false := by simp; omega
    go_wp2_with fail
    refine HA.out.mono ?_
    rintro e w1 ⟨rfl, hw1⟩
    have HW1 := Lib.hid hw1
    clear hw1
    go_wp2_with fail
    refine (sealed_any A n c l w1 (HB.out.below HW1.out) (by omega)).mono ?_
    rintro e w2 ⟨A2, c2, rfl, ho⟩
    have HW2 := Lib.hid (HW1.out.trans (ho.2.mono HW1.out.size))
    have HS := Lib.hid ho.bs
    clear ho HW1
    go_wp2_with fail
    refine (sealed_any A2 (n + 4) c2 (sealed l) w2 HS.out (by omega)).mono ?_
    rintro e w3 ⟨A3, c3, rfl, ho⟩
    have HW3 := Lib.hid (HW2.out.trans (ho.2.mono HW2.out.size))
    have HS3 := Lib.hid ho.bs
    have hc3 := ho.cap
    clear ho HW2 HS
    go_wp2_with fail
    refine (right_any A3 (n + 4 + 4) c3 (sealed (sealed l)) w3 HS3.out (by omega) hc3).mono ?_
    rw [right_sealed]
    rintro e w4 ⟨rfl, hb4⟩
    have HW4 := Lib.hid (HW3.out.trans (hb4.mono HW3.out.size))
    have HS4 := Lib.hid (HS3.out.below hb4)
    clear hb4 HW3 HS3
    go_wp2_with fail
    have HT : Hid (BS w4 A3 (n + 4) (sealed l)) := by
      have := HS4.out.take (k := n + 4) (by omega)
      rw [sealed_take (sealed l) (n + 4) (by rw [sealed_length, Hn.out])] at this
      exact this
    refine (right_any A3 (n + 4) c3 (sealed l) w4 HT.out (by omega) (by omega)).mono ?_
    rw [right_sealed]
    rintro e w5 ⟨rfl, hb5⟩
    have HW5 := Lib.hid (HW4.out.trans (hb5.mono HW4.out.size))
    have HS5 := Lib.hid (HT.out.below hb5)
    clear hb5 HW4 HS4 HT
    have HC5 : Hid (BS w5 A3 n l) := by
      have := HS5.out.take (k := n) (by omega)
      rw [sealed_take l n Hn.out] at this
      exact this
    clear HS5
    have d8 : (((n : Int) + 4 + 4) == ((n : Int) + 8)) = true := by rw [beq_iff_eq]; omega
    have d9 : (n : Int) ≤ (c3 : Int) := by omega
    by_cases h4 : n < 4
    · have hd4 : decide ((n : Int) < 4) = true := by simp; omega
      go_wp2_with fail
      refine (right_any A n c l w5 (HB.out.below HW5.out) (by omega) hnc).mono ?_
      rw [right_short l (by rw [Hn.out]; exact h4)]
      rintro e w6 ⟨rfl, hb6⟩
      have HW6 := Lib.hid (HW5.out.trans (hb6.mono HW5.out.size))
      have HC6 := Lib.hid (HC5.out.below hb6)
      clear hb6 HW5 HC5
      have v1 : ∀ nq, (convert 23 9 (.slice A n c)).run Try.prog (w6.drewN nq) = .ok (.string (txt l)) (w6.drewN nq) := fun nq => run_convert_bs (w6.drewN nq) A n c l ((HB.out.below HW6.out).drewN nq)
      have v2 : ∀ nq, (convert 23 9 (.slice A3 n c3)).run Try.prog (w6.drewN nq) = .ok (.string (txt l)) (w6.drewN nq) := fun nq => run_convert_bs (w6.drewN nq) A3 n c3 l HC6.out
      go_wp2_with fail
      go_quiet (fail)
      go_wp2_with fail
      go_ret
      exact ⟨rfl, ((Keep.of_below HW6.out).drewN _).below⟩
    · have hd4 : decide ((n : Int) < 4) = false := by simp; omega
      have v1 : ∀ nq, (convert 23 9 (.slice A n c)).run Try.prog (w5.drewN nq) = .ok (.string (txt l)) (w5.drewN nq) := fun nq => run_convert_bs (w5.drewN nq) A n c l ((HB.out.below HW5.out).drewN nq)
      have v2 : ∀ nq, (convert 23 9 (.slice A3 n c3)).run Try.prog (w5.drewN nq) = .ok (.string (txt l)) (w5.drewN nq) := fun nq => run_convert_bs (w5.drewN nq) A3 n c3 l HC5.out
      go_wp2_with fail
      go_quiet (fail)
      go_wp2_with fail
      go_ret
      exact ⟨rfl, ((Keep.of_below HW5.out).drewN _).below⟩
end Go.Proofs.Ytlnnokjkohcdnaa
