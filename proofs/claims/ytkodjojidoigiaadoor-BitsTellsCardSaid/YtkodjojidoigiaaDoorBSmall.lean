/-
  Contracts of bits' height and Has (layer 6).
-/
import Derived.Test.YtkodjojidoigiaaDoorBMath
import Derived.Test.YtkodjojidoigiaaDoorBytes
import Derived.Test.YtkodjojidoigiaaDoorDMem
import Derived.BigQuiet
import Derived.Deep.QuietTactic
import Derived.Deep.DeepCutAuto
namespace Go.Proofs.YtkodjojidoigiaaDoor
open Go.RowKit

set_option maxHeartbeats 400000 in
theorem height_any (i : Nat) (w : World) (hi : i ≤ 1000000000) : Calls Tryd.prog 19 #[.int .i64 (i : Int)] w fun e w' => e = .returned (.int .i64 ((7 - i % 8 : Nat) : Int)) ∧ w = w' := by
  have H : Hid ((7 : Int) - (i : Int) % 8 = ((7 - i % 8 : Nat) : Int)) := by show _ = _; omega
  go_enter Tryd.func19, Tryd.ntmps19
  go_wp2
  go_ret
  exact ⟨ret_int H.out, rfl⟩

theorem and_one_u8 : ∀ x : Fin 256, Go.bits BinOp.and IntKind.u8 (x.1 : Int) 1 = ((x.1 % 2 : Nat) : Int) := by decide +kernel
theorem bit_and (b : UInt8) (k : Nat) : (Go.bits BinOp.and IntKind.u8 ((b.toNat : Int) / 2 ^ k) 1 == 1) = b.toNat.testBit k := by
  have h : b.toNat / 2 ^ k < 256 := Nat.lt_of_le_of_lt (Nat.div_le_self _ _) b.toNat_lt
  have e : ((b.toNat : Int) / 2 ^ k) = ((b.toNat / 2 ^ k : Nat) : Int) := by simp
  rw [e, and_one_u8 ⟨b.toNat / 2 ^ k, h⟩, Nat.testBit_eq_decide_div_mod_eq]
  generalize b.toNat / 2 ^ k % 2 = y
  by_cases hy : y = 1
  · simp [hy]
  · have : ¬ ((y : Int) = 1) := by omega
    simp [hy, this]
theorem has_at {L : List UInt8} {k : Nat} (h : k / 8 < L.length) : (Go.bits BinOp.and IntKind.u8 ((L[k / 8].toNat : Int) / 2 ^ (7 - k % 8)) 1 == 1) = Bt.has L k := by
  rw [bit_and]
  simp [Bt.has, h]

theorem quiet_height (i : Nat) (w : World) (hi : i ≤ 1000000000) : Calls Tryd.prog 19 #[.int .i64 (i : Int)] w fun e w' => e = .returned (.int .i64 ((7 - i % 8 : Nat) : Int)) ∧ w' = w :=
  (height_any i w hi).mono fun _ _ ⟨h, e⟩ => ⟨h, e.symm⟩
set_option maxRecDepth 100000 in
set_option maxHeartbeats 1000000 in
theorem has_any (A : Option Addr) (n c : Nat) (l : List UInt8) (i : Int) (w : World) (h : BS w A n l) (hi : i ≤ 1000000000) (hn : n ≤ 1000000000) :
    Calls Tryd.prog 11 #[.slice A n c, .int .i64 i] w fun e w' => e = .returned (.bool (Bt.hasI l i)) ∧ ∃ k, w' = w.drewN k := by
  have HL := Lib.hid h
  have HLN : Hid (l.length = n) := h.1
  clear h
  by_cases h0 : 0 ≤ i
  · obtain ⟨k, rfl⟩ := Int.eq_ofNat_of_zero_le h0
    rw [Bt.hasI_nat]
    by_cases hk : k / 8 < n
    · obtain ⟨b, o, rfl, hj, hcell⟩ := HL.out.at hk
      have HX := Lib.hid (has_at hj)
      have hd : decide ((k : Int) / 8 < (n : Int)) = true := by simp; omega
      go_enter Tryd.func11, Tryd.ntmps11
      go_wp2_with fail
      go_quiet ((go_at_call 19; exact Calls.quiet_of_same (quiet_height k _ (by omega))))
      go_wp2
      rw [HX.out]
      go_ret
      exact ⟨rfl, _, rfl⟩
    · have HX : Hid (Bt.has l k = false) := Bt.has_out (by rw [HLN.out]; omega)
      have hd : decide ((k : Int) / 8 < (n : Int)) = false := by simp; omega
      go_enter Tryd.func11, Tryd.ntmps11
      go_wp2_with fail
      go_quiet (fail)
      go_wp2
      rw [HX.out]
      go_ret
      exact ⟨rfl, _, rfl⟩
  · have HX := Lib.hid (Bt.hasI_neg l (by omega : i < 0))
    have hd : decide (0 ≤ i) = false := by simp; omega
    go_enter Tryd.func11, Tryd.ntmps11
    go_wp2_with fail
    go_quiet (fail)
    go_wp2
    rw [HX.out]
    go_ret
    exact ⟨rfl, _, rfl⟩
end Go.Proofs.YtkodjojidoigiaaDoor
