/-
  Contract of bits' Count (layer 6).
-/
import Derived.Test.YtkodjojidoigiaaDoorBSmall
namespace Go.Proofs.YtkodjojidoigiaaDoor
open Go.RowKit

set_option maxRecDepth 100000 in
set_option maxHeartbeats 1000000 in
theorem count_any (A : Option Addr) (n c : Nat) (l : List UInt8) (N : Int) (w : World) (h : BS w A n l) (hN : N ≤ 1000000) (hn : n ≤ 1000000000) :
    Calls Tryd.prog 15 #[.slice A n c, .int .i64 N] w fun e w' => e = .returned (.int .i64 (Bt.cnt l N.toNat : Int)) ∧ ∃ k, w' = w.drewN k := by
  have HL := Lib.hid h
  have HLN : Hid (l.length = n) := h.1
  clear h
  go_enter Tryd.func15, Tryd.ntmps15
  go_wp2
  go_loopw [5, 8] (fun y i wr => ∃ k : Nat, k ≤ N.toNat ∧ i = .int .i64 k ∧ y = .int .i64 (Bt.cnt l k : Int) ∧ Hid (∃ d, wr = w.drewN d)) (fun _ i _ => N.toNat - (intOf i).toNat)
  case atStart => exact ⟨0, by omega, rfl, rfl, 0, rfl⟩
  case round =>
    obtain ⟨k, hk, rfl, rfl, HD⟩ := hrel
    by_cases hlt : k < N.toNat
    · have hlt' : (k : Int) < N := by omega
      have hle := Bt.cnt_le l k
      have HLr : Hid (BS wr A n l) := by obtain ⟨d, hd⟩ := HD.out; rw [hd]; exact HL.out
      by_cases hq : k / 8 < n
      · have hq' : (k : Int) / 8 < (n : Int) := by omega
        have HS := Lib.hid (Bt.cnt_succ l k)
        go_wp2_with fail
        refine (has_any A n c l k wr HLr.out (by omega) hn).mono ?_
        rintro e w2 ⟨rfl, k2, hw2⟩
        have HW2 : Hid (∃ d, w2 = w.drewN d) := by
          obtain ⟨d, hd⟩ := HD.out
          exact ⟨d + k2, by rw [hw2, hd, World.drewN_drewN]⟩
        clear hw2
        rw [Bt.hasI_nat]
        cases hb : Bt.has l k
        all_goals
          rw [hb] at HS
          go_wp2
          go_roundw
          case rel => exact ⟨k + 1, by omega, by go_num, by rw [HS.out]; simp, HW2⟩
          case measure => simp [intOf]; omega
      · have hq' : (n : Int) ≤ (k : Int) / 8 := by omega
        have HE : Hid (Bt.cnt l N.toNat = Bt.cnt l k) := by
          show _ = _
          have := Bt.cnt_out (k := k) (l := l) (by rw [HLN.out]; omega) (N.toNat - k)
          rwa [show k + (N.toNat - k) = N.toNat by omega] at this
        go_wp2
        go_ret
        exact ⟨ret_int (by rw [HE.out]), HD.out⟩
    · have hlt' : N ≤ (k : Int) := by omega
      have HE : Hid (k = N.toNat) := by show _ = _; omega
      go_wp2
      go_ret
      exact ⟨ret_int (by rw [HE.out]), HD.out⟩
end Go.Proofs.YtkodjojidoigiaaDoor
