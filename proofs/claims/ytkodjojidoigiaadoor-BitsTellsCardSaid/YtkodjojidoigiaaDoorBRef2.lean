/-
  The document's answers for layer 6: Count, Same, Draw.
-/
import Derived.Test.YtkodjojidoigiaaDoorBRef
import Derived.Test.YtkodjojidoigiaaDoorBAwake
import Derived.Maps.AppendAt
namespace Go.Proofs.YtkodjojidoigiaaDoor
open Go.RowKit

set_option maxRecDepth 100000 in
set_option maxHeartbeats 1000000 in
theorem refCount_any (l : List UInt8) (N : Int) (w : World) (hN : N ≤ 1000000) (hl : l.length ≤ 100000) :
    Calls Tryd.prog 16 #[.string (txt l), .int .i64 N] w fun e w' => e = .returned (.int .i64 (Bt.cnt l N.toNat : Int)) ∧ w = w' := by
  have HSZ : Hid ((txt l).size = l.length) := txt_size l
  have hsz : (txt l).size ≤ 100000 := by rw [txt_size]; exact hl
  go_enter Tryd.func16, Tryd.ntmps16
  go_wp2
  go_loop [5, 6, 7] (fun y i _ => ∃ k : Nat, k ≤ N.toNat ∧ i = .int .i64 k ∧ y = .int .i64 (Bt.cnt l k : Int)) (fun _ i _ => N.toNat - (intOf i).toNat)
  case atStart => exact ⟨0, by omega, rfl, rfl⟩
  case round =>
    obtain ⟨k, hk, rfl, rfl⟩ := hrel
    have hle := Bt.cnt_le l k
    by_cases hlt : k < N.toNat
    · have hlt' : (k : Int) < N := by omega
      by_cases hq : k < 8 * (txt l).size
      · have hq' : (k : Int) < 8 * ((txt l).size : Int) := by omega
        have HS := Lib.hid (Bt.cnt_succ l k)
        go_wp2_with fail
        refine (refHas_any l k w (by omega) (by omega)).mono ?_
        rintro e w2 ⟨rfl, rfl⟩
        rw [Bt.hasI_nat]
        cases hb : Bt.has l k
        all_goals
          rw [hb] at HS
          go_wp2
          go_round
          case rel => exact ⟨k + 1, by omega, by go_num, by rw [HS.out]; simp⟩
          case measure => simp [intOf]; omega
      · have hq' : 8 * ((txt l).size : Int) ≤ (k : Int) := by omega
        have HE : Hid (Bt.cnt l N.toNat = Bt.cnt l k) := by
          show _ = _
          have := Bt.cnt_out (k := k) (l := l) (by have := HSZ.out; omega) (N.toNat - k)
          rwa [show k + (N.toNat - k) = N.toNat by omega] at this
        go_wp2
        go_ret
        exact ⟨ret_int (by rw [HE.out]), rfl⟩
    · have hlt' : N ≤ (k : Int) := by omega
      have HE : Hid (k = N.toNat) := by show _ = _; omega
      go_wp2
      go_ret
      exact ⟨ret_int (by rw [HE.out]), rfl⟩

set_option maxRecDepth 100000 in
set_option maxHeartbeats 1000000 in
theorem same_yes (A B : Option Addr) (n c c' : Nat) (l : List Nat) (w : World) (ha : NS w A n l) (hb : NS w B n l) (hn : n ≤ 1000000) :
    Calls Tryd.prog 17 #[.slice A n c, .slice B n c'] w fun e w' => e = .returned (.bool true) ∧ ∃ d, w' = w.drewN d := by
  have HA := Lib.hid ha
  have HB := Lib.hid hb
  clear ha hb
  go_enter Tryd.func17, Tryd.ntmps17
  go_wp2
  go_loopw [5] (fun i wr => ∃ k : Nat, k ≤ n ∧ i = .int .i64 k ∧ Hid (∃ d, wr = w.drewN d)) (fun i _ => n - (intOf i).toNat)
  case atStart => exact ⟨0, by omega, rfl, 0, rfl⟩
  case round =>
    obtain ⟨k, hk, rfl, HD⟩ := hrel
    by_cases hlt : k < n
    · obtain ⟨d, rfl⟩ := HD.out
      obtain ⟨b, o, rfl, hj, hc1⟩ := HA.out.at hlt
      obtain ⟨b', o', rfl, hj', hc2⟩ := HB.out.at hlt
      generalize l[k] = x at *
      have hxx : ((x : Int) != (x : Int)) = false := by simp
      have hki : (k : Int) < (n : Int) := by omega
      go_wp2_with fail
      go_quiet (fail)
      go_wp2
      go_roundw
      case rel => exact ⟨k + 1, by omega, by go_num, _, rfl⟩
      case measure => simp [intOf]; omega
    · have hki : (n : Int) ≤ (k : Int) := by omega
      go_wp2
      go_ret
      exact ⟨rfl, HD.out⟩
end Go.Proofs.YtkodjojidoigiaaDoor
