/-
  InodeNeeds walked (layer 7).
-/
import Derived.Test.YtkgpgaanodmpiaaIAwake
namespace Go.Proofs.Ytkgpgaanodmpiaa
open Go.RowKit

set_option maxRecDepth 100000 in
set_option maxHeartbeats 1000000 in
theorem needs_walk (x : Int) (w : World) (h0 : 0 ≤ x) (h1 : x < 4294967296) :
    Calls Try.prog 5 #[.int .u32 x] w fun e w' => e = .returned (.bool true) ∧ Below w.heap.size w w' := by
  obtain ⟨n, rfl⟩ := Int.eq_ofNat_of_zero_le h0
  have wn : IntKind.i64.wrap (n : Int) = (n : Int) := IntWalk.i64_in _ (by omega)
  have wm : IntKind.i64.wrap (-(n : Int)) = -(n : Int) := IntWalk.i64_in _ (by omega)
  obtain ⟨m, hm⟩ : ∃ m, need n = m := ⟨_, rfl⟩
  have hm1 : n ≤ m * 96 := by unfold need at hm; omega
  have hm2 : m = 0 ∨ (m - 1) * 96 < n := by unfold need at hm; omega
  have hm3 : m ≤ 50000000 := by unfold need at hm; omega
  have HN : Hid ((needI (n : Int) : Int) = (m : Int)) := by show _ = _; rw [needI_nat, hm]
  have HM : Hid ((needI (-(n : Int)) : Int) = 0) := by show _ = _; unfold needI; rw [if_pos (by omega)]; rfl
  clear hm
  go_enter Try.func5, Try.ntmps5
  go_wp2_with fail
  refine (awake_any w).mono ?_
  rintro e w1 ⟨rfl, hb1⟩
  have HW1 := Lib.hid hb1
  clear hb1
  go_wp2_with fail
  refine (need_any (n : Int) w1 (by omega) (by omega)).mono ?_
  rintro e w2 ⟨rfl, rfl⟩
  rw [HN.out]
  have d1 : decide ((n : Int) ≤ (m : Int) * 96) = true := by simp; omega
  have v1 : IntKind.i64.wrap ((m : Int) * 96) = (m : Int) * 96 := IntWalk.i64_in _ (by omega)
  have v2 : IntKind.i64.wrap ((m : Int) - 1) = (m : Int) - 1 := IntWalk.i64_in _ (by omega)
  have v3 : IntKind.i64.wrap (((m : Int) - 1) * 96) = ((m : Int) - 1) * 96 := IntWalk.i64_in _ (by omega)
  have HB : Hid (-9223372036854775808 ≤ -(n : Int) ∧ -(n : Int) ≤ 9223372036854775807) := ⟨by omega, by omega⟩
  by_cases hz : m = 0
  · have d2 : ((m : Int) == 0) = true := by simp; omega
    clear hz hm1 hm2 hm3 h0 h1
    go_wp2_with fail
    refine (need_any (-(n : Int)) w1 HB.out.1 HB.out.2).mono ?_
    rintro e w2 ⟨rfl, rfl⟩
    rw [HM.out]
    go_wp2
    go_ret
    exact ⟨rfl, HW1.out⟩
  · have d2 : ((m : Int) == 0) = false := by simp; omega
    have d3 : decide (((m : Int) - 1) * 96 < (n : Int)) = true := by simp; omega
    clear hz hm1 hm2 hm3 h0 h1
    go_wp2_with fail
    refine (need_any (-(n : Int)) w1 HB.out.1 HB.out.2).mono ?_
    rintro e w2 ⟨rfl, rfl⟩
    rw [HM.out]
    go_wp2
    go_ret
    exact ⟨rfl, HW1.out⟩
end Go.Proofs.Ytkgpgaanodmpiaa
