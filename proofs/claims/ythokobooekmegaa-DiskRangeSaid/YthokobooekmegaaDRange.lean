/-
  The walk of DiskRange.
-/
import Derived.Test.YthokobooekmegaaDAwake
namespace Go.Proofs.Ythokobooekmegaa
open Go.RowKit

set_option maxRecDepth 100000 in
set_option maxHeartbeats 2000000 in
theorem range_walk (n long : Nat) (i : Int) (w : World) (hn : n ≤ 255) (hl : long ≤ 255) (hi0 : -9223372036854775808 ≤ i) (hi1 : i ≤ 9223372036854775807) :
    Calls Try.prog 9 #[.int .u8 (n : Int), .int .i64 i, .int .u8 (long : Int)] w fun e w' => e = .returned (.bool true) ∧ Below w.heap.size w w' := by
  obtain ⟨K, hK⟩ : ∃ K : Nat, K = n % 50 + 1 := ⟨_, rfl⟩
  have HK : Hid ((n : Int) % 50 + 1 = (K : Int)) := by show _ = _; omega
  have hK1 : 1 ≤ K := by omega
  have hK2 : K ≤ 50 := by omega
  clear hK
  have HX : Hid (∀ s : DS, s.n = K → s.down = false → (0 ≤ i ∧ i < (K : Int) → refus s i = 0) ∧ (i < 0 ∨ (K : Int) ≤ i → refus s i = 15)) := fun s h1 h2 => by
    unfold refus
    rw [h2, h1]
    refine ⟨fun h => ?_, fun h => ?_⟩
    · simp; omega
    · simp [h]
  go_enter Try.func9, Try.ntmps9
  go_wp2_with fail
  refine (awake_any w).mono ?_
  rintro e w1 ⟨rfl, hw1⟩
  have HW1 := Lib.hid hw1
  clear hw1
  go_wp2_with fail
  rw [HK.out]
  refine (new_any K w1 hK1 (by omega)).mono ?_
  rintro e w2 ⟨p, S, rfl, hd, hb, hS⟩
  have HD := Lib.hid hd
  have HB : Hid (Below w.heap.size w w2) := HW1.out.trans (hb.mono HW1.out.size)
  have HS : Hid (∀ k, S k → w.heap.size ≤ k) := fun k hk => Nat.le_trans HW1.out.size (hS k hk)
  have HLN := Lib.hid (len_any p S _ w2 hd)
  clear hd hb hS
  go_wp2_with fail
  refine HLN.out.mono ?_
  rintro e w3 ⟨rfl, rfl⟩
  have HNK : Hid (((DS.new K).n : Int) = (K : Int)) := rfl
  rw [HNK.out]
  go_wp2_with (refine wpList_make_bytes rfl (.tmp 38) (.tmp 38) rfl long rfl rfl (by omega) ?_; intro w3 hb3 hs3 hw3; have HB3 := Lib.hid hb3; have HW3 := Lib.hid hw3; clear hb3 hs3 hw3)
  have HX0 := Lib.hid (HX.out (DS.new K) rfl rfl)
  by_cases hin : 0 ≤ i ∧ i < (K : Int)
  · have HR := Lib.hid (HX0.out.1 hin)
    obtain ⟨hi0', hiK⟩ := hin
    by_cases hlong : long = 128
    · subst hlong
      refine (write_up p S (DS.new K) i _ 128 (List.replicate 128 0) w3 (HD.out.below HW3.out) (by simp [DS.new]) HR.out (block_BS HB3.out (by simp)) (not_S HD.out.2.1 (by omega)) (DS.count_down rfl rfl)).mono ?_
      rintro e w4 ⟨rfl, S4, hd4, hf4, hS4⟩
      have HD4 := Lib.hid hd4
      have HB4 : Hid (Below w.heap.size w w4) := (HB.out.trans (HW3.out.mono HB.out.size)).trans (hf4.below (Nat.le_trans HB.out.size HW3.out.size) HS.out)
      have HP4 : Hid (((DS.new K).count.push i (List.replicate 128 0)).pend.length = 1) := rfl
      have HR4 : Hid (refus ((DS.new K).count.push i (List.replicate 128 0)) i = 0) := (HX.out _ rfl rfl).1 ⟨hi0', hiK⟩
      clear hd4 hf4 hS4
      generalize (DS.new K).count.push i (List.replicate 128 0) = s4 at *
      go_wp2_with fail
      refine (read_any p S4 s4 i w4 HD4.out (by rw [HP4.out]; omega) HR4.out).mono ?_
      rintro e w5 ⟨g5, rfl, hb5, hg5, hw5⟩
      have HW5 := Lib.hid hw5
      clear hb5 hw5
      go_wp2_with fail
      refine (waits_any p S4 s4 w5 (HD4.out.below HW5.out)).mono ?_
      rintro e w6 ⟨rfl, rfl⟩
      rw [HP4.out]
      go_wp2
      go_ret
      exact ⟨rfl, HB4.out.trans (HW5.out.mono HB4.out.size)⟩
    · have hlong' : ¬ (long : Int) = 128 := by omega
      refine (write_arg p S (DS.new K) i _ long long w3 (HD.out.below HW3.out) HR.out hlong).mono ?_
      rintro e w4 ⟨rfl, rfl⟩
      go_wp2_with fail
      refine (read_any p S (DS.new K) i w3 (HD.out.below HW3.out) (by simp [DS.new]) HR.out).mono ?_
      rintro e w5 ⟨g5, rfl, hb5, hg5, hw5⟩
      have HW5 := Lib.hid hw5
      clear hb5 hw5
      have HP4 : Hid ((DS.new K).pend.length = 0) := rfl
      go_wp2_with fail
      refine (waits_any p S (DS.new K) w5 ((HD.out.below HW3.out).below HW5.out)).mono ?_
      rintro e w6 ⟨rfl, rfl⟩
      rw [HP4.out]
      go_wp2
      go_ret
      exact ⟨rfl, (HB.out.trans (HW3.out.mono HB.out.size)).trans (HW5.out.mono (Nat.le_trans HB.out.size HW3.out.size))⟩
  · have HR := Lib.hid (HX0.out.2 (by omega))
    have hne : refus (DS.new K) i ≠ 0 := by rw [HR.out]; omega
    refine (write_no p S (DS.new K) i _ long long w3 (HD.out.below HW3.out) hne).mono ?_
    rintro e w4 ⟨rfl, rfl⟩
    rw [HR.out]
    have HNE := Lib.hid hne
    clear hne
    have HP4 : Hid ((DS.new K).pend.length = 0) := rfl
    by_cases h0 : 0 ≤ i
    · have h1 : ¬ i < (K : Int) := by omega
      clear hin
      go_wp2_with fail
      refine (read_no p S (DS.new K) i w3 (HD.out.below HW3.out) HNE.out).mono ?_
      rintro e w5 ⟨rfl, rfl⟩
      rw [HR.out]
      go_wp2_with fail
      refine (waits_any p S (DS.new K) w3 (HD.out.below HW3.out)).mono ?_
      rintro e w6 ⟨rfl, rfl⟩
      rw [HP4.out]
      go_wp2
      go_ret
      exact ⟨rfl, HB.out.trans (HW3.out.mono HB.out.size)⟩
    · clear hin
      go_wp2_with fail
      refine (read_no p S (DS.new K) i w3 (HD.out.below HW3.out) HNE.out).mono ?_
      rintro e w5 ⟨rfl, rfl⟩
      rw [HR.out]
      go_wp2_with fail
      refine (waits_any p S (DS.new K) w3 (HD.out.below HW3.out)).mono ?_
      rintro e w6 ⟨rfl, rfl⟩
      rw [HP4.out]
      go_wp2
      go_ret
      exact ⟨rfl, HB.out.trans (HW3.out.mono HB.out.size)⟩
end Go.Proofs.Ythokobooekmegaa
