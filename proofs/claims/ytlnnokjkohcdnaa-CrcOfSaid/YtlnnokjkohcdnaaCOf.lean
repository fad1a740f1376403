/-
  The walk of CrcOf: the sum of any bytes, behind any sum, and what is sealed, are the document's: the law's function returns true for every input.
-/
import Derived.Test.YtlnnokjkohcdnaaCAwake
import Derived.Test.YtlnnokjkohcdnaaCRef
namespace Go.Proofs.Ytlnnokjkohcdnaa
open Go.RowKit

theorem ofA (w W : World) (A : Option Addr) (n c : Nat) (l : List UInt8) (h : RInv w A n l W) (hn : n ≤ 400) :
    Calls Try.prog 9 #[.slice A n c] W fun e w' => e = .returned (.int .u32 ((sum l).toNat : Int)) ∧ RInv w A n l w' :=
  (of_any A n c l W h.2 (by omega)).mono fun _ _ ⟨h1, h2⟩ => ⟨h1, h.step h2⟩
theorem moreA (s : BitVec 32) (w W : World) (A : Option Addr) (n c : Nat) (l : List UInt8) (h : RInv w A n l W) (hn : n ≤ 400) :
    Calls Try.prog 11 #[.int .u32 (s.toNat : Int), .slice A n c] W fun e w' => e = .returned (.int .u32 ((more s l).toNat : Int)) ∧ RInv w A n l w' :=
  (more_any s A n c l W h.2 (by omega)).mono fun _ _ ⟨h1, h2⟩ => ⟨h1, h.step h2⟩
theorem rightA (w W : World) (A : Option Addr) (n c : Nat) (l : List UInt8) (h : RInv w A n l W) (hn : n ≤ 400) (hnc : n ≤ c) :
    Calls Try.prog 15 #[.slice A n c] W fun e w' => e = .returned (.bool (right l)) ∧ RInv w A n l w' :=
  (right_any A n c l W h.2 (by omega) hnc).mono fun _ _ ⟨h1, h2⟩ => ⟨h1, h.step h2⟩
theorem sealedA (w W : World) (A : Option Addr) (n c : Nat) (l : List UInt8) (h : RInv w A n l W) (hn : n ≤ 400) :
    Calls Try.prog 13 #[.slice A n c] W fun e w' => ∃ A' c', e = .returned (.slice A' (n + 4) c') ∧ RInv w A n l w' ∧ BS w' A' (n + 4) (sealed l) :=
  (sealed_any A n c l W h.2 (by omega)).mono fun _ _ ⟨A', c', h1, h2⟩ => ⟨A', c', h1, h.step h2.2, h2.bs⟩

set_option maxRecDepth 100000 in
set_option maxHeartbeats 8000000 in
theorem of_walk (s : BitVec 32) (A : Option Addr) (n c : Nat) (l : List UInt8) (w : World) (hb : BS w A n l) (hnc : n ≤ c) :
    Calls Try.prog 3 #[.int .u32 (s.toNat : Int), .slice A n c] w fun e w' => e = .returned (.bool true) ∧ Below w.heap.size w w' := by
  have HA := Lib.hid (awake_any w)
  have HB := Lib.hid hb
  have Hn : Hid (l.length = n) := hb.1
  clear hb
  by_cases h400 : 400 < n
  · go_enter Try.func3, Try.ntmps3
    have hd : decide ((400 : Int) < (n : Int)) = true := by simp; omega
    go_wp2_with fail
    refine HA.out.mono ?_
    rintro e w1 ⟨rfl, hw1⟩
    have HW1 := Lib.hid hw1
    clear hw1
    go_wp2_with fail
    go_ret
    exact ⟨rfl, HW1.out⟩
  · go_enter Try.func3, Try.ntmps3
    have hd : decide ((400 : Int) < (n : Int)) = false := by simp; omega
    go_wp2_with fail
    refine HA.out.mono ?_
    rintro e w1 ⟨rfl, hw1⟩
    have v1 := run_convert_bs w1 A n c l (HB.out.below hw1)
    have HI : Hid (RInv w A n l w1.drew) := RInv.drew ⟨hw1, HB.out.below hw1⟩
    have hn4 : n ≤ 400 := by omega
    have hll : l.length ≤ 1000000 := by rw [Hn.out]; omega
    clear hw1 HB HA Hn
    go_wp2_with fail
    clear v1
    go_cut [4] (fun s4 W => s4 = .bool true ∧ Hid (Below w.heap.size w W))
    case first =>
      go_region_law
        (first
          | (go_simp; go_at_call 9
             refine (ofA w _ A n c l (Hid.out (p := RInv w A n l _) (by assumption)) hn4).mono ?_
             rintro e w5 ⟨rfl, h5⟩
             have I5 := Lib.hid h5
             clear h5)
          | (go_simp; go_at_call 10
             refine (refOf l _ hll).mono ?_
             rintro e w6 ⟨rfl, rfl⟩)
          | (go_simp; go_at_call 11
             refine (moreA s w _ A n c l (Hid.out (p := RInv w A n l _) (by assumption)) hn4).mono ?_
             rintro e w7 ⟨rfl, h7⟩
             have I7 := Lib.hid h7
             clear h7)
          | (go_simp; go_at_call 12
             refine (refMore s l _ hll).mono ?_
             rintro e w8 ⟨rfl, rfl⟩)
          | (go_simp; go_at_call 13
             refine (sealedA w _ A n c l (Hid.out (p := RInv w A n l _) (by assumption)) hn4).mono ?_
             rintro e w9 ⟨A9, c9, rfl, h9, hs9⟩
             have I9 := Lib.hid h9
             have B9 : Hid (BS w9 A9 (n + 4) (sealed l)) := hs9
             have v9 := run_convert_bs w9 A9 (n + 4) c9 (sealed l) hs9
             clear h9 hs9)
          | (go_simp; go_at_call 14
             refine (refSealed l _ hll).mono ?_
             rintro e w10 ⟨rfl, h10⟩
             have I10 : Hid (RInv w A n l w10) := RInv.step (Hid.out (by assumption)) h10
             have B10 : Hid (BS w10 A9 (n + 4) (sealed l)) := BS.below (Hid.out (by assumption)) h10
             have v10 := run_convert_bs w10 A9 (n + 4) c9 (sealed l) B10.out
             clear h10)
          | (go_simp; go_at_call 15
             refine (rightA w _ A n c l (Hid.out (p := RInv w A n l _) (by assumption)) hn4 hnc).mono ?_
             rintro e w11 ⟨rfl, h11⟩
             have I11 := Lib.hid h11
             clear h11)
          | (go_simp; go_at_call 16
             refine (refRight l _ hll).mono ?_
             rintro e w12 ⟨rfl, h12⟩
             have I12 : Hid (RInv w A n l w12) := RInv.step (Hid.out (by assumption)) h12
             clear h12))
      all_goals
        go_wp2_with fail
        go_meet
        exact ⟨rfl, I12.out.1⟩
    case rest =>
      obtain ⟨rfl, HW⟩ := hcut
      go_wp2_with fail
      go_ret
      exact ⟨rfl, HW.out⟩
end Go.Proofs.Ytlnnokjkohcdnaa
