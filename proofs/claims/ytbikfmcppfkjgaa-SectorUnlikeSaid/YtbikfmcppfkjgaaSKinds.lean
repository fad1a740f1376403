/-
  The walk of SectorKinds: just the four kinds may be, and numbers that go into a byte: the law's function returns true for every input.
-/
import Derived.Test.YtbikfmcppfkjgaaSAwake
namespace Go.Proofs.Ytbikfmcppfkjgaa
open Go.RowKit

theorem byte_of {x : Int} (h0 : 0 ≤ x) (h1 : x ≤ 255) : ∃ b : UInt8, x = (b.toNat : Int) := ⟨UInt8.ofNat x.toNat, by simp; omega⟩

theorem of_decide_eq' {c : Int} {b : Bool} (h : decide (c ≤ 255) = b) : if b then c ≤ 255 else 255 < c := by
  cases b
  · simpa using h
  · simpa using h

set_option maxRecDepth 100000 in
set_option maxHeartbeats 4000000 in
theorem kinds_walk (k i c : Int) (w : World) :
    Calls Try.prog 6 #[.int .i64 k, .int .i64 i, .int .i64 c] w fun e w' => e = .returned (.bool true) ∧ Below w.heap.size w w' := by
  have HA := Lib.hid (awake_any w)
  by_cases h : may k i c 0
  · obtain ⟨⟨h1, h2⟩, ⟨h3, h4, h5, h6⟩, _⟩ := h
    obtain ⟨kb, rfl⟩ := byte_of (by omega) (by omega : k ≤ 255)
    obtain ⟨ib, rfl⟩ := byte_of h3 h4
    obtain ⟨cb, rfl⟩ := byte_of h5 h6
    have hok : Fm.ok ⟨kb, ib, cb, 0, 0, []⟩ := ⟨by show 1 ≤ kb.toNat; omega, by show kb.toNat ≤ 4; omega, by show 0 < _; omega, by show 0 < _; omega, by show 0 ≤ _; omega⟩
    have HOK := Lib.hid hok
    clear hok
    go_enter Try.func6, Try.ntmps6
    go_wp2_with fail
    refine HA.out.mono ?_
    rintro e w1 ⟨rfl, hw1⟩
    have HW1 := Lib.hid hw1
    clear hw1
    go_wp2_with fail
    refine (put_ok ⟨kb, ib, cb, 0, 0, []⟩ none 0 0 w1 BS.nil HOK.out).mono ?_
    rintro e w2 ⟨A2, c2, rfl, ho⟩
    have HW2 := Lib.hid (HW1.out.trans (ho.2.mono HW1.out.size))
    have HS2 := Lib.hid ho.bs
    have hc2 := ho.cap
    clear ho HW1
    go_wp2_with fail
    refine (get_any A2 128 c2 _ w2 HS2.out hc2).mono ?_
    rintro e w3 ⟨B, n, cap, rfl, hb3, hw3⟩
    rw [(get_put _ HOK.out).1, (get_put _ HOK.out).2]
    rw [(get_put _ HOK.out).2] at hb3
    have hn3 : n = 0 := hb3.1.symm
    subst hn3
    have HW3 := Lib.hid (HW2.out.trans (hw3.mono HW2.out.size))
    clear hb3 hw3 HW2 HS2
    unfold fv frc
    dsimp only
    go_wp2_with fail
    go_ret
    exact ⟨rfl, HW3.out.alloc HW3.out.size _⟩
  · have HN := Lib.hid h
    clear h
    obtain ⟨b6, hd6⟩ : ∃ b, decide (c ≤ 255) = b := ⟨_, rfl⟩
    have h6 := of_decide_eq' hd6
    cases b6
    all_goals
      simp only [Bool.false_eq_true, if_false, if_true] at h6
      go_enter Try.func6, Try.ntmps6
      go_wp2_with fail
      refine HA.out.mono ?_
      rintro e w1 ⟨rfl, hw1⟩
      have HW1 := Lib.hid hw1
      clear hw1
      go_wp2_with fail
      refine (put_no k i c 0 0 none 0 0 w1 HN.out).mono ?_
      rintro e w2 ⟨rfl, hw2⟩
      have HW2 := Lib.hid (HW1.out.trans (hw2.mono HW1.out.size))
      clear hw2 HW1
      go_wp2_with fail
      all_goals first
        | (go_ret; exact ⟨rfl, HW2.out⟩)
        | (exfalso; exact HN.out ⟨⟨by omega, by omega⟩, ⟨by omega, by omega, by omega, by omega⟩, by omega⟩)
end Go.Proofs.Ytbikfmcppfkjgaa
