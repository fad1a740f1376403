/-
  Contracts of layer 2: Sealed and Right.
-/
import Derived.Test.YtcieahfhpanogaaCMore
namespace Go.Proofs.Ytcieahfhpanogaa
open Go.RowKit

set_option maxRecDepth 100000 in
set_option maxHeartbeats 1000000 in
theorem sealed_any (A : Option Addr) (n c : Nat) (l : List UInt8) (w : World) (h : BS w A n l) (hn : n ≤ 3000000) :
    Calls Try.prog 58 #[.slice A n c] w fun e w' => ∃ A' c', e = .returned (.slice A' (n + 4) c') ∧ Own w w' A' (n + 4) c' (sealed l) := by
  obtain ⟨i0, hi0, hz0, hz1, hz2⟩ := info_parts info_u8
  have HB := Lib.hid h
  have Hn : Hid (l.length = n) := h.1
  clear h
  go_enter Try.func58, Try.ntmps58
  go_wp2_with fail
  refine (of_any A n c l w HB.out hn).mono ?_
  rintro e w1 ⟨rfl, hb1⟩
  have HB1 := Lib.hid hb1
  have HL := Lib.hid (HB.out.below hb1)
  clear hb1
  have hs := (sum l).isLt
  obtain ⟨w2, hmk, hown, hgrow⟩ := run_make_own (P := Try.prog) w1 w.heap.size 23 5 i0 _ 1 Try.underlying23 hi0 hz0 hz1 .i64 .i64 (n + 4) (by rw [hz2]; omega) (by unfold maxLen; omega) HB1.out.size
  rw [show ((n + 4 : Nat) : Int) = (n : Int) + 4 by omega] at hmk
  have HO := Lib.hid hown
  have HB2 := Lib.hid (HB1.out.grown hgrow HB1.out.size (fun k hk => by cases hk))
  have HL2 : Hid (BS w2 A n l) := HL.out.keep fun p hp => hgrow.cell_far p hp (by simp)
  have hsz := hgrow.size
  have hsz1 := HB1.out.size
  clear hown hgrow
  obtain ⟨b3, b2, b1, b0, hbe, e3, e2, e1, e0⟩ := be4_bytes ((sum l).toNat : Int) (by omega) (by omega)
  have HBE := Lib.hid hbe
  clear hbe
  go_upto_region 4 with
    (at_builtin
     refine wpList_append_bytes _ rfl (.tmp 11) (.tmp 12) 23 rfl w.heap.size 5 i0 Try.underlying23 hi0 hz0 hz1 hz2 (some ⟨w1.heap.size, 0, none⟩) 0 (n + 4) [] rfl HO.out
        A n c l rfl HL2.out (by omega) (by omega) ?_
     intro A' c' w3 hown hgrow hat)
  have HO3 : Hid (w3.ownsRow w.heap.size 5 1 (.slice A' n c') n (bc l)) := by simpa [Hid] using hown
  have HB3 := Lib.hid (HB2.out.grown hgrow HB2.out.size (fun k hk => by simp [Value.ownBlock] at hk; omega))
  have hsz3 := HB3.out.size
  clear hown hgrow hat HO hmk HL HL2
  go_wp2_with
    (at_builtin
     refine wpList_append_bytes _ rfl (.tmp 14) (.tmp 26) 23 rfl w.heap.size 5 i0 Try.underlying23 hi0 hz0 hz1 hz2 A' n c' l rfl (HO3.out.alloc _)
        (some ⟨w3.heap.size, 0, none⟩) 4 4 [b3, b2, b1, b0] rfl (BS.of_block (heap_alloc_new w3 _)) (by omega) (by simp; omega) ?_
     intro A4 c4 w4 hown hgrow hat)
  have HO4 : Hid (w4.ownsRow w.heap.size 5 1 (.slice A4 (n + 4) c4) (n + 4) (bc (sealed l))) := by
    have e : sealed l = l ++ [b3, b2, b1, b0] := by
      unfold sealed
      rw [← HBE.out]
      rfl
    rw [e]
    exact hown
  have HB4 := Lib.hid ((HB3.out.alloc hsz3 _).grown hgrow (by simp; omega) (fun k hk => (HO3.out.lt k hk).1))
  clear hown hgrow hat
  go_ret
  exact ⟨A4, c4, rfl, HO4.out, HB4.out⟩
end Go.Proofs.Ytcieahfhpanogaa
