/-
  Contracts of the reference's Remove and After (layer 8).
-/
import Derived.Test.YtcbmdcgaedkfnaaERef2
namespace Go.Proofs.Ytcbmdcgaedkfnaa
open Go.RowKit Go.Shelf

theorem grown_nil {w w4 : World} (hg : w.grownBy w4 (Value.slice none 0 0).ownBlock) : Below w.heap.size w w4 := ⟨hg.os, hg.tape, hg.output, hg.size, fun k hk => hg.block k hk (by simp [Value.ownBlock])⟩
set_option maxRecDepth 100000 in
set_option maxHeartbeats 4000000 in
theorem refRemove_any (A : Option Addr) (n cp : Nat) (es : List En) (nm : List UInt8) (w : World) (h : ES w A n es) (hc : n ≤ cp) (hcm : cp ≤ 9223372036854775807) (hn : n ≤ 10000000) :
    Calls Try.prog 25 #[.slice A n cp, .string (txt nm)] w (EsQ (remL es nm) (remE es nm) w) := by
  obtain ⟨i0, hi0, hz0, hz1, hz2⟩ := info_parts info_F
  have HI0 := Lib.hid hi0
  have HZ0 := Lib.hid hz0
  have HZ1 := Lib.hid hz1
  have HZ2 := Lib.hid hz2
  clear hi0 hz0 hz1 hz2
  have HX := Lib.hid h
  have HN : Hid (es.length = n) := h.1
  have HF := Lib.hid (refFind_any A n cp es nm w h hn)
  rcases fnd_range es nm with h1 | ⟨k, h1, h2⟩
  · have HE : Hid (remE es nm = 60) := if_pos h1
    have HL : Hid (remL es nm = []) := if_pos h1
    clear h
    go_enter Try.func25, Try.ntmps25
    go_wp2_with fail
    refine (HF.out).mono ?_
    rintro en w1 ⟨rfl, rfl⟩
    go_wp2_with fail
    go_ret2
    rw [HE.out]
    exact EsQ.nil HL.out (Below.refl _ _)
  · have HE : Hid (remE es nm = 0) := if_neg (by omega)
    have HL : Hid (remL es nm = es.take k ++ es.drop (k + 1)) := by
      show _ = _
      unfold remL
      rw [if_neg (by omega), h1]
      rfl
    have hkn : k < n := by rw [← HN.out]; exact h2
    obtain ⟨b, o, rfl, hbl, _⟩ := h.at hkn
    rw [h1] at HF
    clear h h1 h2
    have q1 : (0 : Int) ≤ (k : Int) := by omega
    have q2 : (k : Int) ≤ (cp : Int) := by omega
    have q3 : (k : Int) + 1 ≤ (n : Int) := by omega
    have q4 : (0 : Int) ≤ (k : Int) + 1 := by omega
    have q5 : ((k : Int) + 1).toNat = k + 1 := by omega
    have q6 : IntKind.i64.wrap ((k : Int) + 1) = (k : Int) + 1 := IntWalk.i64_in _ (by omega)
    have q7 : (n : Int) ≤ (cp : Int) := by omega
    have HBE := Lib.hid (HX.out.behind (k + 1) (by omega) hc)
    by_cases hcp : cp = k + 1
    · obtain ⟨A', e1, e2⟩ := HBE.out
      rw [if_pos hcp] at e1
      subst e1
      subst hcp
      have q8 : (k : Int) ≤ (k : Int) + 1 := by omega
      have q9 : (n : Int) ≤ (k : Int) + 1 := by omega
      rw [show n - (k + 1) = 0 by omega] at e2
      have HBX := Lib.hid e2
      clear e2
      go_enter Try.func25, Try.ntmps25
      go_wp2_with fail
      refine (HF.out).mono ?_
      rintro en w1 ⟨rfl, rfl⟩
      go_wp2_with (first
        | (at_builtin
           refine wpList_append_es _ rfl (.tmp 13) (.tmp 16) 28 rfl w1.heap.size 50 i0 _ Try.underlying28 HI0.out HZ0.out HZ1.out HZ2.out rfl none 0 0 [] rfl (World.ownsRow_nil _ _ _ _) (some ⟨b, o, none⟩) k (k + 1) (es.take k) rfl (HX.out.take (by omega)) (by omega) (Nat.le_refl _) ?_
           intro A4 c4 w4 ho4 hg4 _
           have HO4 : Hid (w4.ownsRow w1.heap.size 50 4 (.slice A4 k c4) k (ecs (es.take k))) := by
             have := ho4
             rw [Nat.zero_add, List.nil_append] at this
             exact this
           have HW4 := Lib.hid (grown_nil hg4)
           clear ho4 hg4)
        | (at_builtin
           refine wpList_append_es _ rfl (.tmp 18) (.tmp 22) 28 rfl w1.heap.size 50 i0 _ Try.underlying28 HI0.out HZ0.out HZ1.out HZ2.out rfl A4 k c4 (es.take k) rfl HO4.out (some ⟨b, o, none⟩) 0 0 (es.drop (k + 1)) rfl (HBX.out.below HW4.out) (by omega) HW4.out.size ?_
           intro A5 c5 w5 ho5 hg5 _
           have HO5 := Lib.hid ho5
           have HW5 := Lib.hid (own_below HW4.out HO4.out hg5)
           clear ho5 hg5))
      go_ret2
      rw [HE.out, HL.out]
      exact ⟨A5, _, c5, rfl, ES.of_own HO5.out, own_le HO5.out, HW5.out⟩
    · obtain ⟨A', e1, e2⟩ := HBE.out
      rw [if_neg hcp] at e1
      subst e1
      have HBX := Lib.hid e2
      clear e2
      go_enter Try.func25, Try.ntmps25
      go_wp2_with fail
      refine (HF.out).mono ?_
      rintro en w1 ⟨rfl, rfl⟩
      go_wp2_with (first
        | (at_builtin
           refine wpList_append_es _ rfl (.tmp 13) (.tmp 16) 28 rfl w1.heap.size 50 i0 _ Try.underlying28 HI0.out HZ0.out HZ1.out HZ2.out rfl none 0 0 [] rfl (World.ownsRow_nil _ _ _ _) (some ⟨b, o, none⟩) k cp (es.take k) rfl (HX.out.take (by omega)) (by omega) (Nat.le_refl _) ?_
           intro A4 c4 w4 ho4 hg4 _
           have HO4 : Hid (w4.ownsRow w1.heap.size 50 4 (.slice A4 k c4) k (ecs (es.take k))) := by
             have := ho4
             rw [Nat.zero_add, List.nil_append] at this
             exact this
           have HW4 := Lib.hid (grown_nil hg4)
           clear ho4 hg4)
        | (at_builtin
           refine wpList_append_es _ rfl (.tmp 18) (.tmp 22) 28 rfl w1.heap.size 50 i0 _ Try.underlying28 HI0.out HZ0.out HZ1.out HZ2.out rfl A4 k c4 (es.take k) rfl HO4.out (some ⟨b, o + (k + 1) * 4, none⟩) (n - (k + 1)) (cp - (k + 1)) (es.drop (k + 1)) rfl (HBX.out.below HW4.out) (by omega) HW4.out.size ?_
           intro A5 c5 w5 ho5 hg5 _
           have HO5 := Lib.hid ho5
           have HW5 := Lib.hid (own_below HW4.out HO4.out hg5)
           clear ho5 hg5))
      go_ret2
      rw [HE.out, HL.out]
      exact ⟨A5, _, c5, rfl, ES.of_own HO5.out, own_le HO5.out, HW5.out⟩
end Go.Proofs.Ytcbmdcgaedkfnaa
