/-
  Contract of package dir's Remove (layer 8).
-/
import Derived.Test.YtcbmdcgaedkfnaaEAdd
namespace Go.Proofs.Ytcbmdcgaedkfnaa
open Go.RowKit Go.Shelf

theorem fnd_range (es : List En) (nm : List UInt8) : fnd es nm < 0 ∨ ∃ k : Nat, fnd es nm = (k : Int) ∧ k < es.length := by
  unfold fnd
  split
  · rename_i h
    exact .inr ⟨_, rfl, h⟩
  · exact .inl (by omega)
/-- What lies behind place k, whatever the capacity. -/
theorem ES.behind {w : World} {b o n c : Nat} {es : List En} (h : ES w (some ⟨b, o, none⟩) n es) (k : Nat) (hk : k ≤ n) (hc : n ≤ c) : ∃ A', (if c = k then some (⟨b, o, none⟩ : Addr) else some ⟨b, o + k * 4, none⟩) = A' ∧ ES w A' (n - k) (es.drop k) := by
  have hd := h.drop hk hc
  refine ⟨_, rfl, ?_⟩
  split
  · rename_i h1
    rw [if_pos h1] at hd
    exact hd
  · rename_i h1
    rw [if_neg h1] at hd
    simp only [Option.map_some, add_plain] at hd
    exact hd

set_option maxRecDepth 100000 in
set_option maxHeartbeats 2000000 in
theorem remove_any (A : Option Addr) (n cp : Nat) (es : List En) (nm : List UInt8) (w : World) (h : ES w A n es) (hc : n ≤ cp) (hcm : cp ≤ 9223372036854775807) (hn : n ≤ 10000000) :
    Calls Try.prog 24 #[.slice A n cp, .string (txt nm)] w (EsQ (remL es nm) (remE es nm) w) := by
  have HX := Lib.hid h
  have HN : Hid (es.length = n) := h.1
  have HF := Lib.hid (find_any A n cp es nm w h (by omega))
  rcases fnd_range es nm with h1 | ⟨k, h1, h2⟩
  · have HE : Hid (remE es nm = 60) := if_pos h1
    have HL : Hid (remL es nm = []) := if_pos h1
    clear h
    go_enter Try.func24, Try.ntmps24
    go_wp2_with fail
    refine (HF.out).mono ?_
    rintro en w1 ⟨rfl, hb1⟩
    have HB1 := Lib.hid hb1
    clear hb1 HF
    go_wp2_with fail
    go_ret2
    rw [HE.out]
    exact EsQ.nil HL.out HB1.out
  · have HE : Hid (remE es nm = 0) := if_neg (by omega)
    have HL : Hid (remL es nm = es.take k ++ es.drop (k + 1)) := by
      show _ = _
      unfold remL
      rw [if_neg (by omega), h1]
      rfl
    have hkn : k < n := by rw [← HN.out]; exact h2
    obtain ⟨b, o, rfl, hbl, _⟩ := h.at hkn
    rw [h1] at HF
    clear h h1 h2
    have q1 : (0 : Int) ≤ (k : Int) := by omega
    have q2 : (k : Int) ≤ (cp : Int) := by omega
    have q3 : (k : Int) + 1 ≤ (n : Int) := by omega
    have q4 : (0 : Int) ≤ (k : Int) + 1 := by omega
    have q5 : ((k : Int) + 1).toNat = k + 1 := by omega
    have q6 : IntKind.i64.wrap ((k : Int) + 1) = (k : Int) + 1 := IntWalk.i64_in _ (by omega)
    have q7 : (n : Int) ≤ (cp : Int) := by omega
    have HBE := Lib.hid (HX.out.behind (k + 1) (by omega) hc)
    by_cases hcp : cp = k + 1
    · obtain ⟨A', e1, e2⟩ := HBE.out
      rw [if_pos hcp] at e1
      subst e1
      subst hcp
      have q8 : (k : Int) ≤ (k : Int) + 1 := by omega
      have q9 : (n : Int) ≤ (k : Int) + 1 := by omega
      rw [show n - (k + 1) = 0 by omega] at e2
      have HBX := Lib.hid e2
      clear e2
      go_enter Try.func24, Try.ntmps24
      go_wp2_with fail
      refine (HF.out).mono ?_
      rintro en w1 ⟨rfl, hb1⟩
      have HB1 := Lib.hid hb1
      have HX1 := Lib.hid (HX.out.below hb1)
      clear hb1 HF
      go_wp2_with fail
      with_reducible refine wp_region_still_tail 7 (by kernel_rfl) (by kernel_rfl) ?_
      simp only [List.take_succ_cons, List.take_zero, List.drop_succ_cons, List.drop_zero]
      iterate 7 still_step
      refine wpStill_nil ?_
      go_wp2_with fail
      have hal : Below w1.heap.size w1 (w1.alloc (.cells #[.slice (some ⟨b, o, none⟩) k (k + 1), .slice (some ⟨b, o, none⟩) 0 0] 24)).drew := ((Below.refl _ _).alloc (Nat.le_refl _) _).drew
      refine (concat_any (some ⟨b, o, none⟩) (some ⟨b, o, none⟩) k (k + 1) 0 0 w1.heap.size (es.take k) (es.drop (k + 1)) _ (by exact heap_alloc_new w1 _) ((HX1.out.below hal).take (by omega)) ((HBX.out.below HB1.out).below hal) (by omega)).mono ?_
      rintro en w4 ⟨A4, c4, rfl, hown, hb4⟩
      have HO4 := Lib.hid hown
      have HB4 := Lib.hid (HB1.out.trans ((hal.trans (hb4.mono hal.size)).mono HB1.out.size))
      clear hown hb4 hal
      go_wp2_with fail
      go_ret2
      rw [HE.out, HL.out]
      exact ⟨A4, _, c4, rfl, ES.of_own HO4.out, own_le HO4.out, HB4.out⟩
    · obtain ⟨A', e1, e2⟩ := HBE.out
      rw [if_neg hcp] at e1
      subst e1
      have HBX := Lib.hid e2
      clear e2
      go_enter Try.func24, Try.ntmps24
      go_wp2_with fail
      refine (HF.out).mono ?_
      rintro en w1 ⟨rfl, hb1⟩
      have HB1 := Lib.hid hb1
      have HX1 := Lib.hid (HX.out.below hb1)
      clear hb1 HF
      go_wp2_with fail
      with_reducible refine wp_region_still_tail 7 (by kernel_rfl) (by kernel_rfl) ?_
      simp only [List.take_succ_cons, List.take_zero, List.drop_succ_cons, List.drop_zero]
      iterate 7 still_step
      refine wpStill_nil ?_
      go_wp2_with fail
      have hal : Below w1.heap.size w1 (w1.alloc (.cells #[.slice (some ⟨b, o, none⟩) k cp, .slice (some ⟨b, o + (k + 1) * 4, none⟩) (n - (k + 1)) (cp - (k + 1))] 24)).drew := ((Below.refl _ _).alloc (Nat.le_refl _) _).drew
      refine (concat_any (some ⟨b, o, none⟩) (some ⟨b, o + (k + 1) * 4, none⟩) k cp (n - (k + 1)) (cp - (k + 1)) w1.heap.size (es.take k) (es.drop (k + 1)) _ (by exact heap_alloc_new w1 _) ((HX1.out.below hal).take (by omega)) ((HBX.out.below HB1.out).below hal) (by omega)).mono ?_
      rintro en w4 ⟨A4, c4, rfl, hown, hb4⟩
      have HO4 := Lib.hid hown
      have HB4 := Lib.hid (HB1.out.trans ((hal.trans (hb4.mono hal.size)).mono HB1.out.size))
      clear hown hb4 hal
      go_wp2_with fail
      go_ret2
      rw [HE.out, HL.out]
      exact ⟨A4, _, c4, rfl, ES.of_own HO4.out, own_le HO4.out, HB4.out⟩
end Go.Proofs.Ytcbmdcgaedkfnaa
