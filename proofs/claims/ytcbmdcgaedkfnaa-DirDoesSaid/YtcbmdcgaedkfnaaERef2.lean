/-
  Contracts of the reference's Add, Remove and After (layer 8).
-/
import Derived.Test.YtcbmdcgaedkfnaaERPut
import Derived.Test.YtcbmdcgaedkfnaaEAfter
namespace Go.Proofs.Ytcbmdcgaedkfnaa
open Go.RowKit Go.Shelf

set_option maxRecDepth 100000 in
set_option maxHeartbeats 4000000 in
theorem refAdd_any (A : Option Addr) (n cp : Nat) (es : List En) (e : En) (w : World) (h : ES w A n es) (hn : n ≤ 10000000) :
    Calls Try.prog 23 #[.slice A n cp, .agg (ec e).toArray] w (EsQ (addL es e) (addE es e) w) := by
  obtain ⟨i0, hi0, hz0, hz1, hz2⟩ := info_parts info_F
  have HI0 := Lib.hid hi0
  have HZ0 := Lib.hid hz0
  have HZ1 := Lib.hid hz1
  have HZ2 := Lib.hid hz2
  have HN : Hid (es.length = n) := h.1
  have HA : Hid (Below w.heap.size w (w.alloc (.cells (ec e).toArray 50))) := (Below.refl _ _).alloc (Nat.le_refl _) _
  have HE : Hid (EB (w.alloc (.cells (ec e).toArray 50)) w.heap.size 50 e) := EB.new _ _ _
  have HX := Lib.hid (h.below HA.out)
  clear h hi0 hz0 hz1 hz2
  have c3 := HE.out.c3
  have HNM := fun W => Lib.hid (refName_any e.nm W)
  by_cases h1 : nameOk e.nm = true
  rotate_left
  · have h1 : nameOk e.nm = false := by simpa using h1
    have h2 : nameE e.nm = 67 := if_neg (by rw [h1]; simp)
    have hE : addE es e = 67 := if_pos h1
    have HL : Hid (addL es e = []) := by show _ = _; unfold addL; rw [hE]; rfl
    rw [hE]
    rw [h2] at HNM
    clear h1 h2 hE
    go_enter Try.func23, Try.ntmps23
    go_wp2_with fail
    refine ((HNM _).out).mono ?_
    rintro en w1 ⟨rfl, rfl⟩
    go_wp2_with fail
    go_ret2
    exact EsQ.nil HL.out HA.out
  have h2 : nameE e.nm = 0 := if_pos h1
  rw [h2] at HNM
  have HF := Lib.hid (refFind_any A n cp es e.nm _ HX.out hn)
  by_cases h3 : 0 ≤ fnd es e.nm
  · have hE : addE es e = 61 := by unfold addE; rw [if_neg (by rw [h1]; simp), if_pos h3]
    have HL : Hid (addL es e = []) := by show _ = _; unfold addL; rw [hE]; rfl
    rw [hE]
    clear h1 h2 hE
    go_enter Try.func23, Try.ntmps23
    go_wp2_with fail
    refine ((HNM _).out).mono ?_
    rintro en w1 ⟨rfl, rfl⟩
    go_wp2_with fail
    refine (HF.out).mono ?_
    rintro en w1 ⟨rfl, rfl⟩
    go_wp2_with fail
    go_ret2
    exact EsQ.nil HL.out HA.out
  have h3' : fnd es e.nm < 0 := by omega
  have c0 := HE.out.c0
  obtain ⟨L, hL0⟩ : ∃ L, lastCk es = L := ⟨_, rfl⟩
  have HQ : Hid (n = 0 ∧ L = 0 ∨ ∃ q, n = q + 1 ∧ ∃ hj : q < es.length, es[q].ck = L) := by
    show _ ∨ _
    rcases Nat.eq_zero_or_pos n with h0 | h0
    · refine .inl ⟨h0, ?_⟩
      have : es.length = 0 := by rw [HN.out]; exact h0
      rw [← hL0]
      unfold lastCk
      rw [this]
      rfl
    · have hj : n - 1 < es.length := by rw [HN.out]; omega
      refine .inr ⟨n - 1, by omega, hj, ?_⟩
      rw [← hL0]
      unfold lastCk
      rw [show es.length = n - 1 + 1 by rw [HN.out]; omega, lastAt_next hj]
  have HEV : Hid (addE es e = if e.ck ≤ L then 70 else 0) := by
    show _ = _
    unfold addE
    rw [if_neg (by rw [h1]; simp), if_neg h3, hL0]
  clear h1 h2 h3 hL0
  go_enter Try.func23, Try.ntmps23
  go_wp2_with fail
  refine ((HNM _).out).mono ?_
  rintro en w1 ⟨rfl, rfl⟩
  go_wp2_with fail
  refine (HF.out).mono ?_
  rintro en w1 ⟨rfl, rfl⟩
  have HBADE : Hid (e.ck ≤ L → addE es e = 70 ∧ addL es e = []) := fun h => by
    have hE : addE es e = 70 := by rw [HEV.out, if_pos h]
    exact ⟨hE, by unfold addL; rw [hE]; rfl⟩
  have HGOOD : Hid (¬ e.ck ≤ L → addE es e = 0 ∧ addL es e = es ++ [e]) := fun h => by
    have hE : addE es e = 0 := by rw [HEV.out, if_neg h]
    exact ⟨hE, if_pos hE⟩
  rcases HQ.out with ⟨hn0, hL⟩ | ⟨q, hnq, hj, hL⟩
  · subst hn0
    subst hL
    by_cases hle : e.ck ≤ 0
    · have HEE := Lib.hid (HBADE.out hle).1
      have HL := Lib.hid (HBADE.out hle).2
      have hz : e.ck = 0 := by omega
      rw [hz] at c0
      clear hle hz HEV HQ HBADE HGOOD
      go_wp2_with fail
      go_ret2
      rw [HEE.out]
      exact EsQ.nil HL.out HA.out
    · have HEE := Lib.hid (HGOOD.out hle).1
      have HL := Lib.hid (HGOOD.out hle).2
      have hck3 : decide (e.ck ≤ 0) = false := decide_eq_false hle
      have hck2 : ¬ e.ck = 0 := by omega
      have hck : ¬ (e.ck : Int) = 0 := by omega
      have hck4 : ¬ (e.ck : Int) ≤ 0 := by omega
      clear HEV HQ HBADE HGOOD
      have hecl := ec_length e
      go_wp2_with (first
        | (at_builtin
           refine wpList_append_es _ rfl (.tmp 34) (.tmp 35) 28 rfl w.heap.size 50 i0 _ Try.underlying28 HI0.out HZ0.out HZ1.out HZ2.out rfl none 0 0 [] rfl (World.ownsRow_nil _ _ _ _) A 0 cp es rfl HX.out (by omega) HA.out.size ?_
           intro A4 c4 w4 ho4 hg4 _
           have HO4 : Hid (w4.ownsRow w.heap.size 50 4 (.slice A4 0 c4) 0 (ecs es)) := by
             have := ho4
             rw [Nat.zero_add, List.nil_append] at this
             exact this
           have HW4 : Hid (Below w.heap.size w w4) := HA.out.trans ⟨hg4.os, hg4.tape, hg4.output, hg4.size, fun k hk => hg4.block k (Nat.lt_of_lt_of_le hk HA.out.size) (by simp [Value.ownBlock])⟩
           have HE4 : Hid (EB w4 w.heap.size 50 e) := (hg4.block _ HE.out.lt (by simp [Value.ownBlock])).trans HE.out
           clear ho4 hg4)
        | (refine wpList_load_row rfl 50 (.tmp 3) rfl _ rfl 50 (ec e).toArray (0, 0) _ HE4.out Try.underlying50 rfl size_F ?_)
        | (at_builtin
           refine wpList_append_es (w4.alloc (.cells (ec e).toArray 50)) rfl (.tmp 37) (.tmp 39) 28 rfl w.heap.size 50 i0 _ Try.underlying28 HI0.out HZ0.out HZ1.out HZ2.out rfl A4 0 c4 es rfl (World.ownsRow.alloc (w := w4) HO4.out _) (some ⟨w4.heap.size, 0, none⟩) 1 1 [e] rfl (EB.new w4 50 e).es (by omega) (Nat.le_trans HW4.out.size (by simp)) ?_
           intro A5 c5 w5 ho5 hg5 _
           have HO5 := Lib.hid ho5
           have HW5 : Hid (Below w.heap.size w w5) := own_below (HW4.out.alloc HW4.out.size _) (World.ownsRow.alloc (w := w4) HO4.out _) hg5
           clear ho5 hg5))
      go_ret2
      rw [HEE.out, HL.out]
      exact ⟨A5, 0 + 1, c5, by simp, ES.of_own HO5.out, own_le HO5.out, HW5.out⟩
  · have hn1 : (0 : Int) < (n : Int) := by omega
    have hqs : IntKind.i64.wrap ((n : Int) - 1) = (q : Int) := by rw [show (n : Int) - 1 = (q : Int) by omega]; exact IntWalk.i64_in _ (by omega)
    have hqn : (q : Int) < (n : Int) := by omega
    obtain ⟨b, o, rfl, hbl, hj2, hc⟩ := HX.out.at (k := q) (by omega)
    have k0 : (w.alloc (.cells (ec e).toArray 50)).cell? ⟨b, o + q * 4, none⟩ = some (.int .u64 (L : Int)) := (hc 0 _ rfl).trans (by rw [← hL])
    clear hc hnq
    by_cases hle : e.ck ≤ L
    · have HEE := Lib.hid (HBADE.out hle).1
      have HL := Lib.hid (HBADE.out hle).2
      have hd : decide (e.ck ≤ L) = true := decide_eq_true hle
      clear hle HEV HQ HBADE HGOOD
      go_wp2_with fail
      go_ret2
      rw [HEE.out]
      exact EsQ.nil HL.out HA.out
    · have HEE := Lib.hid (HGOOD.out hle).1
      have HL := Lib.hid (HGOOD.out hle).2
      have hd : decide (e.ck ≤ L) = false := decide_eq_false hle
      clear hle HEV HQ HBADE HGOOD
      have hecl := ec_length e
      go_wp2_with (first
        | (at_builtin
           refine wpList_append_es _ rfl (.tmp 34) (.tmp 35) 28 rfl w.heap.size 50 i0 _ Try.underlying28 HI0.out HZ0.out HZ1.out HZ2.out rfl none 0 0 [] rfl (World.ownsRow_nil _ _ _ _) (some ⟨b, o, none⟩) n cp es rfl HX.out (by omega) HA.out.size ?_
           intro A4 c4 w4 ho4 hg4 _
           have HO4 : Hid (w4.ownsRow w.heap.size 50 4 (.slice A4 n c4) n (ecs es)) := by
             have := ho4
             rw [Nat.zero_add, List.nil_append] at this
             exact this
           have HW4 : Hid (Below w.heap.size w w4) := HA.out.trans ⟨hg4.os, hg4.tape, hg4.output, hg4.size, fun k hk => hg4.block k (Nat.lt_of_lt_of_le hk HA.out.size) (by simp [Value.ownBlock])⟩
           have HE4 : Hid (EB w4 w.heap.size 50 e) := (hg4.block _ HE.out.lt (by simp [Value.ownBlock])).trans HE.out
           clear ho4 hg4)
        | (refine wpList_load_row rfl 50 (.tmp 3) rfl _ rfl 50 (ec e).toArray (0, 0) _ HE4.out Try.underlying50 rfl size_F ?_)
        | (at_builtin
           refine wpList_append_es (w4.alloc (.cells (ec e).toArray 50)) rfl (.tmp 37) (.tmp 39) 28 rfl w.heap.size 50 i0 _ Try.underlying28 HI0.out HZ0.out HZ1.out HZ2.out rfl A4 n c4 es rfl (World.ownsRow.alloc (w := w4) HO4.out _) (some ⟨w4.heap.size, 0, none⟩) 1 1 [e] rfl (EB.new w4 50 e).es (by omega) (Nat.le_trans HW4.out.size (by simp)) ?_
           intro A5 c5 w5 ho5 hg5 _
           have HO5 := Lib.hid ho5
           have HW5 : Hid (Below w.heap.size w w5) := own_below (HW4.out.alloc HW4.out.size _) (World.ownsRow.alloc (w := w4) HO4.out _) hg5
           clear ho5 hg5))
      go_ret2
      rw [HEE.out, HL.out]
      exact ⟨A5, n + 1, c5, by simp, ES.of_own HO5.out, own_le HO5.out, HW5.out⟩
end Go.Proofs.Ytcbmdcgaedkfnaa
