/-
  For the law of the tail: a change whose disk stops ahead of its end; what a change leaves.
-/
import Derived.Test.YtcieahfhpanogaaJArgsM
namespace Go.Proofs.Ytcieahfhpanogaa
open Go.RowKit

theorem used_size {d : DS} {j : J.JS} {s t : Nat} {c : List J.Chg} (h : J.JInv d j s t c) : j.used = J.size c := h.used
/-- The disk stops behind as many writes as the change has. -/
theorem tail_commit {d : DS} {j : J.JS} {s t : Nat} {c : List J.Chg} {l : List (Int × List UInt8)} (h : J.JInv d j s t c) (he : j.err = 0) (hd : d.down = false) (hok : J.okW j.nb l = true) (hf : j.used + l.length + 1 ≤ j.log) (hN : 1 + j.log ≤ d.n) (hs : j.seq + 1 < 18446744073709551616) :
    (J.commitJ { d with left := (l.length : Int) } j l).2.2 = 20 ∧ J.Inv (J.commitJ { d with left := (l.length : Int) } j l).1 j.log j.nb s t c j.B ∧ (J.commitJ { d with left := (l.length : Int) } j l).1.n = d.n := by
  have hu := h.used
  have hsq := h.seq
  have h4 := h.log4
  have h4' := h.nb400
  obtain ⟨g1, g2⟩ := J.commit1_tail (l := J.asChg l) (h.inv.left (l.length : Int)) (J.okW_ok hok) (by omega) (by rw [J.asChg_length]; omega) (by omega) hN hd (by rw [J.asChg_length])
  rw [← h.place, ← hsq] at g1 g2
  have e : J.commitJ { d with left := (l.length : Int) } j l = ((J.commit1 { d with left := (l.length : Int) } j.log j.place (j.seq + 1) (J.asChg l)).1, { j with err := (J.commit1 { d with left := (l.length : Int) } j.log j.place (j.seq + 1) (J.asChg l)).2 }, (J.commit1 { d with left := (l.length : Int) } j.log j.place (j.seq + 1) (J.asChg l)).2) := by
    unfold J.commitJ
    rw [if_pos he, if_pos hok, if_pos (by omega), if_pos (by omega)]
    unfold J.commit2
    rw [if_neg (by rw [g1]; decide)]
  rw [e]
  exact ⟨g1, g2, J.commit1_n _ _ _ _ _⟩
theorem rises_far {nb : Nat} : ∀ {l : List (Int × List UInt8)} {p : Int}, -1 ≤ p → J.rises nb p l = true → ∀ i (hi : i < l.length) k (hk : k < l.length), i < k → l[i].1 < l[k].1
  | [], _, _, _, i, hi, _, _, _ => absurd hi (Nat.not_lt_zero _)
  | x :: r, p, hp, h, i, hi, k, hk, hik => by
    simp only [J.rises, Bool.and_eq_true, decide_eq_true_iff] at h
    obtain ⟨⟨⟨h1, _⟩, _⟩, h4⟩ := h
    cases k with
    | zero => omega
    | succ k =>
      have hk' : k < r.length := by simpa using hk
      cases i with
      | zero =>
        simp only [List.getElem_cons_zero, List.getElem_cons_succ]
        exact (J.rises_mem h4 _ (List.getElem_mem hk')).1
      | succ i =>
        simp only [List.getElem_cons_succ]
        exact rises_far (by omega) h4 i (by simpa using hi) k hk' (by omega)
theorem okW_rises {nb : Nat} {l : List (Int × List UInt8)} (h : J.okW nb l = true) : J.rises nb (-1) l = true := by
  simp only [J.okW, Bool.and_eq_true] at h
  exact h.2
theorem okW_at {nb : Nat} {l : List (Int × List UInt8)} (h : J.okW nb l = true) (k : Nat) (hk : k < l.length) : 0 ≤ l[k].1 ∧ l[k].1 < (nb : Int) ∧ l[k].2.length ≤ 96 := by
  have := J.rises_mem (okW_rises h) _ (List.getElem_mem hk)
  omega
/-- Behind a change each block of it is what it was changed to. -/
theorem apl_at {nb : Nat} {l : List (Int × List UInt8)} (h : J.okW nb l = true) (B : Nat → List UInt8) (k : Nat) (hk : k < l.length) : J.apl (J.asChg l) B l[k].1.toNat = l[k].2 := by
  have key : ∀ m, m ≤ l.length → k < m → J.apl (J.asChg (l.take m)) B l[k].1.toNat = l[k].2 := by
    intro m
    induction m with
    | zero => intro _ hkm; omega
    | succ m ih =>
      intro hm hkm
      rw [apl_take l B m (by omega)]
      by_cases e : k = m
      · subst e; rw [if_pos rfl]
      · have hlt := rises_far (by omega) (okW_rises h) k hk m (by omega) (by omega)
        have h0 := (okW_at h k hk).1
        rw [if_neg (by omega)]
        exact ih (by omega) (by omega)
  have := key l.length (Nat.le_refl _) hk
  rwa [List.take_length] at this
section
variable {w w' : World} {p dp : Nat} {S D : Nat → Prop} {j : J.JS} {d : DS} {s0 t0 : Nat} {cs : List J.Chg}
/-- Commit that goes, with what is used of the log. -/
theorem Live.commitUsed (h : Live w p dp S D j d s0 t0 cs) (hc : J.Calm d) (hsq : j.seq + 1 < 18446744073709551616) (hs : d.pend.length ≤ 800000) (X : Nat → Prop) (A : Option Addr) (n c : Nat) (l : List (Int × List UInt8)) (hw : WS w X A n l) (hX : ∀ k, X k → k < w.heap.size ∧ ¬ (S k ∨ D k)) (hn : n ≤ 1000000)
    (hok : J.okW j.nb l = true) (hf : j.used + l.length + 1 ≤ j.log) :
    Calls Try.prog 14 #[.pointer (some ⟨p, 0, none⟩), .slice A n c] w fun e w' => e = .returned (.int .i64 0) ∧ ∃ j' d' s t c', LStep w w' p dp S D j' d' s t c' ∧ J.Calm d' ∧ d'.n = d.n ∧ j'.log = j.log ∧ j'.nb = j.nb ∧ j'.seq = j.seq + 1 ∧ j'.B = J.apl (J.asChg l) j.B ∧ j'.used = j.used + l.length + 1 ∧ d'.pend.length ≤ d.pend.length + 2 * l.length + 2 := by
  have hlog : 0 < j.log := by have := h.inv.log4; omega
  obtain ⟨g1, g2, g3, g4⟩ := hc.commitJ h.err hlog h.room hok (by omega) h.inv.lens
  obtain ⟨s, t, c', e', u, g5, g6⟩ := (J.commitJ_inv h.inv h.err hsq hok (by omega)).1 g1
  rw [if_pos (by omega)] at g4
  refine (h.commit hsq hs X A n c l hw hX hn).mono ?_
  rintro e w' ⟨rfl, S', D', k1, k2, k3, k4⟩
  refine ⟨by rw [g1], _, _, s, t, c', ⟨S', D', ⟨k1, g5, ?_, ?_⟩, k2, k3, k4⟩, g2, g3, ?_, ?_, ?_, ?_, ?_, commitJ_pend l d j⟩
  · rw [g4]; rfl
  · rw [g3, g4]; exact h.room
  · rw [g4]; rfl
  · rw [g4]; rfl
  · rw [g4]; rfl
  · rw [g4]; rfl
  · rw [g4]; show j.used + (J.asChg l).length + 1 = _; rw [J.asChg_length]
end
/-- Two writes of a byte each, as the law builds them. -/
theorem two_ws (w : World) (i i' : Int) (a a' : UInt8) : WS (((w.alloc (.cells #[.int .u8 (a.toNat : Int)] 5 (1, 2))).alloc (.cells #[.int .u8 (a'.toNat : Int)] 5 (1, 2))).alloc (.cells (wv i ⟨some ⟨w.heap.size, 0, none⟩, 1, 1⟩ ++ wv i' ⟨some ⟨w.heap.size + 1, 0, none⟩, 1, 1⟩).toArray 37)) (fun k => w.heap.size ≤ k ∧ k < w.heap.size + 3) (some ⟨w.heap.size + 1 + 1, 0, none⟩) 2 [(i, [a]), (i', [a'])] := by
  refine ⟨rfl, fun _ => ⟨w.heap.size + 1 + 1, 0, rfl, ⟨by omega, by omega⟩, fun k hk => ?_⟩⟩
  have hk2 : k < 2 := hk
  have g3 := heap_alloc_new ((w.alloc (.cells #[.int .u8 (a.toNat : Int)] 5 (1, 2))).alloc (.cells #[.int .u8 (a'.toNat : Int)] 5 (1, 2))) (.cells (wv i ⟨some ⟨w.heap.size, 0, none⟩, 1, 1⟩ ++ wv i' ⟨some ⟨w.heap.size + 1, 0, none⟩, 1, 1⟩).toArray 37)
  simp only [World.size_alloc] at g3
  have b1 : BS (w.alloc (.cells #[.int .u8 (a.toNat : Int)] 5 (1, 2))) (some ⟨w.heap.size, 0, none⟩) 1 [a] := BS.of_block (heap_alloc_new w _)
  have b2 : BS ((w.alloc (.cells #[.int .u8 (a.toNat : Int)] 5 (1, 2))).alloc (.cells #[.int .u8 (a'.toNat : Int)] 5 (1, 2))) (some ⟨w.heap.size + 1, 0, none⟩) 1 [a'] := by
    have := BS.of_block (l := [a']) (heap_alloc_new (w.alloc (.cells #[.int .u8 (a.toNat : Int)] 5 (1, 2))) (.cells #[.int .u8 (a'.toNat : Int)] 5 (1, 2)))
    simpa only [World.size_alloc, List.length_cons, List.length_nil, Nat.zero_add] using this
  match k, hk2 with
  | 0, _ => exact ⟨⟨some ⟨w.heap.size, 0, none⟩, 1, 1⟩, by rw [cell_of_row _ _ _ _ _ _ g3]; rfl, by rw [cell_of_row _ _ _ _ _ _ g3]; rfl, (b1.alloc _).alloc _, Nat.le_refl _, fun _ ad e => by cases e; exact ⟨Nat.le_refl _, by show w.heap.size < _; omega⟩⟩
  | 1, _ => exact ⟨⟨some ⟨w.heap.size + 1, 0, none⟩, 1, 1⟩, by rw [cell_of_row _ _ _ _ _ _ g3]; rfl, by rw [cell_of_row _ _ _ _ _ _ g3]; rfl, b2.alloc _, Nat.le_refl _, fun _ ad e => by cases e; exact ⟨by show _ ≤ w.heap.size + 1; omega, by show w.heap.size + 1 < _; omega⟩⟩
end Go.Proofs.Ytcieahfhpanogaa
