/-
  Contract of package dir's from, and the walk of After (layer 8).
-/
import Derived.Test.YtcbmdcgaedkfnaaEVals
namespace Go.Proofs.Ytcbmdcgaedkfnaa
open Go.RowKit Go.Shelf
attribute [local go_sem] Oper.semAt_some

theorem frm_le (es : List En) (c : Nat) : frm es c ≤ es.length := List.findIdx_le_length
/-- What from hands back: the function of slices.Values over what lies behind. -/
def FromP (A : Option Addr) (n : Nat) (es : List En) (c : Nat) (w : World) (e : Ending) (w' : World) : Prop :=
  ∃ q A' m' c', e = .returned (.func (.func 70) #[] #[.pointer (some ⟨q, 0, none⟩)]) ∧ w'.heap[q]? = some (.cells #[.slice A' m' c'] 24 (0, 0)) ∧ w.heap.size ≤ q ∧ Below w.heap.size w w' ∧
    ES w A' m' (es.drop (frm es c)) ∧ m' ≤ n ∧ (0 < m' → ∀ ad, A' = some ad → ∃ a0, A = some a0 ∧ ad.block = a0.block)

set_option maxRecDepth 100000 in
set_option maxHeartbeats 2000000 in
theorem from_any (A : Option Addr) (n cp : Nat) (es : List En) (B c : Nat) (w : World) (h : ES w A n es) (hc : n ≤ cp) (hcm : cp ≤ 9223372036854775807) (hn : n ≤ 10000000) (hB : w.cell? ⟨B, 0, none⟩ = some (.int .u64 (c : Int))) :
    Calls Try.prog 52 #[.slice A n cp, .func (.func 53) #[] #[.pointer (some ⟨B, 0, none⟩)]] w (FromP A n es c w) := by
  have HX := Lib.hid h
  have HN : Hid (es.length = n) := h.1
  have HC := Lib.hid (indexFunc_any A n cp es w h (by omega) 53 (.pointer (some ⟨B, 0, none⟩)) (fun e => decide (c < e.ck)) (enters_of Try.func53 (by kernel_rfl) rfl)
    (fun W e hW => afterC_any e B c W ((hW.cell (p := ⟨B, 0, none⟩) (World.block_lt_of_cell? w _ hB)).trans hB)))
  have hf : frm es c = es.findIdx (fun e => decide (c < e.ck)) := rfl
  have hle := frm_le es c
  have HD := Lib.hid (h.drop (k := frm es c) (by rw [← h.1]; exact hle) hc)
  unfold fndP at HC
  rw [← hf] at HC
  have hfn : frm es c ≤ n := by rw [← HN.out]; exact hle
  have HFE : Hid (frm es c = frm es c) := rfl
  by_cases hlt : frm es c < es.length
  · rw [if_pos hlt] at HC
    have hkn : frm es c < n := by rw [← HN.out]; exact hlt
    obtain ⟨b, o, rfl, hbl, _⟩ := h.at hkn
    clear h hB hf hle hlt
    generalize hk : frm es c = k at *
    have HK := Lib.hid hk
    clear hk
    have q1 : (0 : Int) ≤ (k : Int) := by omega
    have q2 : (k : Int) ≤ (n : Int) := by omega
    have q7 : (n : Int) ≤ (cp : Int) := by omega
    have q8 : (k : Int) ≤ (cp : Int) := by omega
    have q9 : ¬ cp = k := by omega
    go_enter Try.func52, Try.ntmps52
    go_wp2_with fail
    refine (HC.out).mono ?_
    rintro en w1 ⟨rfl, hb1⟩
    have HB1 := Lib.hid hb1
    clear hb1 HC
    go_wp2_with fail
    refine (values_any _ _ _ _).mono ?_
    rintro en w2 ⟨rfl, hw2⟩
    have HW2 := Lib.hid hw2
    clear hw2
    go_wp2_with fail
    go_ret
    unfold FromP
    rw [HK.out, HW2.out]
    refine ⟨w1.heap.size, _, _, _, rfl, heap_alloc_new w1 _, HB1.out.size, HB1.out.trans ((Below.refl _ _).alloc HB1.out.size _), ?_, by omega, ?_⟩
    · have hd := HD.out
      rw [if_neg q9] at hd
      simp only [Option.map_some, add_plain] at hd
      exact hd
    · intro _ ad e
      injection e with e
      subst e
      exact ⟨_, rfl, rfl⟩
  · rw [if_neg hlt] at HC
    have hkn : frm es c = n := by rw [← HN.out]; omega
    have HDR : Hid (es.drop (frm es c) = []) := by show _ = _; exact List.drop_of_length_le (by omega)
    clear h hB hf hle hlt HD hfn hkn HFE
    have q7 : (n : Int) ≤ (cp : Int) := by omega
    by_cases q9 : cp = n
    · subst q9
      go_enter Try.func52, Try.ntmps52
      go_wp2_with fail
      refine (HC.out).mono ?_
      rintro en w1 ⟨rfl, hb1⟩
      have HB1 := Lib.hid hb1
      clear hb1 HC
      go_wp2_with fail
      refine (values_any _ _ _ _).mono ?_
      rintro en w2 ⟨rfl, hw2⟩
      have HW2 := Lib.hid hw2
      clear hw2
      go_wp2_with fail
      go_ret
      unfold FromP
      rw [HDR.out, HW2.out]
      exact ⟨w1.heap.size, A, 0, 0, rfl, heap_alloc_new w1 _, HB1.out.size, HB1.out.trans ((Below.refl _ _).alloc HB1.out.size _), ES.nil, Nat.zero_le _, fun h => absurd h (Nat.lt_irrefl 0)⟩
    · rcases A with _ | ad
      · go_enter Try.func52, Try.ntmps52
        go_wp2_with fail
        refine (HC.out).mono ?_
        rintro en w1 ⟨rfl, hb1⟩
        have HB1 := Lib.hid hb1
        clear hb1 HC
        go_wp2_with fail
        refine (values_any _ _ _ _).mono ?_
        rintro en w2 ⟨rfl, hw2⟩
        have HW2 := Lib.hid hw2
        clear hw2
        go_wp2_with fail
        go_ret
        unfold FromP
        rw [HDR.out, HW2.out]
        exact ⟨w1.heap.size, none, 0, _, rfl, heap_alloc_new w1 _, HB1.out.size, HB1.out.trans ((Below.refl _ _).alloc HB1.out.size _), ES.nil, Nat.zero_le _, fun h => absurd h (Nat.lt_irrefl 0)⟩
      · go_enter Try.func52, Try.ntmps52
        go_wp2_with fail
        refine (HC.out).mono ?_
        rintro en w1 ⟨rfl, hb1⟩
        have HB1 := Lib.hid hb1
        clear hb1 HC
        go_wp2_with fail
        refine (values_any _ _ _ _).mono ?_
        rintro en w2 ⟨rfl, hw2⟩
        have HW2 := Lib.hid hw2
        clear hw2
        go_wp2_with fail
        go_ret
        unfold FromP
        rw [HDR.out, HW2.out]
        exact ⟨w1.heap.size, _, 0, _, rfl, heap_alloc_new w1 _, HB1.out.size, HB1.out.trans ((Below.refl _ _).alloc HB1.out.size _), ES.nil, Nat.zero_le _, fun h => absurd h (Nat.lt_irrefl 0)⟩
end Go.Proofs.Ytcbmdcgaedkfnaa
