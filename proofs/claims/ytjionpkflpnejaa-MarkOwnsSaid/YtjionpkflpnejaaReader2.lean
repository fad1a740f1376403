
/-
  Contracts of layer 1's Reader, on: Bool, Opaque, and the nil Reader.
-/
import Derived.Test.YtjionpkflpnejaaReader
namespace Go.Proofs.Ytjionpkflpnejaa
open Go.RowKit

/-- A bool is read. -/
def rdB (s : St) : St × Bool := if 1 < (rdN 4 s).2 then (((rdN 4 s).1.1, 11), false) else ((rdN 4 s).1, (rdN 4 s).2 == 1)

/-- An error other than 0 is told with the number 0. -/
theorem rdN_zero (n : Nat) (s : St) (h : (rdN n s).1.2 ≠ 0) : (rdN n s).2 = 0 := by
  unfold rdN at *
  split
  · rfl
  · rename_i h1
    rw [if_neg h1] at h
    split
    · rfl
    · rename_i h2
      rw [if_neg h2] at h
      exact absurd rfl h

set_option maxHeartbeats 400000 in
theorem boolr (w : World) (q : Nat) (l : List UInt8) (e : Int) (h : Rd w q l e) :
    Calls Try.prog 35 #[.pointer (some ⟨q, 0, none⟩)] w (RdPost w q (.bool (rdB (l, e)).2) (rdB (l, e)).1) := by
  have H := Lib.hid h
  clear h
  have HP := Lib.hid (u32r w q l e H.out)
  by_cases hb : 1 < (rdN 4 (l, e)).2
  · have HE : Hid (rdB (l, e) = (((rdN 4 (l, e)).1.1, 11), false)) := if_pos hb
    rw [HE.out]
    clear HE
    generalize rdN 4 (l, e) = r at *
    obtain ⟨⟨l', e'⟩, x⟩ := r
    have hb' : (1 : Int) < (x : Int) := by simp only at hb; omega
    have hb1 : ((x : Int) == 1) = false := by simp only at hb; simp; omega
    clear hb
    go_enter Try.func35, Try.ntmps35
    go_wp2_with fail
    refine HP.out.mono ?_
    rintro en w1 ⟨rfl, ⟨A, c, hr⟩, hg⟩
    have HR := Lib.hid hr
    have HG := Lib.hid hg
    have hc := hr.cell1
    have hf := hr.froz 1
    clear hr hg
    go_wp2_with fail
    go_ret
    exact ⟨rfl, ⟨_, _, HR.out.setErr 11⟩, HG.out.trans (off_setCell _ _ _ _)⟩
  · have HE : Hid (rdB (l, e) = ((rdN 4 (l, e)).1, (rdN 4 (l, e)).2 == 1)) := if_neg hb
    rw [HE.out]
    clear HE
    generalize rdN 4 (l, e) = r at *
    obtain ⟨⟨l', e'⟩, x⟩ := r
    have hx : x = 0 ∨ x = 1 := by simp only at hb; omega
    clear hb
    rcases hx with rfl | rfl
    all_goals
      go_enter Try.func35, Try.ntmps35
      go_wp2_with fail
      refine HP.out.mono ?_
      rintro en w1 ⟨rfl, hr, hg⟩
      have HR := Lib.hid hr
      have HG := Lib.hid hg
      clear hr hg
      go_wp2_with fail
      go_ret
      exact ⟨rfl, HR.out, HG.out⟩

/-- All bytes are 0. -/
def noughts (l : List UInt8) : Bool := l.all (· == 0)
/-- A byte string of at most 'most' bytes is read. -/
def rdO (most : Int) (s : St) : St × List UInt8 :=
  if (rdN 4 s).1.2 ≠ 0 then ((rdN 4 s).1, [])
  else if most < 0 ∨ most < ((rdN 4 s).2 : Int) then (((rdN 4 s).1.1, 13), [])
  else if (rdN 4 s).1.1.length < (rdN 4 s).2 + pad (rdN 4 s).2 then (((rdN 4 s).1.1, 10), [])
  else if noughts (((rdN 4 s).1.1.drop (rdN 4 s).2).take (pad (rdN 4 s).2)) then (((rdN 4 s).1.1.drop ((rdN 4 s).2 + pad (rdN 4 s).2), 0), (rdN 4 s).1.1.take (rdN 4 s).2)
  else (((rdN 4 s).1.1.drop ((rdN 4 s).2 + pad (rdN 4 s).2), 11), [])

/-- What Opaque leaves: its bytes in new memory, the Reader's new state, all else as it was. -/
def OpPost (w : World) (q : Nat) (b : List UInt8) (s : St) (en : Ending) (w' : World) : Prop :=
  ∃ A c, en = .returned (.slice A b.length c) ∧ BS w' A b.length b ∧ Rd w' q s.1 s.2 ∧ w.grownBy w' (some q) ∧ (∀ ad, A = some ad → w.heap.size ≤ ad.block ∧ ad.block ≠ q)

theorem RdAt.drewN {w : World} {q : Nat} {l : List UInt8} {e : Int} {A : Option Addr} {c : Nat} (h : RdAt w q l e A c) (n : Nat) : RdAt (w.drewN n) q l e A c := h
theorem only_drewN {a w : World} {row : Option Nat} (h : a.grownBy w row) (n : Nat) : a.grownBy (w.drewN n) row := ⟨h.os, h.tape, h.output, h.size, h.block⟩
theorem BS.rd {w w' : World} {A : Option Addr} {n q : Nat} {b l : List UInt8} {e : Int} (hb : BS w A n b) (h : Rd w q l e) (hg : w.grownBy w' (some q)) : BS w' A n b := by
  obtain ⟨A', c', h⟩ := h
  exact hb.off h.noByte (fun k hk hne => hg.block k hk (fun e => hne (by injection e)))

end Go.Proofs.Ytjionpkflpnejaa
