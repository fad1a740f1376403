/-
  Contract of package slot's all: conditions, as functions that hold what they caught, are asked up to the first one that does not hold (layer 11).
-/
import Derived.Test.YtbeahhijmgkfhaaEFind
namespace Go.Proofs.Ytbeahhijmgkfhaa
open Go.RowKit Go.Shelf

/-- A function that caught these. -/
def fnV (F : Nat) (caps : Array Value) : Value := .func (.func F) #[] caps
/-- The slice (B, n, ..) reads as these functions. -/
def FS (w : World) (B n : Nat) (fs : List (Nat × Array Value)) : Prop := fs.length = n ∧ ∀ j (h : j < fs.length), w.cell? ⟨B, j, none⟩ = some (fnV fs[j].1 fs[j].2)
theorem FS.below {w w' : World} {B n : Nat} {fs : List (Nat × Array Value)} (h : FS w B n fs) (hb : Below w.heap.size w w') : FS w' B n fs :=
  ⟨h.1, fun j hj => (hb.cell (World.block_lt_of_cell? w _ (h.2 j hj))).trans (h.2 j hj)⟩
/-- The first one that does not hold, or -1. -/
def fndN (bs : List Bool) : Int := if bs.all id then -1 else ((bs.findIdx (!·) : Nat) : Int)
theorem fndN_neg (bs : List Bool) (h : ∀ j, (hj : j < bs.length) → bs[j] = true) : fndN bs = -1 := by
  unfold fndN
  rw [if_pos]
  rw [List.all_eq_true]
  intro b hb
  obtain ⟨j, hj, rfl⟩ := List.getElem_of_mem hb
  exact h j hj
theorem fndN_hit (bs : List Bool) (k : Nat) (hk : k < bs.length) (hb : bs[k] = false) (h : ∀ j, (hj : j < bs.length) → j < k → bs[j] = true) : fndN bs = (k : Int) := by
  have h1 : bs.findIdx (!·) = k := by
    rw [List.findIdx_eq hk]
    exact ⟨by simp [hb], fun j hj => by simp [h j (by omega) hj]⟩
  unfold fndN
  rw [if_neg, h1]
  intro ha
  rw [List.all_eq_true] at ha
  have := ha _ (List.getElem_mem hk)
  rw [hb] at this
  cases this
theorem fndN_dec (bs : List Bool) : decide (0 ≤ fndN bs) = !(bs.all id) := by
  unfold fndN
  cases hb : bs.all id
  · simp
  · simp
/-- Asked in their order, each holds or not, as long as those ahead of it hold. -/
def Asked (w : World) (fs : List (Nat × Array Value)) (bs : List Bool) : Prop := bs.length = fs.length ∧ ∀ j (h : j < fs.length) (hb : j < bs.length), (∀ i, (hi : i < bs.length) → i < j → bs[i] = true) → ∀ W, Below w.heap.size w W →
  (∀ args V, (callFunc fs[j].1 args).run Try.prog V = .ok (.enter fs[j].1 args) V) ∧ Calls Try.prog fs[j].1 fs[j].2 W fun e w' => e = .returned (.bool bs[j]) ∧ Below W.heap.size W w'

set_option maxRecDepth 100000 in
set_option maxHeartbeats 1000000 in
theorem all1_any (F : Nat) (caps : Array Value) (b : Bool) (w : World) (eg : ∀ args V, (callFunc F args).run Try.prog V = .ok (.enter F args) V) (h : Calls Try.prog F caps w fun e w' => e = .returned (.bool b) ∧ Below w.heap.size w w') :
    Calls Try.prog 59 #[fnV F caps] w fun e w' => e = .returned (.bool (!b)) ∧ Below w.heap.size w w' := by
  have HC := Lib.hid h
  clear h
  go_enter Try.func59, Try.ntmps59
  unfold fnV
  go_wp2_with (go_at_fn F; refine HC.out.mono ?_; rintro en w' ⟨rfl, hb'⟩)
  go_ret
  exact ⟨rfl, hb'⟩

set_option maxRecDepth 100000 in
set_option maxHeartbeats 2000000 in
theorem indexAll_any (B n cp : Nat) (fs : List (Nat × Array Value)) (bs : List Bool) (w : World) (h : FS w B n fs) (hn : n ≤ 1000) (hq : Asked w fs bs) :
    Calls Try.prog 72 #[.slice (some ⟨B, 0, none⟩) n cp, fnV 59 #[]] w fun en w' => en = .returned (.int .i64 (fndN bs)) ∧ Below w.heap.size w w' := by
  have HX := Lib.hid h
  have HN : Hid (fs.length = n) := h.1
  have HL : Hid (bs.length = fs.length) := hq.1
  have HP := Lib.hid hq.2
  clear h hq
  go_enter Try.func72, Try.ntmps72
  unfold fnV
  go_wp2
  go_loopg [5, 8] n (fun gg _ s8 wr => ∃ k : Nat, k ≤ n ∧ n - k ≤ gg ∧ s8 = .int .i64 k ∧ Hid (Below w.heap.size w wr) ∧ Hid (∀ j, (h : j < bs.length) → j < k → bs[j] = true))
  case atStart => exact ⟨0, Nat.zero_le _, by omega, rfl, Below.refl _ w, fun j _ hj => absurd hj (Nat.not_lt_zero _)⟩
  case round =>
    obtain ⟨k, hk, hg, rfl, HB, HO⟩ := hrel
    by_cases hlt : k < n
    · have hj : k < fs.length := by rw [HN.out]; exact hlt
      have hjb : k < bs.length := by rw [HL.out]; exact hj
      have hc := (HX.out.below HB.out).2 k hj
      obtain ⟨h1, h2⟩ := HP.out k hj hjb HO.out wr HB.out
      have HCALL := Lib.hid (all1_any fs[k].1 fs[k].2 bs[k] wr h1 h2)
      clear h1 h2
      generalize fnV fs[k].1 fs[k].2 = fv at *
      cases hq : bs[k] with
      | false =>
        rw [hq] at HCALL
        have HY := Lib.hid (fndN_hit bs k hjb hq HO.out)
        clear hq
        go_wp2_with (refine HCALL.out.mono ?_; rintro en w' ⟨rfl, hb'⟩)
        go_ret
        exact ⟨by rw [HY.out]; rfl, HB.out.trans (hb'.mono HB.out.size)⟩
      | true =>
        rw [hq] at HCALL
        have HF := Lib.hid hq
        clear hq
        go_wp2_with (refine HCALL.out.mono ?_; rintro en w' ⟨rfl, hb'⟩)
        go_roundg (n - (k + 1))
        case measure => omega
        case rel =>
          refine ⟨k + 1, by omega, by omega, by go_num, HB.out.trans (hb'.mono HB.out.size), (show Hid _ from fun j hj hjk => ?_)⟩
          by_cases e : j = k
          · subst e
            exact HF.out
          · exact HO.out j hj (by omega)
    · have : k = n := by omega
      subst this
      have HY := Lib.hid (fndN_neg bs (fun j h => HO.out j h (by have := HN.out; have := HL.out; omega)))
      go_wp2
      go_ret
      exact ⟨by rw [HY.out]; rfl, HB.out⟩

set_option maxRecDepth 100000 in
set_option maxHeartbeats 1000000 in
theorem all_any (B n cp : Nat) (fs : List (Nat × Array Value)) (bs : List Bool) (w : World) (h : FS w B n fs) (hn : n ≤ 1000) (hq : Asked w fs bs) :
    Calls Try.prog 28 #[.slice (some ⟨B, 0, none⟩) n cp] w fun en w' => en = .returned (.bool (bs.all id)) ∧ Below w.heap.size w w' := by
  have HC := Lib.hid (indexAll_any B n cp fs bs w h hn hq)
  have hd := fndN_dec bs
  clear h hq
  generalize fndN bs = z at *
  generalize bs.all id = b at *
  have hc : Calls Try.prog 58 #[.slice (some ⟨B, 0, none⟩) n cp, fnV 59 #[]] w fun en w' => en = .returned (.bool (!b)) ∧ Below w.heap.size w w' := by
    go_enter Try.func58, Try.ntmps58
    unfold fnV at *
    go_wp2_with fail
    refine HC.out.mono ?_
    rintro e w1 ⟨rfl, hb⟩
    go_wp2_with fail
    go_ret
    exact ⟨by rw [← hd]; rfl, hb⟩
  have HD := Lib.hid hc
  clear hc HC hd
  go_enter Try.func28, Try.ntmps28
  unfold fnV at *
  go_wp2_with fail
  refine HD.out.mono ?_
  rintro e w1 ⟨rfl, hb⟩
  go_wp2_with fail
  go_ret
  exact ⟨by simp, hb⟩
end Go.Proofs.Ytbeahhijmgkfhaa
