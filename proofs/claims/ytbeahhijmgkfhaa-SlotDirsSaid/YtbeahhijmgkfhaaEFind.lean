
/-
  Contracts of slices.IndexFunc at entries, and of package dir's Find and lastCookie (layer 8).
-/
import Derived.Test.YtbeahhijmgkfhaaEMem
import Derived.Deep.LoopGhost
import Derived.Shelf.Abstract
namespace Go.Proofs.Ytbeahhijmgkfhaa
open Go.RowKit Go.Shelf

/-- The first place at which p holds, or -1. -/
def fndP (p : En → Bool) (es : List En) : Int := if es.findIdx p < es.length then (es.findIdx p : Int) else -1
theorem fnd_eq (es : List En) (nm : List UInt8) : fnd es nm = fndP (fun e => e.nm == nm) es := rfl
theorem fndP_hit (p : En → Bool) (es : List En) (k : Nat) (hk : k < es.length) (hp : p es[k] = true) (hno : ∀ j, (h : j < es.length) → j < k → p es[j] = false) : fndP p es = (k : Int) := by
  have h : es.findIdx p = k := by
    rw [List.findIdx_eq hk]
    exact ⟨hp, fun j hj => hno j (by omega) hj⟩
  unfold fndP
  rw [h, if_pos hk]
theorem fndP_miss (p : En → Bool) (es : List En) (hno : ∀ j, (h : j < es.length) → p es[j] = false) : fndP p es = -1 := by
  unfold fndP
  rw [if_neg]
  intro h
  have := List.findIdx_getElem (w := h)
  rw [hno _ h] at this
  cases this

set_option maxRecDepth 100000 in
set_option maxHeartbeats 2000000 in
theorem indexFunc_any (A : Option Addr) (n cp : Nat) (es : List En) (w : World) (h : ES w A n es) (hn : n ≤ 100000000) (g : Nat) (lv : Value) (p : En → Bool) (eg : ∀ args w, (callFunc g args).run Try.prog w = .ok (.enter g args) w)
    (hp : ∀ (W : World) (e : En), Below w.heap.size w W → Calls Try.prog g #[.agg (ec e).toArray, lv] W fun en w' => en = .returned (.bool (p e)) ∧ Below W.heap.size W w') :
    Calls Try.prog 73 #[.slice A n cp, .func (.func g) #[] #[lv]] w fun en w' => en = .returned (.int .i64 (fndP p es)) ∧ Below w.heap.size w w' := by
  have HX := Lib.hid h
  have HN : Hid (es.length = n) := h.1
  have HP := Lib.hid hp
  clear h hp
  go_enter Try.func73, Try.ntmps73
  go_wp2
  go_loopg [5, 8] n (fun gg _ s8 wr => ∃ k : Nat, k ≤ n ∧ n - k ≤ gg ∧ s8 = .int .i64 k ∧ Hid (Below w.heap.size w wr) ∧ Hid (∀ j, (h : j < es.length) → j < k → p es[j] = false))
  case atStart => exact ⟨0, Nat.zero_le _, by omega, rfl, Below.refl _ w, fun j _ hj => absurd hj (Nat.not_lt_zero _)⟩
  case round =>
    obtain ⟨k, hk, hg, rfl, HB, HO⟩ := hrel
    by_cases hlt : k < n
    · obtain ⟨b, o, rfl, hb, hj, hc⟩ := (HX.out.below HB.out).load hlt
      have HC := Lib.hid hc
      have HCALL := Lib.hid (HP.out wr es[k] HB.out)
      have HQ : Hid (es[k] = es[k]) := rfl
      clear hc
      cases hq : p es[k] with
      | true =>
        rw [hq] at HCALL
        have HY := Lib.hid (fndP_hit p es k hj hq HO.out)
        clear hq
        go_wp2_with (first
          | (refine Did.list rfl (did_load 51 (.tmp 14) rfl ⟨b, o + k * 4, none⟩ rfl _ Try.underlying51 rfl (ec es[k]) size_E HC.out) ?_)
          | (go_at_fn g; refine HCALL.out.mono ?_; rintro en w' ⟨rfl, hb'⟩))
        go_ret
        exact ⟨by rw [HY.out]; rfl, HB.out.trans (hb'.mono HB.out.size)⟩
      | false =>
        rw [hq] at HCALL
        have HF := Lib.hid hq
        clear hq
        go_wp2_with (first
          | (refine Did.list rfl (did_load 51 (.tmp 14) rfl ⟨b, o + k * 4, none⟩ rfl _ Try.underlying51 rfl (ec es[k]) size_E HC.out) ?_)
          | (go_at_fn g; refine HCALL.out.mono ?_; rintro en w' ⟨rfl, hb'⟩))
        go_roundg (n - (k + 1))
        case measure => omega
        case rel =>
          refine ⟨k + 1, by omega, by omega, by go_num, HB.out.trans (hb'.mono HB.out.size), (show Hid _ from fun j hj hjk => ?_)⟩
          by_cases e : j = k
          · subst e
            exact HF.out
          · exact HO.out j hj (by omega)
    · have : k = n := by omega
      subst this
      have HY := Lib.hid (fndP_miss p es (fun j h => HO.out j h (by have := HN.out; omega)))
      go_wp2
      go_ret
      exact ⟨by rw [HY.out]; rfl, HB.out⟩

theorem lastCk_nil : lastCk [] = 0 := rfl
theorem lastCk_pos (es : List En) (h : 0 < es.length) : lastCk es = (es[es.length - 1]'(by omega)).ck := by
  unfold lastCk lastAt
  rw [if_neg (by omega), List.getD_eq_getElem?_getD, List.getElem?_eq_getElem (by omega)]
  rfl
end Go.Proofs.Ytbeahhijmgkfhaa
