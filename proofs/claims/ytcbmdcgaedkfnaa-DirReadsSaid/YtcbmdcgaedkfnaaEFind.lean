/-
  Contracts of slices.IndexFunc at entries, and of package dir's Find and lastCookie (layer 8).
-/
import Derived.Test.YtcbmdcgaedkfnaaEMem
import Derived.Deep.LoopGhost
import Derived.Shelf.Abstract
namespace Go.Proofs.Ytcbmdcgaedkfnaa
open Go.RowKit Go.Shelf

/-- The first place at which p holds, or -1. -/
def fndP (p : En → Bool) (es : List En) : Int := if es.findIdx p < es.length then (es.findIdx p : Int) else -1
theorem fnd_eq (es : List En) (nm : List UInt8) : fnd es nm = fndP (fun e => e.nm == nm) es := rfl
theorem fndP_hit (p : En → Bool) (es : List En) (k : Nat) (hk : k < es.length) (hp : p es[k] = true) (hno : ∀ j, (h : j < es.length) → j < k → p es[j] = false) : fndP p es = (k : Int) := by
  have h : es.findIdx p = k := by
    rw [List.findIdx_eq hk]
    exact ⟨hp, fun j hj => hno j (by omega) hj⟩
  unfold fndP
  rw [h, if_pos hk]
theorem fndP_miss (p : En → Bool) (es : List En) (hno : ∀ j, (h : j < es.length) → p es[j] = false) : fndP p es = -1 := by
  unfold fndP
  rw [if_neg]
  intro h
  have := List.findIdx_getElem (w := h)
  rw [hno _ h] at this
  cases this

set_option maxRecDepth 100000 in
set_option maxHeartbeats 2000000 in
theorem indexFunc_any (A : Option Addr) (n cp : Nat) (es : List En) (w : World) (h : ES w A n es) (hn : n ≤ 100000000) (g : Nat) (lv : Value) (p : En → Bool) (eg : ∀ args w, (callFunc g args).run Try.prog w = .ok (.enter g args) w)
    (hp : ∀ (W : World) (e : En), Below w.heap.size w W → Calls Try.prog g #[.agg (ec e).toArray, lv] W fun en w' => en = .returned (.bool (p e)) ∧ Below W.heap.size W w') :
    Calls Try.prog 48 #[.slice A n cp, .func (.func g) #[] #[lv]] w fun en w' => en = .returned (.int .i64 (fndP p es)) ∧ Below w.heap.size w w' := by
  have HX := Lib.hid h
  have HN : Hid (es.length = n) := h.1
  have HP := Lib.hid hp
  clear h hp
  go_enter Try.func48, Try.ntmps48
  go_wp2
  go_loopg [5, 8] n (fun gg _ s8 wr => ∃ k : Nat, k ≤ n ∧ n - k ≤ gg ∧ s8 = .int .i64 k ∧ Hid (Below w.heap.size w wr) ∧ Hid (∀ j, (h : j < es.length) → j < k → p es[j] = false))
  case atStart => exact ⟨0, Nat.zero_le _, by omega, rfl, Below.refl _ w, fun j _ hj => absurd hj (Nat.not_lt_zero _)⟩
  case round =>
    obtain ⟨k, hk, hg, rfl, HB, HO⟩ := hrel
    by_cases hlt : k < n
    · obtain ⟨b, o, rfl, hb, hj, hc⟩ := (HX.out.below HB.out).load hlt
      have HC := Lib.hid hc
      have HCALL := Lib.hid (HP.out wr es[k] HB.out)
      have HQ : Hid (es[k] = es[k]) := rfl
      clear hc
      cases hq : p es[k] with
      | true =>
        rw [hq] at HCALL
        have HY := Lib.hid (fndP_hit p es k hj hq HO.out)
        clear hq
        go_wp2_with (first
          | (refine Did.list rfl (did_load 41 (.tmp 14) rfl ⟨b, o + k * 4, none⟩ rfl _ Try.underlying41 rfl (ec es[k]) size_E HC.out) ?_)
          | (go_at_fn g; refine HCALL.out.mono ?_; rintro en w' ⟨rfl, hb'⟩))
        go_ret
        exact ⟨by rw [HY.out]; rfl, HB.out.trans (hb'.mono HB.out.size)⟩
      | false =>
        rw [hq] at HCALL
        have HF := Lib.hid hq
        clear hq
        go_wp2_with (first
          | (refine Did.list rfl (did_load 41 (.tmp 14) rfl ⟨b, o + k * 4, none⟩ rfl _ Try.underlying41 rfl (ec es[k]) size_E HC.out) ?_)
          | (go_at_fn g; refine HCALL.out.mono ?_; rintro en w' ⟨rfl, hb'⟩))
        go_roundg (n - (k + 1))
        case measure => omega
        case rel =>
          refine ⟨k + 1, by omega, by omega, by go_num, HB.out.trans (hb'.mono HB.out.size), (show Hid _ from fun j hj hjk => ?_)⟩
          by_cases e : j = k
          · subst e
            exact HF.out
          · exact HO.out j hj (by omega)
    · have : k = n := by omega
      subst this
      have HY := Lib.hid (fndP_miss p es (fun j h => HO.out j h (by have := HN.out; omega)))
      go_wp2
      go_ret
      exact ⟨by rw [HY.out]; rfl, HB.out⟩

set_option maxRecDepth 100000 in
set_option maxHeartbeats 1000000 in
theorem findC_any (e : En) (B : Nat) (nm : List UInt8) (w : World) (hc : w.cell? ⟨B, 0, none⟩ = some (.string (txt nm))) :
    Calls Try.prog 49 #[.agg (ec e).toArray, .pointer (some ⟨B, 0, none⟩)] w fun en w' => en = .returned (.bool (e.nm == nm)) ∧ Below w.heap.size w w' := by
  have c3 := (EB.new w 41 e).c3
  have cB : (w.alloc (.cells (ec e).toArray 41)).cell? ⟨B, 0, none⟩ = some (.string (txt nm)) := (World.cell?_alloc_lt _ _ _ (World.block_lt_of_cell? w _ hc)).trans hc
  have ht : ((txt e.nm).toList == (txt nm).toList) = (e.nm == nm) := by rw [txt_toList, txt_toList]
  clear hc
  generalize (e.nm == nm) = r at *
  go_enter Try.func49, Try.ntmps49
  go_wp2
  go_ret
  exact ⟨rfl, (Below.refl _ _).alloc (Nat.le_refl _) _⟩
set_option maxRecDepth 100000 in
set_option maxHeartbeats 1000000 in
theorem afterC_any (e : En) (B c : Nat) (w : World) (hc : w.cell? ⟨B, 0, none⟩ = some (.int .u64 (c : Int))) :
    Calls Try.prog 53 #[.agg (ec e).toArray, .pointer (some ⟨B, 0, none⟩)] w fun en w' => en = .returned (.bool (decide (c < e.ck))) ∧ Below w.heap.size w w' := by
  have c0 := (EB.new w 41 e).c0
  have cB : (w.alloc (.cells (ec e).toArray 41)).cell? ⟨B, 0, none⟩ = some (.int .u64 (c : Int)) := (World.cell?_alloc_lt _ _ _ (World.block_lt_of_cell? w _ hc)).trans hc
  clear hc
  go_enter Try.func53, Try.ntmps53
  go_wp2
  go_ret
  exact ⟨rfl, (Below.refl _ _).alloc (Nat.le_refl _) _⟩

set_option maxRecDepth 100000 in
set_option maxHeartbeats 1000000 in
theorem find_any (A : Option Addr) (n cp : Nat) (es : List En) (nm : List UInt8) (w : World) (h : ES w A n es) (hn : n ≤ 100000000) :
    Calls Try.prog 20 #[.slice A n cp, .string (txt nm)] w fun en w' => en = .returned (.int .i64 (fnd es nm)) ∧ Below w.heap.size w w' := by
  have HA : Hid (Below w.heap.size w (w.alloc (.cells #[.string (txt nm)] 9))) := (Below.refl _ _).alloc (Nat.le_refl _) _
  have HC := Lib.hid (indexFunc_any A n cp es _ (h.alloc (.cells #[.string (txt nm)] 9)) hn 49 (.pointer (some ⟨w.heap.size, 0, none⟩)) (fun e => e.nm == nm) (enters_of Try.func49 (by kernel_rfl) rfl)
    (fun W e hW => findC_any e w.heap.size nm W ((hW.cell (p := ⟨w.heap.size, 0, none⟩) (by simp)).trans (by
      rw [cell_of_row _ _ _ _ _ _ (heap_alloc_new w _)]; rfl))))
  rw [fnd_eq]
  clear h
  go_enter Try.func20, Try.ntmps20
  go_wp2_with fail
  refine HC.out.mono ?_
  rintro e w1 ⟨rfl, hb⟩
  have HB : Hid (Below w.heap.size w w1) := HA.out.trans (hb.mono (by simp))
  clear hb HC HA
  go_wp2
  go_ret
  exact ⟨rfl, HB.out⟩

theorem lastCk_nil : lastCk [] = 0 := rfl
theorem lastCk_pos (es : List En) (h : 0 < es.length) : lastCk es = (es[es.length - 1]'(by omega)).ck := by
  unfold lastCk lastAt
  rw [if_neg (by omega), List.getD_eq_getElem?_getD, List.getElem?_eq_getElem (by omega)]
  rfl
set_option maxRecDepth 100000 in
set_option maxHeartbeats 1000000 in
theorem lastCookie_any (A : Option Addr) (n cp : Nat) (es : List En) (w : World) (h : ES w A n es) (hn : n ≤ 100000000) :
    Calls Try.prog 50 #[.slice A n cp] w fun en w' => en = .returned (.int .u64 (lastCk es : Int)) ∧ w = w' := by
  have hl := h.1
  by_cases h0 : n = 0
  · subst h0
    have : es = [] := List.eq_nil_of_length_eq_zero hl
    subst this
    clear h hl
    go_enter Try.func50, Try.ntmps50
    go_wp2
    go_ret
    exact ⟨rfl, rfl⟩
  · have h1 : n - 1 < n := by omega
    obtain ⟨b, o, rfl, hb, hj, hc⟩ := h.at h1
    have hcc := hc 0 _ rfl
    have e1 : (n : Int) - 1 = ((n - 1 : Nat) : Int) := by omega
    have HL : Hid (lastCk es = es[n - 1].ck) := by
      show _ = _
      rw [lastCk_pos es (by omega)]
      subst hl
      rfl
    rw [HL.out]
    generalize es[n - 1].ck = x at *
    have hd : ((n : Int) == 0) = false := by simp; omega
    have hd1 : (0 : Int) ≤ (n : Int) - 1 := by omega
    have hd2 : (n : Int) - 1 < (n : Int) := by omega
    have e2 : ((n : Int) - 1).toNat = n - 1 := by omega
    rw [Nat.add_zero] at hcc
    clear hc h hl e1
    go_enter Try.func50, Try.ntmps50
    go_wp2
    go_ret
    exact ⟨rfl, rfl⟩
end Go.Proofs.Ytcbmdcgaedkfnaa
