/-
  Contract of the reference's May (layer 8).
-/
import Derived.Test.YtcbmdcgaedkfnaaERef1
import Derived.BigQuiet
namespace Go.Proofs.Ytcbmdcgaedkfnaa
open Go.RowKit Go.Shelf

theorem lastAt_next {es : List En} {k : Nat} (hk : k < es.length) : lastAt es (k + 1) = es[k].ck := by
  unfold lastAt
  rw [if_neg (by omega), List.getD_eq_getElem?_getD, show k + 1 - 1 = k by omega, List.getElem?_eq_getElem hk]
  rfl
theorem okB_before {es : List En} (h : okB es = true) {k : Nat} (hk : k < es.length) : ∀ x ∈ es.take k, x.nm ≠ es[k].nm := by
  have h1 : es = es.take k ++ es[k] :: es.drop (k + 1) := by
    rw [List.getElem_cons_drop]
    exact (List.take_append_drop k es).symm
  unfold okB at h
  rw [Bool.and_eq_true, decide_eq_true_eq] at h
  have h2 := h.2
  generalize es[k] = e at *
  rw [h1, List.map_append, List.nodup_append] at h2
  intro x hx
  exact h2.2.2 x.nm (List.mem_map_of_mem hx) e.nm (by simp)
theorem fnd_before {es : List En} {nm : List UInt8} {k : Nat} (h : fnd es nm = (k : Int)) : ∀ x ∈ es.take k, x.nm ≠ nm := by
  unfold fnd at h
  split at h
  · have h1 : es.findIdx (fun e => e.nm == nm) = k := by omega
    intro x hx e
    obtain ⟨j, hj, rfl⟩ := List.getElem_of_mem hx
    rw [List.length_take] at hj
    rw [List.getElem_take] at e
    have := List.not_of_lt_findIdx (p := fun e : En => e.nm == nm) (xs := es) (i := j) (by omega)
    simp [e] at this
  · omega
theorem lastCk_take {es : List En} {k : Nat} (hk : k ≤ es.length) : lastCk (es.take k) = lastAt es k := by
  unfold lastCk
  rw [List.length_take, Nat.min_eq_left hk]
  unfold lastAt
  split
  · rfl
  · rename_i h0
    rw [List.getD_eq_getElem?_getD, List.getD_eq_getElem?_getD, List.getElem?_take_of_lt (by omega)]
/-- One entry more that may be. -/
theorem okB_more {es : List En} {k : Nat} (hk : k < es.length) (h : okB (es.take k) = true) (h1 : nameOk es[k].nm = true) (h2 : fnd es es[k].nm = (k : Int)) (h3 : lastAt es k < es[k].ck) : okB (es.take (k + 1)) = true := by
  rw [List.take_succ_eq_append_getElem hk]
  exact okB_snoc h h1 (fnd_before h2) (by rw [lastCk_take (by omega)]; exact h3)
theorem okB_bad {es : List En} {k : Nat} (hk : k < es.length) (h : ¬ (nameOk es[k].nm = true ∧ lastAt es k < es[k].ck ∧ fnd es es[k].nm = (k : Int))) : okB es = false := by
  cases ho : okB es
  · rfl
  · have h1 := okB_at es ho k hk
    exact absurd ⟨h1.1, h1.2, fnd_at hk (okB_before ho hk) rfl⟩ h
theorem fnd_zero {es : List En} (h : 0 < es.length) : fnd es es[0].nm = ((0 : Nat) : Int) := fnd_at h (fun x hx => by cases hx) rfl

set_option maxRecDepth 100000 in
set_option maxHeartbeats 8000000 in
theorem refMay_any (A : Option Addr) (n c : Nat) (es : List En) (w : World) (h : ES w A n es) (hn : n ≤ 10000000) : Calls Try.prog 38 #[.slice A n c] w fun e w' => e = .returned (.bool (okB es)) ∧ Below w.heap.size w w' := by
  have HS := Lib.hid h
  have HN : Hid (es.length = n) := h.1
  clear h
  go_enter Try.func38, Try.ntmps38
  go_wp2_with fail
  go_loopw [3] (fun i wr => ∃ k : Nat, k ≤ n ∧ i = .int .i64 k ∧ Hid (okB (es.take k) = true) ∧ Hid (Below w.heap.size w wr)) (fun i _ => n - (intOf i).toNat)
  case atStart => exact ⟨0, Nat.zero_le _, rfl, rfl, Below.refl _ _⟩
  case round =>
    obtain ⟨k, hk, rfl, HP, HW⟩ := hrel
    have HSr := Lib.hid (HS.out.below HW.out)
    have HWK : Hid (∀ d, Below w.heap.size w (wr.drewN d)) := fun d => ⟨HW.out.os, HW.out.tape, HW.out.output, HW.out.size, HW.out.block⟩
    by_cases hlt : k < n
    · have hlt' : (k : Int) < (n : Int) := by omega
      obtain ⟨b, o, rfl, _, hj, hc⟩ := HSr.out.at hlt
      have HNM := fun W => Lib.hid (refName_any es[k].nm W)
      have HFD := fun d => Lib.hid (refFind_any (some ⟨b, o, none⟩) n c es es[k].nm (wr.drewN d) (HSr.out.drewN d) hn)
      have HMORE := Lib.hid (okB_more hj HP.out)
      have HBAD := Lib.hid (okB_bad hj)
      cases hnm : nameOk es[k].nm
      · have HE : Hid (okB es = false) := HBAD.out (by rw [hnm]; rintro ⟨h, _⟩; cases h)
        have HNE : Hid (nameE es[k].nm = 67) := if_neg (by rw [hnm]; simp)
        rw [HNE.out] at HNM
        clear HMORE HBAD
        generalize es[k] = e at *
        have k3 : wr.cell? ⟨b, o + k * 4 + 3, none⟩ = some (.string (txt e.nm)) := hc 3 _ rfl
        clear hc
        go_wp2_with fail
        go_quiet (first
          | (go_at_call 19; exact Calls.quiet_of_same (HNM _).out)
          | (go_at_call 21; exact Calls.quiet_of_same (HFD _).out))
        go_wp2_with fail
        go_ret
        exact ⟨by rw [HE.out] <;> rfl, HWK.out _⟩
      have HNE : Hid (nameE es[k].nm = 0) := if_pos hnm
      rw [HNE.out] at HNM
      by_cases h0 : es[k].ck = 0
      · have HE : Hid (okB es = false) := HBAD.out (fun h => by have := h.2.1; omega)
        have k0 : wr.cell? ⟨b, o + k * 4, none⟩ = some (.int .u64 0) := (hc 0 _ rfl).trans (by rw [h0]; rfl)
        clear HMORE HBAD h0 hnm
        generalize es[k] = e at *
        have k3 : wr.cell? ⟨b, o + k * 4 + 3, none⟩ = some (.string (txt e.nm)) := hc 3 _ rfl
        clear hc
        go_wp2_with fail
        go_quiet (first
          | (go_at_call 19; exact Calls.quiet_of_same (HNM _).out)
          | (go_at_call 21; exact Calls.quiet_of_same (HFD _).out))
        go_wp2_with fail
        go_ret
        exact ⟨by rw [HE.out] <;> rfl, HWK.out _⟩
      have hck : ((es[k].ck : Int) == 0) = false := beq_false_of_ne (by omega)
      have hck2 : ¬ (es[k].ck : Int) = 0 := by omega
      rcases Nat.eq_zero_or_pos k with hk0 | hkp
      · subst hk0
        have HR : Hid (okB (es.take (0 + 1)) = true) := HMORE.out hnm (fnd_zero hj) (by show 0 < _; omega)
        have HFZ : Hid (fnd es es[0].nm = ((0 : Nat) : Int)) := fnd_zero hj
        rw [HFZ.out] at HFD
        clear HMORE HBAD h0 hnm HFZ HNE
        generalize es[0] = e at *
        have k0 : wr.cell? ⟨b, o + 0 * 4, none⟩ = some (.int .u64 (e.ck : Int)) := hc 0 _ rfl
        have k3 : wr.cell? ⟨b, o + 0 * 4 + 3, none⟩ = some (.string (txt e.nm)) := hc 3 _ rfl
        rw [Nat.zero_mul, Nat.add_zero] at k0 k3
        clear hc
        go_wp2_with fail
        go_quiet (first
          | (go_at_call 19; exact Calls.quiet_of_same (HNM _).out)
          | (go_at_call 21; exact Calls.quiet_of_same (HFD _).out))
        go_wp2_with fail
        go_roundw
        case rel => exact ⟨1, by omega, by go_num, HR, HWK.out _⟩
        case measure => simp [intOf]; omega
      obtain ⟨q, hkq⟩ : ∃ q, k = q + 1 := ⟨k - 1, by omega⟩
      obtain ⟨b2, o2, e2, _, hj2, hc2⟩ := HSr.out.at (k := q) (by omega)
      injection e2 with e2
      injection e2 with e3 e4 _
      subst e3 e4
      have HLA : Hid (lastAt es k = es[q].ck) := by subst hkq; exact lastAt_next hj2
      have HKQ := Lib.hid hkq
      have hqp : (0 : Int) < (k : Int) := by omega
      have hqs : IntKind.i64.wrap ((k : Int) - 1) = (q : Int) := by rw [show (k : Int) - 1 = (q : Int) by omega]; exact IntWalk.i64_in _ (by omega)
      have hqn : (q : Int) < (n : Int) := by omega
      clear hkq
      by_cases hle : es[k].ck ≤ es[q].ck
      · have HE : Hid (okB es = false) := HBAD.out (fun h => by have := h.2.1; rw [HLA.out] at this; omega)
        have hdl : decide (es[k].ck ≤ es[q].ck) = true := decide_eq_true hle
        clear HMORE HBAD h0 hnm HLA hle HNE
        generalize es[k] = e at *
        generalize es[q] = e' at *
        have k0 : wr.cell? ⟨b, o + k * 4, none⟩ = some (.int .u64 (e.ck : Int)) := hc 0 _ rfl
        have k3 : wr.cell? ⟨b, o + k * 4 + 3, none⟩ = some (.string (txt e.nm)) := hc 3 _ rfl
        have j0 : wr.cell? ⟨b, o + q * 4, none⟩ = some (.int .u64 (e'.ck : Int)) := hc2 0 _ rfl
        clear hc hc2
        go_wp2_with fail
        go_quiet (first
          | (go_at_call 19; exact Calls.quiet_of_same (HNM _).out)
          | (go_at_call 21; exact Calls.quiet_of_same (HFD _).out))
        go_wp2_with fail
        go_ret
        exact ⟨by rw [HE.out] <;> rfl, HWK.out _⟩
      have hdl : decide (es[k].ck ≤ es[q].ck) = false := decide_eq_false hle
      by_cases hf : fnd es es[k].nm = (k : Int)
      · have HR : Hid (okB (es.take (k + 1)) = true) := HMORE.out hnm hf (by rw [HLA.out]; omega)
        rw [hf] at HFD
        clear HMORE HBAD h0 hnm HLA hle hf HNE
        generalize es[k] = e at *
        generalize es[q] = e' at *
        have k0 : wr.cell? ⟨b, o + k * 4, none⟩ = some (.int .u64 (e.ck : Int)) := hc 0 _ rfl
        have k3 : wr.cell? ⟨b, o + k * 4 + 3, none⟩ = some (.string (txt e.nm)) := hc 3 _ rfl
        have j0 : wr.cell? ⟨b, o + q * 4, none⟩ = some (.int .u64 (e'.ck : Int)) := hc2 0 _ rfl
        clear hc hc2
        go_wp2_with fail
        go_quiet (first
          | (go_at_call 19; exact Calls.quiet_of_same (HNM _).out)
          | (go_at_call 21; exact Calls.quiet_of_same (HFD _).out))
        go_wp2_with fail
        go_roundw
        case rel => exact ⟨k + 1, by omega, by go_num, HR, HWK.out _⟩
        case measure => simp [intOf]; omega
      · have HE : Hid (okB es = false) := HBAD.out (fun h => hf h.2.2)
        have hdf : (fnd es es[k].nm != (k : Int)) = true := by simpa using hf
        have hdg : ¬ fnd es es[k].nm = (k : Int) := by simpa using hf
        clear HMORE HBAD h0 hnm HLA hle hf HNE
        generalize fnd es es[k].nm = f at *
        generalize es[k] = e at *
        generalize es[q] = e' at *
        have k0 : wr.cell? ⟨b, o + k * 4, none⟩ = some (.int .u64 (e.ck : Int)) := hc 0 _ rfl
        have k3 : wr.cell? ⟨b, o + k * 4 + 3, none⟩ = some (.string (txt e.nm)) := hc 3 _ rfl
        have j0 : wr.cell? ⟨b, o + q * 4, none⟩ = some (.int .u64 (e'.ck : Int)) := hc2 0 _ rfl
        clear hc hc2
        go_wp2_with fail
        go_quiet (first
          | (go_at_call 19; exact Calls.quiet_of_same (HNM _).out)
          | (go_at_call 21; exact Calls.quiet_of_same (HFD _).out))
        go_wp2_with fail
        go_ret
        exact ⟨by rw [HE.out] <;> rfl, HWK.out _⟩
    · obtain rfl : k = n := by omega
      have HE : Hid (okB es = true) := by have := HP.out; rwa [List.take_of_length_le (by rw [HN.out]; exact Nat.le_refl _)] at this
      go_wp2_with fail
      go_ret
      exact ⟨by rw [HE.out] <;> rfl, HW.out⟩
end Go.Proofs.Ytcbmdcgaedkfnaa
