/-
  DirPages walked (layer 8).
-/
import Derived.Test.YtcbmdcgaedkfnaaEAddsM
import Derived.BigQuiet
namespace Go.Proofs.Ytcbmdcgaedkfnaa
open Go.RowKit Go.Shelf

theorem lastAt_at {es : List En} {k : Nat} (hk : k < es.length) : lastAt es (k + 1) = es[k].ck := by
  unfold lastAt
  rw [if_neg (by omega), List.getD_eq_getElem?_getD, show k + 1 - 1 = k by omega, List.getElem?_eq_getElem hk]
  rfl
theorem lastAt_mono {es : List En} (h : okB es = true) {j : Nat} : ∀ k, j ≤ k → k ≤ es.length → lastAt es j ≤ lastAt es k
  | 0, hj, _ => by obtain rfl : j = 0 := by omega
                   exact Nat.le_refl _
  | k + 1, hj, hk => by
    by_cases e : j = k + 1
    · rw [e]; exact Nat.le_refl _
    · have ih := lastAt_mono h (j := j) k (by omega) (by omega)
      have := (okB_at es h k (by omega)).2
      rw [lastAt_at (by omega)]
      omega
/-- Behind the cookie of the last one told comes the next one. -/
theorem frm_last {es : List En} (h : okB es = true) {N : Nat} (hN : N ≤ es.length) : frm es (lastAt es N) = N := by
  unfold frm
  by_cases hl : N < es.length
  · rw [List.findIdx_eq hl]
    refine ⟨decide_eq_true (okB_at es h N hl).2, fun j hj => ?_⟩
    rw [decide_eq_false]
    have h1 := lastAt_mono h (j := j + 1) N (by omega) hN
    rw [lastAt_at (by omega)] at h1
    omega
  · obtain rfl : N = es.length := by omega
    rw [List.findIdx_eq_length]
    intro e he
    obtain ⟨j, hj, rfl⟩ := List.getElem_of_mem he
    rw [decide_eq_false]
    have h1 := lastAt_mono h (j := j + 1) es.length (by omega) (Nat.le_refl _)
    rw [lastAt_at hj] at h1
    omega

set_option maxRecDepth 100000 in
set_option maxHeartbeats 4000000 in
theorem pages_walk (A : Option Addr) (n c : Nat) (es : List En) (x : Nat) (w : World) (hx : x < 256) (h : ES w A n es) (hw : ∀ e ∈ es, e.Wide) (hc : n ≤ c) (hcm : c ≤ 9223372036854775807) (hn : n ≤ 1048576) :
    Calls Try.prog 9 #[.slice A n c, .int .u8 (x : Int)] w fun e w' => e = .returned (.bool true) ∧ Below w.heap.size w w' := by
  have HS := Lib.hid h
  have HWD := Lib.hid hw
  have HN : Hid (es.length = n) := h.1
  have HCM := Lib.hid hcm
  clear h hw hcm
  go_enter Try.func9, Try.ntmps9
  go_wp2_with fail
  refine (awake_any w).mono ?_
  rintro en w1 ⟨rfl, hb1⟩
  have HW1 := Lib.hid hb1
  have HS1 := Lib.hid (HS.out.below hb1)
  clear hb1
  go_wp2_with fail
  refine (put_any A n c es w1 HS1.out HWD.out (by omega) (fun hk => by have := put_len hk (n := 1048576) (by rw [HN.out]; exact hn); rw [show putE es = encs es from if_pos hk] at this; omega)).mono ?_
  rintro en w2 ⟨A2, n2, c2, rfl, hbs2, hb2⟩
  have HN2 : Hid ((putE es).length = n2) := hbs2.1
  have HW2 := Lib.hid (HW1.out.trans (hb2.mono HW1.out.size))
  have HS2 := Lib.hid (HS1.out.below hb2)
  clear hbs2 hb2 HW1 HS1
  by_cases h24 : 24 < n
  · have h24' : (24 : Int) < (n : Int) := by omega
    go_wp2_with fail
    go_ret
    exact ⟨rfl, HW2.out⟩
  have h24' : (n : Int) ≤ 24 := by omega
  cases hok : okB es
  · have hce : chkE es = 11 := if_neg (by rw [hok]; simp)
    rw [hce]
    clear hce
    go_wp2_with fail
    go_ret
    exact ⟨rfl, HW2.out⟩
  have hce : chkE es = 0 := if_pos hok
  rw [hce]
  have HOK := Lib.hid hok
  have HM4 : Hid (Int.tmod (n2 : Int) 4 = 0) := by
    show _ = _
    rw [← HN2.out, show putE es = encs es from if_pos hok, Int.tmod_eq_emod_of_nonneg (by omega)]
    have := encs_mod es
    omega
  clear hce hok
  obtain ⟨K, hK, hKx⟩ : ∃ K : Nat, K < 5 ∧ ((x : Int) % 5) = K := ⟨x % 5, Nat.mod_lt _ (by omega), by simp⟩
  have hmod : IntKind.u8.wrap (K : Int) = K := wrap_u8 (by omega) (by omega)
  have hmod3 : IntKind.i64.wrap (K : Int) = K := IntWalk.i64_in _ (by omega)
  have hmod4 : IntKind.i64.wrap ((K : Int) + 1) = (K : Int) + 1 := IntWalk.i64_in _ (by omega)
  have htm : Int.tmod (x : Int) 5 = (K : Int) := by rw [← hKx]; exact Int.tmod_eq_emod_of_nonneg (by omega)
  clear hKx
  go_wp2_with fail
  go_loopw [8, 9, 10] (fun a cnt i wr => ∃ m N : Nat, m ≤ N ∧ N ≤ n ∧ i = .int .i64 m ∧ cnt = .int .i64 N ∧ a = .int .u64 (lastAt es N : Nat) ∧ Hid (ES wr A n es) ∧ Hid (Below w.heap.size w wr)) (fun _ _ i _ => 30 - (intOf i).toNat)
  case atStart => exact ⟨0, 0, Nat.le_refl _, Nat.zero_le _, rfl, rfl, rfl, HS2, HW2⟩
  case round =>
    obtain ⟨m, N, hm, hN, rfl, rfl, rfl, HSr, HWr⟩ := hrel
    clear HS2 HW2 HS
    have hm30 : (m : Int) < 30 := by omega
    go_wp2_with fail
    refine (after_any A n c es (lastAt es N) ((K : Int) + 1) wr HSr.out hc HCM.out (by omega)).mono ?_
    rintro en w3 ⟨A3, n3, c3, rfl, hes3, hc3, hb3⟩
    have HFR := Lib.hid (frm_last HOK.out (N := N) (by rw [HN.out]; exact hN))
    unfold aftL at hes3
    unfold aftB
    rw [HFR.out] at hes3 ⊢
    rw [show ((K : Int) + 1).toNat = K + 1 by omega] at hes3 ⊢
    have HN3 : Hid (n3 = min (K + 1) (n - N)) := by show _ = _; rw [← hes3.1, List.length_take, List.length_drop, HN.out]
    have HD : Hid ((es.drop N).length = n - N) := by show _ = _; rw [List.length_drop, HN.out]
    have HE3 := Lib.hid hes3
    have HS3 := Lib.hid (HSr.out.below hb3)
    have HW3 := Lib.hid (HWr.out.trans (hb3.mono HWr.out.size))
    rw [HD.out]
    obtain ⟨ab, hab⟩ : ∃ ab, decide (n - N ≤ K + 1) = ab := ⟨_, rfl⟩
    rw [hab]
    have HAB := Lib.hid hab
    clear hab
    clear hes3 hb3 HSr HWr HFR HD
    go_wp2_with fail
    go_loopw [8, 9, 13] (fun a cnt i wq => ∃ k : Nat, k ≤ n3 ∧ i = .int .i64 k ∧ cnt = .int .i64 ((N + k : Nat) : Int) ∧ a = .int .u64 (lastAt es (N + k) : Nat) ∧ Hid (ES wq A3 n3 ((es.drop N).take (K + 1))) ∧ Hid (ES wq A n es) ∧ Hid (Below w.heap.size w wq)) (fun _ _ i _ => n3 - (intOf i).toNat)
    case atStart => exact ⟨0, Nat.zero_le _, rfl, rfl, rfl, HE3, HS3, HW3⟩
    case round =>
      obtain ⟨k, hk, rfl, rfl, rfl, HEq, HSq, HWq⟩ := hrel
      clear HE3 HS3 HW3
      by_cases hlt : k < n3
      · have hlt' : (k : Int) < (n3 : Int) := by omega
        have hNk : N + k < n := by have := HN3.out; omega
        have hNk' : ((N + k : Nat) : Int) < (n : Int) := by omega
        obtain ⟨b, o, rfl, hbl, hj, hcl⟩ := HSq.out.at hNk
        obtain ⟨b2, o2, rfl, hbl2, hj2, hcl2⟩ := HEq.out.at hlt
        have he : ((es.drop N).take (K + 1))[k] = es[N + k] := by rw [List.getElem_take, List.getElem_drop]
        have HLA := Lib.hid (lastAt_at hj)
        rw [he] at hcl2
        clear he hj2
        generalize es[N + k] = e at *
        have HLB : Hid (lastAt es (N + (k + 1)) = e.ck) := HLA.out
        generalize hq : N + k = q at *
        have k0 : wr.cell? ⟨b, o + q * 4, none⟩ = some (.int .u64 (e.ck : Int)) := hcl 0 _ rfl
        have k3 : wr.cell? ⟨b, o + q * 4 + 3, none⟩ = some (.string (txt e.nm)) := hcl 3 _ rfl
        have j0 : wr.cell? ⟨b2, o2 + k * 4, none⟩ = some (.int .u64 (e.ck : Int)) := hcl2 0 _ rfl
        have j3 : wr.cell? ⟨b2, o2 + k * 4 + 3, none⟩ = some (.string (txt e.nm)) := hcl2 3 _ rfl
        have r1 : IntKind.i64.wrap ((q : Int) + 1) = (q : Int) + 1 := IntWalk.i64_in _ (by omega)
        have HWK : Hid (∀ d, Below w.heap.size w (wr.drewN d)) := fun d => ⟨HWq.out.os, HWq.out.tape, HWq.out.output, HWq.out.size, HWq.out.block⟩
        clear hcl hcl2
        go_wp2_with fail
        go_quiet (fail)
        go_wp2_with fail
        go_roundw
        case rel => exact ⟨k + 1, by omega, by go_num, by rw [← Nat.add_assoc, hq]; go_num, by rw [HLB.out], HEq, HSq, HWK.out _⟩
        case measure => simp [intOf]; omega
      · obtain rfl : k = n3 := by omega
        cases hab : ab
        · rw [hab] at HAB
          have hall : ¬ n - N ≤ K + 1 := of_decide_eq_false HAB.out
          go_wp2_with fail
          go_roundw
          case rel => exact ⟨m + 1, N + k, by have := HN3.out; omega, by have := HN3.out; omega, by go_num, rfl, rfl, HSq, HWq⟩
          case measure => simp [intOf]; omega
        · rw [hab] at HAB
          have hall : n - N ≤ K + 1 := of_decide_eq_true HAB.out
          have hNk : N + k = n := by have := HN3.out; omega
          rw [hNk]
          have hm4 := HM4.out
          clear hall
          go_wp2_with fail
          go_ret
          exact ⟨rfl, HWq.out⟩
end Go.Proofs.Ytcbmdcgaedkfnaa
