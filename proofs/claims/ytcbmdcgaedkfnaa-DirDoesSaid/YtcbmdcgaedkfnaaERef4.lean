/-
  Contracts of the reference's After and of short (layer 8).
-/
import Derived.Test.YtcbmdcgaedkfnaaERef3
namespace Go.Proofs.Ytcbmdcgaedkfnaa
open Go.RowKit Go.Shelf

theorem frm_at {es : List En} {c k : Nat} (hk : k < es.length) (h : ∀ j (hj : j < es.length), j < k → es[j].ck ≤ c) (h2 : c < es[k].ck) : frm es c = k := by
  unfold frm
  rw [List.findIdx_eq hk]
  refine ⟨decide_eq_true h2, fun j hj => ?_⟩
  rw [decide_eq_false]
  have := h j (by omega) hj
  omega
theorem frm_end {es : List En} {c : Nat} (h : ∀ j (hj : j < es.length), j < es.length → es[j].ck ≤ c) : frm es c = es.length := by
  unfold frm
  rw [List.findIdx_eq_length]
  intro e he
  obtain ⟨j, hj, rfl⟩ := List.getElem_of_mem he
  rw [decide_eq_false]
  have := h j hj hj
  omega

set_option maxRecDepth 100000 in
set_option maxHeartbeats 8000000 in
theorem refAfter_any (A : Option Addr) (n cp : Nat) (es : List En) (c : Nat) (most : Int) (w : World) (h : ES w A n es) (hn : n ≤ 10000000) :
    Calls Try.prog 27 #[.slice A n cp, .int .u64 (c : Int), .int .i64 most] w (AftP es c most w) := by
  obtain ⟨i0, hi0, hz0, hz1, hz2⟩ := info_parts info_F
  have HI0 := Lib.hid hi0
  have HZ0 := Lib.hid hz0
  have HZ1 := Lib.hid hz1
  have HZ2 := Lib.hid hz2
  clear hi0 hz0 hz1 hz2
  have HS := Lib.hid h
  have HN : Hid (es.length = n) := h.1
  clear h
  go_enter Try.func27, Try.ntmps27
  go_wp2_with fail
  go_loop [8] (fun i => ∃ k : Nat, k ≤ n ∧ i = .int .i64 k ∧ Hid (∀ j (hj : j < es.length), j < k → es[j].ck ≤ c)) (fun i => n - (intOf i).toNat)
  case atStart => exact ⟨0, Nat.zero_le _, rfl, fun j _ h => absurd h (Nat.not_lt_zero _)⟩
  case round =>
    obtain ⟨k, hk, rfl, HP⟩ := hrel
    by_cases hlt : k < n
    rotate_left
    · obtain rfl : k = n := by omega
      have HF : Hid (frm es c = es.length) := frm_end (fun j hj h => HP.out j hj (by rw [HN.out] at h; exact h))
      have HL : Hid (aftL es c most = []) := by show _ = _; unfold aftL; rw [HF.out, List.drop_length]; simp
      have HB : Hid (aftB es c most = true) := by show _ = _; unfold aftB; rw [HF.out, List.drop_length]; simp
      go_wp2_with fail
      go_ret2
      unfold AftP
      rw [HL.out, HB.out]
      exact ⟨none, 0, 0, rfl, ES.nil, Nat.le_refl _, Below.refl _ _⟩
    have hlt' : (k : Int) < (n : Int) := by omega
    have hne' : ¬ (k : Int) = (n : Int) := by omega
    have hne : ¬ k = n := by omega
    obtain ⟨b, o, rfl, hbl, hj, hc⟩ := HS.out.at hlt
    by_cases hle : es[k].ck ≤ c
    · have hd : decide (es[k].ck ≤ c) = true := decide_eq_true hle
      have k0 : w.cell? ⟨b, o + k * 4, none⟩ = some (.int .u64 (es[k].ck : Int)) := hc 0 _ rfl
      have HR : Hid (∀ j (hj : j < es.length), j < k + 1 → es[j].ck ≤ c) := by
        intro j hj2 hjk
        by_cases e : j = k
        · subst e; exact hle
        · exact HP.out j hj2 (by omega)
      clear hc hle
      generalize es[k] = e at *
      go_wp2_with fail
      go_round
      case rel => exact ⟨k + 1, by omega, by go_num, HR⟩
      case measure => simp [intOf]; omega
    · have hd : decide (es[k].ck ≤ c) = false := decide_eq_false hle
      have HF : Hid (frm es c = k) := frm_at hj HP.out (by omega)
      have k0 : w.cell? ⟨b, o + k * 4, none⟩ = some (.int .u64 (es[k].ck : Int)) := hc 0 _ rfl
      clear hc hle
      generalize es[k] = e at *
      clear HP
      go_wp2_with fail
      clear k0 hd hne hne' hlt'
      go_loopw [8, 9] (fun i out wr => ∃ j : Nat, k + j ≤ n ∧ j ≤ most.toNat ∧ i = .int .i64 ((k + j : Nat) : Int) ∧ ∃ A' c', out = .slice A' j c' ∧ Hid (wr.ownsRow w.heap.size 50 4 (.slice A' j c') j (ecs ((es.drop k).take j))) ∧ Hid (Below w.heap.size w wr)) (fun i _ _ => n - (intOf i).toNat)
      case atStart => exact ⟨0, by omega, Nat.zero_le _, rfl, none, 0, rfl, World.ownsRow_nil _ _ _ _, Below.refl _ _⟩
      case round =>
        obtain ⟨j, hkj, hjm, rfl, A', c', rfl, HO, HW⟩ := hrel
        have HD : Hid ((es.drop k).length = n - k) := by show _ = _; rw [List.length_drop, HN.out]
        by_cases hend : k + j = n
        · have HL : Hid (aftL es c most = (es.drop k).take j) := by
            show _ = _
            unfold aftL
            rw [HF.out, List.take_of_length_le (by rw [HD.out]; omega), List.take_of_length_le (by rw [HD.out]; omega)]
          have HB : Hid (aftB es c most = true) := by show _ = _; unfold aftB; rw [HF.out, HD.out]; exact decide_eq_true (by omega)
          rw [hend]
          clear hend
          go_wp2_with fail
          go_ret2
          unfold AftP
          rw [HL.out, HB.out]
          exact ⟨A', j, c', rfl, ES.of_own HO.out, (own_le HO.out).1, HW.out⟩
        have hq : k + j < n := by omega
        have hq' : ((k + j : Nat) : Int) < (n : Int) := by omega
        have hqn : ¬ ((k + j : Nat) : Int) = (n : Int) := by omega
        by_cases hm : (j : Int) < most
        rotate_left
        · have hm' : most ≤ (j : Int) := by omega
          have hje : j = most.toNat := by omega
          have HL : Hid (aftL es c most = (es.drop k).take j) := by show _ = _; unfold aftL; rw [HF.out, hje]
          have HB : Hid (aftB es c most = false) := by show _ = _; unfold aftB; rw [HF.out, HD.out]; exact decide_eq_false (by omega)
          clear hje
          have hqb : (((k + j : Nat) : Int) == (n : Int)) = false := beq_false_of_ne hqn
          generalize k + j = q at *
          go_wp2_with fail
          go_ret2
          unfold AftP
          rw [HL.out, HB.out]
          exact ⟨A', j, c', rfl, ES.of_own HO.out, (own_le HO.out).1, HW.out⟩
        obtain ⟨b2, o2, e2, hbl2, hj2, hc2⟩ := (HS.out.below HW.out).at hq
        injection e2 with e2
        injection e2 with e3 e4 _
        subst e3 e4
        have HT : Hid ((es.drop k).take (j + 1) = (es.drop k).take j ++ [es[k + j]]) := by
          show _ = _
          rw [List.take_succ_eq_append_getElem (by rw [HD.out]; omega), List.getElem_drop]
        obtain ⟨q, hqe⟩ : ∃ q, k + j = q := ⟨_, rfl⟩
        have HQE := Lib.hid hqe
        simp only [hqe] at *
        generalize es[q] = x at *
        have k0 : wr.cell? ⟨b, o + q * 4, none⟩ = some (.int .u64 (x.ck : Int)) := hc2 0 _ rfl
        have k1 : wr.cell? ⟨b, o + q * 4 + 1, none⟩ = some (.int .u32 (x.ino : Int)) := hc2 1 _ rfl
        have k2 : wr.cell? ⟨b, o + q * 4 + 2, none⟩ = some (.int .u32 (x.gen : Int)) := hc2 2 _ rfl
        have k3 : wr.cell? ⟨b, o + q * 4 + 3, none⟩ = some (.string (txt x.nm)) := hc2 3 _ rfl
        have r1 : IntKind.i64.wrap ((q : Int) + 1) = (q : Int) + 1 := IntWalk.i64_in _ (by omega)
        have hecl := ec_length x
        clear hc2 hqe
        go_wp2_with (first
          | (refine Did.list rfl (did_buildSlice_one 28 50 (.tmp 43) rfl (ec x).toArray rfl Try.underlying28 _ zsize_F (by rw [ec_size]; omega) (by rw [ec_size]; omega)) ?_)
          | (at_builtin
             refine wpList_append_es (wr.alloc (.cells (ec x).toArray 50)) rfl (.tmp 39) (.tmp 44) 28 rfl w.heap.size 50 i0 _ Try.underlying28 HI0.out HZ0.out HZ1.out HZ2.out rfl A' j c' ((es.drop k).take j) rfl (World.ownsRow.alloc (w := wr) HO.out _) (some ⟨wr.heap.size, 0, none⟩) 1 1 [x] rfl (EB.new wr 50 x).es (by omega) (Nat.le_trans HW.out.size (by simp)) ?_
             intro A5 c5 w5 ho5 hg5 _
             have HO5 := Lib.hid ho5
             have HW5 : Hid (Below w.heap.size w w5) := own_below (HW.out.alloc HW.out.size _) (World.ownsRow.alloc (w := wr) HO.out _) hg5
             clear ho5 hg5))
        go_roundw
        case rel => exact ⟨j + 1, by have := HQE.out; omega, by omega, by have := HQE.out; go_num, A5, c5, rfl, by show World.ownsRow _ _ _ _ _ _ _; rw [HT.out]; exact HO5.out, HW5⟩
        case measure => have := HQE.out; simp [intOf]; omega
def shortB (es : List En) : Bool := es.all (fun e => decide (e.nm.length ≤ 40)) && decide (es.length ≤ 24)
set_option maxRecDepth 100000 in
set_option maxHeartbeats 4000000 in
theorem short_any (A : Option Addr) (n c : Nat) (es : List En) (w : World) (h : ES w A n es) (hnm : ∀ e ∈ es, e.nm.length ≤ maxLen) (hn : n ≤ 9223372036854775807) :
    Calls Try.prog 16 #[.slice A n c] w fun e w' => e = .returned (.bool (shortB es)) ∧ w' = w := by
  have HS := Lib.hid h
  have HN : Hid (es.length = n) := h.1
  have HM := Lib.hid hnm
  clear h hnm
  go_enter Try.func16, Try.ntmps16
  go_wp2_with fail
  go_loop [3] (fun i => ∃ k : Nat, k ≤ n ∧ i = .int .i64 k ∧ Hid (∀ x ∈ es.take k, x.nm.length ≤ 40)) (fun i => n - (intOf i).toNat)
  case atStart => exact ⟨0, Nat.zero_le _, rfl, fun x hx => by cases hx⟩
  case round =>
    obtain ⟨k, hk, rfl, HP⟩ := hrel
    by_cases hlt : k < n
    · have hlt' : (k : Int) < (n : Int) := by omega
      obtain ⟨b, o, rfl, _, hj, hc⟩ := HS.out.at hlt
      have HT : Hid (es.take (k + 1) = es.take k ++ [es[k]]) := List.take_succ_eq_append_getElem hj
      have HI : Hid (es[k] ∈ es) := List.getElem_mem hj
      have r1 : IntKind.i64.wrap ((k : Int) + 1) = (k : Int) + 1 := IntWalk.i64_in _ (by omega)
      generalize es[k] = e at *
      have k3 : w.cell? ⟨b, o + k * 4 + 3, none⟩ = some (.string (txt e.nm)) := hc 3 _ rfl
      have hz := txt_size e.nm
      clear hc
      by_cases h40 : 40 < e.nm.length
      · have h40' : (40 : Int) < (e.nm.length : Int) := by omega
        have HE : Hid (shortB es = false) := by
          show _ = _
          unfold shortB
          have : (es.all fun e => decide (e.nm.length ≤ 40)) = false := by
            rw [List.all_eq_false]
            exact ⟨e, HI.out, by simp; omega⟩
          rw [this]
          rfl
        clear h40
        go_wp2_with fail
        go_ret
        exact ⟨by rw [HE.out] <;> rfl, rfl⟩
      · have h40' : ¬ (40 : Int) < (e.nm.length : Int) := by omega
        have HR : Hid (∀ x ∈ es.take (k + 1), x.nm.length ≤ 40) := by
          intro x hx
          rw [HT.out] at hx
          rcases List.mem_append.1 hx with h1 | h1
          · exact HP.out x h1
          · rw [List.mem_singleton.1 h1]; omega
        clear h40
        go_wp2_with fail
        go_round
        case rel => exact ⟨k + 1, by omega, by go_num, HR⟩
        case measure => simp [intOf]; omega
    · obtain rfl : k = n := by omega
      have HE : Hid (shortB es = decide ((k : Int) ≤ 24)) := by
        show _ = _
        unfold shortB
        have : (es.all fun e => decide (e.nm.length ≤ 40)) = true := by
          rw [List.all_eq_true]
          intro x hx
          have h1 := HP.out
          rw [List.take_of_length_le (by rw [HN.out]; exact Nat.le_refl _)] at h1
          exact decide_eq_true (h1 x hx)
        rw [this, HN.out, Bool.true_and]
        exact decide_eq_decide.2 (by omega)
      by_cases h24 : (k : Int) ≤ 24
      · rw [decide_eq_true h24] at HE
        go_wp2_with fail
        go_ret
        exact ⟨by rw [HE.out] <;> rfl, rfl⟩
      · rw [decide_eq_false h24] at HE
        have h24' : (24 : Int) < (k : Int) := by omega
        go_wp2_with fail
        go_ret
        exact ⟨by rw [HE.out] <;> rfl, rfl⟩
end Go.Proofs.Ytcbmdcgaedkfnaa
