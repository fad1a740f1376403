/-
  Contracts of the reference's Name and Find (layer 8).
-/
import Derived.Test.YtcbmdcgaedkfnaaEAddsM
namespace Go.Proofs.Ytcbmdcgaedkfnaa
open Go.RowKit Go.Shelf

theorem parts_mono {l : List UInt8} {k : Nat} (h : parts (l.take k) = true) : parts l = true := by
  unfold parts at h ⊢
  rw [List.any_eq_true] at h ⊢
  obtain ⟨x, hx, h2⟩ := h
  exact ⟨x, List.mem_of_mem_take hx, h2⟩
theorem nameE_parts {l : List UInt8} (h : parts l = true) : nameE l = 67 := by
  unfold nameE
  rw [nameOk_head, h]
  simp
theorem nameE_head {l : List UInt8} (h : headOk l = false) : nameE l = 67 := by
  unfold nameE
  rw [nameOk_head, h]
  simp
theorem nameE_ok {l : List UInt8} (h : headOk l = true) (h2 : parts l = false) : nameE l = 0 := by
  unfold nameE
  rw [nameOk_head, h, h2]
  simp

set_option maxRecDepth 100000 in
set_option maxHeartbeats 4000000 in
theorem refName_any (l : List UInt8) (w : World) : Calls Try.prog 19 #[.string (txt l)] w fun e w' => e = .returned (.int .i64 (nameE l)) ∧ w' = w := by
  have hz := txt_size l
  have ht := txt_toList l
  by_cases hl : l = []
  · subst hl
    have HE : Hid (nameE [] = 67) := rfl
    rw [HE.out]
    go_enter Try.func19, Try.ntmps19
    go_wp2_with fail
    go_ret
    exact ⟨rfl, rfl⟩
  have hl0 : (l == []) = false := beq_false_of_ne hl
  have hl1 : l.isEmpty = false := by cases l with | nil => exact absurd rfl hl | cons a b => rfl
  have hpos : 1 ≤ l.length := List.length_pos_iff.2 hl
  have HH : Hid (headOk l = (decide (l.length ≤ 24) && !(l == [46]) && !(l == [46, 46]))) := by
    show _ = _
    unfold headOk
    rw [decide_eq_true hpos]
    simp
  by_cases h24 : 24 < l.length
  · have h24' : (24 : Int) < (l.length : Int) := by omega
    have HE : Hid (nameE l = 67) := nameE_head (by rw [HH.out, decide_eq_false (by omega)]; rfl)
    rw [HE.out]
    clear hl
    go_enter Try.func19, Try.ntmps19
    go_wp2_with fail
    go_ret
    exact ⟨rfl, rfl⟩
  have h24' : (l.length : Int) ≤ 24 := by omega
  rw [decide_eq_true (Nat.le_of_not_lt h24)] at HH
  cases h3 : (l == [46])
  rotate_left
  · have HE : Hid (nameE l = 67) := nameE_head (by rw [HH.out, h3]; rfl)
    rw [HE.out]
    clear hl
    go_enter Try.func19, Try.ntmps19
    go_wp2_with fail
    go_ret
    exact ⟨rfl, rfl⟩
  cases h4 : (l == [46, 46])
  rotate_left
  · have HE : Hid (nameE l = 67) := nameE_head (by rw [HH.out, h3, h4]; rfl)
    rw [HE.out]
    clear hl
    go_enter Try.func19, Try.ntmps19
    go_wp2_with fail
    go_ret
    exact ⟨rfl, rfl⟩
  have HO : Hid (headOk l = true) := by show _ = _; rw [HH.out, h3, h4]; rfl
  clear hl HH
  go_enter Try.func19, Try.ntmps19
  go_wp2_with fail
  clear h3 h4 hl0 hl1 h24'
  go_loop [3] (fun i => ∃ k : Nat, k ≤ l.length ∧ i = .int .i64 k ∧ Hid (parts (l.take k) = false)) (fun i => l.length - (intOf i).toNat)
  case atStart => exact ⟨0, Nat.zero_le _, rfl, rfl⟩
  case round =>
    obtain ⟨k, hk, rfl, HP⟩ := hrel
    by_cases hlt : k < l.length
    · have hkt : k < (txt l).size := by rw [hz]; exact hlt
      have hlt' : (k : Int) < (l.length : Int) := by omega
      obtain ⟨x, hx, hp⟩ := parts_at l k hlt
      have hx := hx hkt
      rw [HP.out] at hp
      have HQ := Lib.hid hp
      have n0 : ((x.toNat : Int) == 0) = (x == 0) := by have := u8_ne x 0 0 rfl; simpa [bne] using this
      have n47 : ((x.toNat : Int) == 47) = (x == 47) := by have := u8_ne x 47 47 rfl; simpa [bne] using this
      clear hp
      cases hx0 : (x == 0)
      rotate_left
      · have HE : Hid (nameE l = 67) := nameE_parts (parts_mono (k := k + 1) (by rw [HQ.out, hx0]; rfl))
        rw [hx0] at n0
        clear hx0
        go_wp2_with fail
        go_ret
        exact ⟨by rw [HE.out] <;> rfl, rfl⟩
      · cases hx47 : (x == 47)
        rotate_left
        · have HE : Hid (nameE l = 67) := nameE_parts (parts_mono (k := k + 1) (by rw [HQ.out, hx0, hx47]; rfl))
          rw [hx0] at n0
          rw [hx47] at n47
          clear hx0 hx47
          go_wp2_with fail
          go_ret
          exact ⟨by rw [HE.out] <;> rfl, rfl⟩
        · rw [hx0] at n0
          rw [hx47] at n47
          have HR : Hid (parts (l.take (k + 1)) = false) := by show _ = _; rw [HQ.out, hx0, hx47]; rfl
          clear hx0 hx47
          go_wp2_with fail
          go_round
          case rel => exact ⟨k + 1, by omega, by go_num, HR⟩
          case measure => simp [intOf]; omega
    · obtain rfl : k = l.length := by omega
      have HE : Hid (nameE l = 0) := nameE_ok HO.out (by have := HP.out; rwa [List.take_of_length_le (Nat.le_refl _)] at this)
      go_wp2_with fail
      go_ret
      exact ⟨by rw [HE.out] <;> rfl, rfl⟩

theorem fnd_at {es : List En} {nm : List UInt8} {k : Nat} (hk : k < es.length) (hno : ∀ x ∈ es.take k, x.nm ≠ nm) (he : es[k].nm = nm) : fnd es nm = (k : Int) := by
  have h1 : es = es.take k ++ es[k] :: es.drop (k + 1) := by
    rw [List.getElem_cons_drop]
    exact (List.take_append_drop k es).symm
  have h2 := fnd_mid (xs := es.take k) (ys := es.drop (k + 1)) (e := es[k]) (by rw [he]; exact hno)
  rw [← h1, he, List.length_take, Nat.min_eq_left (Nat.le_of_lt hk)] at h2
  exact h2

set_option maxRecDepth 100000 in
set_option maxHeartbeats 4000000 in
theorem refFind_any (A : Option Addr) (n c : Nat) (es : List En) (nm : List UInt8) (w : World) (h : ES w A n es) (hn : n ≤ 10000000) : Calls Try.prog 21 #[.slice A n c, .string (txt nm)] w fun e w' => e = .returned (.int .i64 (fnd es nm)) ∧ w' = w := by
  have HS := Lib.hid h
  have HN : Hid (es.length = n) := h.1
  have hb := txt_toList nm
  clear h
  go_enter Try.func21, Try.ntmps21
  go_wp2_with fail
  go_loop [5] (fun i => ∃ k : Nat, k ≤ n ∧ i = .int .i64 k ∧ Hid (∀ x ∈ es.take k, x.nm ≠ nm)) (fun i => n - (intOf i).toNat)
  case atStart => exact ⟨0, Nat.zero_le _, rfl, fun x hx => by cases hx⟩
  case round =>
    obtain ⟨k, hk, rfl, HP⟩ := hrel
    by_cases hlt : k < n
    · have hlt' : (k : Int) < (n : Int) := by omega
      obtain ⟨b, o, rfl, _, hj, hc⟩ := HS.out.at hlt
      have HF : Hid (es[k].nm = nm → fnd es nm = (k : Int)) := fun e => fnd_at hj HP.out e
      have HT : Hid (es.take (k + 1) = es.take k ++ [es[k]]) := List.take_succ_eq_append_getElem hj
      generalize es[k] = e at *
      have k3 : w.cell? ⟨b, o + k * 4 + 3, none⟩ = some (.string (txt e.nm)) := hc 3 _ rfl
      have ha := txt_toList e.nm
      clear hc
      cases hd : (e.nm == nm)
      · have HR : Hid (∀ x ∈ es.take (k + 1), x.nm ≠ nm) := by
          intro x hx
          rw [HT.out] at hx
          rcases List.mem_append.1 hx with h1 | h1
          · exact HP.out x h1
          · rw [List.mem_singleton.1 h1]
            simpa using hd
        go_wp2_with fail
        go_round
        case rel => exact ⟨k + 1, by omega, by go_num, HR⟩
        case measure => simp [intOf]; omega
      · have HE := Lib.hid (HF.out (by simpa using hd))
        go_wp2_with fail
        go_ret
        exact ⟨by rw [HE.out] <;> rfl, rfl⟩
    · obtain rfl : k = n := by omega
      have HE : Hid (fnd es nm = -1) := fnd_none (by have := HP.out; rwa [List.take_of_length_le (by rw [HN.out]; exact Nat.le_refl _)] at this)
      go_wp2_with fail
      go_ret
      exact ⟨by rw [HE.out] <;> rfl, rfl⟩
end Go.Proofs.Ytcbmdcgaedkfnaa
