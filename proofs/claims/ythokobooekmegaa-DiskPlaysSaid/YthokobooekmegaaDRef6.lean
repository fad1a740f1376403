/-
  The document's answers for layer 3, continued: Crash.
-/
import Derived.Test.YthokobooekmegaaDRef5
namespace Go.Proofs.Ythokobooekmegaa
open Go.RowKit

theorem cho_end {L : List UInt8} {l : List (Int × List UInt8)} {k : Nat} (h : L.length ≤ k / 8) : ∀ d, cho L l (k + d) = cho L l k
  | 0 => rfl
  | d + 1 => by
    rw [show k + (d + 1) = (k + d) + 1 by omega]
    show cho L l (k + d) ++ _ = _
    rw [bit_none (show L.length ≤ (k + d) / 8 by omega), cho_end h d]
    simp
theorem cho_yes {L : List UInt8} {l : List (Int × List UInt8)} {k : Nat} (hk : k < l.length) (h : bit L k = true) : cho L l (k + 1) = cho L l k ++ [l[k]] := by simp [cho, h, hk]
theorem cho_no {L : List UInt8} {l : List (Int × List UInt8)} {k : Nat} (h : bit L k = false) : cho L l (k + 1) = cho L l k := by simp [cho, h]
theorem doneL_nat {s : DS} {l : List (Int × List UInt8)} {x : Int × List UInt8} {j : Nat} (hj : x.1 = (j : Int)) : (fun y : Nat => if y = j then x.2 else (s.doneL l).F (y : Int)) = fun y : Nat => (s.doneL (l ++ [x])).F (y : Int) := by
  funext y
  rw [← DS.doneL_step]
  show _ = if (y : Int) = x.1 then _ else _
  rw [hj]
  by_cases e : y = j
  · rw [if_pos e, if_pos (by rw [e])]
  · rw [if_neg e, if_neg (by omega)]

set_option maxRecDepth 100000 in
set_option maxHeartbeats 2000000 in
theorem crashR_any (AL AW : Option Addr) (cL cW : Nat) (s : DS) (L : List UInt8) (w : World) (h : RefD w AL AW cW s) (hs : s.pend.length ≤ 1000000) (hn : s.n ≤ 65536) (hn0 : 0 < s.n) (hL : L.length ≤ 1000000)
    (hin : ∀ x ∈ s.pend, 0 ≤ x.1 ∧ x.1 < (s.n : Int)) :
    Calls Try.prog 21 #[dv AL cL AW cW s, .string (txt L)] w fun e w' =>
      ∃ A c, e = .returned (.tuple #[dv A c none 0 (s.crashed L), .int .i64 ((cho L s.pend s.pend.length).length : Int)]) ∧ RefD w' A none 0 (s.crashed L) ∧ Below w.heap.size w w' ∧ (A = AL ∨ ∃ g, A = some ⟨g, 0, none⟩ ∧ w.heap.size ≤ g) := by
  have HD := Lib.hid h
  have HIN := Lib.hid hin
  have hsz : (txt L).size = L.length := txt_size L
  clear h hin
  unfold dv at *
  obtain ⟨W, hW⟩ : ∃ W, W = (w.alloc (.cells #[.slice AL s.n cL, .slice AW s.pend.length cW, .int .i64 (nrm s.left), .bool s.down] 31)).alloc (.cells #[.slice none 0 0, .slice none 0 0, .int .i64 0, .bool false] 31) := ⟨_, rfl⟩
  have HH : Hid (Hold w AW cW s (s.doneL (cho L s.pend 0)).F AL cL W) := by
    obtain ⟨h1, h2, h3⟩ := two_D (w := w) (a := .slice AL s.n cL) (b := .slice AW s.pend.length cW) (c := .int .i64 (nrm s.left)) (d := .bool s.down) (w1 := W) (by rw [hW]; exact Below.refl _ _)
    refine ⟨h1, h2, h3, HD.out.1.below h3, HD.out.2.below h3, fun ad e h0 => ?_, fun ad e h0 => ?_⟩
    · obtain ⟨b, e2, hc⟩ := HD.out.1 h0
      rw [e2] at e
      cases e
      have := World.block_lt_of_cell? w _ (hc 0 h0)
      exact ⟨by show b ≠ _; have : b < _ := this; omega, by show b ≠ _; have : b < _ := this; omega⟩
    · obtain ⟨b, e2, hc⟩ := HD.out.2.2 h0
      rw [e2] at e
      cases e
      exact World.block_lt_of_cell? w _ (hc 0 h0).1
  have HWE := Lib.hid hW
  clear hW
  go_enter Try.func21, Try.ntmps21
  go_wp2
  rw [← HWE.out]
  clear HWE
  go_loopw [6, 7] (fun v i wr => ∃ k : Nat, k ≤ s.pend.length ∧ i = .int .i64 k ∧ v = .int .i64 ((cho L s.pend k).length : Int) ∧ ∃ A c, Hid (Hold w AW cW s (s.doneL (cho L s.pend k)).F A c wr) ∧ Hid (A = AL ∨ ∃ g, A = some ⟨g, 0, none⟩ ∧ w.heap.size ≤ g)) (fun _ i _ => s.pend.length - (intOf i).toNat)
  case atStart => exact ⟨0, by omega, rfl, rfl, AL, cL, HH, .inl rfl⟩
  case round =>
    clear HH
    obtain ⟨k, hk, rfl, rfl, A, c, HH, HA⟩ := hrel
    obtain ⟨c0, c1, f0, f1⟩ := HH.out.cells
    have hcl := cho_len L s.pend k
    by_cases hlt : k < s.pend.length
    · by_cases hq : k / 8 < L.length
      · have hqi : (k : Int) / 8 < (L.length : Int) := by omega
        have hd1 : decide ((k : Int) < (s.pend.length : Int)) = true := by simp; omega
        have hd2 : decide ((k : Int) / 8 < (L.length : Int)) = true := by simp; omega
        have hget : (txt L)[k / 8]'(by rw [txt_size]; exact hq) = L[k / 8] := by simp [txt]; rfl
        obtain ⟨x, hx⟩ : ∃ x, x = L[k / 8].toNat := ⟨_, rfl⟩
        have hx8 : x < 256 := by rw [hx]; exact L[k / 8].toNat_lt
        have hbit : bit L k = decide (x / 2 ^ (k % 8) % 2 = 1) := by simp [bit, hq, hx]
        have hwr : wrap64 (x : Int) = (x : Int) := by unfold wrap64; omega
        go_wp2_with fail
        try rw [hget]
        try rw [← hx]
        try rw [hwr]
        clear hwr hget hx
        go_loop [8, 9] (fun v j => ∃ m : Nat, m ≤ k % 8 ∧ j = .int .i64 m ∧ ∃ y : Nat, v = .int .i64 (y : Int) ∧ y < 256 ∧ Hid (x / 2 ^ m = y)) (fun _ j => k % 8 - (intOf j).toNat)
        case atStart => exact ⟨0, by omega, rfl, x, rfl, hx8, by show _ = _; simp⟩
        case round =>
        obtain ⟨m, hm, rfl, y, rfl, hy, HX⟩ := hrel
        by_cases hm2 : m < k % 8
        · have hmi : (m : Int) < (k : Int) % 8 := by omega
          go_wp2
          go_round
          case rel => exact ⟨m + 1, by omega, by go_num, y / 2, by go_num, by omega, by show _ = _; rw [Nat.pow_succ, ← Nat.div_div_eq_div_mul, HX.out]⟩
          case measure => simp [intOf]; omega
        · have hmi : (m : Int) = (k : Int) % 8 := by omega
          have hym : bit L k = decide (y % 2 = 1) := by rw [hbit, show k % 8 = m by omega, HX.out]
          obtain ⟨b0, rfl, hc⟩ := HH.out.2.2.2.2.1.2 (by omega)
          obtain ⟨hc1, hc2⟩ := hc k hlt
          obtain ⟨hi1, hi2⟩ := HIN.out _ (List.getElem_mem hlt)
          obtain ⟨jj, hj⟩ := Int.eq_ofNat_of_zero_le hi1
          by_cases hbt : bit L k = true
          all_goals have hyd := hym
          · have hyo : y % 2 = 1 := by rw [hbt] at hyd; simpa using hyd.symm
            have HST := Lib.hid (doneL_nat (s := s) (l := cho L s.pend k) (x := s.pend[k]) hj)
            have HCH := Lib.hid (cho_yes hlt hbt)
            have hy2 : (y : Int) % 2 = 1 := by omega
            rw [hj] at hc1 hi2
            have hjn : jj < s.n := by omega
            rw [← HCH.out] at HST
            have HLE : Hid (((cho L s.pend k).length : Int) + 1 = ((cho L s.pend (k + 1)).length : Int)) := by show _ = _; rw [HCH.out]; simp
            clear hc hi1 hi2 hj hbit HX hym hm hm2
            generalize s.pend[k].2 = B at *
            go_wp2_with fail
            have HHD := Lib.hid HH.out.drew
            refine wp_region_still_tail 14 (by kernel_rfl) (by kernel_rfl) ?_
            simp only [List.take_succ_cons, List.take_zero, List.drop_succ_cons, List.drop_zero]
            change wpStill _ _ (World.drew _) _ _ _
            iterate 14 still_step
            refine wpStill_nil ?_
            change wpList _ _ _ _ _ (World.drew _)
            go_wp2_with fail
            refine (put_any A s.n c _ jj B _ HHD.out.2.2.2.1 hjn hn).mono ?_
            rintro e w4 ⟨g, c', rfl, ht4, hb4, hg4⟩
            rw [HST.out] at ht4
            have HN := Lib.hid (HHD.out.sectors (c' := c') hb4 hg4 ht4)
            have hcl4 : w4.cell? ⟨w.heap.size, 0, none⟩ = some (.slice A s.n c) := (hb4.cell (p := ⟨w.heap.size, 0, none⟩) (Array.getElem?_eq_some_iff.1 HHD.out.1).1).trans c0
            have hfz : w4.frozen? ⟨w.heap.size, 0, none⟩ = false := by simp [World.frozen?, (hb4.block _ (Array.getElem?_eq_some_iff.1 HHD.out.1).1).trans HHD.out.1]
            have HAN : Hid ((some ⟨g, 0, none⟩ : Option Addr) = AL ∨ ∃ g', (some ⟨g, 0, none⟩ : Option Addr) = some ⟨g', 0, none⟩ ∧ w.heap.size ≤ g') := .inr ⟨g, rfl, Nat.le_trans HHD.out.2.2.1.size hg4⟩
            clear ht4 hb4 hg4 c0 c1 f0 f1
            go_wp2
            go_roundw
            case rel => exact ⟨k + 1, by omega, by go_num, by rw [HLE.out], _, _, HN, HAN⟩
            case measure => simp [intOf]; omega
          · have hyo : y % 2 = 0 := by
              have : ¬ y % 2 = 1 := by intro h; rw [h] at hyd; simp at hyd; exact hbt hyd
              omega
            have hbf : bit L k = false := by simpa using hbt
            have HCH := Lib.hid (cho_no (l := s.pend) hbf)
            have hy2 : (y : Int) % 2 = 0 := by omega
            clear hc hi1 hi2 hj hbit HX hym hm hm2 hc1 hc2
            go_wp2
            go_roundw
            case rel => exact ⟨k + 1, by omega, by go_num, by rw [HCH.out], A, c, by rw [HCH.out]; exact HH, HA⟩
            case measure => simp [intOf]; omega
      · have hqi : (L.length : Int) ≤ (k : Int) / 8 := by omega
        have HP : Hid (cho L s.pend s.pend.length = cho L s.pend k) := by
          show _ = _
          have := cho_end (l := s.pend) (show L.length ≤ k / 8 by omega) (s.pend.length - k)
          rwa [show k + (s.pend.length - k) = s.pend.length by omega] at this
        go_wp2_with (refine wpList_store_any rfl 31 (.tmp 4) (.tmp 60) rfl (w.heap.size + 1) #[.slice A s.n c, .slice none 0 0, .int .i64 (-1), .bool false] rfl rfl 31 _ HH.out.2.1 size_D rfl (all_D _ _ _ _ _ _ _ _) ?_
                     intro w7 hb7 hs7 hw7
                     have HB7 := Lib.hid hb7
                     have HW7 := Lib.hid hw7
                     clear hb7 hs7 hw7)
        refine bodyPost_ret (results_D rfl _ w7 (w.heap.size + 1) _ _ _ _ _ (by rfl) (by rfl) HB7.out) rfl ⟨A, c, ?_, ⟨?_, ?_⟩, HH.out.2.2.1.trans (Keep.below (HW7.out.mono fun k hk => by omega)), HA.out⟩
        · rw [HP.out]
          rfl
        · have e : (s.crashed L).F = (s.doneL (cho L s.pend k)).F := by
            show (fun i => rd (cho L s.pend s.pend.length) i (s.F i)) = _
            rw [HP.out]
            rfl
          rw [e]
          refine HH.out.2.2.2.1.fr (S := fun k => k = w.heap.size + 1) (HW7.out.mono fun k hk => hk.2) (fun ad e h => ?_)
          exact (HH.out.2.2.2.2.2.1 ad e hn0).2 h
        · exact ⟨fun _ => ⟨rfl, rfl⟩, fun h => absurd h (by show ¬ 0 < ([] : List (Int × List UInt8)).length; simp)⟩
    · have HP : Hid (cho L s.pend s.pend.length = cho L s.pend k) := by show _ = _; rw [show s.pend.length = k by omega]
      go_wp2_with (refine wpList_store_any rfl 31 (.tmp 4) (.tmp 60) rfl (w.heap.size + 1) #[.slice A s.n c, .slice none 0 0, .int .i64 (-1), .bool false] rfl rfl 31 _ HH.out.2.1 size_D rfl (all_D _ _ _ _ _ _ _ _) ?_
                   intro w7 hb7 hs7 hw7
                   have HB7 := Lib.hid hb7
                   have HW7 := Lib.hid hw7
                   clear hb7 hs7 hw7)
      refine bodyPost_ret (results_D rfl _ w7 (w.heap.size + 1) _ _ _ _ _ (by rfl) (by rfl) HB7.out) rfl ⟨A, c, ?_, ⟨?_, ?_⟩, HH.out.2.2.1.trans (Keep.below (HW7.out.mono fun k hk => by omega)), HA.out⟩
      · rw [HP.out]
        rfl
      · have e : (s.crashed L).F = (s.doneL (cho L s.pend k)).F := by
          show (fun i => rd (cho L s.pend s.pend.length) i (s.F i)) = _
          rw [HP.out]
          rfl
        rw [e]
        refine HH.out.2.2.2.1.fr (S := fun k => k = w.heap.size + 1) (HW7.out.mono fun k hk => hk.2) (fun ad e h => ?_)
        exact (HH.out.2.2.2.2.2.1 ad e hn0).2 h
      · exact ⟨fun _ => ⟨rfl, rfl⟩, fun h => absurd h (by show ¬ 0 < ([] : List (Int × List UInt8)).length; simp)⟩
end Go.Proofs.Ythokobooekmegaa
