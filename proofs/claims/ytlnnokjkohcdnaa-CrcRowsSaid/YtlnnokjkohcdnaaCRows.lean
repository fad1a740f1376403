/-
  The walk of CrcRows: the sum of rows, one behind the other, is the same, row by row, as of all at once: the law's function returns true for every input.
-/
import Derived.Test.YtlnnokjkohcdnaaCAwake
namespace Go.Proofs.Ytlnnokjkohcdnaa
open Go.RowKit

/-- A slice of slices of bytes reads as rows. -/
def RS (w : World) (A : Option Addr) (n : Nat) (rows : List (List UInt8)) : Prop :=
  rows.length = n ∧ (0 < n → ∃ b o, A = some ⟨b, o, none⟩ ∧ ∀ j (hj : j < rows.length), ∃ Aj cj, w.cell? ⟨b, o + j, none⟩ = some (.slice Aj rows[j].length cj) ∧ BS w Aj rows[j].length rows[j])
theorem RS.at {w : World} {A : Option Addr} {n : Nat} {rows : List (List UInt8)} (h : RS w A n rows) {k : Nat} (hk : k < n) :
    ∃ b o Aj cj r, A = some ⟨b, o, none⟩ ∧ w.cell? ⟨b, o + k, none⟩ = some (.slice Aj r cj) ∧ ∃ l, BS w Aj r l := by
  obtain ⟨b, o, e, hc⟩ := h.2 (by omega)
  have hj : k < rows.length := by rw [h.1]; exact hk
  obtain ⟨Aj, cj, h1, h2⟩ := hc k hj
  exact ⟨b, o, Aj, cj, _, e, h1, _, h2⟩
theorem RS.of_cells (w : World) (x : Addr) (n : Nat) (A : Nat → Option Addr) (L C : Nat → Nat) (Z : Nat → List Int)
    (h : ∀ r, r < n → w.cell? (x.add r) = some (.slice (A r) (L r) (C r)) ∧ IsRow .u8 w (A r) (L r) (C r) (Z r)) : ∃ rows, RS w (some x) n rows := by
  have hex : ∀ r, ∃ l : List UInt8, r < n → BS w (A r) (L r) l := fun r => by
    by_cases hr : r < n
    · obtain ⟨l, hl⟩ := (h r hr).2.bs
      exact ⟨l, fun _ => hl⟩
    · exact ⟨[], fun h => absurd h hr⟩
  refine ⟨(List.range n).map fun r => (hex r).choose, by simp, fun hn => ?_⟩
  obtain ⟨b, o, sp⟩ := x
  have hs : sp = none := by simpa [Addr.add] using World.cell?_spot (h 0 hn).1
  subst hs
  refine ⟨b, o, rfl, fun j hj => ?_⟩
  have hj' : j < n := by simpa using hj
  have hb := (hex j).choose_spec hj'
  have hc := (h j hj').1
  rw [add_plain] at hc
  refine ⟨A j, C j, ?_, ?_⟩
  · rw [hc]
    simp [hb.1]
  · simp only [List.getElem_map, List.getElem_range]
    rw [hb.1]
    exact hb
theorem Own.below {w w1 w2 : World} {A : Option Addr} {n c : Nat} {l : List UInt8} (h : Own w w1 A n c l) (hb : Below w1.heap.size w1 w2) : Own w w2 A n c l := by
  refine ⟨⟨h.1.1, ?_⟩, h.2.trans (hb.mono h.2.size)⟩
  rcases h.1.2 with h1 | ⟨g, cap, cur, h1, h2, h3, h4⟩
  · exact .inl h1
  · have hlt : g < w1.heap.size := (Array.getElem?_eq_some_iff.1 h3).1
    exact .inr ⟨g, cap, cur, h1, h2, (hb.block g hlt).trans h3, h4⟩

set_option maxRecDepth 100000 in
set_option maxHeartbeats 4000000 in
theorem rows_walk (A : Option Addr) (n c : Nat) (rows : List (List UInt8)) (w : World) (hb : RS w A n rows) :
    Calls Try.prog 7 #[.slice A n c] w fun e w' => e = .returned (.bool true) ∧ Below w.heap.size w w' := by
  have HA := Lib.hid (awake_any w)
  obtain ⟨i0, hi0, hz0, hz1, hz2⟩ := info_parts info_u8
  have HB := Lib.hid hb
  clear hb
  by_cases h10 : 10 < n
  · go_enter Try.func7, Try.ntmps7
    have hd : decide ((10 : Int) < (n : Int)) = true := by simp; omega
    go_wp2_with fail
    refine HA.out.mono ?_
    rintro e w1 ⟨rfl, hw1⟩
    have HW1 := Lib.hid hw1
    clear hw1
    go_wp2_with fail
    go_ret
    exact ⟨rfl, HW1.out⟩
  · go_enter Try.func7, Try.ntmps7
    have hd : decide ((10 : Int) < (n : Int)) = false := by simp; omega
    go_wp2_with fail
    refine HA.out.mono ?_
    rintro e w1 ⟨rfl, hw1⟩
    have HW1 := Lib.hid hw1
    clear hw1 HA
    go_wp2_with fail
    refine (of_any none 0 0 [] w1 BS.nil (by omega)).mono ?_
    rintro e w2 ⟨rfl, hb2⟩
    have HO : Hid (Own w w2 none 0 0 []) := ⟨World.ownsRow_nil _ _ _ _, HW1.out.trans (hb2.mono HW1.out.size)⟩
    clear hb2 HW1
    go_wp2_with fail
    go_loopw [4, 5, 6] (fun a x i wr => ∃ (k m c' : Nat) (A' : Option Addr) (L : List UInt8), k ≤ n ∧ m ≤ 100 * k ∧ i = .int .i64 k ∧ a = .slice A' m c' ∧ x = .int .u32 ((sum L).toNat : Int) ∧ Hid (Own w wr A' m c' L)) (fun _ _ i _ => n - (intOf i).toNat)
    case atStart => exact ⟨0, 0, 0, none, [], by omega, by omega, rfl, rfl, rfl, HO⟩
    case round =>
      clear HO
      obtain ⟨k, m, c', A', L, hk, hm, rfl, rfl, rfl, HO⟩ := hrel
      by_cases hlt : k < n
      · obtain ⟨b, o, Aj, cj, r, rfl, hcell0, lj, hbs⟩ := HB.out.at hlt
        have HL := Lib.hid hbs
        have HC := Lib.hid hcell0
        have hblt := World.block_lt_of_cell? w _ hcell0
        have hcell : wr.cell? ⟨b, o + k, none⟩ = some (.slice Aj r cj) := (HO.out.2.cell (p := ⟨b, o + k, none⟩) hblt).trans hcell0
        clear hbs hcell0 hblt
        have hdk : decide (k < n) = true := by simp; omega
        by_cases h100 : 100 < r
        · have hdr : decide ((100 : Int) < (r : Int)) = true := by simp; omega
          go_wp2_with fail
          go_ret
          exact ⟨rfl, HO.out.2⟩
        · have hdr : decide ((100 : Int) < (r : Int)) = false := by simp; omega
          have hsz := HO.out.2.size
          go_upto_region 14 with
            (at_builtin
             refine wpList_append_bytes _ rfl (.tmp 26) (.tmp 30) 23 rfl w.heap.size 5 i0 Try.underlying23 hi0 hz0 hz1 hz2 A' m c' L rfl HO.out.1
                Aj r cj lj rfl (HL.out.below HO.out.2) (by omega) hsz ?_
             intro A3 c3 w3 hown hgrow hat)
          have HO3 : Hid (Own w w3 A3 (m + r) c3 (L ++ lj)) := ⟨hown, HO.out.2.grown hgrow hsz (fun k hk => (HO.out.1.lt k hk).1)⟩
          clear hown hgrow hat hcell
          have hcell : w3.cell? ⟨b, o + k, none⟩ = some (.slice Aj r cj) := (HO3.out.2.cell (p := ⟨b, o + k, none⟩) (World.block_lt_of_cell? w _ HC.out)).trans HC.out
          go_wp2_with fail
          refine (more_any (sum L) Aj r cj lj w3 (HL.out.below HO3.out.2) (by omega)).mono ?_
          have HM : Hid (more (sum L) lj = sum (L ++ lj)) := more_more _ _ _
          rw [HM.out]
          rintro e w4 ⟨rfl, hb4⟩
          have HO4 := Lib.hid (HO3.out.below hb4)
          clear hb4 HO3 hcell
          generalize L ++ lj = L4 at *
          go_wp2_with fail
          refine (of_any A3 (m + r) c3 L4 w4 HO4.out.bs (by omega)).mono ?_
          rintro e w5 ⟨rfl, hb5⟩
          have HO5 := Lib.hid (HO4.out.below hb5)
          clear hb5 HO4
          go_wp2_with fail
          go_roundw
          case rel => exact ⟨k + 1, m + r, c3, A3, L4, by omega, by omega, by go_num, rfl, rfl, HO5⟩
          case measure => simp [intOf]; omega
      · have hdk : decide (k < n) = false := by simp; omega
        go_wp2_with fail
        refine (of_any none 0 0 [] wr BS.nil (by omega)).mono ?_
        rw [sum_nil]
        rintro e w5 ⟨rfl, hb5⟩
        have HW5 := Lib.hid (HO.out.2.trans (hb5.mono HO.out.2.size))
        clear hb5 HO
        go_wp2_with fail
        go_ret
        exact ⟨rfl, HW5.out⟩
end Go.Proofs.Ytlnnokjkohcdnaa
