/-
  InodeFree walked (layer 7).
-/
import Derived.Test.YtkgpgaanodmpiaaIAwake
namespace Go.Proofs.Ytkgpgaanodmpiaa
open Go.RowKit

theorem BS.zero {w : World} {A : Option Addr} {n : Nat} {l : List UInt8} (h : BS w A n l) : n = l.length := h.1.symm
/-- A free one that has nothing else. -/
def freeB (li m s o v n : Nat) : Bool := li == 0 && m == 0 && s == 0 && o == 0 && v == 0 && n == 0
theorem freeB_unB (li m s o v n : Nat) : freeB li m s o v n = unB 0 li m s o v n := by
  unfold freeB unB
  cases li == 0 <;> cases m == 0 <;> cases s == 0 <;> cases o == 0 <;> cases v == 0 <;> cases n == 0 <;> rfl
theorem free_no (g li m s c o v : Nat) (xs : List Nat) (h : freeB li m s o v xs.length = false) : (Nd.mk 0 g li m s c o v xs).okB = false := by
  rw [okB_parts]
  have : useB 0 li m s o v xs.length = false := by unfold useB; rw [if_pos rfl, ← freeB_unB, h]
  rw [this, Bool.and_false]
theorem free_yes (g li m s c o v : Nat) (xs : List Nat) (h : freeB li m s o v xs.length = true) : (Nd.mk 0 g li m s c o v xs).okB = true ∧ (Nd.mk 0 g li m s c o v xs).blank = (g == 0 && c == 0) := by
  rw [okB_parts]
  have hu : useB 0 li m s o v xs.length = true := by unfold useB; rw [if_pos rfl, ← freeB_unB, h]
  have hb : (Nd.mk 0 g li m s c o v xs).blank = (unB 0 li m s o v xs.length && g == 0 && c == 0) := rfl
  refine ⟨?_, by rw [hb, ← freeB_unB, h]; rfl⟩
  rw [hu]
  unfold freeB at h
  simp only [Bool.and_eq_true, beq_iff_eq] at h
  obtain ⟨⟨⟨⟨⟨_, _⟩, rfl⟩, _⟩, _⟩, hx⟩ := h
  rw [List.eq_nil_of_length_eq_zero hx]
  rfl

set_option maxRecDepth 100000 in
set_option maxHeartbeats 4000000 in
theorem free_walk (k g li m s c o v : Nat) (A : Option Addr) (n cp : Nat) (xs : List Nat) (w : World) (hw : (Nd.mk k g li m s c o v xs).Wide) (hx : NS .u32 w A n xs) :
    Calls Try.prog 6 #[(.agg #[.int .u32 (k : Int), .int .u32 (g : Int), .int .u32 (li : Int), .int .u32 (m : Int), .int .u32 (s : Int), .int .u64 (c : Int), .int .u64 (o : Int), .int .u64 (v : Int), .slice A n cp])] w fun e w' => e = .returned (.bool true) ∧ Below w.heap.size w w' := by
  have HX := Lib.hid hx
  have Hn := Lib.hid hx.1
  have HW : Hid ((Nd.mk 0 g li m s c o v xs).Wide) := ⟨by simp only; omega, hw.g, hw.l, hw.m, hw.s, hw.c, hw.o, hw.v, hw.b⟩
  clear hx hw
  go_enter Try.func6, Try.ntmps6
  go_wp2_with fail
  refine (awake_any _).mono ?_
  rintro e w1 ⟨rfl, hb1⟩
  have HW1 : Hid (Below w.heap.size w w1) := ((Below.refl _ _).alloc (Nat.le_refl _) _).trans (hb1.mono (by simp))
  have HG1 : Hid (w1.heap[w.heap.size]? = some (.cells #[.int .u32 (k : Int), .int .u32 (g : Int), .int .u32 (li : Int), .int .u32 (m : Int), .int .u32 (s : Int), .int .u64 (c : Int), .int .u64 (o : Int), .int .u64 (v : Int), .slice A n cp] 26 (0, 0))) := (hb1.block _ (by simp)).trans (heap_alloc_new w _)
  clear hb1
  obtain ⟨c0, c1, c2, c3, c4, c5, c6, c7, c8⟩ := I_cells HG1.out
  have f0 : w1.frozen? ⟨w.heap.size, 0, none⟩ = false := by have := HG1.out; simp [World.frozen?, this]
  by_cases h20 : 20 < n
  · have hd : decide ((20 : Int) < (n : Int)) = true := by simp; omega
    go_wp2
    go_ret
    exact ⟨rfl, HW1.out⟩
  have hd : decide ((20 : Int) < (n : Int)) = false := by simp; omega
  go_upto_region 7 with (fail)
  have HG2 : Hid ((w1.setCell ⟨w.heap.size, 0, none⟩ (.int .u32 0)).heap[w.heap.size]? = some (.cells #[.int .u32 0, .int .u32 (g : Int), .int .u32 (li : Int), .int .u32 (m : Int), .int .u32 (s : Int), .int .u64 (c : Int), .int .u64 (o : Int), .int .u64 (v : Int), .slice A n cp] 26 (0, 0))) := by
    have := HG1.out
    show _ = _
    simp [World.setCell, Array.getElem?_modify, this]
  have HW2 : Hid (Below w.heap.size w (w1.setCell ⟨w.heap.size, 0, none⟩ (.int .u32 0))) := HW1.out.setCell (Nat.le_refl _) _
  clear c0 c1 c2 c3 c4 c5 c6 c7 c8 f0 hd HG1 HW1
  generalize w1.setCell ⟨w.heap.size, 0, none⟩ (.int .u32 0) = w2 at *
  have HX2 := Lib.hid (HX.out.below HW2.out)
  obtain ⟨c0, c1, c2, c3, c4, c5, c6, c7, c8⟩ := I_cells (k := 0) HG2.out
  have HP := Lib.hid (put_any 0 g li m s c o v A n cp xs w2 HW.out HX2.out (by omega))
  obtain ⟨z, hz⟩ : ∃ z, freeB li m s o v n = z := ⟨_, rfl⟩
  have HZ := Lib.hid hz
  clear hz
  go_cut [4] (fun s4 W => s4 = .bool z ∧ w2 = W)
  case first =>
    by_cases h0 : li = 0
    · have e0 : ((li : Int) == 0) = true := by rw [h0]; rfl
      by_cases h1 : m = 0
      · have e1 : ((m : Int) == 0) = true := by rw [h1]; rfl
        by_cases h2 : s = 0
        · have e2 : ((s : Int) == 0) = true := by rw [h2]; rfl
          by_cases h3 : o = 0
          · have e3 : ((o : Int) == 0) = true := by rw [h3]; rfl
            by_cases h4 : v = 0
            · have e4 : ((v : Int) == 0) = true := by rw [h4]; rfl
              by_cases h5 : n = 0
              · have e5 : ((n : Int) == 0) = true := by rw [h5]; rfl
                have hz : Hid (z = true) := by show _ = _; rw [← HZ.out]; unfold freeB; simp [h0, h1, h2, h3, h4, h5]
                go_wp2_with fail
                go_meet
                case rel => exact ⟨by rw [hz.out], rfl⟩
              · have e5 : ((n : Int) == 0) = false := by simpa using h5
                have hz : Hid (z = false) := by show _ = _; rw [← HZ.out]; unfold freeB; simp [h5]
                go_wp2_with fail
                go_meet
                case rel => exact ⟨by rw [hz.out], rfl⟩
            · have e4 : ((v : Int) == 0) = false := by simpa using h4
              have hz : Hid (z = false) := by show _ = _; rw [← HZ.out]; unfold freeB; simp [h4]
              go_wp2_with fail
              go_meet
              case rel => exact ⟨by rw [hz.out], rfl⟩
          · have e3 : ((o : Int) == 0) = false := by simpa using h3
            have hz : Hid (z = false) := by show _ = _; rw [← HZ.out]; unfold freeB; simp [h3]
            go_wp2_with fail
            go_meet
            case rel => exact ⟨by rw [hz.out], rfl⟩
        · have e2 : ((s : Int) == 0) = false := by simpa using h2
          have hz : Hid (z = false) := by show _ = _; rw [← HZ.out]; unfold freeB; simp [h2]
          go_wp2_with fail
          go_meet
          case rel => exact ⟨by rw [hz.out], rfl⟩
      · have e1 : ((m : Int) == 0) = false := by simpa using h1
        have hz : Hid (z = false) := by show _ = _; rw [← HZ.out]; unfold freeB; simp [h1]
        go_wp2_with fail
        go_meet
        case rel => exact ⟨by rw [hz.out], rfl⟩
    · have e0 : ((li : Int) == 0) = false := by simpa using h0
      have hz : Hid (z = false) := by show _ = _; rw [← HZ.out]; unfold freeB; simp [h0]
      go_wp2_with fail
      go_meet
      case rel => exact ⟨by rw [hz.out], rfl⟩
  obtain ⟨rfl, rfl⟩ := hcut
  go_wp2_with fail
  refine (HP.out).mono ?_
  rintro e w3 ⟨A3, n3, cp3, rfl, hb3, hw3⟩
  have HW3 : Hid (Below w.heap.size w w3) := HW2.out.trans (hw3.mono HW2.out.size)
  have HB3 := Lib.hid hb3
  have HG3 : Hid (w3.heap[w.heap.size]? = some (.cells #[.int .u32 0, .int .u32 (g : Int), .int .u32 (li : Int), .int .u32 (m : Int), .int .u32 (s : Int), .int .u64 (c : Int), .int .u64 (o : Int), .int .u64 (v : Int), .slice A n cp] 26 (0, 0))) := (hw3.block _ (World.block_lt_of_cell? w2 ⟨w.heap.size, 0, none⟩ c0)).trans HG2.out
  clear hw3 hb3 HP c0 c1 c2 c3 c4 c5 c6 c7 c8 HG2 HW2 HX2
  cases z
  · have hok : (Nd.mk 0 g li m s c o v xs).okB = false := free_no _ _ _ _ _ _ _ _ (by rw [Hn.out]; exact HZ.out)
    have hn3 : n3 = 0 := by
      have h1 := HB3.out.1
      have h2 : (Nd.mk 0 g li m s c o v xs).put = [] := if_neg (fun h => by rw [hok] at h; cases h.1)
      rw [h2] at h1
      exact h1.symm
    rw [show (Nd.mk 0 g li m s c o v xs).chk = 1 by unfold Nd.chk; rw [hok]; rfl]
    subst hn3
    clear hok
    go_wp2
    go_ret
    exact ⟨rfl, HW3.out⟩
  · obtain ⟨hok, hbk⟩ := free_yes g li m s c o v xs (by rw [Hn.out]; exact HZ.out)
    have HE := Lib.hid (Nd.got_put _ HW.out hok)
    rw [show (Nd.mk 0 g li m s c o v xs).chk = 0 from if_pos hok]
    have hn3 : n3 = (Nd.mk 0 g li m s c o v xs).put.length := HB3.out.1.symm
    have HLEN : Hid ((g = 0 ∧ c = 0 ∧ n3 = 0) ∨ (g = 0 ∧ c ≠ 0 ∧ 0 < n3) ∨ (g ≠ 0 ∧ 0 < n3)) := by
      show _ ∨ _
      have hlc := Nd.code_length (Nd.mk 0 g li m s c o v xs)
      by_cases hg : g = 0
      · by_cases hc : c = 0
        · refine .inl ⟨hg, hc, ?_⟩
          rw [hn3]
          unfold Nd.put
          rw [if_neg (fun h => by rw [hbk, hg, hc] at h; cases h.2)]
          rfl
        · refine .inr (.inl ⟨hg, hc, ?_⟩)
          rw [hn3]
          unfold Nd.put
          rw [if_pos ⟨hok, by rw [hbk]; simp [hc]⟩, hlc]
          omega
      · refine .inr (.inr ⟨hg, ?_⟩)
        rw [hn3]
        unfold Nd.put
        rw [if_pos ⟨hok, by rw [hbk]; simp [hg]⟩, hlc]
        omega
    have hn80 : n3 ≤ 80 := by rw [hn3]; exact Nd.put_len _
    clear hok hbk hn3
    go_wp2_with fail
    refine (get_any A3 n3 cp3 _ w3 HB3.out (by omega)).mono ?_
    rintro e w4 hgp
    unfold GetP at hgp
    rw [HE.out.1, HE.out.2] at hgp
    obtain ⟨B4, cp4, rfl, hns4, hb4⟩ := hgp
    have HW4 : Hid (Below w.heap.size w w4) := HW3.out.trans (hb4.mono HW3.out.size)
    have hws : w.heap.size < w4.heap.size := by
      have h1 := hb4.size
      have h2 := HG3.out
      rcases Nat.lt_or_ge w.heap.size w3.heap.size with h | h
      · omega
      · rw [Array.getElem?_eq_none h] at h2; cases h2
    have HG4 : Hid (w4.heap[w.heap.size]? = some (.cells #[.int .u32 0, .int .u32 (g : Int), .int .u32 (li : Int), .int .u32 (m : Int), .int .u32 (s : Int), .int .u64 (c : Int), .int .u64 (o : Int), .int .u64 (v : Int), .slice A n cp] 26 (0, 0))) := (hb4.block _ (by
      have h2 := HG3.out
      rcases Nat.lt_or_ge w.heap.size w3.heap.size with h | h
      · exact h
      · rw [Array.getElem?_eq_none h] at h2; cases h2)).trans HG3.out
    clear hns4 hb4 HG3 HW3 HB3 HE
    go_upto_region 12 with (first
      | (refine wpList_alloc_at rfl 26 rfl _ zero_I w4.heap.size rfl ?_
         intro w5 hb5 hw5)
      | (refine wpList_store_any rfl 26 (.tmp 7) (.tmp 63) rfl w4.heap.size #[.int .u32 0, .int .u32 (g : Int), .int .u32 (li : Int), .int .u32 (m : Int), .int .u32 (s : Int), .int .u64 (c : Int), .int .u64 (o : Int), .int .u64 (v : Int), .slice B4 xs.length cp4] rfl rfl 26 _ hb5 size_I rfl (by simp [Value.oneCell']) ?_
         intro w6 hb6 hs6 hw6))
    have hk6 : Below w4.heap.size w4 w6 := hw5.trans (Keep.below (hw6.mono fun k hk => by omega))
    have HW6 : Hid (Below w.heap.size w w6) := HW4.out.trans (hk6.mono HW4.out.size)
    have a1 : w6.cell? ⟨w.heap.size, 1, none⟩ = some (.int .u32 (g : Int)) := cell_of_row w6 _ 1 _ _ (0, 0) ((hk6.block _ hws).trans HG4.out)
    have a5 : w6.cell? ⟨w.heap.size, 5, none⟩ = some (.int .u64 (c : Int)) := cell_of_row w6 _ 5 _ _ (0, 0) ((hk6.block _ hws).trans HG4.out)
    have b0 : w6.cell? ⟨w4.heap.size, 0, none⟩ = some (.int .u32 0) := cell_of_row w6 _ 0 _ _ (0, 0) hb6
    have b1 : w6.cell? ⟨w4.heap.size, 1, none⟩ = some (.int .u32 (g : Int)) := cell_of_row w6 _ 1 _ _ (0, 0) hb6
    have b5 : w6.cell? ⟨w4.heap.size, 5, none⟩ = some (.int .u64 (c : Int)) := cell_of_row w6 _ 5 _ _ (0, 0) hb6
    clear hb5 hw5 hb6 hs6 hw6 hk6 HG4 HW4
    rcases HLEN.out with ⟨rfl, rfl, rfl⟩ | ⟨rfl, hc, hn⟩ | ⟨hg, hn⟩
    · go_wp2
      go_ret
      exact ⟨rfl, HW6.out⟩
    · have d1 : ((c : Int) == 0) = false := by simpa using hc
      have d2 : ((n3 : Int) == 0) = false := by simp; omega
      go_wp2
      go_ret
      exact ⟨rfl, HW6.out⟩
    · have d1 : ((g : Int) == 0) = false := by simpa using hg
      have d2 : ((n3 : Int) == 0) = false := by simp; omega
      go_wp2
      go_ret
      exact ⟨rfl, HW6.out⟩
end Go.Proofs.Ytkgpgaanodmpiaa
