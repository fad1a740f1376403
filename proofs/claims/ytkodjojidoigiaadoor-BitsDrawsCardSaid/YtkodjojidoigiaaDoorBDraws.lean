/-
  BitsDraws walked (layer 6).
-/
import Derived.Test.YtkodjojidoigiaaDoorBDrawsM
import Derived.Test.YtkodjojidoigiaaDoorBWithW
namespace Go.Proofs.YtkodjojidoigiaaDoor
open Go.RowKit

/-- What BitsDraws knows in its loops: the bytes that came in, what was drawn, and the bitmap C. -/
structure DW (w : World) (A : Option Addr) (n : Nat) (l : List UInt8) (A2 : Option Addr) (D : List Nat) (B : Option Addr) (m : Nat) (C : List UInt8) (W : World) : Prop where
  bel : Below w.heap.size w W
  one : BS W A n l
  row : NS W A2 D.length D
  two : BS W B m C
theorem DW.below {w W W' : World} {A A2 B B' : Option Addr} {n m m' : Nat} {l C C' : List UInt8} {D : List Nat} (h : DW w A n l A2 D B m C W) (hb : Below W.heap.size W W') (h2 : BS W' B' m' C') : DW w A n l A2 D B' m' C' W' :=
  ⟨h.bel.trans (hb.mono h.bel.size), h.one.below hb, h.row.below hb, h2⟩
theorem DW.drewN {w W : World} {A A2 B : Option Addr} {n m : Nat} {l C : List UInt8} {D : List Nat} (h : DW w A n l A2 D B m C W) (d : Nat) : DW w A n l A2 D B m C (W.drewN d) :=
  ⟨below_drewN h.bel d, h.one.drewN d, h.row, h.two.drewN d⟩

/-- From a on up to the j-th that was drawn all are taken. -/
def AtOk (l : List UInt8) (D : List Nat) (j a : Nat) : Prop := ∀ h : j < D.length, a ≤ D[j] ∧ ∀ k, a ≤ k → k < D[j] → Bt.has l k = true
theorem AtOk.start {l : List UInt8} {N : Nat} {D : List Nat} (hD : Bt.Drawn l N D) : AtOk l D 0 0 := fun h => ⟨Nat.zero_le _, fun k _ hk => hD.gap 0 h k hk (fun i' hi' => absurd hi' (by omega))⟩
theorem AtOk.next {l : List UInt8} {N : Nat} {D : List Nat} (hD : Bt.Drawn l N D) {j : Nat} (hj : j < D.length) : AtOk l D (j + 1) (D[j] + 1) := fun h => by
  refine ⟨Bt.sorted_get hD.sorted (show j < j + 1 by omega) h, fun k hk hk2 => hD.gap (j + 1) h k hk2 fun i' hi' => ?_⟩
  rcases Nat.lt_or_ge i' j with h1 | h1
  · have := Bt.sorted_get hD.sorted h1 hj
    omega
  · have : i' = j := by omega
    subst this
    omega
theorem AtOk.step {l : List UInt8} {D : List Nat} {j a : Nat} (h : AtOk l D j a) (ha : ∀ h : j < D.length, a < D[j]) : AtOk l D j (a + 1) := fun hj => ⟨ha hj, fun k hk => (h hj).2 k (by omega)⟩

set_option maxRecDepth 100000 in
set_option maxHeartbeats 2000000 in
theorem draws_walk (A : Option Addr) (n cA : Nat) (l : List UInt8) (N many : Int) (w : World) (h : BS w A n l) (h0 : 0 ≤ N) (h1 : N ≤ 255) (h2 : 0 ≤ many) (h3 : many ≤ 255) :
    Calls Tryd.prog 4 #[.slice A n cA, .int .u8 N, .int .u8 many] w fun e w' => e = .returned (.bool true) ∧ Below w.heap.size w w' := by
  obtain ⟨N, rfl⟩ := Int.eq_ofNat_of_zero_le h0
  obtain ⟨y, rfl⟩ := Int.eq_ofNat_of_zero_le h2
  have HL := Lib.hid h
  clear h
  by_cases hn : n ≤ 40
  · have hcl := Bt.cnt_le l N
    go_enter Tryd.func4, Tryd.ntmps4
    go_wp2_with fail
    refine (awake_any w).mono ?_
    rintro e w1 ⟨rfl, hb1⟩
    have HW1 := Lib.hid hb1
    have HL1 := Lib.hid (HL.out.below hb1)
    clear hb1
    go_wp2_with fail
    refine (draw_any A n cA l (N : Int) (y : Int) w1 HL1.out (by omega) (by omega)).mono ?_
    rintro e w2 ⟨A2, n2, c2, rfl, hn2, hb2⟩
    have HW2 := Lib.hid (HW1.out.trans (hb2.mono HW1.out.size))
    have HL2 := Lib.hid (HL1.out.below hb2)
    clear hb2
    rcases Bt.drw_parts l N y with ⟨hE0, hE, hlt⟩ | ⟨hE, hD, hDl⟩
    · rw [hE]
      clear hE hE0 hn2
      go_wp2_with fail
      refine (count_any A n cA l (N : Int) w2 HL2.out (by omega) (by omega)).mono ?_
      rintro e w3 ⟨rfl, d3, rfl⟩
      rw [Int.toNat_natCast]
      go_wp2
      go_ret
      exact ⟨rfl, below_drewN HW2.out _⟩
    · rw [hE]
      rw [hD] at hn2
      have HDR := Lib.hid (Bt.drawn_take l N y)
      generalize (Bt.fr l N).take y = D at *
      have hny : D.length = n2 := hn2.1
      subst hny
      subst hDl
      have hdl : D.length ≤ 255 := by omega
      have HN2 := Lib.hid hn2
      clear hE hD hn2
      go_wp2_with fail
      refine (with_any A n cA l (-1) true w2 HL2.out (by omega) (by omega)).mono ?_
      rintro e w3 ⟨B3, m3, c3, rfl, h3, hb3⟩
      rw [Bt.witI_neg l true (by omega)] at h3
      have HI := Lib.hid (DW.mk (HW2.out.trans (hb3.mono HW2.out.size)) (HL2.out.below hb3) (HN2.out.below hb3) h3)
      have HT := Lib.hid (Bt.Took.start l N D (by rw [HL.out.1]; omega))
      have HTR := Lib.hid (Bt.trim_trimmed l)
      clear h3 hb3
      go_wp2_with fail
      go_loopw [12, 11, 10] (fun i t u wr => ∃ j : Nat, j ≤ D.length ∧ i = .int .i64 j ∧ ∃ a : Nat, t = .int .i64 a ∧ Hid (AtOk l D j a) ∧ Hid (a ≤ 256) ∧ ∃ B m c C, u = .slice B m c ∧ Hid (Bt.Took l N D j C) ∧ Hid (Bt.Trimmed C) ∧ Hid (DW w A n l A2 D B m C wr)) (fun i _ _ _ => D.length - (intOf i).toNat)
      case atStart => exact ⟨0, by omega, rfl, 0, rfl, AtOk.start HDR.out, by show _ ≤ _; omega, B3, m3, c3, _, rfl, HT, HTR, HI⟩
      case round =>
        clear HI HT HTR
        obtain ⟨j, hj, rfl, a, rfl, HA, HAL, B, m, c, C, rfl, HT, HTR, HI⟩ := hrel
        have HM : Hid (m ≤ 40) := by show _ ≤ _; rw [← HI.out.two.1]; exact HT.out.len
        by_cases hlt : j < D.length
        · obtain ⟨x, hx⟩ : ∃ x, x = D[j] := ⟨_, rfl⟩
          have hfree := HDR.out.free j hlt
          have hat := HA.out hlt
          rw [← hx] at hfree hat
          have HX := Lib.hid hx
          have HF := Lib.hid hfree.1
          have hxN := hfree.2
          clear hx hfree hat
          have hd : decide (j < D.length) = true := by simpa using hlt
          go_wp2_with fail
          go_loopw [11] (fun t wr => ∃ a : Nat, t = .int .i64 a ∧ a ≤ x ∧ Hid (AtOk l D j a) ∧ Hid (DW w A n l A2 D B m C wr)) (fun t _ => x - (intOf t).toNat)
          case atStart => exact ⟨a, rfl, by have := (HA.out hlt).1; rw [HX.out]; exact this, HA, HI⟩
          case round =>
            clear HI HA HAL
            obtain ⟨a, rfl, hax, HA, HI⟩ := hrel
            obtain ⟨b, o, rfl, hjl, hcell⟩ := HI.out.row.at hlt
            rw [← HX.out] at hcell
            by_cases ha : a < x
            · have hxx : Hid (Bt.has l a = true) := (HA.out hlt).2 a (Nat.le_refl _) (by rw [← HX.out]; exact ha)
              go_wp2_with fail
              refine (has_any A n cA l (a : Int) wr HI.out.one (by omega) (by omega)).mono ?_
              rintro e w5 ⟨rfl, d5, rfl⟩
              rw [Bt.hasI_nat, hxx.out]
              have HI5 := Lib.hid (HI.out.drewN d5)
              have HA5 := Lib.hid (HA.out.step fun _ => by rw [← HX.out]; exact ha)
              go_wp2
              go_roundw
              case rel => exact ⟨a + 1, by go_num, by omega, HA5, HI5⟩
              case measure => simp [intOf]; omega
            · have hax2 : a = x := by omega
              subst hax2
              go_wp2_with fail
              refine (has_any A n cA l (a : Int) wr HI.out.one (by omega) (by omega)).mono ?_
              rintro e w5 ⟨rfl, d5, rfl⟩
              rw [Bt.hasI_nat, HF.out]
              have HI5 := Lib.hid (HI.out.drewN d5)
              have hm := HM.out
              go_wp2_with fail
              refine (with_any B m c C (a : Int) true _ HI5.out.two (by omega) (by omega)).mono ?_
              rintro e w6 ⟨B6, m6, c6, rfl, h6, hb6⟩
              rw [Bt.witI_nat] at h6
              have HI6 := Lib.hid (HI5.out.below hb6 h6)
              have HT6 := HT.out.next HDR.out hlt (by omega)
              rw [← HX.out] at HT6
              have HT7 := Lib.hid HT6
              have HA6 := AtOk.next HDR.out hlt
              rw [← HX.out] at HA6
              have HA7 := Lib.hid HA6
              clear HT6 HA6 h6 hb6
              go_wp2
              go_roundw
              case rel => exact ⟨j + 1, by omega, by go_num, a + 1, by go_num, HA7, by show _ ≤ _; omega, B6, m6, c6, _, rfl, HT7, Bt.wit_trimmed _ _ _, HI6⟩
              case measure => simp [intOf]; omega
        · have hjn : j = D.length := by omega
          subst hjn
          have hm := HM.out
          go_wp2_with fail
          refine (count_any B m c C (N : Int) wr HI.out.two (by omega) (by omega)).mono ?_
          rintro e w5 ⟨rfl, d5, rfl⟩
          rw [Int.toNat_natCast, HT.out.cnt]
          go_wp2_with fail
          refine (count_any A n cA l (N : Int) _ (HI.out.one.drewN d5) (by omega) (by omega)).mono ?_
          rintro e w6 ⟨rfl, d6, rfl⟩
          rw [Int.toNat_natCast]
          have HI6 := Lib.hid (HI.out.drewN (d5 + d6))
          have HG := Lib.hid (Bt.Gave.start HT.out HTR.out)
          go_wp2_with fail
          go_loopw [13, 10] (fun i u wr => ∃ j : Nat, j ≤ D.length ∧ i = .int .i64 j ∧ ∃ B m c C, u = .slice B m c ∧ Hid (Bt.Gave l D j C) ∧ Hid (DW w A n l A2 D B m C wr)) (fun i _ _ => D.length - (intOf i).toNat)
          case atStart => exact ⟨0, by omega, rfl, B, m, c, C, rfl, HG, HI6⟩
          case round =>
            clear HG HI6 HI HT HTR HM hm
            obtain ⟨j, hj, rfl, B, m, c, C, rfl, HG, HI⟩ := hrel
            have hm : m ≤ 40 := by rw [← HI.out.two.1]; exact HG.out.len
            by_cases hlt : j < D.length
            · obtain ⟨b, o, rfl, hjl, hcell⟩ := HI.out.row.at hlt
              have hN := (HDR.out.free j hlt).2
              have HGN := Lib.hid (HG.out.next HDR.out hlt (by omega))
              generalize D[j] = x at *
              have hd : decide (j < D.length) = true := by simpa using hlt
              go_wp2_with fail
              refine (with_any B m c C (x : Int) false wr HI.out.two (by omega) (by omega)).mono ?_
              rintro e w7 ⟨B7, m7, c7, rfl, h7, hb7⟩
              rw [Bt.witI_nat] at h7
              have HI7 := Lib.hid (HI.out.below hb7 h7)
              clear h7 hb7
              go_wp2
              go_roundw
              case rel => exact ⟨j + 1, by omega, by go_num, B7, m7, c7, _, rfl, HGN, HI7⟩
              case measure => simp [intOf]; omega
            · have hjn : j = D.length := by omega
              subst hjn
              have hC := HG.out.end
              subst hC
              clear HG
              go_upto_region 28 with (fail)
              have HS : Hid ((convert 22 9 (.slice B m c)).run Tryd.prog wr.drew = .ok (.string (txt (Bt.trim l))) wr.drew) := run_convert_bs _ _ _ _ _ (HI.out.two.drewN 1)
              refine wp_region_held_drew (S := fun W => (convert 22 9 (.slice B m c)).run Tryd.prog W = .ok (.string (txt (Bt.trim l))) W) (by kernel_rfl) HS.out (fun _ => ?_)
              change wpAnyH _ _ _ _ _ 7 (Array.replicate 7 false) _ _
              refine takeH (i := 0) 122 (.slice B m c) rfl rfl (by kernel_rfl) (by kernel_rfl) (by kernel_rfl) (fun _ _ _ h => h) (.inl ⟨by rfl, fun W hW => by go_simp⟩) HS.out ?_
              simp only [Act.put, List.setIfInBounds_toArray, List.set_cons_zero, List.set_cons_succ]
              refine takeH (i := 1) 123 (.string (txt (Bt.trim l))) rfl rfl (by kernel_rfl) (by kernel_rfl) (by kernel_rfl) (fun _ _ _ h => h) (.inl ⟨by rfl, fun W hW => by (dsimp only at hW; go_simp)⟩) HS.out ?_
              simp only [Act.put, List.setIfInBounds_toArray, List.set_cons_zero, List.set_cons_succ]
              refine takeH (i := 2) 124 (.slice A n cA) rfl rfl (by kernel_rfl) (by kernel_rfl) (by kernel_rfl) (fun _ _ _ h => h) (.inl ⟨by rfl, fun W hW => by go_simp⟩) HS.out ?_
              simp only [Act.put, List.setIfInBounds_toArray, List.set_cons_zero, List.set_cons_succ]
              refine wpAnyH_ready (rs := [3]) (by kernel_rfl) (by simp) ?_
              refine AllReadyH.cons rfl (fun K hK => ?_) AllReadyH.nil
              go_simp
              refine (with_any A n cA l (-1) false _ (HI.out.one.drewN 1) (by omega) (by omega)).mono ?_
              rintro e w9 ⟨A9, m9, c9, rfl, h9, hb9⟩
              rw [Bt.witI_neg l false (by omega)] at h9
              have HI9 := Lib.hid ((HI.out.drewN 1).below hb9 ((HI.out.two.drewN 1).below hb9))
              have v9 := run_convert_bs w9 A9 m9 c9 _ h9
              refine hK.out _ _ (run_convert_bs _ _ _ _ _ HI9.out.two) fun HS9 => ?_
              clear hK K
              have HS := Lib.hid HS9
              refine wpAnyH_ready (rs := [4]) (by kernel_rfl) (by simp) ?_
              refine AllReadyH.cons rfl (fun K hK => ?_) AllReadyH.nil
              go_simp
              refine hK.out _ _ HS.out fun _ => ?_
              clear hK K
              refine takeH (i := 5) 127 (.bool true) rfl rfl (by kernel_rfl) (by kernel_rfl) (by kernel_rfl) (fun _ _ _ h => h) (.inl ⟨by rfl, fun W hW => by go_simp⟩) HS.out ?_
              simp only [Act.put, List.setIfInBounds_toArray, List.set_cons_zero, List.set_cons_succ]
              refine takeH (i := 6) 6 (.bool true) rfl rfl (by kernel_rfl) (by kernel_rfl) (by kernel_rfl) (fun _ _ _ h => h) (.inl ⟨by rfl, fun W hW => by go_simp⟩) HS.out ?_
              simp only [Act.put, List.setIfInBounds_toArray, List.set_cons_zero, List.set_cons_succ]
              refine wpAnyH_done (by kernel_rfl) ?_ _
              go_wp2
              go_ret
              exact ⟨rfl, HI9.out.bel⟩
  · have hn' : 40 < n := by omega
    go_enter Tryd.func4, Tryd.ntmps4
    go_wp2_with fail
    refine (awake_any w).mono ?_
    rintro e w1 ⟨rfl, hb1⟩
    have HW1 := Lib.hid hb1
    go_wp2
    go_ret
    exact ⟨rfl, HW1.out⟩
end Go.Proofs.YtkodjojidoigiaaDoor
