/-
  BitsTells walked (layer 6).
-/
import Derived.Test.YtkodjojidoigiaaDoorBRef2
import Derived.Test.YtkodjojidoigiaaDoorBRef3
import Derived.Test.YtkodjojidoigiaaDoorBRef4
namespace Go.Proofs.YtkodjojidoigiaaDoor
open Go.RowKit

/-- A region under one condition goes under a weaker one. -/
theorem weakenH {P : Program} {md : Region.Mode} {ops : Array Oper} {Q : Exit → Act → World → Prop} {S S' : World → Prop} (hS : ∀ W, S' W → S W) : ∀ (fuel : Nat) (listed : Array Bool) (a : Act) (w : World), wpAnyH P md ops Q S' fuel listed a w → wpAnyH P md ops Q S fuel listed a w
  | 0, _, _, _, h => h
  | fuel + 1, _, _, _, h => ⟨h.1, fun i hi => wpOp_mono (fun a' w' h' => ⟨hS _ h'.1, weakenH hS fuel _ a' w' h'.2⟩) (h.2 i hi)⟩
/-- What BitsTells knows: the bytes that came in, and the two rows that were drawn. -/
structure TW (w : World) (A : Option Addr) (n : Nat) (l : List UInt8) (A2 A3 : Option Addr) (D : List Nat) (W : World) : Prop where
  bel : Below w.heap.size w W
  one : BS W A n l
  row : NS W A2 D.length D
  two : NS W A3 D.length D
theorem TW.below {w W W' : World} {A A2 A3 : Option Addr} {n : Nat} {l : List UInt8} {D : List Nat} (h : TW w A n l A2 A3 D W) (hb : Below W.heap.size W W') : TW w A n l A2 A3 D W' :=
  ⟨h.bel.trans (hb.mono h.bel.size), h.one.below hb, h.row.below hb, h.two.below hb⟩
theorem TW.drewN {w W : World} {A A2 A3 : Option Addr} {n : Nat} {l : List UInt8} {D : List Nat} (h : TW w A n l A2 A3 D W) (d : Nat) : TW w A n l A2 A3 D (W.drewN d) := ⟨below_drewN h.bel d, h.one.drewN d, h.row, h.two⟩

set_option maxRecDepth 100000 in
set_option maxHeartbeats 4000000 in
theorem tells_walk (A : Option Addr) (n c : Nat) (l : List UInt8) (i : Int) (t : Bool) (N many : Int) (w : World) (h : BS w A n l) :
    Calls Tryd.prog 3 #[.slice A n c, .int .i64 i, .bool t, .int .i64 N, .int .i64 many] w fun e w' => e = .returned (.bool true) ∧ Below w.heap.size w w' := by
  have HL := Lib.hid h
  clear h
  by_cases hall : n ≤ 60 ∧ i ≤ 2000 ∧ N ≤ 2000 ∧ many ≤ 2000
  · obtain ⟨h1, h2, h3, h4⟩ := hall
    have HLL : Hid (l.length ≤ 60) := by show _ ≤ _; rw [HL.out.1]; exact h1
    go_enter Tryd.func3, Tryd.ntmps3
    go_wp2_with fail
    refine (awake_any w).mono ?_
    rintro e w1 ⟨rfl, hb1⟩
    have HW1 := Lib.hid hb1
    have HL1 := Lib.hid (HL.out.below hb1)
    have v := run_convert_bs w1 A n c l HL1.out
    clear hb1
    go_wp2_with fail
    clear v
    refine (draw_any A n c l N many w1 HL1.out (by omega) (by omega)).mono ?_
    rintro e w2 ⟨A2, k2, c2, rfl, hn2, hb2⟩
    have HN2 := Lib.hid hn2
    have HB2 := Lib.hid hb2
    clear hn2 hb2
    go_wp2_with fail
    refine (refDraw_any l N many w2 (by omega) (by have := HLL.out; omega) (by omega)).mono ?_
    rintro e w3 ⟨A3, k3, c3, rfl, hn3, hb3⟩
    have HI : Hid (TW w A n l A2 A3 (Bt.drw l N many) w3) := by
      have e2 : k2 = (Bt.drw l N many).length := HN2.out.1.symm
      have e3 : k3 = (Bt.drw l N many).length := hn3.1.symm
      subst e2 e3
      exact ⟨(HW1.out.trans (HB2.out.mono HW1.out.size)).trans (hb3.mono (Nat.le_trans HW1.out.size HB2.out.size)), (HL1.out.below HB2.out).below hb3, HN2.out.below hb3, hn3⟩
    obtain rfl : (Bt.drw l N many).length = k2 := HN2.out.1
    obtain rfl : (Bt.drw l N many).length = k3 := hn3.1
    have HDL : Hid ((Bt.drw l N many).length ≤ 1000000) := by
      show _ ≤ _
      unfold Bt.drw
      split
      · simp
      · split
        · simp
        · rw [List.length_take]; have := Bt.fr_len_le l N.toNat; omega
    clear HN2 HB2 hn3 hb3
    go_upto_region 9 with (fail)
    generalize Bt.drwE l N many = E at *
    generalize Bt.drw l N many = D at *
    have I0 := Lib.hid (HI.out.drewN 1)
    refine wp_region_held_drew (S := fun _ => True) (by kernel_rfl) trivial (fun HS0 => ?_)
    have HS := Lib.hid HS0
    change wpAnyH _ _ _ _ _ 39 (Array.replicate 39 false) _ _
    refine takeH (i := 0) 51 (.slice A n c) rfl rfl (by kernel_rfl) (by kernel_rfl) (by kernel_rfl) (fun _ _ _ h => h) (.inl ⟨by rfl, fun W hW => by go_simp⟩) HS.out ?_
    simp only [Act.put, List.setIfInBounds_toArray, List.set_cons_zero, List.set_cons_succ]
    refine takeH (i := 1) 52 (.int .i64 i) rfl rfl (by kernel_rfl) (by kernel_rfl) (by kernel_rfl) (fun _ _ _ h => h) (.inl ⟨by rfl, fun W hW => by go_simp⟩) HS.out ?_
    simp only [Act.put, List.setIfInBounds_toArray, List.set_cons_zero, List.set_cons_succ]
    refine takeH (i := 3) 54 (.string (txt l)) rfl rfl (by kernel_rfl) (by kernel_rfl) (by kernel_rfl) (fun _ _ _ h => h) (.inl ⟨by rfl, fun W hW => by go_simp⟩) HS.out ?_
    simp only [Act.put, List.setIfInBounds_toArray, List.set_cons_zero, List.set_cons_succ]
    refine takeH (i := 4) 55 (.int .i64 i) rfl rfl (by kernel_rfl) (by kernel_rfl) (by kernel_rfl) (fun _ _ _ h => h) (.inl ⟨by rfl, fun W hW => by go_simp⟩) HS.out ?_
    simp only [Act.put, List.setIfInBounds_toArray, List.set_cons_zero, List.set_cons_succ]
    refine wpAnyH_ready (rs := [2]) (by kernel_rfl) (by simp) ?_
    refine AllReadyH.cons rfl (fun K hK => ?_) AllReadyH.nil
    go_simp
    refine (has_any A n c l i _ I0.out.one (by omega) (by omega)).mono ?_
    rintro e w4 ⟨rfl, d4, rfl⟩
    have I1 := Lib.hid (HI.out.drewN (1 + d4))
    refine hK.out _ _ trivial fun _ => ?_
    clear hK K
    refine wpAnyH_ready (rs := [5]) (by kernel_rfl) (by simp) ?_
    refine AllReadyH.cons rfl (fun K hK => ?_) AllReadyH.nil
    go_simp
    refine (refHas_any l i _ (by omega) (by have := HLL.out; omega)).mono ?_
    rintro e w5 ⟨rfl, rfl⟩
    refine hK.out _ _ trivial fun _ => ?_
    clear hK K
    refine takeH (i := 6) 57 (.bool true) rfl rfl (by kernel_rfl) (by kernel_rfl) (by kernel_rfl) (fun _ _ _ h => h) (.inl ⟨by rfl, fun W hW => by go_simp⟩) HS.out ?_
    simp only [Act.put, List.setIfInBounds_toArray, List.set_cons_zero, List.set_cons_succ]
    refine takeH (i := 7) 58 (.bool true) rfl rfl (by kernel_rfl) (by kernel_rfl) (by kernel_rfl) (fun _ _ _ h => h) (.inl ⟨by rfl, fun W hW => by go_simp⟩) HS.out ?_
    simp only [Act.put, List.setIfInBounds_toArray, List.set_cons_zero, List.set_cons_succ]
    refine takeH (i := 8) 59 (.slice A n c) rfl rfl (by kernel_rfl) (by kernel_rfl) (by kernel_rfl) (fun _ _ _ h => h) (.inl ⟨by rfl, fun W hW => by go_simp⟩) HS.out ?_
    simp only [Act.put, List.setIfInBounds_toArray, List.set_cons_zero, List.set_cons_succ]
    refine takeH (i := 9) 60 (.int .i64 i) rfl rfl (by kernel_rfl) (by kernel_rfl) (by kernel_rfl) (fun _ _ _ h => h) (.inl ⟨by rfl, fun W hW => by go_simp⟩) HS.out ?_
    simp only [Act.put, List.setIfInBounds_toArray, List.set_cons_zero, List.set_cons_succ]
    refine takeH (i := 10) 61 (.bool t) rfl rfl (by kernel_rfl) (by kernel_rfl) (by kernel_rfl) (fun _ _ _ h => h) (.inl ⟨by rfl, fun W hW => by go_simp⟩) HS.out ?_
    simp only [Act.put, List.setIfInBounds_toArray, List.set_cons_zero, List.set_cons_succ]
    refine takeH (i := 13) 64 (.string (txt l)) rfl rfl (by kernel_rfl) (by kernel_rfl) (by kernel_rfl) (fun _ _ _ h => h) (.inl ⟨by rfl, fun W hW => by go_simp⟩) HS.out ?_
    simp only [Act.put, List.setIfInBounds_toArray, List.set_cons_zero, List.set_cons_succ]
    refine takeH (i := 14) 65 (.int .i64 i) rfl rfl (by kernel_rfl) (by kernel_rfl) (by kernel_rfl) (fun _ _ _ h => h) (.inl ⟨by rfl, fun W hW => by go_simp⟩) HS.out ?_
    simp only [Act.put, List.setIfInBounds_toArray, List.set_cons_zero, List.set_cons_succ]
    refine takeH (i := 15) 66 (.bool t) rfl rfl (by kernel_rfl) (by kernel_rfl) (by kernel_rfl) (fun _ _ _ h => h) (.inl ⟨by rfl, fun W hW => by go_simp⟩) HS.out ?_
    simp only [Act.put, List.setIfInBounds_toArray, List.set_cons_zero, List.set_cons_succ]
    refine wpAnyH_ready (rs := [11]) (by kernel_rfl) (by simp) ?_
    refine AllReadyH.cons rfl (fun K hK => ?_) AllReadyH.nil
    go_simp
    refine (with_any A n c l i t _ I1.out.one (by omega) (by omega)).mono ?_
    rintro e w6 ⟨A6, m6, c6, rfl, h6, hb6⟩
    have I2 := Lib.hid (I1.out.below hb6)
    have HB6 := Lib.hid h6
    clear h6 hb6
    refine hK.out _ _ trivial fun _ => ?_
    clear hK K
    refine weakenH (S' := fun W => (convert 22 9 (.slice A6 m6 c6)).run Tryd.prog W = .ok (.string (txt (Bt.witI l i t))) W) (fun _ _ => trivial) _ _ _ _ ?_
    have HS : Hid ((convert 22 9 (.slice A6 m6 c6)).run Tryd.prog w6 = .ok (.string (txt (Bt.witI l i t))) w6) := run_convert_bs _ _ _ _ _ HB6.out
    refine takeH (i := 12) 63 (.string (txt (Bt.witI l i t))) rfl rfl (by kernel_rfl) (by kernel_rfl) (by kernel_rfl) (fun _ _ _ h => h) (.inl ⟨by rfl, fun W hW => by (dsimp only at hW; go_simp)⟩) HS.out ?_
    simp only [Act.put, List.setIfInBounds_toArray, List.set_cons_zero, List.set_cons_succ]
    refine wpAnyH_ready (rs := [16]) (by kernel_rfl) (by simp) ?_
    refine AllReadyH.cons rfl (fun K hK => ?_) AllReadyH.nil
    go_simp
    refine (refWith_any l i t _ (by omega) (by have := HLL.out; omega)).mono ?_
    rintro e w7 ⟨rfl, hb7⟩
    have I3 := Lib.hid (I2.out.below hb7)
    have HB7 := Lib.hid (HB6.out.below hb7)
    clear hb7
    refine hK.out _ _ (run_convert_bs _ _ _ _ _ HB7.out) fun _ => ?_
    clear hK K
    have HS : Hid ((convert 22 9 (.slice A6 m6 c6)).run Tryd.prog w7 = .ok (.string (txt (Bt.witI l i t))) w7) := run_convert_bs _ _ _ _ _ HB7.out
    refine takeH (i := 17) 68 (.bool true) rfl rfl (by kernel_rfl) (by kernel_rfl) (by kernel_rfl) (fun _ _ _ h => h) (.inl ⟨by rfl, fun W hW => by go_simp⟩) HS.out ?_
    simp only [Act.put, List.setIfInBounds_toArray, List.set_cons_zero, List.set_cons_succ]
    refine takeH (i := 18) 69 (.bool true) rfl rfl (by kernel_rfl) (by kernel_rfl) (by kernel_rfl) (fun _ _ _ h => h) (.inl ⟨by rfl, fun W hW => by go_simp⟩) HS.out ?_
    simp only [Act.put, List.setIfInBounds_toArray, List.set_cons_zero, List.set_cons_succ]
    refine takeH (i := 19) 70 (.bool true) rfl rfl (by kernel_rfl) (by kernel_rfl) (by kernel_rfl) (fun _ _ _ h => h) (.inl ⟨by rfl, fun W hW => by go_simp⟩) HS.out ?_
    simp only [Act.put, List.setIfInBounds_toArray, List.set_cons_zero, List.set_cons_succ]
    refine takeH (i := 20) 71 (.slice A n c) rfl rfl (by kernel_rfl) (by kernel_rfl) (by kernel_rfl) (fun _ _ _ h => h) (.inl ⟨by rfl, fun W hW => by go_simp⟩) HS.out ?_
    simp only [Act.put, List.setIfInBounds_toArray, List.set_cons_zero, List.set_cons_succ]
    refine takeH (i := 21) 72 (.int .i64 N) rfl rfl (by kernel_rfl) (by kernel_rfl) (by kernel_rfl) (fun _ _ _ h => h) (.inl ⟨by rfl, fun W hW => by go_simp⟩) HS.out ?_
    simp only [Act.put, List.setIfInBounds_toArray, List.set_cons_zero, List.set_cons_succ]
    refine takeH (i := 23) 74 (.string (txt l)) rfl rfl (by kernel_rfl) (by kernel_rfl) (by kernel_rfl) (fun _ _ _ h => h) (.inl ⟨by rfl, fun W hW => by go_simp⟩) HS.out ?_
    simp only [Act.put, List.setIfInBounds_toArray, List.set_cons_zero, List.set_cons_succ]
    refine takeH (i := 24) 75 (.int .i64 N) rfl rfl (by kernel_rfl) (by kernel_rfl) (by kernel_rfl) (fun _ _ _ h => h) (.inl ⟨by rfl, fun W hW => by go_simp⟩) HS.out ?_
    simp only [Act.put, List.setIfInBounds_toArray, List.set_cons_zero, List.set_cons_succ]
    refine wpAnyH_ready (rs := [22]) (by kernel_rfl) (by simp) ?_
    refine AllReadyH.cons rfl (fun K hK => ?_) AllReadyH.nil
    go_simp
    refine (count_any A n c l N _ I3.out.one (by omega) (by omega)).mono ?_
    rintro e w8 ⟨rfl, d8, rfl⟩
    have I4 := Lib.hid (I3.out.drewN d8)
    refine hK.out _ _ (run_convert_bs _ _ _ _ _ (HB7.out.drewN d8)) fun _ => ?_
    clear hK K
    have HS : Hid ((convert 22 9 (.slice A6 m6 c6)).run Tryd.prog (w7.drewN d8) = .ok (.string (txt (Bt.witI l i t))) (w7.drewN d8)) := run_convert_bs _ _ _ _ _ (HB7.out.drewN d8)
    refine wpAnyH_ready (rs := [25]) (by kernel_rfl) (by simp) ?_
    refine AllReadyH.cons rfl (fun K hK => ?_) AllReadyH.nil
    go_simp
    refine (refCount_any l N _ (by omega) (by have := HLL.out; omega)).mono ?_
    rintro e w9 ⟨rfl, rfl⟩
    refine hK.out _ _ HS.out fun _ => ?_
    clear hK K
    refine takeH (i := 26) 77 (.bool true) rfl rfl (by kernel_rfl) (by kernel_rfl) (by kernel_rfl) (fun _ _ _ h => h) (.inl ⟨by rfl, fun W hW => by go_simp⟩) HS.out ?_
    simp only [Act.put, List.setIfInBounds_toArray, List.set_cons_zero, List.set_cons_succ]
    refine takeH (i := 27) 78 (.bool true) rfl rfl (by kernel_rfl) (by kernel_rfl) (by kernel_rfl) (fun _ _ _ h => h) (.inl ⟨by rfl, fun W hW => by go_simp⟩) HS.out ?_
    simp only [Act.put, List.setIfInBounds_toArray, List.set_cons_zero, List.set_cons_succ]
    refine takeH (i := 28) 79 (.bool true) rfl rfl (by kernel_rfl) (by kernel_rfl) (by kernel_rfl) (fun _ _ _ h => h) (.inl ⟨by rfl, fun W hW => by go_simp⟩) HS.out ?_
    simp only [Act.put, List.setIfInBounds_toArray, List.set_cons_zero, List.set_cons_succ]
    refine takeH (i := 29) 80 (.int .i64 E) rfl rfl (by kernel_rfl) (by kernel_rfl) (by kernel_rfl) (fun _ _ _ h => h) (.inl ⟨by rfl, fun W hW => by go_simp⟩) HS.out ?_
    simp only [Act.put, List.setIfInBounds_toArray, List.set_cons_zero, List.set_cons_succ]
    refine takeH (i := 30) 81 (.int .i64 E) rfl rfl (by kernel_rfl) (by kernel_rfl) (by kernel_rfl) (fun _ _ _ h => h) (.inl ⟨by rfl, fun W hW => by go_simp⟩) HS.out ?_
    simp only [Act.put, List.setIfInBounds_toArray, List.set_cons_zero, List.set_cons_succ]
    refine takeH (i := 31) 82 (.bool true) rfl rfl (by kernel_rfl) (by kernel_rfl) (by kernel_rfl) (fun _ _ _ h => h) (.inl ⟨by rfl, fun W hW => by go_simp⟩) HS.out ?_
    simp only [Act.put, List.setIfInBounds_toArray, List.set_cons_zero, List.set_cons_succ]
    refine takeH (i := 32) 83 (.bool true) rfl rfl (by kernel_rfl) (by kernel_rfl) (by kernel_rfl) (fun _ _ _ h => h) (.inl ⟨by rfl, fun W hW => by go_simp⟩) HS.out ?_
    simp only [Act.put, List.setIfInBounds_toArray, List.set_cons_zero, List.set_cons_succ]
    refine takeH (i := 33) 84 (.bool true) rfl rfl (by kernel_rfl) (by kernel_rfl) (by kernel_rfl) (fun _ _ _ h => h) (.inl ⟨by rfl, fun W hW => by go_simp⟩) HS.out ?_
    simp only [Act.put, List.setIfInBounds_toArray, List.set_cons_zero, List.set_cons_succ]
    refine takeH (i := 34) 85 (.slice A2 D.length c2) rfl rfl (by kernel_rfl) (by kernel_rfl) (by kernel_rfl) (fun _ _ _ h => h) (.inl ⟨by rfl, fun W hW => by go_simp⟩) HS.out ?_
    simp only [Act.put, List.setIfInBounds_toArray, List.set_cons_zero, List.set_cons_succ]
    refine takeH (i := 35) 86 (.slice A3 D.length c3) rfl rfl (by kernel_rfl) (by kernel_rfl) (by kernel_rfl) (fun _ _ _ h => h) (.inl ⟨by rfl, fun W hW => by go_simp⟩) HS.out ?_
    simp only [Act.put, List.setIfInBounds_toArray, List.set_cons_zero, List.set_cons_succ]
    refine wpAnyH_ready (rs := [36]) (by kernel_rfl) (by simp) ?_
    refine AllReadyH.cons rfl (fun K hK => ?_) AllReadyH.nil
    go_simp
    refine (same_yes A2 A3 D.length c2 c3 D _ I4.out.row I4.out.two HDL.out).mono ?_
    rintro e w10 ⟨rfl, d10, rfl⟩
    refine hK.out _ _ (run_convert_bs _ _ _ _ _ ((HB7.out.drewN d8).drewN d10)) fun _ => ?_
    clear hK K
    have HS : Hid ((convert 22 9 (.slice A6 m6 c6)).run Tryd.prog ((w7.drewN d8).drewN d10) = .ok (.string (txt (Bt.witI l i t))) ((w7.drewN d8).drewN d10)) := run_convert_bs _ _ _ _ _ ((HB7.out.drewN d8).drewN d10)
    refine takeH (i := 37) 88 (.bool true) rfl rfl (by kernel_rfl) (by kernel_rfl) (by kernel_rfl) (fun _ _ _ h => h) (.inl ⟨by rfl, fun W hW => by go_simp⟩) HS.out ?_
    simp only [Act.put, List.setIfInBounds_toArray, List.set_cons_zero, List.set_cons_succ]
    refine takeH (i := 38) 10 (.bool true) rfl rfl (by kernel_rfl) (by kernel_rfl) (by kernel_rfl) (fun _ _ _ h => h) (.inl ⟨by rfl, fun W hW => by go_simp⟩) HS.out ?_
    simp only [Act.put, List.setIfInBounds_toArray, List.set_cons_zero, List.set_cons_succ]
    refine wpAnyH_done (by kernel_rfl) ?_ _
    go_wp2
    go_ret
    exact ⟨rfl, ((I3.out.drewN d8).drewN d10).bel⟩
  · by_cases h1 : 60 < n
    · go_enter Tryd.func3, Tryd.ntmps3
      go_wp2_with fail
      refine (awake_any w).mono ?_
      rintro e w1 ⟨rfl, hb1⟩
      have HW1 := Lib.hid hb1
      go_wp2
      go_ret
      exact ⟨rfl, HW1.out⟩
    · by_cases h2 : 2000 < i
      · clear hall
        have h1' : n ≤ 60 := by omega
        go_enter Tryd.func3, Tryd.ntmps3
        go_wp2_with fail
        refine (awake_any w).mono ?_
        rintro e w1 ⟨rfl, hb1⟩
        have HW1 := Lib.hid hb1
        go_wp2
        go_ret
        exact ⟨rfl, HW1.out⟩
      · by_cases h3 : 2000 < N
        · clear hall
          have h1' : n ≤ 60 := by omega
          have h2' : i ≤ 2000 := by omega
          go_enter Tryd.func3, Tryd.ntmps3
          go_wp2_with fail
          refine (awake_any w).mono ?_
          rintro e w1 ⟨rfl, hb1⟩
          have HW1 := Lib.hid hb1
          go_wp2
          go_ret
          exact ⟨rfl, HW1.out⟩
        · have h4 : 2000 < many := by omega
          clear hall
          have h1' : n ≤ 60 := by omega
          have h2' : i ≤ 2000 := by omega
          have h3' : N ≤ 2000 := by omega
          go_enter Tryd.func3, Tryd.ntmps3
          go_wp2_with fail
          refine (awake_any w).mono ?_
          rintro e w1 ⟨rfl, hb1⟩
          have HW1 := Lib.hid hb1
          go_wp2
          go_ret
          exact ⟨rfl, HW1.out⟩
end Go.Proofs.YtkodjojidoigiaaDoor
