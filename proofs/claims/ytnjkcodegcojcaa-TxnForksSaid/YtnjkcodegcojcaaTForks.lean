/-
  TxnForks walked (layer 10).
-/
import Derived.Test.YtnjkcodegcojcaaTForksM
import Derived.Deep.DeepCutAuto
import Derived.Maps.AppendAt
namespace Go.Proofs.Ytnjkcodegcojcaa
open Go.RowKit

theorem weakenH {P : Program} {md : Region.Mode} {ops : Array Oper} {Q : Exit → Act → World → Prop} {S S' : World → Prop} (hS : ∀ W, S' W → S W) : ∀ (fuel : Nat) (listed : Array Bool) (a : Act) (w : World), wpAnyH P md ops Q S' fuel listed a w → wpAnyH P md ops Q S fuel listed a w
  | 0, _, _, _, h => h
  | fuel + 1, _, _, _, h => ⟨h.1, fun i hi => wpOp_mono (fun a' w' h' => ⟨hS _ h'.1, weakenH hS fuel _ a' w' h'.2⟩) (h.2 i hi)⟩
set_option maxRecDepth 100000 in
set_option maxHeartbeats 4000000 in
theorem forks_walk (A B C : Option Addr) (n n1 n2 c c1 c2 : Nat) (ls : List (List UInt8)) (l1 l2 : List UInt8) (w : World) (hA : RP w A n ls) (hB : BS w B n1 l1) (hC : BS w C n2 l2) (hS : ∀ k, k < n → (ls.getD k []).length ≤ big47) :
    Calls Try.prog 5 #[.slice A n c, .slice B n1 c1, .slice C n2 c2] w fun e w' => e = .returned (.bool true) ∧ Below w.heap.size w w' := by
  have HA := Lib.hid hA
  have HB := Lib.hid hB
  have HC := Lib.hid hC
  have HSZ := Lib.hid hS
  clear hA hB hC hS
  by_cases q0n : n = 0
  · have q0 : (((n : Int) == 0)) = true := by simp; omega
    go_enter Try.func5, Try.ntmps5
    go_wp2_with fail
    refine (awake_any w).mono ?_
    rintro e w1 ⟨rfl, hb1⟩
    have HW1 := Lib.hid hb1
    clear hb1
    go_wp2_with fail
    go_ret
    exact ⟨rfl, HW1.out⟩
  have q0 : (((n : Int) == 0)) = false := by simp; omega
  by_cases q1n : 20 < n
  · have q1 : (decide ((20 : Int) < (n : Int))) = true := by simp; omega
    go_enter Try.func5, Try.ntmps5
    go_wp2_with fail
    refine (awake_any w).mono ?_
    rintro e w1 ⟨rfl, hb1⟩
    have HW1 := Lib.hid hb1
    clear hb1
    go_wp2_with fail
    go_ret
    exact ⟨rfl, HW1.out⟩
  have q1 : (decide ((20 : Int) < (n : Int))) = false := by simp; omega
  by_cases q2n : 30 < n1
  · have q2 : (decide ((30 : Int) < (n1 : Int))) = true := by simp; omega
    go_enter Try.func5, Try.ntmps5
    go_wp2_with fail
    refine (awake_any w).mono ?_
    rintro e w1 ⟨rfl, hb1⟩
    have HW1 := Lib.hid hb1
    clear hb1
    go_wp2_with fail
    go_ret
    exact ⟨rfl, HW1.out⟩
  have q2 : (decide ((30 : Int) < (n1 : Int))) = false := by simp; omega
  by_cases q3n : 30 < n2
  · have q3 : (decide ((30 : Int) < (n2 : Int))) = true := by simp; omega
    go_enter Try.func5, Try.ntmps5
    go_wp2_with fail
    refine (awake_any w).mono ?_
    rintro e w1 ⟨rfl, hb1⟩
    have HW1 := Lib.hid hb1
    clear hb1
    go_wp2_with fail
    go_ret
    exact ⟨rfl, HW1.out⟩
  have q3 : (decide ((30 : Int) < (n2 : Int))) = false := by simp; omega
  have n0 : 0 < n := by omega
  have N9 : Hid (n ≤ 20 ∧ n1 ≤ 30 ∧ n2 ≤ 30) := ⟨by omega, by omega, by omega⟩
  clear q0n q1n q2n q3n
  obtain ⟨ab, ao, rfl, hal, harow⟩ := HA.out.row n0
  have HAR := Lib.hid harow
  have HAL := Lib.hid hal
  clear hal harow
  go_enter Try.func5, Try.ntmps5
  go_wp2_with fail
  refine (awake_any w).mono ?_
  rintro e w1 ⟨rfl, hb1⟩
  have HW1 := Lib.hid hb1
  clear hb1
  have n20 := N9.out.1
  have n1b := N9.out.2.1
  have n2b := N9.out.2.2
  go_wp2_with fail
  clear q0 q1 q2 q3
  refine (new_any (some ⟨ab, ao, none⟩) n c ls w1 ((HA.out.ri HSZ.out).below HW1.out) (by omega)).mono ?_
  rintro e w2 ⟨g, m, p, rfl, h1, h2, -, -⟩
  have HI2 : Hid (FK w w2 ls n p m ⟨some ⟨g, 0, none⟩, n, n⟩ (TX.new ls)) := ⟨h1.mono fun z hz => Nat.le_trans HW1.out.size hz, rfl, Two.new ls, HW1.out.trans (h2.mono HW1.out.size)⟩
  clear h1 h2
  have nz : ((n : Int) == 0) = false := by simp; omega
  go_wp2_with fail
  go_loopw [9] (fun i wr => ∃ (k : Nat) (X : TX), k ≤ n1 ∧ i = .int .i64 k ∧ Hid (FK w wr ls n p m ⟨some ⟨g, 0, none⟩, n, n⟩ X)) (fun i _ => n1 - (intOf i).toNat)
  case atStart => exact ⟨0, _, by omega, rfl, HI2⟩
  case round =>
    clear HI2
    obtain ⟨k, X, hk, rfl, HI⟩ := hrel
    rename World => wr
    by_cases hlt : k < n1
    · obtain ⟨b, o, rfl, hj, hy0⟩ := HB.out.at hlt
      have HY0 := Lib.hid hy0
      have r1 := tmod_nat l1[k].toNat n
      have r2 : l1[k].toNat % n < n := Nat.mod_lt _ n0
      have r3 : l1[k].toNat < 256 := l1[k].toNat_lt
      clear hy0
      obtain ⟨yb, hyb⟩ : ∃ yb, l1[k] = yb := ⟨_, rfl⟩
      rw [hyb] at r1 r2 r3 HY0
      obtain ⟨y, hy⟩ : ∃ y, yb.toNat = y := ⟨_, rfl⟩
      have HYB := Lib.hid hy
      rw [hy] at r1 r2 r3 HY0
      clear hyb hy
      obtain ⟨q, hq⟩ : ∃ q, y % n = q := ⟨_, rfl⟩
      rw [hq] at r1 r2
      clear hq
      have HBL := Lib.hid (World.block_lt_of_cell? w _ HY0.out)
      have hwy : IntKind.i64.wrap (y : Int) = (y : Int) := IntWalk.i64_in _ (by omega)
      have hn0 : ¬ n = 0 := by omega
      have HSW : Hid (∀ W, Below w.heap.size w W → W.cell? ⟨b, o + k, none⟩ = some (.int .u8 (y : Int))) := fun W hb => (hb.cell (p := ⟨b, o + k, none⟩) HBL.out).trans HY0.out
      go_wp2_with fail
      have HId := Lib.hid (HI.out.below (Below.refl _ _).drew)
      have HS : Hid ((fun W : World => W.cell? ⟨b, o + k, none⟩ = some (.int .u8 (y : Int))) wr.drew) := HSW.out _ HId.out.bel
      refine wp_region_held_drew (S := fun W => W.cell? ⟨b, o + k, none⟩ = some (.int .u8 (y : Int))) (by kernel_rfl) HS.out (fun _ => ?_)
      change wpAnyH _ _ _ _ _ 16 (Array.replicate 16 false) _ _
      generalize wr.drew = w4 at *
      refine takeH (i := 0) 45 (.pointer (some ⟨p, 0, none⟩)) rfl rfl (by kernel_rfl) (by kernel_rfl) (by kernel_rfl) (fun _ _ _ h => h) (.inl ⟨by rfl, fun W hW => by go_simp⟩) HS.out ?_
      simp only [Act.put, List.setIfInBounds_toArray, List.set_cons_zero, List.set_cons_succ]
      refine takeH (i := 1) 46 (.slice (some ⟨b, o, none⟩) n1 c1) rfl rfl (by kernel_rfl) (by kernel_rfl) (by kernel_rfl) (fun _ _ _ h => h) (.inl ⟨by rfl, fun W hW => by go_simp⟩) HS.out ?_
      simp only [Act.put, List.setIfInBounds_toArray, List.set_cons_zero, List.set_cons_succ]
      refine takeH (i := 2) 47 (.int .i64 (k : Int)) rfl rfl (by kernel_rfl) (by kernel_rfl) (by kernel_rfl) (fun _ _ _ h => h) (.inl ⟨by rfl, fun W hW => by go_simp⟩) HS.out ?_
      simp only [Act.put, List.setIfInBounds_toArray, List.set_cons_zero, List.set_cons_succ]
      refine takeH (i := 3) 48 (.pointer (some ⟨b, o + k, none⟩)) rfl rfl (by kernel_rfl) (by kernel_rfl) (by kernel_rfl) (fun _ _ _ h => h) (.inl ⟨by rfl, fun W hW => by go_simp⟩) HS.out ?_
      simp only [Act.put, List.setIfInBounds_toArray, List.set_cons_zero, List.set_cons_succ]
      refine takeH (i := 4) 49 (.int .u8 (y : Int)) rfl rfl (by kernel_rfl) (by kernel_rfl) (by kernel_rfl) (fun _ _ _ h => h) (.inl ⟨by rfl, fun W hW => by (have hz0 : W.cell? ⟨b, o + k, none⟩ = some (.int .u8 (y : Int)) := hW; go_simp)⟩) HS.out ?_
      simp only [Act.put, List.setIfInBounds_toArray, List.set_cons_zero, List.set_cons_succ]
      refine takeH (i := 5) 50 (.int .i64 (y : Int)) rfl rfl (by kernel_rfl) (by kernel_rfl) (by kernel_rfl) (fun _ _ _ h => h) (.inl ⟨by rfl, fun W hW => by go_simp⟩) HS.out ?_
      simp only [Act.put, List.setIfInBounds_toArray, List.set_cons_zero, List.set_cons_succ]
      refine takeH (i := 6) 51 (.slice (some ⟨ab, ao, none⟩) n c) rfl rfl (by kernel_rfl) (by kernel_rfl) (by kernel_rfl) (fun _ _ _ h => h) (.inl ⟨by rfl, fun W hW => by go_simp⟩) HS.out ?_
      simp only [Act.put, List.setIfInBounds_toArray, List.set_cons_zero, List.set_cons_succ]
      refine takeH (i := 7) 52 (.int .i64 (n : Int)) rfl rfl (by kernel_rfl) (by kernel_rfl) (by kernel_rfl) (fun _ _ _ h => h) (.inl ⟨by rfl, fun W hW => by go_simp⟩) HS.out ?_
      simp only [Act.put, List.setIfInBounds_toArray, List.set_cons_zero, List.set_cons_succ]
      refine takeH (i := 8) 53 (.int .i64 (q : Int)) rfl rfl (by kernel_rfl) (by kernel_rfl) (by kernel_rfl) (fun _ _ _ h => h) (.inl ⟨by rfl, fun W hW => by go_simp⟩) HS.out ?_
      simp only [Act.put, List.setIfInBounds_toArray, List.set_cons_zero, List.set_cons_succ]
      refine takeH (i := 9) 54 (.slice (some ⟨b, o, none⟩) n1 c1) rfl rfl (by kernel_rfl) (by kernel_rfl) (by kernel_rfl) (fun _ _ _ h => h) (.inl ⟨by rfl, fun W hW => by go_simp⟩) HS.out ?_
      simp only [Act.put, List.setIfInBounds_toArray, List.set_cons_zero, List.set_cons_succ]
      refine takeH (i := 10) 55 (.int .i64 (k : Int)) rfl rfl (by kernel_rfl) (by kernel_rfl) (by kernel_rfl) (fun _ _ _ h => h) (.inl ⟨by rfl, fun W hW => by go_simp⟩) HS.out ?_
      simp only [Act.put, List.setIfInBounds_toArray, List.set_cons_zero, List.set_cons_succ]
      refine takeH (i := 11) 56 (.pointer (some ⟨b, o + k, none⟩)) rfl rfl (by kernel_rfl) (by kernel_rfl) (by kernel_rfl) (fun _ _ _ h => h) (.inl ⟨by rfl, fun W hW => by go_simp⟩) HS.out ?_
      simp only [Act.put, List.setIfInBounds_toArray, List.set_cons_zero, List.set_cons_succ]
      refine takeH (i := 12) 57 (.int .u8 (y : Int)) rfl rfl (by kernel_rfl) (by kernel_rfl) (by kernel_rfl) (fun _ _ _ h => h) (.inl ⟨by rfl, fun W hW => by (have hz0 : W.cell? ⟨b, o + k, none⟩ = some (.int .u8 (y : Int)) := hW; go_simp)⟩) HS.out ?_
      simp only [Act.put, List.setIfInBounds_toArray, List.set_cons_zero, List.set_cons_succ]
      have HI5 := Lib.hid (HId.out.below ((Below.refl _ _).alloc (Nat.le_refl _) (.cells #[.int .u8 1, .int .u8 (y : Int)] 5)))
      have hs5 : BS (w4.alloc (.cells #[.int .u8 1, .int .u8 (y : Int)] 5)) (some ⟨w4.heap.size, 0, none⟩) 2 [1, yb] := two_block (by rw [HYB.out]; exact heap_alloc_new w4 (.cells #[.int .u8 1, .int .u8 (y : Int)] 5))
      have HS5 := Lib.hid (HSW.out _ HI5.out.bel)
      refine wpAnyH_ready (rs := [13]) (by kernel_rfl) (by simp) ?_
      refine AllReadyH.cons rfl (fun K hK => ?_) AllReadyH.nil
      go_simp
      refine hK.out _ _ HS5.out fun _ => ?_
      clear hK K
      generalize w4.alloc (.cells #[.int .u8 1, .int .u8 (y : Int)] 5) = w5 at *
      refine wpAnyH_ready (rs := [14]) (by kernel_rfl) (by simp) ?_
      refine AllReadyH.cons rfl (fun K hK => ?_) AllReadyH.nil
      go_simp
      refine (put_any HI5.out.tq HI5.out.new (q : Int) _ 2 2 [1, yb] hs5).mono ?_
      rintro e w6 ⟨rfl, h1, h2⟩
      rw [show TX.perr (Sl.n ⟨some ⟨g, 0, none⟩, n, n⟩) (q : Int) [1, yb] = 0 from TX.perr_ok (hasB_nat r2) (by show 2 ≤ _; omega)]
      rw [show X.putI (Sl.n ⟨some ⟨g, 0, none⟩, n, n⟩) (q : Int) [1, yb] = X.put q [1, yb] from TX.putI_ok r2 (by show 2 ≤ _; omega)] at h1
      have HI6 := Lib.hid (HI5.out.put h1 h2)
      have HS6 := Lib.hid (HSW.out _ HI6.out.bel)
      refine hK.out _ _ HS6.out fun _ => ?_
      clear hK K h1 h2 hs5 HS HS5 HI5 HId
      refine wpAnyH_ready (rs := [15]) (by kernel_rfl) (by simp) ?_
      refine AllReadyH.cons rfl (fun K hK => ?_) AllReadyH.nil
      go_simp
      refine hK.out _ _ HS6.out fun _ => ?_
      clear hK K
      refine wpAnyH_done (by kernel_rfl) ?_ _
      go_wp2
      go_roundw
      case rel => exact ⟨k + 1, _, by omega, by go_num, HI6⟩
      case measure => simp [intOf]; omega
    · obtain rfl : n1 = k := by omega
      go_wp2_with fail
      refine (fork_any HI.out.tq HI.out.new).mono ?_
      intro e w3 hf
      obtain ⟨pu, mu, rfl, h3⟩ := T2.of_fork HI.out.tq HI.out.bel hf
      have HT3 := Lib.hid h3
      have HTX := Lib.hid HI.out.tw
      clear hf h3 HI
      obtain ⟨i0, hi0, hz0, hz1, hz2⟩ := info_parts info_str
      have HI0 := Lib.hid hi0
      have HZ0 := Lib.hid hz0
      have HZ1 := Lib.hid hz1
      have HZ2 := Lib.hid hz2
      clear hi0 hz0 hz1 hz2
      go_wp2_with fail
      go_loopw [11, 12] (fun s i wr => ∃ (k cw : Nat) (Aw : Option Addr), k ≤ n ∧ i = .int .i64 k ∧ s = .slice Aw k cw ∧ Hid (SR wr w3.heap.size Aw cw (wasL X k)) ∧ Hid (Below w3.heap.size w3 wr)) (fun _ i _ => n - (intOf i).toNat)
      case atStart => exact ⟨0, 0, none, by omega, rfl, rfl, SR.nil _ _, Below.refl _ _⟩
      case round =>
        obtain ⟨k, cw, Aw, hk, rfl, rfl, HR, HBW⟩ := hrel
        rename World => wr
        by_cases hlt : k < n
        · have HT4 := Lib.hid (HT3.out.below HBW.out)
          go_wp2_with fail
          refine (get_ok HT4.out.a k (show k < n from hlt)).mono ?_
          rintro e w4 ⟨A4, n4, c4, rfl, h1, -, -, -, h5, -⟩
          have cv := run_convert_bs w4 A4 n4 c4 _ h1
          have HB4 := Lib.hid h5
          have HL4 : Hid ((wasL X k).length = k) := wasL_len X k
          have HR5 : Hid ((w4.alloc (.cells #[.string (txt (X.get k))] 9)).ownsRow w3.heap.size 9 1 (.slice Aw k cw) k (sc (wasL X k))) := by
            have := HR.out.below (HB4.out.alloc HB4.out.size (.cells #[.string (txt (X.get k))] 9))
            unfold SR at this
            rwa [HL4.out] at this
          have HN5 := Lib.hid (SR.news w4 (X.get k))
          have HSC := Lib.hid (wasL_succ X k)
          have hsz : w3.heap.size ≤ (w4.alloc (.cells #[.string (txt (X.get k))] 9)).heap.size := by
            have h6 := HBW.out.size
            have h7 := HB4.out.size
            rw [World.size_alloc]
            omega
          have HPU : Hid (∀ A' c' w8, w8.ownsRow w3.heap.size 9 1 (.slice A' (k + 1) c') (k + 1) (sc (wasL X k) ++ [.string (txt (X.get k))]) → (w4.alloc (.cells #[.string (txt (X.get k))] 9)).grownBy w8 (Value.slice Aw k cw).ownBlock → SR w8 w3.heap.size A' c' (wasL X (k + 1)) ∧ Below w3.heap.size wr w8) := fun A' c' w8 h8 hg => by
            have := HR.out.push (A' := A') (c' := c') HBW.out.size HB4.out (X.get k) (by rw [HL4.out]; exact h8) (by rw [HL4.out]; exact hg)
            rwa [← wasL_succ] at this
          clear h1 h5 HB4 HT4
          generalize X.get k = bg at *
          go_wp2_with (at_builtin
                       go_must (refine wpList_append_own_at _ rfl (.tmp 69) (.tmp 74) 29 rfl w3.heap.size 9 i0 _ 1 16 Try.underlying29 HI0.out HZ0.out HZ1.out HZ2.out rfl (by omega) (.slice Aw k cw) k (sc (wasL X k)) rfl HR5.out ⟨w4.heap.size, 0, none⟩ 1 1 [.string (txt bg)] rfl rfl HN5.out (by simp [Value.oneCell']) (by unfold maxLen; omega) (by omega) hsz ?_)
                       intro v' w8 hown' hgrow _ hat
                       obtain ⟨g', cap', rfl⟩ := ownsRow_succ hown'
                       have HMO := Lib.hid (HPU.out _ _ _ hown' hgrow)
                       clear hown' hgrow hat)
          go_roundw
          case rel => exact ⟨k + 1, cap', some ⟨g', 0, none⟩, by omega, by go_num, rfl, HMO.out.1, HBW.out.trans HMO.out.2⟩
          case measure => simp [intOf]; omega
        · obtain rfl : n = k := by omega
          have HI := Lib.hid (HT3.out.below HBW.out)
          clear HI0 HZ0 HZ1 HZ2
          go_wp2_with fail
          go_loopw [13] (fun i wr => ∃ (k : Nat) (Y : TX), k ≤ n2 ∧ i = .int .i64 k ∧ Hid (T2 w wr p m ⟨some ⟨g, 0, none⟩, n, n⟩ X pu mu ⟨some ⟨g, 0, none⟩, n, n⟩ Y) ∧ Hid (Two ls Y) ∧ Hid (SR wr w3.heap.size Aw cw (wasL X n))) (fun i _ => n2 - (intOf i).toNat)
          case atStart => exact ⟨0, X, by omega, rfl, HI, HTX, HR⟩
          case round =>
            clear HI HR HBW
            obtain ⟨k, Y, hk, rfl, HI, HTY, HR⟩ := hrel
            rename World => wr
            by_cases hlt : k < n2
            · obtain ⟨b, o, rfl, hj, hy0⟩ := HC.out.at hlt
              have HY0 := Lib.hid hy0
              have r1 := tmod_nat l2[k].toNat n
              have r2 : l2[k].toNat % n < n := Nat.mod_lt _ n0
              have r3 : l2[k].toNat < 256 := l2[k].toNat_lt
              clear hy0
              obtain ⟨yb, hyb⟩ : ∃ yb, l2[k] = yb := ⟨_, rfl⟩
              rw [hyb] at r1 r2 r3 HY0
              obtain ⟨y, hy⟩ : ∃ y, yb.toNat = y := ⟨_, rfl⟩
              have HYB := Lib.hid hy
              rw [hy] at r1 r2 r3 HY0
              clear hyb hy
              obtain ⟨q, hq⟩ : ∃ q, y % n = q := ⟨_, rfl⟩
              rw [hq] at r1 r2
              clear hq
              have HBL := Lib.hid (World.block_lt_of_cell? w _ HY0.out)
              have hwy : IntKind.i64.wrap (y : Int) = (y : Int) := IntWalk.i64_in _ (by omega)
              have hn0 : ¬ n = 0 := by omega
              have HSW : Hid (∀ W, Below w.heap.size w W → W.cell? ⟨b, o + k, none⟩ = some (.int .u8 (y : Int))) := fun W hb => (hb.cell (p := ⟨b, o + k, none⟩) HBL.out).trans HY0.out
              go_wp2_with fail
              have HId := Lib.hid (HI.out.drew)
              have HRd : Hid (SR wr.drew w3.heap.size Aw cw (wasL X n)) := HR.out.below (Below.refl _ _).drew
              have HS : Hid ((fun W : World => W.cell? ⟨b, o + k, none⟩ = some (.int .u8 (y : Int))) wr.drew) := HSW.out _ HId.out.bel
              refine wp_region_held_drew (S := fun W => W.cell? ⟨b, o + k, none⟩ = some (.int .u8 (y : Int))) (by kernel_rfl) HS.out (fun _ => ?_)
              change wpAnyH _ _ _ _ _ 16 (Array.replicate 16 false) _ _
              generalize wr.drew = w4 at *
              refine takeH (i := 0) 82 (.pointer (some ⟨pu, 0, none⟩)) rfl rfl (by kernel_rfl) (by kernel_rfl) (by kernel_rfl) (fun _ _ _ h => h) (.inl ⟨by rfl, fun W hW => by go_simp⟩) HS.out ?_
              simp only [Act.put, List.setIfInBounds_toArray, List.set_cons_zero, List.set_cons_succ]
              refine takeH (i := 1) 83 (.slice (some ⟨b, o, none⟩) n2 c2) rfl rfl (by kernel_rfl) (by kernel_rfl) (by kernel_rfl) (fun _ _ _ h => h) (.inl ⟨by rfl, fun W hW => by go_simp⟩) HS.out ?_
              simp only [Act.put, List.setIfInBounds_toArray, List.set_cons_zero, List.set_cons_succ]
              refine takeH (i := 2) 84 (.int .i64 (k : Int)) rfl rfl (by kernel_rfl) (by kernel_rfl) (by kernel_rfl) (fun _ _ _ h => h) (.inl ⟨by rfl, fun W hW => by go_simp⟩) HS.out ?_
              simp only [Act.put, List.setIfInBounds_toArray, List.set_cons_zero, List.set_cons_succ]
              refine takeH (i := 3) 85 (.pointer (some ⟨b, o + k, none⟩)) rfl rfl (by kernel_rfl) (by kernel_rfl) (by kernel_rfl) (fun _ _ _ h => h) (.inl ⟨by rfl, fun W hW => by go_simp⟩) HS.out ?_
              simp only [Act.put, List.setIfInBounds_toArray, List.set_cons_zero, List.set_cons_succ]
              refine takeH (i := 4) 86 (.int .u8 (y : Int)) rfl rfl (by kernel_rfl) (by kernel_rfl) (by kernel_rfl) (fun _ _ _ h => h) (.inl ⟨by rfl, fun W hW => by (have hz0 : W.cell? ⟨b, o + k, none⟩ = some (.int .u8 (y : Int)) := hW; go_simp)⟩) HS.out ?_
              simp only [Act.put, List.setIfInBounds_toArray, List.set_cons_zero, List.set_cons_succ]
              refine takeH (i := 5) 87 (.int .i64 (y : Int)) rfl rfl (by kernel_rfl) (by kernel_rfl) (by kernel_rfl) (fun _ _ _ h => h) (.inl ⟨by rfl, fun W hW => by go_simp⟩) HS.out ?_
              simp only [Act.put, List.setIfInBounds_toArray, List.set_cons_zero, List.set_cons_succ]
              refine takeH (i := 6) 88 (.slice (some ⟨ab, ao, none⟩) n c) rfl rfl (by kernel_rfl) (by kernel_rfl) (by kernel_rfl) (fun _ _ _ h => h) (.inl ⟨by rfl, fun W hW => by go_simp⟩) HS.out ?_
              simp only [Act.put, List.setIfInBounds_toArray, List.set_cons_zero, List.set_cons_succ]
              refine takeH (i := 7) 89 (.int .i64 (n : Int)) rfl rfl (by kernel_rfl) (by kernel_rfl) (by kernel_rfl) (fun _ _ _ h => h) (.inl ⟨by rfl, fun W hW => by go_simp⟩) HS.out ?_
              simp only [Act.put, List.setIfInBounds_toArray, List.set_cons_zero, List.set_cons_succ]
              refine takeH (i := 8) 90 (.int .i64 (q : Int)) rfl rfl (by kernel_rfl) (by kernel_rfl) (by kernel_rfl) (fun _ _ _ h => h) (.inl ⟨by rfl, fun W hW => by go_simp⟩) HS.out ?_
              simp only [Act.put, List.setIfInBounds_toArray, List.set_cons_zero, List.set_cons_succ]
              refine takeH (i := 9) 91 (.slice (some ⟨b, o, none⟩) n2 c2) rfl rfl (by kernel_rfl) (by kernel_rfl) (by kernel_rfl) (fun _ _ _ h => h) (.inl ⟨by rfl, fun W hW => by go_simp⟩) HS.out ?_
              simp only [Act.put, List.setIfInBounds_toArray, List.set_cons_zero, List.set_cons_succ]
              refine takeH (i := 10) 92 (.int .i64 (k : Int)) rfl rfl (by kernel_rfl) (by kernel_rfl) (by kernel_rfl) (fun _ _ _ h => h) (.inl ⟨by rfl, fun W hW => by go_simp⟩) HS.out ?_
              simp only [Act.put, List.setIfInBounds_toArray, List.set_cons_zero, List.set_cons_succ]
              refine takeH (i := 11) 93 (.pointer (some ⟨b, o + k, none⟩)) rfl rfl (by kernel_rfl) (by kernel_rfl) (by kernel_rfl) (fun _ _ _ h => h) (.inl ⟨by rfl, fun W hW => by go_simp⟩) HS.out ?_
              simp only [Act.put, List.setIfInBounds_toArray, List.set_cons_zero, List.set_cons_succ]
              refine takeH (i := 12) 94 (.int .u8 (y : Int)) rfl rfl (by kernel_rfl) (by kernel_rfl) (by kernel_rfl) (fun _ _ _ h => h) (.inl ⟨by rfl, fun W hW => by (have hz0 : W.cell? ⟨b, o + k, none⟩ = some (.int .u8 (y : Int)) := hW; go_simp)⟩) HS.out ?_
              simp only [Act.put, List.setIfInBounds_toArray, List.set_cons_zero, List.set_cons_succ]
              have HI5 := Lib.hid (HId.out.below ((Below.refl _ _).alloc (Nat.le_refl _) (.cells #[.int .u8 2, .int .u8 (y : Int)] 5)))
              have hs5 : BS (w4.alloc (.cells #[.int .u8 2, .int .u8 (y : Int)] 5)) (some ⟨w4.heap.size, 0, none⟩) 2 [2, yb] := two_block (by rw [HYB.out]; exact heap_alloc_new w4 (.cells #[.int .u8 2, .int .u8 (y : Int)] 5))
              have HS5 := Lib.hid (HSW.out _ HI5.out.bel)
              have HR5 := Lib.hid (HRd.out.below ((Below.refl _ _).alloc (Nat.le_refl _) (.cells #[.int .u8 2, .int .u8 (y : Int)] 5)))
              refine wpAnyH_ready (rs := [13]) (by kernel_rfl) (by simp) ?_
              refine AllReadyH.cons rfl (fun K hK => ?_) AllReadyH.nil
              go_simp
              refine hK.out _ _ HS5.out fun _ => ?_
              clear hK K
              generalize w4.alloc (.cells #[.int .u8 2, .int .u8 (y : Int)] 5) = w5 at *
              refine wpAnyH_ready (rs := [14]) (by kernel_rfl) (by simp) ?_
              refine AllReadyH.cons rfl (fun K hK => ?_) AllReadyH.nil
              go_simp
              refine (put_any HI5.out.b HI5.out.new (q : Int) _ 2 2 [2, yb] hs5).mono ?_
              rintro e w6 ⟨rfl, h1, h2⟩
              rw [show TX.perr (Sl.n ⟨some ⟨g, 0, none⟩, n, n⟩) (q : Int) [2, yb] = 0 from TX.perr_ok (hasB_nat r2) (by show 2 ≤ _; omega)]
              rw [show Y.putI (Sl.n ⟨some ⟨g, 0, none⟩, n, n⟩) (q : Int) [2, yb] = Y.put q [2, yb] from TX.putI_ok r2 (by show 2 ≤ _; omega)] at h1
              have HI6 := Lib.hid (HI5.out.putb h1 h2)
              have HR6 := Lib.hid (HR5.out.ch h2)
              have HS6 := Lib.hid (HSW.out _ HI6.out.bel)
              refine hK.out _ _ HS6.out fun _ => ?_
              clear hK K h1 h2 hs5 HS HS5 HI5 HId HR5 HRd
              refine wpAnyH_ready (rs := [15]) (by kernel_rfl) (by simp) ?_
              refine AllReadyH.cons rfl (fun K hK => ?_) AllReadyH.nil
              go_simp
              refine hK.out _ _ HS6.out fun _ => ?_
              clear hK K
              refine wpAnyH_done (by kernel_rfl) ?_ _
              go_wp2
              go_roundw
              case rel => exact ⟨k + 1, _, by omega, by go_num, HI6, HTY.out.put q 2 yb, HR6⟩
              case measure => simp [intOf]; omega
            · obtain rfl : n2 = k := by omega
              go_wp2_with fail
              go_loopw [14] (fun i wz => ∃ (k : Nat), k ≤ n ∧ i = .int .i64 k ∧ Hid (Below wr.heap.size wr wz)) (fun i _ => n - (intOf i).toNat)
              case atStart => exact ⟨0, by omega, rfl, Below.refl _ _⟩
              case round =>
                obtain ⟨k, hk, rfl, HBz⟩ := hrel
                rename World => wz
                by_cases hlt : k < n
                · have hkl : k < (wasL X n).length := by rw [wasL_len]; exact hlt
                  obtain ⟨gw, hew, -, hcw⟩ := (HR.out.below HBz.out).at hkl
                  rw [wasL_at X hlt] at hcw
                  have HTz := Lib.hid (HI.out.below HBz.out)
                  subst hew
                  have HCW := Lib.hid hcw
                  have HGW := Lib.hid (World.block_lt_of_cell? wz _ hcw)
                  clear hcw hkl
                  go_wp2_with fail
                  have HTd := Lib.hid HTz.out.drew
                  have HBd : Hid (Below wz.heap.size wz wz.drew) := (Below.refl _ _).drew
                  have HS : Hid ((fun W : World => W.cell? ⟨gw, k, none⟩ = some (.string (txt (X.get k)))) wz.drew) := HCW.out
                  refine wp_region_held_drew (S := fun W => W.cell? ⟨gw, k, none⟩ = some (.string (txt (X.get k)))) (by kernel_rfl) HS.out (fun _ => ?_)
                  change wpAnyH _ _ _ _ _ 9 (Array.replicate 9 false) _ _
                  generalize wz.drew = w4 at *
                  refine takeH (i := 0) 104 (.pointer (some ⟨p, 0, none⟩)) rfl rfl (by kernel_rfl) (by kernel_rfl) (by kernel_rfl) (fun _ _ _ h => h) (.inl ⟨by rfl, fun W hW => by go_simp⟩) HS.out ?_
                  simp only [Act.put, List.setIfInBounds_toArray, List.set_cons_zero, List.set_cons_succ]
                  refine takeH (i := 1) 105 (.int .i64 (k : Int)) rfl rfl (by kernel_rfl) (by kernel_rfl) (by kernel_rfl) (fun _ _ _ h => h) (.inl ⟨by rfl, fun W hW => by go_simp⟩) HS.out ?_
                  simp only [Act.put, List.setIfInBounds_toArray, List.set_cons_zero, List.set_cons_succ]
                  refine takeH (i := 4) 108 (.slice (some ⟨gw, 0, none⟩) n cw) rfl rfl (by kernel_rfl) (by kernel_rfl) (by kernel_rfl) (fun _ _ _ h => h) (.inl ⟨by rfl, fun W hW => by go_simp⟩) HS.out ?_
                  simp only [Act.put, List.setIfInBounds_toArray, List.set_cons_zero, List.set_cons_succ]
                  refine takeH (i := 5) 109 (.int .i64 (k : Int)) rfl rfl (by kernel_rfl) (by kernel_rfl) (by kernel_rfl) (fun _ _ _ h => h) (.inl ⟨by rfl, fun W hW => by go_simp⟩) HS.out ?_
                  simp only [Act.put, List.setIfInBounds_toArray, List.set_cons_zero, List.set_cons_succ]
                  refine takeH (i := 6) 110 (.pointer (some ⟨gw, k, none⟩)) rfl rfl (by kernel_rfl) (by kernel_rfl) (by kernel_rfl) (fun _ _ _ h => h) (.inl ⟨by rfl, fun W hW => by go_simp⟩) HS.out ?_
                  simp only [Act.put, List.setIfInBounds_toArray, List.set_cons_zero, List.set_cons_succ]
                  refine takeH (i := 7) 111 (.string (txt (X.get k))) rfl rfl (by kernel_rfl) (by kernel_rfl) (by kernel_rfl) (fun _ _ _ h => h) (.inl ⟨by rfl, fun W hW => by (have hz0 : W.cell? ⟨gw, k, none⟩ = some (.string (txt (X.get k))) := hW; go_simp)⟩) HS.out ?_
                  simp only [Act.put, List.setIfInBounds_toArray, List.set_cons_zero, List.set_cons_succ]
                  refine wpAnyH_ready (rs := [2]) (by kernel_rfl) (by simp) ?_
                  refine AllReadyH.cons rfl (fun K hK => ?_) AllReadyH.nil
                  go_simp
                  refine (get_ok HTd.out.a k (show k < n from hlt)).mono ?_
                  rintro e w5 ⟨A5, n5, c5, rfl, h1, -, -, -, h5, -⟩
                  have cv := run_convert_bs w5 A5 n5 c5 _ h1
                  have HB5 : Hid (Below wz.heap.size wz w5) := HBd.out.trans (h5.mono HBd.out.size)
                  have HS5 : Hid (w5.cell? ⟨gw, k, none⟩ = some (.string (txt (X.get k)))) := (HB5.out.cell (p := ⟨gw, k, none⟩) HGW.out).trans HCW.out
                  refine hK.out _ _ HS5.out fun _ => ?_
                  clear hK K h1 h5 HS HTd HBd
                  refine wpAnyH_ready (rs := [3]) (by kernel_rfl) (by simp) ?_
                  refine AllReadyH.cons rfl (fun K hK => ?_) AllReadyH.nil
                  go_simp
                  refine hK.out _ _ HS5.out fun _ => ?_
                  clear hK K
                  refine wpAnyH_ready (rs := [8]) (by kernel_rfl) (by simp) ?_
                  refine AllReadyH.cons rfl (fun K hK => ?_) AllReadyH.nil
                  go_simp
                  refine hK.out _ _ HS5.out fun _ => ?_
                  clear hK K
                  refine wpAnyH_done (by kernel_rfl) ?_ _
                  have HBo : Hid (Below wr.heap.size wr w5) := HBz.out.trans (HB5.out.mono HBz.out.size)
                  go_wp2
                  go_roundw
                  case rel => exact ⟨k + 1, by omega, by go_num, HBo⟩
                  case measure => simp [intOf]; omega
                · obtain rfl : n = k := by omega
                  have HTz := Lib.hid (HI.out.below HBz.out)
                  clear HI HR HBz HT3
                  go_wp2_with fail
                  refine (take_any HTz.out.a HTz.out.b rfl HTz.out.new).mono ?_
                  rintro e w4 ⟨rfl, m', h1, h2, h3⟩
                  have HT4 := Lib.hid (HTz.out.taka h1 h2 h3)
                  clear h1 h2 h3 HTz
                  have HT5 := Lib.hid (HT4.out.below ((Below.refl _ _).alloc (Nat.le_refl _) (.cells #[.int .u8 111, .int .u8 116, .int .u8 104, .int .u8 101, .int .u8 114] 5 (5, 6))))
                  have HO5 : Hid (BS (w4.alloc (.cells #[.int .u8 111, .int .u8 116, .int .u8 104, .int .u8 101, .int .u8 114] 5 (5, 6))) (some ⟨w4.heap.size, 0, none⟩) 5 othB) := oth_block (heap_alloc_new w4 (.cells #[.int .u8 111, .int .u8 116, .int .u8 104, .int .u8 101, .int .u8 114] 5 (5, 6)))
                  have hq := conv_const
                  go_wp2_with fail
                  refine (put_any HT5.out.a HT5.out.new 0 _ 5 5 othB HO5.out).mono ?_
                  rintro e w6 ⟨rfl, h1, h2⟩
                  rw [show TX.perr (Sl.n ⟨some ⟨g, 0, none⟩, n, n⟩) 0 othB = 0 from TX.perr_ok (hasB_nat (i := 0) n0) (by show 5 ≤ _; omega)]
                  rw [show (X.take Y).putI (Sl.n ⟨some ⟨g, 0, none⟩, n, n⟩) 0 othB = (X.take Y).put 0 othB from TX.putI_ok (i := 0) n0 (by show 5 ≤ _; omega)] at h1
                  have HT6 := Lib.hid (HT5.out.puta h1 h2)
                  clear h1 h2 HT5 HO5 HT4 hq
                  go_wp2_with fail
                  refine (get_ok HT6.out.b 0 (show 0 < n from n0)).mono ?_
                  rintro e w7 ⟨A7, n7, c7, rfl, h1, -, -, -, h5, -⟩
                  have HT7 := Lib.hid (HT6.out.below h5)
                  have cv := run_convert_bs w7 A7 n7 c7 _ h1
                  obtain ⟨x0, hc0, hx0⟩ := HAR.out 0 n0
                  have hcx := (HT7.out.bel.cell (p := ⟨ab, ao + 0, none⟩) HAL.out).trans hc0
                  have cw0 := run_convert_bs w7 x0.a x0.n x0.c _ (hx0.below HT7.out.bel)
                  clear h1 h5 HT6 hc0 hx0
                  rw [Nat.add_zero] at hcx
                  by_cases hO : Y.get 0 = othB
                  · have hL : ls.getD 0 [] = othB := by rw [← HTY.out.get 0 (by rw [hO]; decide)]; exact hO
                    rw [hO] at cv
                    rw [hL] at cw0
                    have e1 : (txt othB).toList = [111, 116, 104, 101, 114] := txt_toList othB
                    clear hO hL
                    go_wp2_with fail
                    go_loopw [15] (fun i wz => ∃ (k : Nat), 1 ≤ k ∧ k ≤ n ∧ i = .int .i64 k ∧ Hid (Below w7.heap.size w7 wz)) (fun i _ => n - (intOf i).toNat)
                    case atStart => exact ⟨1, by omega, by omega, rfl, Below.refl _ _⟩
                    case round =>
                      obtain ⟨k, hk1, hk, rfl, HBz⟩ := hrel
                      rename World => wy
                      by_cases hlt : k < n
                      · have HTd : Hid (T2 w wy.drew p m' ⟨some ⟨g, 0, none⟩, n, n⟩ ((X.take Y).put 0 othB) pu mu ⟨some ⟨g, 0, none⟩, n, n⟩ Y) := (HT7.out.below HBz.out).drew
                        have HBd : Hid (Below w7.heap.size w7 wy.drew) := HBz.out.drew
                        have HGE : Hid (((X.take Y).put 0 othB).get k = Y.get k) := get_last HTX.out HTY.out hk1
                        go_wp2_with fail
                        refine wp_region_held_drew (S := fun _ => True) (by kernel_rfl) trivial (fun _ => ?_)
                        change wpAnyH _ _ _ _ _ 9 (Array.replicate 9 false) _ _
                        generalize wy.drew = w8 at *
                        refine takeH (i := 0) 140 (.pointer (some ⟨p, 0, none⟩)) rfl rfl (by kernel_rfl) (by kernel_rfl) (by kernel_rfl) (fun _ _ _ h => h) (.inl ⟨by rfl, fun W hW => by go_simp⟩) trivial ?_
                        simp only [Act.put, List.setIfInBounds_toArray, List.set_cons_zero, List.set_cons_succ]
                        refine takeH (i := 1) 141 (.int .i64 (k : Int)) rfl rfl (by kernel_rfl) (by kernel_rfl) (by kernel_rfl) (fun _ _ _ h => h) (.inl ⟨by rfl, fun W hW => by go_simp⟩) trivial ?_
                        simp only [Act.put, List.setIfInBounds_toArray, List.set_cons_zero, List.set_cons_succ]
                        refine takeH (i := 4) 144 (.pointer (some ⟨pu, 0, none⟩)) rfl rfl (by kernel_rfl) (by kernel_rfl) (by kernel_rfl) (fun _ _ _ h => h) (.inl ⟨by rfl, fun W hW => by go_simp⟩) trivial ?_
                        simp only [Act.put, List.setIfInBounds_toArray, List.set_cons_zero, List.set_cons_succ]
                        refine takeH (i := 5) 145 (.int .i64 (k : Int)) rfl rfl (by kernel_rfl) (by kernel_rfl) (by kernel_rfl) (fun _ _ _ h => h) (.inl ⟨by rfl, fun W hW => by go_simp⟩) trivial ?_
                        simp only [Act.put, List.setIfInBounds_toArray, List.set_cons_zero, List.set_cons_succ]
                        refine wpAnyH_ready (rs := [2]) (by kernel_rfl) (by simp) ?_
                        refine AllReadyH.cons rfl (fun K hK => ?_) AllReadyH.nil
                        go_simp
                        refine (get_ok HTd.out.a k (show k < n from hlt)).mono ?_
                        rw [HGE.out]
                        rintro e w9 ⟨A9, n9, c9, rfl, h1, -, -, -, h5, -⟩
                        have H9 := Lib.hid h1
                        have HT9 := Lib.hid (HTd.out.below h5)
                        have HB9 := Lib.hid (HBd.out.trans (h5.mono HBd.out.size))
                        refine hK.out _ _ trivial fun _ => ?_
                        clear hK K h1 h5 HTd HBd
                        have HS : Hid ((convert 25 9 (.slice A9 n9 c9)).run Try.prog w9 = .ok (.string (txt (Y.get k))) w9) := run_convert_bs _ _ _ _ _ H9.out
                        refine weakenH (S' := fun W => (convert 25 9 (.slice A9 n9 c9)).run Try.prog W = .ok (.string (txt (Y.get k))) W) (fun _ _ => trivial) _ _ _ _ ?_
                        refine takeH (i := 3) 143 (.string (txt (Y.get k))) rfl rfl (by kernel_rfl) (by kernel_rfl) (by kernel_rfl) (fun _ _ _ h => h) (.inl ⟨by rfl, fun W hW => by (dsimp only at hW; go_simp)⟩) HS.out ?_
                        simp only [Act.put, List.setIfInBounds_toArray, List.set_cons_zero, List.set_cons_succ]
                        refine wpAnyH_ready (rs := [6]) (by kernel_rfl) (by simp) ?_
                        refine AllReadyH.cons rfl (fun K hK => ?_) AllReadyH.nil
                        go_simp
                        refine (get_ok HT9.out.b k (show k < n from hlt)).mono ?_
                        rintro e wa ⟨Aa, na, ca, rfl, h1, -, -, -, h5, -⟩
                        have HSa : Hid ((convert 25 9 (.slice A9 n9 c9)).run Try.prog wa = .ok (.string (txt (Y.get k))) wa) := run_convert_bs _ _ _ _ _ (H9.out.below h5)
                        have cv2 := run_convert_bs wa Aa na ca _ h1
                        have HBo : Hid (Below w7.heap.size w7 wa) := HB9.out.trans (h5.mono HB9.out.size)
                        refine hK.out _ _ HSa.out fun _ => ?_
                        clear hK K h1 h5 HT9 HS
                        refine wpAnyH_ready (rs := [7]) (by kernel_rfl) (by simp) ?_
                        refine AllReadyH.cons rfl (fun K hK => ?_) AllReadyH.nil
                        go_simp
                        refine hK.out _ _ HSa.out fun _ => ?_
                        clear hK K
                        refine wpAnyH_ready (rs := [8]) (by kernel_rfl) (by simp) ?_
                        refine AllReadyH.cons rfl (fun K hK => ?_) AllReadyH.nil
                        go_simp
                        refine hK.out _ _ HSa.out fun _ => ?_
                        clear hK K
                        refine wpAnyH_done (by kernel_rfl) ?_ _
                        go_wp2
                        go_roundw
                        case rel => exact ⟨k + 1, by omega, by omega, by go_num, HBo⟩
                        case measure => simp [intOf]; omega
                      · obtain rfl : n = k := by omega
                        go_wp2
                        go_ret
                        exact ⟨rfl, HT7.out.bel.trans (HBz.out.mono HT7.out.bel.size)⟩
                  · have e1 := txt_toList (Y.get 0)
                    have hO' : ¬ Y.get 0 = [111, 116, 104, 101, 114] := hO
                    clear hO
                    go_wp2_with fail
                    go_loopw [15] (fun i wz => ∃ (k : Nat), 1 ≤ k ∧ k ≤ n ∧ i = .int .i64 k ∧ Hid (Below w7.heap.size w7 wz)) (fun i _ => n - (intOf i).toNat)
                    case atStart => exact ⟨1, by omega, by omega, rfl, Below.refl _ _⟩
                    case round =>
                      obtain ⟨k, hk1, hk, rfl, HBz⟩ := hrel
                      rename World => wy
                      by_cases hlt : k < n
                      · have HTd : Hid (T2 w wy.drew p m' ⟨some ⟨g, 0, none⟩, n, n⟩ ((X.take Y).put 0 othB) pu mu ⟨some ⟨g, 0, none⟩, n, n⟩ Y) := (HT7.out.below HBz.out).drew
                        have HBd : Hid (Below w7.heap.size w7 wy.drew) := HBz.out.drew
                        have HGE : Hid (((X.take Y).put 0 othB).get k = Y.get k) := get_last HTX.out HTY.out hk1
                        go_wp2_with fail
                        refine wp_region_held_drew (S := fun _ => True) (by kernel_rfl) trivial (fun _ => ?_)
                        change wpAnyH _ _ _ _ _ 9 (Array.replicate 9 false) _ _
                        generalize wy.drew = w8 at *
                        refine takeH (i := 0) 140 (.pointer (some ⟨p, 0, none⟩)) rfl rfl (by kernel_rfl) (by kernel_rfl) (by kernel_rfl) (fun _ _ _ h => h) (.inl ⟨by rfl, fun W hW => by go_simp⟩) trivial ?_
                        simp only [Act.put, List.setIfInBounds_toArray, List.set_cons_zero, List.set_cons_succ]
                        refine takeH (i := 1) 141 (.int .i64 (k : Int)) rfl rfl (by kernel_rfl) (by kernel_rfl) (by kernel_rfl) (fun _ _ _ h => h) (.inl ⟨by rfl, fun W hW => by go_simp⟩) trivial ?_
                        simp only [Act.put, List.setIfInBounds_toArray, List.set_cons_zero, List.set_cons_succ]
                        refine takeH (i := 4) 144 (.pointer (some ⟨pu, 0, none⟩)) rfl rfl (by kernel_rfl) (by kernel_rfl) (by kernel_rfl) (fun _ _ _ h => h) (.inl ⟨by rfl, fun W hW => by go_simp⟩) trivial ?_
                        simp only [Act.put, List.setIfInBounds_toArray, List.set_cons_zero, List.set_cons_succ]
                        refine takeH (i := 5) 145 (.int .i64 (k : Int)) rfl rfl (by kernel_rfl) (by kernel_rfl) (by kernel_rfl) (fun _ _ _ h => h) (.inl ⟨by rfl, fun W hW => by go_simp⟩) trivial ?_
                        simp only [Act.put, List.setIfInBounds_toArray, List.set_cons_zero, List.set_cons_succ]
                        refine wpAnyH_ready (rs := [2]) (by kernel_rfl) (by simp) ?_
                        refine AllReadyH.cons rfl (fun K hK => ?_) AllReadyH.nil
                        go_simp
                        refine (get_ok HTd.out.a k (show k < n from hlt)).mono ?_
                        rw [HGE.out]
                        rintro e w9 ⟨A9, n9, c9, rfl, h1, -, -, -, h5, -⟩
                        have H9 := Lib.hid h1
                        have HT9 := Lib.hid (HTd.out.below h5)
                        have HB9 := Lib.hid (HBd.out.trans (h5.mono HBd.out.size))
                        refine hK.out _ _ trivial fun _ => ?_
                        clear hK K h1 h5 HTd HBd
                        have HS : Hid ((convert 25 9 (.slice A9 n9 c9)).run Try.prog w9 = .ok (.string (txt (Y.get k))) w9) := run_convert_bs _ _ _ _ _ H9.out
                        refine weakenH (S' := fun W => (convert 25 9 (.slice A9 n9 c9)).run Try.prog W = .ok (.string (txt (Y.get k))) W) (fun _ _ => trivial) _ _ _ _ ?_
                        refine takeH (i := 3) 143 (.string (txt (Y.get k))) rfl rfl (by kernel_rfl) (by kernel_rfl) (by kernel_rfl) (fun _ _ _ h => h) (.inl ⟨by rfl, fun W hW => by (dsimp only at hW; go_simp)⟩) HS.out ?_
                        simp only [Act.put, List.setIfInBounds_toArray, List.set_cons_zero, List.set_cons_succ]
                        refine wpAnyH_ready (rs := [6]) (by kernel_rfl) (by simp) ?_
                        refine AllReadyH.cons rfl (fun K hK => ?_) AllReadyH.nil
                        go_simp
                        refine (get_ok HT9.out.b k (show k < n from hlt)).mono ?_
                        rintro e wa ⟨Aa, na, ca, rfl, h1, -, -, -, h5, -⟩
                        have HSa : Hid ((convert 25 9 (.slice A9 n9 c9)).run Try.prog wa = .ok (.string (txt (Y.get k))) wa) := run_convert_bs _ _ _ _ _ (H9.out.below h5)
                        have cv2 := run_convert_bs wa Aa na ca _ h1
                        have HBo : Hid (Below w7.heap.size w7 wa) := HB9.out.trans (h5.mono HB9.out.size)
                        refine hK.out _ _ HSa.out fun _ => ?_
                        clear hK K h1 h5 HT9 HS
                        refine wpAnyH_ready (rs := [7]) (by kernel_rfl) (by simp) ?_
                        refine AllReadyH.cons rfl (fun K hK => ?_) AllReadyH.nil
                        go_simp
                        refine hK.out _ _ HSa.out fun _ => ?_
                        clear hK K
                        refine wpAnyH_ready (rs := [8]) (by kernel_rfl) (by simp) ?_
                        refine AllReadyH.cons rfl (fun K hK => ?_) AllReadyH.nil
                        go_simp
                        refine hK.out _ _ HSa.out fun _ => ?_
                        clear hK K
                        refine wpAnyH_done (by kernel_rfl) ?_ _
                        go_wp2
                        go_roundw
                        case rel => exact ⟨k + 1, by omega, by omega, by go_num, HBo⟩
                        case measure => simp [intOf]; omega
                      · obtain rfl : n = k := by omega
                        go_wp2
                        go_ret
                        exact ⟨rfl, HT7.out.bel.trans (HBz.out.mono HT7.out.bel.size)⟩
end Go.Proofs.Ytnjkcodegcojcaa
