/-
  TxnBack walked (layer 10).
-/
import Derived.Test.YtnjkcodegcojcaaTKit
import Derived.Deep.DeepCutAuto
namespace Go.Proofs.Ytnjkcodegcojcaa
open Go.RowKit

theorem tmod_nat (x k : Nat) : ((x : Int).tmod (k : Int)) = ((x % k : Nat) : Int) := rfl
theorem len_le {l : List UInt8} {n : Nat} {w : World} {A : Option Addr} (h : BS w A n l) : l.length = n := h.1
theorem sp_block {w : World} {g n q : Nat} {ls : List (List UInt8)} {t : TypeId} {fr : Nat × Nat} (h : w.heap[g]? = some (.cells #[.int .u8 1, .int .u8 2, .int .u8 3, .int .u8 (n : Int)] t fr)) (hn : (ls.getD q []).length = n) (h96 : n ≤ 96) : BS w (some ⟨g, 0, none⟩) 4 (spB ls q) := by
  have e : bc (spB ls q) = [.int .u8 1, .int .u8 2, .int .u8 3, .int .u8 (n : Int)] := by
    unfold spB
    rw [hn]
    have : (UInt8.ofNat n).toNat = n := by simp; omega
    simp only [bc, List.map_cons, List.map_nil, this]
    rfl
  exact BS.of_block (l := spB ls q) (t := t) (fr := fr) (by rw [e]; exact h)
theorem wrap_u8 {x : Int} (h0 : 0 ≤ x) (h1 : x ≤ 255) : IntKind.u8.wrap x = x := by
  exact IntWalk.u8_in x ⟨h0, h1⟩
theorem cmpB (a b : List UInt8) (v : Bool) (h : decide (b ≠ a) = v) : ((txt a).toList == (txt b).toList) = !v ∧ ((txt a).toList != (txt b).toList) = v := by
  rw [txt_toList, txt_toList]
  subst h
  by_cases e : b = a
  · subst e; simp
  · have e' : ¬ a = b := fun h => e h.symm
    simp [e, e']
set_option maxRecDepth 100000 in
set_option maxHeartbeats 4000000 in
theorem back_walk (A B C : Option Addr) (n n1 n2 c c1 c2 : Nat) (ls : List (List UInt8)) (l1 l2 : List UInt8) (w : World) (hA : RP w A n ls) (hB : BS w B n1 l1) (hC : BS w C n2 l2) :
    Calls Try.prog 4 #[.slice A n c, .slice B n1 c1, .slice C n2 c2] w fun e w' => e = .returned (.bool true) ∧ Below w.heap.size w w' := by
  have HA := Lib.hid hA
  have HB := Lib.hid hB
  have HC := Lib.hid hC
  clear hA hB hC
  by_cases q0n : n = 0
  · have q0 : (((n : Int) == 0)) = true := by simp; omega
    go_enter Try.func4, Try.ntmps4
    go_wp2_with fail
    refine (awake_any w).mono ?_
    rintro e w1 ⟨rfl, hb1⟩
    have HW1 := Lib.hid hb1
    clear hb1
    go_wp2_with fail
    go_ret
    exact ⟨rfl, HW1.out⟩
  have q0 : (((n : Int) == 0)) = false := by simp; omega
  by_cases q1n : 20 < n
  · have q1 : (decide ((20 : Int) < (n : Int))) = true := by simp; omega
    go_enter Try.func4, Try.ntmps4
    go_wp2_with fail
    refine (awake_any w).mono ?_
    rintro e w1 ⟨rfl, hb1⟩
    have HW1 := Lib.hid hb1
    clear hb1
    go_wp2_with fail
    go_ret
    exact ⟨rfl, HW1.out⟩
  have q1 : (decide ((20 : Int) < (n : Int))) = false := by simp; omega
  by_cases q2n : 40 < n1
  · have q2 : (decide ((40 : Int) < (n1 : Int))) = true := by simp; omega
    go_enter Try.func4, Try.ntmps4
    go_wp2_with fail
    refine (awake_any w).mono ?_
    rintro e w1 ⟨rfl, hb1⟩
    have HW1 := Lib.hid hb1
    clear hb1
    go_wp2_with fail
    go_ret
    exact ⟨rfl, HW1.out⟩
  have q2 : (decide ((40 : Int) < (n1 : Int))) = false := by simp; omega
  by_cases q3n : 40 < n2
  · have q3 : (decide ((40 : Int) < (n2 : Int))) = true := by simp; omega
    go_enter Try.func4, Try.ntmps4
    go_wp2_with fail
    refine (awake_any w).mono ?_
    rintro e w1 ⟨rfl, hb1⟩
    have HW1 := Lib.hid hb1
    clear hb1
    go_wp2_with fail
    go_ret
    exact ⟨rfl, HW1.out⟩
  have q3 : (decide ((40 : Int) < (n2 : Int))) = false := by simp; omega
  have n0 : 0 < n := by omega
  have N9 : Hid (n ≤ 20 ∧ n1 ≤ 40 ∧ n2 ≤ 40) := ⟨by omega, by omega, by omega⟩
  clear q0n q1n q2n q3n
  obtain ⟨ab, ao, rfl, hal, harow⟩ := HA.out.row n0
  have HAR := Lib.hid harow
  have HAL := Lib.hid hal
  clear hal harow
  go_enter Try.func4, Try.ntmps4
  go_wp2_with fail
  refine (awake_any w).mono ?_
  rintro e w1 ⟨rfl, hb1⟩
  have HW1 := Lib.hid hb1
  clear hb1
  go_wp2_with fail
  clear q0 q1 q2 q3
  go_loop [8] (fun i => ∃ k : Nat, k ≤ n ∧ i = .int .i64 k ∧ Hid (∀ j, j < k → (ls.getD j []).length ≤ 96)) (fun i => n - (intOf i).toNat)
  case atStart => exact ⟨0, by omega, rfl, fun j hj => by omega⟩
  case round =>
    obtain ⟨k, hk, rfl, HL⟩ := hrel
    have n20 := N9.out.1
    by_cases hlt : k < n
    · obtain ⟨x, hc0, hx⟩ := HAR.out k hlt
      have hc := (HW1.out.cell (p := ⟨ab, ao + k, none⟩) HAL.out).trans hc0
      have HX := Lib.hid hx
      clear hx hc0
      by_cases h96 : 96 < x.n
      · have q : decide ((96 : Int) < (x.n : Int)) = true := by simp; omega
        go_wp2_with fail
        go_ret
        exact ⟨rfl, HW1.out⟩
      · have q : decide ((96 : Int) < (x.n : Int)) = false := by simp; omega
        have HL1 : Hid (∀ j, j < k + 1 → (ls.getD j []).length ≤ 96) := fun j hj => by
          by_cases e : j = k
          · subst e; rw [len_le HX.out]; omega
          · exact HL.out j (by omega)
        go_wp2_with fail
        go_round
        case rel => exact ⟨k + 1, by omega, by go_num, HL1⟩
        case measure => simp [intOf]; omega
    · obtain rfl : n = k := by omega
      go_wp2_with fail
      refine (new_any (some ⟨ab, ao, none⟩) n c ls w1 ((HA.out.ri fun j hj => le_big47 (Nat.le_trans (HL.out j hj) (by omega))).below HW1.out) (by omega)).mono ?_
      rintro e w2 ⟨g, m, p, rfl, h1, h2, -, -⟩
      have HT2 := Lib.hid h1.bounded
      have HB2 := Lib.hid h2
      have HLL : Hid (ls.length = n) := HA.out.len
      clear h1 h2
      go_wp2_with (refine wpList_make_row rfl 50 4 (.bool false) 1 (.tmp 54) (.tmp 54) rfl Try.underlying50 infoBool rfl (by omega) n rfl rfl (by omega) ?_
                   intro w3 hr3 hz3 hb3)
      have HI3 : Hid (BackI w w3 ls n p m ⟨some ⟨g, 0, none⟩, n, n⟩ w2.heap.size (TX.new ls)) := by
        refine ⟨(HT2.out.below hb3).mono fun z hz => ⟨Nat.le_trans HW1.out.size hz.1, by have := hz.2; omega⟩, rfl, rfl, fun j hj => ?_, BB.congr (p := fun _ => false) hr3 (fun i _ => (TX.chg_none rfl).symm), HW1.out.trans ((HB2.out.trans (hb3.mono HB2.out.size)).mono HW1.out.size), Nat.le_trans HW1.out.size HB2.out.size⟩
        rw [show (TX.new ls).chg j = false from TX.chg_none rfl] at hj
        cases hj
      clear hr3 hz3 hb3 HT2 HB2
      have HGB : Hid (∃ gb, gb = w2.heap.size) := ⟨_, rfl⟩
      generalize w2.heap.size = gb at *
      have n1b := N9.out.2.1
      have n2b := N9.out.2.2
      have nz : ((n : Int) == 0) = false := by simp; omega
      go_loopw [11] (fun i wr => ∃ (k : Nat) (X : TX), k ≤ n1 ∧ i = .int .i64 k ∧ Hid (BackI w wr ls n p m ⟨some ⟨g, 0, none⟩, n, n⟩ gb X)) (fun i _ => n1 - (intOf i).toNat)
      case atStart => exact ⟨0, _, by omega, rfl, HI3⟩
      case round =>
        clear HI3
        obtain ⟨k, X, hk, rfl, HI⟩ := hrel
        by_cases hlt : k < n1
        · obtain ⟨b, o, rfl, hj, hy⟩ := (HB.out.below HI.out.bel).at hlt
          have r1 := tmod_nat l1[k].toNat n
          have r2 : l1[k].toNat % n < n := Nat.mod_lt _ n0
          have r3 : l1[k].toNat < 256 := l1[k].toNat_lt
          generalize l1[k].toNat = y at *
          obtain ⟨q, hq⟩ : ∃ q, y % n = q := ⟨_, rfl⟩
          rw [hq] at r1 r2
          have HQ := Lib.hid hq
          clear hq
          obtain ⟨x, hc0, hx⟩ := HAR.out q r2
          have hc := (HI.out.bel.cell (p := ⟨ab, ao + q, none⟩) HAL.out).trans hc0
          have HC0 := Lib.hid hc0
          clear hc0
          have HX := Lib.hid hx
          have hx96 : x.n ≤ 96 := by have := HL.out q r2; rw [len_le hx] at this; exact this
          have HXL : Hid ((ls.getD q []).length = x.n) := hx.1
          clear hx
          obtain ⟨la, hla⟩ : ∃ la, ls.getD q [] = la := ⟨_, rfl⟩
          rw [hla] at HX
          have HLA := Lib.hid hla
          clear hla
          have HI4 := Lib.hid (HI.out.below ((Below.refl _ _).alloc (Nat.le_refl _) (.cells #[.int .u8 1, .int .u8 2, .int .u8 3, .int .u8 (x.n : Int)] 5)))
          have HS4 := Lib.hid (sp_block (heap_alloc_new wr (.cells #[.int .u8 1, .int .u8 2, .int .u8 3, .int .u8 (x.n : Int)] 5)) HXL.out hx96)
          go_wp2_with fail
          refine (put_any HI4.out.tq HI4.out.new (q : Int) _ 4 4 (spB ls q) HS4.out).mono ?_
          rintro e w4 ⟨rfl, h1, h2⟩
          rw [show TX.perr (Sl.n ⟨some ⟨g, 0, none⟩, n, n⟩) (q : Int) (spB ls q) = 0 from TX.perr_ok (hasB_nat r2) (by show 4 ≤ _; omega)]
          rw [show X.putI (Sl.n ⟨some ⟨g, 0, none⟩, n, n⟩) (q : Int) (spB ls q) = X.put q (spB ls q) from TX.putI_ok r2 (by show 4 ≤ _; omega)] at h1
          have HP := Lib.hid (HI4.out.put h1 h2)
          clear h1 h2 HI4 HS4
          obtain ⟨v, hv⟩ : ∃ v, decide (spB ls q ≠ la) = v := ⟨_, rfl⟩
          obtain ⟨lb, hlb⟩ : ∃ lb, spB ls q = lb := ⟨_, rfl⟩
          have HV : Hid (v = decide (spB ls q ≠ ls.getD q [])) := by show _ = _; rw [HLA.out, hv]
          rw [hlb] at hv
          obtain ⟨e1, e2⟩ := cmpB la lb v hv
          have HLB := Lib.hid hlb
          clear hlb hv
          have HPd := Lib.hid HP.out.drew
          have HSW : Hid (∀ W, Below w.heap.size w W → W.cell? ⟨ab, ao + q, none⟩ = some (.slice x.a x.n x.c) ∧ (convert 25 9 (.slice x.a x.n x.c)).run Try.prog W = .ok (.string (txt la)) W) := fun W hb => ⟨(hb.cell (p := ⟨ab, ao + q, none⟩) HAL.out).trans HC0.out, run_convert_bs W x.a x.n x.c la (HX.out.below hb)⟩
          clear hc
          go_upto_region 19 with (fail)
          have hw8 : IntKind.u8.wrap (x.n : Int) = (x.n : Int) := wrap_u8 (by omega) (by omega)
          have HS : Hid ((fun W : World => W.cell? ⟨ab, ao + q, none⟩ = some (.slice x.a x.n x.c) ∧ (convert 25 9 (.slice x.a x.n x.c)).run Try.prog W = .ok (.string (txt la)) W) w4.drew) := HSW.out _ HPd.out.bel
          refine wp_region_held_drew (S := fun W => W.cell? ⟨ab, ao + q, none⟩ = some (.slice x.a x.n x.c) ∧ (convert 25 9 (.slice x.a x.n x.c)).run Try.prog W = .ok (.string (txt la)) W) (by kernel_rfl) HS.out (fun _ => ?_)
          change wpAnyH _ _ _ _ _ 18 (Array.replicate 18 false) _ _
          generalize w4.drew = w5 at *
          refine takeH (i := 0) 81 (.slice (some ⟨gb, 0, none⟩) n n) rfl rfl (by kernel_rfl) (by kernel_rfl) (by kernel_rfl) (fun _ _ _ h => h) (.inl ⟨by rfl, fun W hW => by go_simp⟩) HS.out ?_
          simp only [Act.put, List.setIfInBounds_toArray, List.set_cons_zero, List.set_cons_succ]
          refine takeH (i := 1) 82 (.int .i64 (q : Int)) rfl rfl (by kernel_rfl) (by kernel_rfl) (by kernel_rfl) (fun _ _ _ h => h) (.inl ⟨by rfl, fun W hW => by go_simp⟩) HS.out ?_
          simp only [Act.put, List.setIfInBounds_toArray, List.set_cons_zero, List.set_cons_succ]
          refine takeH (i := 2) 83 (.slice (some ⟨ab, ao, none⟩) n c) rfl rfl (by kernel_rfl) (by kernel_rfl) (by kernel_rfl) (fun _ _ _ h => h) (.inl ⟨by rfl, fun W hW => by go_simp⟩) HS.out ?_
          simp only [Act.put, List.setIfInBounds_toArray, List.set_cons_zero, List.set_cons_succ]
          refine takeH (i := 3) 84 (.int .i64 (q : Int)) rfl rfl (by kernel_rfl) (by kernel_rfl) (by kernel_rfl) (fun _ _ _ h => h) (.inl ⟨by rfl, fun W hW => by go_simp⟩) HS.out ?_
          simp only [Act.put, List.setIfInBounds_toArray, List.set_cons_zero, List.set_cons_succ]
          refine takeH (i := 4) 85 (.pointer (some ⟨ab, ao + q, none⟩)) rfl rfl (by kernel_rfl) (by kernel_rfl) (by kernel_rfl) (fun _ _ _ h => h) (.inl ⟨by rfl, fun W hW => by go_simp⟩) HS.out ?_
          simp only [Act.put, List.setIfInBounds_toArray, List.set_cons_zero, List.set_cons_succ]
          refine takeH (i := 5) 86 (.slice x.a x.n x.c) rfl rfl (by kernel_rfl) (by kernel_rfl) (by kernel_rfl) (fun _ _ _ h => h) (.inl ⟨by rfl, fun W hW => by (obtain ⟨hz0, hz1⟩ := hW; go_simp)⟩) HS.out ?_
          simp only [Act.put, List.setIfInBounds_toArray, List.set_cons_zero, List.set_cons_succ]
          refine takeH (i := 6) 87 (.string (txt la)) rfl rfl (by kernel_rfl) (by kernel_rfl) (by kernel_rfl) (fun _ _ _ h => h) (.inl ⟨by rfl, fun W hW => by (obtain ⟨hz0, hz1⟩ := hW; go_simp)⟩) HS.out ?_
          simp only [Act.put, List.setIfInBounds_toArray, List.set_cons_zero, List.set_cons_succ]
          refine takeH (i := 7) 88 (.slice (some ⟨ab, ao, none⟩) n c) rfl rfl (by kernel_rfl) (by kernel_rfl) (by kernel_rfl) (fun _ _ _ h => h) (.inl ⟨by rfl, fun W hW => by go_simp⟩) HS.out ?_
          simp only [Act.put, List.setIfInBounds_toArray, List.set_cons_zero, List.set_cons_succ]
          refine takeH (i := 8) 89 (.int .i64 (q : Int)) rfl rfl (by kernel_rfl) (by kernel_rfl) (by kernel_rfl) (fun _ _ _ h => h) (.inl ⟨by rfl, fun W hW => by go_simp⟩) HS.out ?_
          simp only [Act.put, List.setIfInBounds_toArray, List.set_cons_zero, List.set_cons_succ]
          refine takeH (i := 9) 90 (.pointer (some ⟨ab, ao + q, none⟩)) rfl rfl (by kernel_rfl) (by kernel_rfl) (by kernel_rfl) (fun _ _ _ h => h) (.inl ⟨by rfl, fun W hW => by go_simp⟩) HS.out ?_
          simp only [Act.put, List.setIfInBounds_toArray, List.set_cons_zero, List.set_cons_succ]
          refine takeH (i := 10) 91 (.slice x.a x.n x.c) rfl rfl (by kernel_rfl) (by kernel_rfl) (by kernel_rfl) (fun _ _ _ h => h) (.inl ⟨by rfl, fun W hW => by (obtain ⟨hz0, hz1⟩ := hW; go_simp)⟩) HS.out ?_
          simp only [Act.put, List.setIfInBounds_toArray, List.set_cons_zero, List.set_cons_succ]
          refine takeH (i := 11) 92 (.int .i64 (x.n : Int)) rfl rfl (by kernel_rfl) (by kernel_rfl) (by kernel_rfl) (fun _ _ _ h => h) (.inl ⟨by rfl, fun W hW => by go_simp⟩) HS.out ?_
          simp only [Act.put, List.setIfInBounds_toArray, List.set_cons_zero, List.set_cons_succ]
          refine takeH (i := 12) 93 (.int .u8 (x.n : Int)) rfl rfl (by kernel_rfl) (by kernel_rfl) (by kernel_rfl) (fun _ _ _ h => h) (.inl ⟨by rfl, fun W hW => by go_simp⟩) HS.out ?_
          simp only [Act.put, List.setIfInBounds_toArray, List.set_cons_zero, List.set_cons_succ]
          have HP5 := Lib.hid (HPd.out.below ((Below.refl _ _).alloc (Nat.le_refl _) (.cells #[.int .u8 1, .int .u8 2, .int .u8 3, .int .u8 (x.n : Int)] 5)))
          have hs5 := sp_block (heap_alloc_new w5 (.cells #[.int .u8 1, .int .u8 2, .int .u8 3, .int .u8 (x.n : Int)] 5)) HXL.out hx96
          rw [HLB.out] at hs5
          have HS5 := Lib.hid (HSW.out _ HP5.out.bel)
          refine wpAnyH_ready (rs := [13]) (by kernel_rfl) (by simp) ?_
          refine AllReadyH.cons rfl (fun K hK => ?_) AllReadyH.nil
          go_simp
          refine hK.out _ _ HS5.out fun _ => ?_
          clear hK K
          have cv := run_convert_bs _ _ 4 4 _ hs5
          have HBB := HP5.out.bb
          have hcl := HBB.cell r2
          have hfl := HBB.froz q
          have HI6 := Lib.hid (BackP.tell HI.out HP5.out HV.out fun _ => rfl)
          have HS6 := Lib.hid (HSW.out _ HI6.out.bel)
          clear hs5 HBB HS hw8
          generalize w5.alloc (.cells #[.int .u8 1, .int .u8 2, .int .u8 3, .int .u8 (x.n : Int)] 5) = w6 at *
          refine wpAnyH_ready (rs := [14]) (by kernel_rfl) (by simp) ?_
          refine AllReadyH.cons rfl (fun K hK => ?_) AllReadyH.nil
          go_simp
          refine hK.out _ _ HS5.out fun _ => ?_
          clear hK K cv
          refine wpAnyH_ready (rs := [15]) (by kernel_rfl) (by simp) ?_
          refine AllReadyH.cons rfl (fun K hK => ?_) AllReadyH.nil
          go_simp
          refine hK.out _ _ HS5.out fun _ => ?_
          clear hK K
          refine takeH (i := 16) 97 (.pointer (some ⟨gb, q, none⟩)) rfl rfl (by kernel_rfl) (by kernel_rfl) (by kernel_rfl) (fun _ _ _ h => h) (.inl ⟨by rfl, fun W hW => by go_simp⟩) HS5.out ?_
          simp only [Act.put, List.setIfInBounds_toArray, List.set_cons_zero, List.set_cons_succ]
          refine wpAnyH_ready (rs := [17]) (by kernel_rfl) (by simp) ?_
          refine AllReadyH.cons rfl (fun K hK => ?_) AllReadyH.nil
          go_simp
          refine hK.out _ _ HS6.out fun _ => ?_
          clear hK K hcl hfl HS5 HS6 HP5 HPd HP
          refine wpAnyH_done (by kernel_rfl) ?_ _
          go_wp2
          go_roundw
          case rel => exact ⟨k + 1, _, by omega, by go_num, HI6⟩
          case measure => simp [intOf]; omega
        · obtain rfl : n1 = k := by omega
          go_wp2_with fail
          go_loopw [13] (fun i wr => ∃ (k : Nat) (X : TX), k ≤ n2 ∧ i = .int .i64 k ∧ Hid (BackI w wr ls n p m ⟨some ⟨g, 0, none⟩, n, n⟩ gb X)) (fun i _ => n2 - (intOf i).toNat)
          case atStart => exact ⟨0, _, by omega, rfl, HI⟩
          case round =>
            clear HI X
            obtain ⟨k, X, hk, rfl, HI⟩ := hrel
            rename World => wr
            by_cases hlt : k < n2
            · obtain ⟨b, o, rfl, hj, hy⟩ := (HC.out.below HI.out.bel).at hlt
              have r1 := tmod_nat l2[k].toNat n
              have r2 : l2[k].toNat % n < n := Nat.mod_lt _ n0
              have r3 : l2[k].toNat < 256 := l2[k].toNat_lt
              generalize l2[k].toNat = y at *
              obtain ⟨q, hq⟩ : ∃ q, y % n = q := ⟨_, rfl⟩
              rw [hq] at r1 r2
              have HQ := Lib.hid hq
              clear hq
              obtain ⟨x, hc0, hx⟩ := HAR.out q r2
              have hc := (HI.out.bel.cell (p := ⟨ab, ao + q, none⟩) HAL.out).trans hc0
              have HX := Lib.hid hx
              have hx96 : (ls.getD q []).length ≤ 96 := HL.out q r2
              clear hx hc0
              go_wp2_with fail
              refine (put_any HI.out.tq HI.out.new (q : Int) _ x.n x.c (ls.getD q []) (HX.out.below HI.out.bel)).mono ?_
              rintro e w4 ⟨rfl, h1, h2⟩
              rw [show TX.perr (Sl.n ⟨some ⟨g, 0, none⟩, n, n⟩) (q : Int) (ls.getD q []) = 0 from TX.perr_ok (hasB_nat r2) hx96]
              rw [show X.putI (Sl.n ⟨some ⟨g, 0, none⟩, n, n⟩) (q : Int) (ls.getD q []) = X.put q (ls.getD q []) from TX.putI_ok r2 hx96] at h1
              have HP := Lib.hid (HI.out.put h1 h2)
              have HI5 := Lib.hid (BackP.tell (v := false) HI.out HP.out (by simp) (fun h => by cases h))
              have hcl := HP.out.bb.cell r2
              have hfl := HP.out.bb.froz q
              clear h1 h2 HP hx96
              go_wp2_with fail
              go_roundw
              case rel => exact ⟨k + 1, _, by omega, by go_num, HI5⟩
              case measure => simp [intOf]; omega
            · obtain rfl : n2 = k := by omega
              go_wp2_with fail
              refine (changes_any HI.out.tq (by show n ≤ _; omega)).mono ?_
              intro e wc hcq
              have hcq' : ChgQ wr (X.chs n) e wc := hcq
              obtain ⟨Ac, cc, sl, rfl, hw, hbc, -⟩ := hcq'
              have HIC := Lib.hid (HI.out.below hbc)
              have HWC := Lib.hid hw.ws
              clear hcq hw hbc HI
              obtain ⟨L, hL⟩ : ∃ L, (X.chs n).length = L := ⟨_, rfl⟩
              rw [hL] at HWC
              have HLL2 : Hid (L ≤ n) := by show _ ≤ _; rw [← hL]; exact TX.chs_len X n
              rw [hL]
              have HLE := Lib.hid hL
              clear hL
              go_wp2_with fail
              go_loopw [16, 17] (fun t i wz => ∃ (k t' : Nat), k ≤ n ∧ i = .int .i64 k ∧ t = .int .i64 t' ∧ Hid (t' = (X.chs k).length) ∧ Hid (Below wc.heap.size wc wz)) (fun _ i _ => n - (intOf i).toNat)
              case atStart => exact ⟨0, 0, by omega, rfl, rfl, rfl, Below.refl _ _⟩
              case round =>
                obtain ⟨k, t, hk, rfl, rfl, HT, HBz⟩ := hrel
                rename World => wz
                by_cases hlt : k < n
                · have hcl := (HIC.out.below HBz.out).bb.cell hlt
                  cases hch : X.chg k with
                  | false =>
                    rw [hch] at hcl
                    have HE : Hid (t = (X.chs (k + 1)).length) := by show _ = _; rw [TX.chs_no hch]; exact HT.out
                    go_wp2_with fail
                    go_roundw
                    case rel => exact ⟨k + 1, t, by omega, by go_num, rfl, HE, HBz⟩
                    case measure => simp [intOf]; omega
                  | true =>
                    rw [hch] at hcl
                    have HE : Hid (t + 1 = (X.chs (k + 1)).length) := by show _ = _; rw [TX.chs_yes hch, List.length_append, ← HT.out]; rfl
                    have hat := TX.chs_at X n k hlt hch
                    rw [← HT.out, HIC.out.sp k hch] at hat
                    clear hch
                    have htl : t < (X.chs n).length := (List.getElem?_eq_some_iff.1 hat).1
                    have htL : t < L := by rw [← HLE.out]; exact htl
                    obtain ⟨bw, ow, y, hl, rfl, -, g1, g2, g3, -, -⟩ := HWC.out.at t htL
                    have hel : ((X.chs n).map fun x => ((x.1 : Int), x.2))[t] = ((k : Int), spB ls k) := by
                      rw [List.getElem_map]
                      have := (List.getElem?_eq_some_iff.1 hat).2
                      rw [this]
                    rw [hel] at g1 g3
                    have k1 := (HBz.out.cell (p := ⟨bw, ow + t * 2, none⟩) (World.block_lt_of_cell? wc _ g1)).trans g1
                    have k2 := (HBz.out.cell (p := ⟨bw, ow + t * 2 + 1, none⟩) (World.block_lt_of_cell? wc _ g2)).trans g2
                    have hyn : y.n = 4 := g3.1.symm
                    obtain ⟨yb, yo, hya, hj3, j3⟩ := (g3.below HBz.out).at (k := 3) (by omega)
                    obtain ⟨x, hc0, hx⟩ := HAR.out k hlt
                    have hxn : x.n ≤ 96 := by have := HL.out k hlt; rw [len_le hx] at this; exact this
                    have j4 : wz.cell? ⟨yb, yo + 3, none⟩ = some (.int .u8 (x.n : Int)) := by
                      rw [j3]
                      have e3 : ((spB ls k)[3]).toNat = x.n := by
                        show (UInt8.ofNat (ls.getD k []).length).toNat = x.n
                        rw [len_le hx]
                        simp
                        omega
                      rw [e3]
                    have hcx := ((HIC.out.bel.trans (HBz.out.mono HIC.out.bel.size)).cell (p := ⟨ab, ao + k, none⟩) HAL.out).trans hc0
                    have hw8 : IntKind.u8.wrap (x.n : Int) = (x.n : Int) := wrap_u8 (by omega) (by omega)
                    have d1 : decide (L ≤ t) = false := by simp; omega
                    rw [hya, hyn] at k2
                    have htn : t < 20 := by have := HLL2.out; omega
                    clear hat hel g1 g2 g3 j3 hj3 hx hc0 hya hyn htl hl
                    go_wp2_with fail
                    with_reducible refine wp_region_still_lit (by kernel_rfl) (by kernel_rfl) ?_
                    change wpStill _ _ (World.drew _) _ _ _
                    iterate 38 (with_reducible refine wpStill_step (fun K hK => ?_); go_simp; with_reducible refine hK _ ?_; clear hK K)
                    with_reducible refine wpStill_nil ?_
                    go_wp2
                    go_roundw
                    case rel => exact ⟨k + 1, t + 1, by omega, by go_num, by go_num, HE, HBz.out.drew⟩
                    case measure => simp [intOf]; omega
                · obtain rfl : n = k := by omega
                  have he : t = L := HT.out.trans HLE.out
                  subst he
                  go_wp2
                  go_ret
                  exact ⟨rfl, HIC.out.bel.trans (HBz.out.mono HIC.out.bel.size)⟩
end Go.Proofs.Ytnjkcodegcojcaa
