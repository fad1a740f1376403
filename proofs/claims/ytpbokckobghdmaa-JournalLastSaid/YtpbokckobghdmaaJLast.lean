/-
  The law of the last change of each block.
-/
import Derived.Test.YtpbokckobghdmaaJLastI
namespace Go.Proofs.Ytpbokckobghdmaa
open Go.RowKit

theorem wrap_u8_small (z : Nat) (h : z < 256) : IntKind.u8.wrap (z : Int) = (z : Int) := by
  have e : (z : Int) % (2 ^ 8 : Int) = (z : Int) := by omega
  show (if false && decide ((z : Int) % (2 ^ 8 : Int) ≥ (2 ^ 7 : Int)) then (z : Int) % (2 ^ 8 : Int) - (2 ^ 8 : Int) else (z : Int) % (2 ^ 8 : Int)) = _
  rw [Bool.false_and, if_neg (by decide), e]
theorem wrap_i64_small (z : Nat) (h : z < 256) : IntKind.i64.wrap (z : Int) = (z : Int) := by
  have e : (z : Int) % (2 ^ 64 : Int) = (z : Int) := by omega
  show (if true && decide ((z : Int) % (2 ^ 64 : Int) ≥ (2 ^ 63 : Int)) then (z : Int) % (2 ^ 64 : Int) - (2 ^ 64 : Int) else (z : Int) % (2 ^ 64 : Int)) = _
  rw [e, if_neg (by simp; omega)]
theorem ite_no {c a b : Prop} [Decidable c] (hc : ¬ c) (hb : b) : if c then a else b := by rw [if_neg hc]; exact hb
set_option maxRecDepth 100000 in
set_option maxHeartbeats 4000000 in
theorem last_any (w : World) (A0 A1 A2 : Option Addr) (n0 n1 n2 c0 c1 c2 : Nat) (ats checks pick : List UInt8) (h0 : BS w A0 n0 ats) (h1 : BS w A1 n1 checks) (h2 : BS w A2 n2 pick) (m0 : n0 ≤ maxLen) (m2 : n2 ≤ maxLen) :
    Calls Try.prog 8 #[.slice A0 n0 c0, .slice A1 n1 c1, .slice A2 n2 c2] w fun e w' => e = .returned (.bool true) ∧ Below w.heap.size w w' := by
  have H0 := Lib.hid h0
  have H1 := Lib.hid h1
  have H2 := Lib.hid h2
  clear h0 h1 h2
  go_enter Try.func8, Try.ntmps8
  go_wp2_with fail
  refine (awake_any w).mono ?_
  rintro e w1 ⟨rfl, hb1⟩
  have HB1 := Lib.hid hb1
  clear hb1
  by_cases a0 : 60 < n0
  · have a0' : (60 : Int) < (n0 : Int) := by omega
    go_wp2
    go_ret
    exact ⟨rfl, HB1.out⟩
  by_cases a1 : n1 < n0
  · go_wp2
    go_ret
    exact ⟨rfl, HB1.out⟩
  by_cases a2 : 20 < n2
  · have a2' : (20 : Int) < (n2 : Int) := by omega
    go_wp2
    go_ret
    exact ⟨rfl, HB1.out⟩
  have b0 : ¬ (60 : Int) < (n0 : Int) := by omega
  have b2 : ¬ (20 : Int) < (n2 : Int) := by omega
  go_wp2_with fail
  refine (new_any 40 w1 (by omega) (by omega)).mono ?_
  rintro e w2 ⟨dp, D2, rfl, hd2, hb2, hD2⟩
  have HD2 := Lib.hid hd2
  have HB2 := Lib.hid (HB1.out.trans (hb2.mono HB1.out.size))
  have HN2 : Hid (∀ k, D2 k → w.heap.size ≤ k) := fun k hk => Nat.le_trans HB1.out.size (hD2 k hk)
  clear hd2 hb2 hD2
  go_wp2_with fail
  refine (open_live HD2.out (by show (0 : Nat) ≤ _; omega) 6 8 (by omega) (by omega) (by omega) (by omega) (by show 1 + 6 + 8 ≤ 40; omega) (DS.new_calm _ _) (J.fresh_inv 40 w1.heap.size 6 8) (by show (0 : Nat) + 0 + 1 < _; omega)).mono ?_
  rintro e w3 ⟨p, S3, D3, j3, d3, rfl, hl3, hc3, hn3, hlog3, hnb3, hB3, hp3, hf3, hS3, hD3⟩
  have HL3 : Hid (∀ W, Below w3.heap.size w3 W → W.heap[w3.heap.size]? = some (.cells (List.replicate 8 (Value.int .i64 0)).toArray 3 (0, 0)) → LsI w W p dp w3.heap.size ats 0 S3 D3 j3 d3 0 0 []) := by
    intro W hW hrow
    have hb3 : Below w.heap.size w w3 := HB2.out.trans (hf3.below HB2.out.size HN2.out)
    refine ⟨hl3.below hW, hc3, hn3, hlog3, hnb3, hl3.inv.seq, fun k hk => (hB3 k hk).trans (by rw [lastB_zero]), ?_, hrow, fun h => Nat.lt_irrefl _ (hl3.jd.lt _ h), hb3.trans (hW.mono hb3.size), fun k hk => ?_, hb3.size⟩
    · have : d3.pend.length ≤ 0 + 8 := hp3
      omega
    · rcases hk with hk | hk
      · exact Nat.le_trans HB2.out.size (hS3 k hk)
      · rcases hD3 k hk with hk | hk
        · exact HN2.out k hk
        · exact Nat.le_trans HB2.out.size hk
  clear hl3 hc3 hn3 hlog3 hnb3 hB3 hp3 hf3 hS3 hD3
  go_wp2_with (refine wpList_make_cells rfl 52 3 (.int .i64 0) 8 _ _ rfl Try.underlying52 infos_int rfl (by omega) 8 rfl rfl (by omega) w3.heap.size rfl ?_
               intro w4 hrow4 hb4
               have HR4 := Lib.hid (HL3.out w4 hb4 hrow4)
               clear hrow4 hb4)
  go_loopw [13] (fun i wr => ∃ k : Nat, k ≤ n0 ∧ i = .int .i64 k ∧ ∃ S D j d s t c, Hid (LsI w wr p dp w3.heap.size ats k S D j d s t c)) (fun i _ => n0 - (intOf i).toNat)
  case atStart => exact ⟨0, by omega, rfl, S3, D3, j3, d3, 0, 0, [], HR4.out⟩
  case round =>
    obtain ⟨k, hk, rfl, S, D, j, d, s, t, c, HI⟩ := hrel
    by_cases hlt : k < n0
    · obtain ⟨b0, o0, rfl, hc0⟩ := (H0.out.below HI.out.bel).2 (by omega)
      have hkl : k < ats.length := by rw [H0.out.1]; exact hlt
      have hc0 := hc0 k hkl
      have HGD : Hid (ats.getD k 0 = ats[k]) := by show _ = _; simp [List.getD, hkl]
      have hk8 : ((UInt8.ofNat k).toNat : Int) = (k : Int) := by rw [J.ofNat_toNat (by omega)]
      go_wp2_with fail
      rw [and7 ats[k], ← hk8]
      obtain ⟨y, HYY, HY⟩ : ∃ y, Hid (y = (ats[k] &&& 7).toNat) ∧ Hid (y < 8) := ⟨_, Lib.hid rfl, and7_lt _⟩
      rw [← HYY.out]
      have HWS := Lib.hid (one_ws wr y (UInt8.ofNat k) ats[k])
      have HW5 : Hid (Below wr.heap.size wr ((wr.alloc (.cells #[.int .u8 ((UInt8.ofNat k).toNat : Int), .int .u8 (ats[k].toNat : Int)] 5)).alloc (.cells #[.int .i64 (y : Int), .slice (some ⟨wr.heap.size, 0, none⟩) 2 2] 37))) := ((Below.refl _ _).alloc (Nat.le_refl _) _).alloc (by rw [World.size_alloc]; omega) _
      have HZ5 : Hid (((wr.alloc (.cells #[.int .u8 ((UInt8.ofNat k).toNat : Int), .int .u8 (ats[k].toNat : Int)] 5)).alloc (.cells #[.int .i64 (y : Int), .slice (some ⟨wr.heap.size, 0, none⟩) 2 2] 37)).heap.size = wr.heap.size + 2) := by show _ = _; simp only [World.size_alloc]
      generalize (wr.alloc (.cells #[.int .u8 ((UInt8.ofNat k).toNat : Int), .int .u8 (ats[k].toNat : Int)] 5)).alloc (.cells #[.int .i64 (y : Int), .slice (some ⟨wr.heap.size, 0, none⟩) 2 2] 37) = w5 at *
      have hok : J.okW j.nb [((y : Int), [UInt8.ofNat k, ats[k]])] = true := by
        rw [HI.out.nb]
        exact ok_one _ _ _ HY.out
      refine ((HI.out.live.below HW5.out).commitOk HI.out.calm (by rw [HI.out.seq]; omega) (by have := HI.out.pend; omega) _ _ 1 1 _ HWS.out (fun i hi => ⟨by rw [HZ5.out]; exact hi.2, fun h => by have := HI.out.live.jd.lt i h; have := hi.1; omega⟩) (by omega) hok (by rw [HI.out.log]; show 1 + 1 ≤ 6; omega)).mono ?_
      rintro e w6 ⟨rfl, j6, d6, s6, t6, c6, ⟨S6, D6, l6, f6, hS6, hD6⟩, q1, q2, q3, q4, q5, q6, q7⟩
      have HST : Hid (LsI w (w6.setCell ⟨w3.heap.size, y, none⟩ (.int .i64 ((k : Int) + 1))) p dp w3.heap.size ats (k + 1) S6 D6 j6 d6 s6 t6 c6 ∧ d6.pend.length ≤ 8 + 6 * k + 4) := HI.out.step HW5.out f6 l6 hS6 hD6 (by rw [HGD.out]; exact HYY.out) q1 q2 q3 q4 q5 (by rw [HGD.out]; exact q6) q7
      have HR6 : Hid (w6.heap[w3.heap.size]? = some (.cells ((List.range 8).map fun q => Value.int .i64 (lastOf ats k q : Int)).toArray 3 (0, 0))) := by
        have hlt3 := HI.out.glt
        show _ = _
        rw [f6.block _ ⟨by rw [HZ5.out]; omega, HI.out.far⟩, HW5.out.block _ hlt3]
        exact HI.out.row
      clear l6 f6 q1 q2 q3 q4 q5 q6 q7 hS6 hD6 HWS hok
      rw [hk8]
      have fz6 : w6.frozen? ⟨w3.heap.size, y, none⟩ = false := by simp [World.frozen?, HR6.out]
      have cl6 : w6.cell? ⟨w3.heap.size, y, none⟩ = some (.int .i64 (lastOf ats k y : Int)) := by
        have := HY.out
        rw [cell_of_row _ _ _ _ _ _ HR6.out]
        rw [List.getElem?_toArray, List.getElem?_map, List.getElem?_range this]
        rfl
      have y8 : (y : Int) < 8 := by have := HY.out; omega
      go_upto_region 18 with (fail)
      generalize w6.setCell ⟨w3.heap.size, y, none⟩ (.int .i64 ((k : Int) + 1)) = w7 at *
      clear fz6 cl6 HR6
      obtain ⟨b1, o1, rfl, hc1⟩ := (H1.out.below HST.out.1.bel).2 (by omega)
      have hkc : k < checks.length := by rw [H1.out.1]; omega
      have hc1 := hc1 k hkc
      have hk1 : (k : Int) < (n1 : Int) := by omega
      by_cases hz : bits BinOp.and IntKind.u8 (checks[k].toNat : Int) 3 = 0
      · go_wp2_with fail
        refine (HST.out.1.live.ckptOk HST.out.1.calm (by rw [HST.out.1.seq]; omega) (by have := HST.out.2; omega)).mono ?_
        rintro e w8 ⟨rfl, d8, s8, t8, c8, l8, q1, q2, q3⟩
        obtain ⟨S8, D8, h8⟩ := HST.out.1.ck l8 q1 q2 (by have := HST.out.2; omega)
        have H8 := Lib.hid h8
        clear h8 l8 q1 q2 q3
        go_wp2
        go_roundw
        case rel => exact ⟨k + 1, by omega, by go_num, S8, D8, _, d8, s8, t8, c8, H8.out⟩
        case measure => simp [intOf]; omega
      · go_wp2
        go_roundw
        case rel => exact ⟨k + 1, by omega, by go_num, S6, D6, _, d6, s6, t6, c6, HST.out.1⟩
        case measure => simp [intOf]; omega
    · obtain rfl : k = n0 := by omega
      go_wp2_with fail
      refine (crash_all dp D d A2 n2 c2 pick wr HI.out.live.jd.dk (by have := HI.out.pend; omega) (H2.out.below HI.out.bel) ?_ (by omega)).mono ?_
      · intro h0 ad e hD
        have h1 := HI.out.hS _ (.inr hD)
        have h2 := H2.out.lt_block h0 ad e
        omega
      rintro e w8 ⟨rfl, hst8⟩
      obtain ⟨D8, j8, f8, f8', d8⟩ := HI.out.live.jd.disk hst8
      have HJ8 := Lib.hid j8
      have HRW : Hid (w8.heap[w3.heap.size]? = some (.cells ((List.range 8).map fun q => Value.int .i64 (lastOf ats k q : Int)).toArray 3 (0, 0))) := (f8.block _ ⟨HI.out.glt, HI.out.far⟩).trans HI.out.row
      have HB8 : Hid (Below w.heap.size w w8) := HI.out.bel.trans (f8.below HI.out.bel.size HI.out.hS)
      have HG8 : Hid (¬ D8 w3.heap.size) := fun h => (d8 _ h).elim (fun h => HI.out.far (.inr h)) fun h => by have := HI.out.glt; omega
      have HD8 : Hid (∀ i, D8 i → w.heap.size ≤ i) := fun i hi => (d8 i hi).elim (fun h => HI.out.hS _ (.inr h)) fun h => Nat.le_trans HI.out.bel.size h
      clear j8 f8 f8' d8 hst8
      generalize ((cho pick d.pend d.pend.length).length : Int) = vc
      go_wp2_with fail
      have hsq : k = s + c.length := by rw [← HI.out.seq]; exact HI.out.live.seq
      have hj6 : j.log = 6 := HI.out.log
      have hj8 : j.nb = 8 := HI.out.nb
      have hinv := HI.out.live.inv.inv
      rw [hj6, hj8] at hinv
      refine (open_live HJ8.out.dk (by show (0 : Nat) ≤ _; omega) 6 8 (by omega) (by omega) (by omega) (by omega) (by show 1 + 6 + 8 ≤ d.n; rw [HI.out.n]; omega) (J.crashed_calm _ _) (J.Inv.crash (show 0 < 6 by omega) hinv pick) (by omega)).mono ?_
      rintro e w9 ⟨q, S9, D9, j9, d9, rfl, hl9, hc9, hn9, hlog9, hnb9, hB9, hp9, hf9, hS9, hD9⟩
      have HR9 : Hid (LsR w w9 q dp w3.heap.size ats k S9 D9 j9 d9 s t c) := ⟨hl9, hnb9, fun i hi => (hB9 i hi).trans (HI.out.B i hi), (hf9.block _ ⟨(Array.getElem?_eq_some_iff.1 HRW.out).1, HG8.out⟩).trans HRW.out, HB8.out.trans (hf9.below HB8.out.size HD8.out)⟩
      have HS9 : Hid (j9.seq = k) := by show _ = _; rw [hsq]; exact hl9.seq
      clear hl9 hc9 hn9 hlog9 hnb9 hB9 hp9 hf9 hS9 hD9 hsq hj6 hj8 hinv
      go_wp2_with fail
      refine (seq_any HR9.out.live.jd).mono ?_
      rintro e w10 ⟨rfl, rfl⟩
      rw [HS9.out]
      go_wp2_with fail
      go_loopw [15] (fun i wr => ∃ m : Nat, m ≤ 8 ∧ i = .int .i64 m ∧ Hid (LsR w wr q dp w3.heap.size ats k S9 D9 j9 d9 s t c)) (fun i _ => 8 - (intOf i).toNat)
      case atStart => exact ⟨0, by omega, rfl, HR9.out⟩
      case round =>
        obtain ⟨m, hm, rfl, HM⟩ := hrel
        by_cases hlt : m < 8
        · have hmi : (m : Int) < 8 := by omega
          have HBm := Lib.hid (HM.out.B m hlt)
          go_wp2_with fail
          refine (readJ_any HM.out.live.jd.jm m (by rw [HM.out.nb]; exact hlt) (by rw [HBm.out]; unfold lastB; split <;> simp)).mono ?_
          rintro e w11 ⟨A7, n7, c7, rfl, hb7, -, -, hw7⟩
          have HM7 := Lib.hid (HM.out.below hw7)
          have HB7 : Hid (BS w11 A7 n7 (lastB ats k m)) := by show BS _ _ _ _; rw [← HBm.out]; exact hb7
          have cl7 : w11.cell? ⟨w3.heap.size, m, none⟩ = some (.int .i64 (lastOf ats k m : Int)) := by
            rw [cell_of_row _ _ _ _ _ _ HM7.out.row, List.getElem?_toArray, List.getElem?_map, List.getElem?_range hlt]
            rfl
          clear hb7 hw7
          have HLL := Lib.hid (lastOf_le ats k m)
          by_cases hx : lastOf ats k m = 0
          · obtain rfl : n7 = 0 := by have := HB7.out.1; unfold lastB at this; rw [if_pos hx] at this; simpa using this.symm
            rw [hx] at cl7
            go_wp2_with fail
            with_reducible refine wp_region_still_lit (by kernel_rfl) (by kernel_rfl) ?_
            change wpStill _ _ (World.drew _) _ _ _
            iterate 43 (with_reducible refine wpStill_step (fun K hK => ?_); go_simp; first | with_reducible refine hK _ ?_ | with_reducible refine ite_no (by decide) (hK _ ?_); clear hK K)
            with_reducible refine wpStill_nil ?_
            go_wp2
            exact ⟨⟨m + 1, by omega, by go_num, HM7.out.below (Below.refl _ _).drew⟩, by simp only [intOf]; omega⟩
          · obtain ⟨z, hz⟩ : ∃ z, lastOf ats k m = z + 1 := ⟨lastOf ats k m - 1, by omega⟩
            have HZ := Lib.hid hz
            have hz60 : z < 60 := by have := HLL.out; omega
            have HA7 := Lib.hid (lastOf_and ats k m hx)
            have HBB : Hid (lastB ats k m = [UInt8.ofNat z, ats.getD z 0]) := by show _ = _; unfold lastB; rw [if_neg hx, hz]; rfl
            rw [hz, Nat.add_sub_cancel] at HA7
            rw [HBB.out] at HB7
            obtain rfl : n7 = 2 := HB7.out.1.symm
            obtain ⟨b7, o7, rfl, hc7⟩ := HB7.out.2 (by omega)
            have d0 : w11.cell? ⟨b7, o7, none⟩ = some (.int .u8 (z : Int)) := by
              have := hc7 0 (by simp)
              rw [Nat.add_zero] at this
              rw [this]
              show some (Value.int .u8 ((UInt8.ofNat z).toNat : Int)) = _
              rw [J.ofNat_toNat (by omega)]
            have d1 : w11.cell? ⟨b7, o7 + 1, none⟩ = some (.int .u8 ((ats.getD z 0).toNat : Int)) := hc7 1 (by simp)
            have e7 : wrap64 (bits BinOp.and IntKind.u8 ((ats.getD z 0).toNat : Int) 7) = (m : Int) := by rw [and7, HA7.out]
            replace cl7 : w11.cell? ⟨w3.heap.size, m, none⟩ = some (.int .i64 ((z : Int) + 1)) := by rw [cl7, hz]; rfl
            have z0 : ¬ ((z : Int) + 1 = 0) := by omega
            have zp : (0 : Int) < (z : Int) + 1 := by omega
            have zw : IntKind.u8.wrap (z : Int) = (z : Int) := wrap_u8_small z (by omega)
            have zv : IntKind.i64.wrap (z : Int) = (z : Int) := wrap_i64_small z (by omega)
            have e8 : IntKind.i64.wrap (bits BinOp.and IntKind.u8 ((ats.getD z 0).toNat : Int) 7) = (m : Int) := by rw [band7, wrap_i64_small _ (by have := and7_lt (ats.getD z 0); omega), HA7.out]
            clear hc7 hx hz
            generalize ((ats.getD z 0).toNat : Int) = xx at *
            go_wp2_with fail
            with_reducible refine wp_region_still_lit (by kernel_rfl) (by kernel_rfl) ?_
            change wpStill _ _ (World.drew _) _ _ _
            iterate 43 (with_reducible refine wpStill_step (fun K hK => ?_); go_simp; first | with_reducible refine hK _ ?_ | with_reducible refine ite_no (by decide) (hK _ ?_); clear hK K)
            with_reducible refine wpStill_nil ?_
            go_wp2
            exact ⟨⟨m + 1, by omega, by go_num, HM7.out.below (Below.refl _ _).drew⟩, by simp only [intOf]; omega⟩
        · obtain rfl : m = 8 := by omega
          go_wp2
          go_ret
          exact ⟨rfl, HM.out.bel⟩
end Go.Proofs.Ytpbokckobghdmaa
