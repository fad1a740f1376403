/-
  The law of the log's room.
-/
import Derived.Test.YtpbokckobghdmaaJRoomI
import Derived.Maps.AppendAt
namespace Go.Proofs.Ytpbokckobghdmaa
open Go.RowKit

theorem tmod_nat (x k : Nat) : ((x : Int).tmod (k : Int)) = ((x % k : Nat) : Int) := rfl
set_option maxRecDepth 100000 in
set_option maxHeartbeats 4000000 in
theorem room_any (w : World) (lg : Nat) (A : Option Addr) (n cp : Nat) (sz : List UInt8) (h : BS w A n sz) (hn : n ≤ maxLen) :
    Calls Try.prog 5 #[.int .u8 (lg : Int), .slice A n cp] w fun e w' => e = .returned (.bool true) ∧ Below w.heap.size w w' := by
  have H := Lib.hid h
  clear h
  unfold maxLen at hn
  have r0 : ((lg : Int).tmod 10) = ((lg % 10 : Nat) : Int) := tmod_nat lg 10
  have r1 : lg % 10 < 10 := Nat.mod_lt _ (by omega)
  go_enter Try.func5, Try.ntmps5
  go_wp2_with fail
  refine (awake_any w).mono ?_
  rintro e w1 ⟨rfl, hb1⟩
  have HB1 := Lib.hid hb1
  clear hb1
  by_cases a0 : 30 < n
  · have a0' : (30 : Int) < (n : Int) := by omega
    go_wp2
    go_ret
    exact ⟨rfl, HB1.out⟩
  have b0 : ¬ (30 : Int) < (n : Int) := by omega
  generalize lg % 10 = m10 at *
  go_wp2_with fail
  refine (new_any 60 w1 (by omega) (by omega)).mono ?_
  rintro e w2 ⟨dp, D2, rfl, hd2, hb2, hD2⟩
  have HD2 := Lib.hid hd2
  have HB2 := Lib.hid (HB1.out.trans (hb2.mono HB1.out.size))
  have HN2 : Hid (∀ k, D2 k → w.heap.size ≤ k) := fun k hk => Nat.le_trans HB1.out.size (hD2 k hk)
  clear hd2 hb2 hD2
  go_wp2_with fail
  obtain ⟨kk, HK, HK4, HK13⟩ : ∃ kk : Nat, Hid ((kk : Int) = (m10 : Int) + 4) ∧ Hid (4 ≤ kk) ∧ Hid (kk ≤ 13) := ⟨m10 + 4, by show ((m10 + 4 : Nat) : Int) = _; omega, by show 4 ≤ _; omega, by show _ ≤ 13; omega⟩
  rw [← HK.out]
  refine (open_live HD2.out (by show (0 : Nat) ≤ _; omega) kk 20 HK4.out (by have := HK13.out; omega) (by omega) (by omega) (by have := HK13.out; show 1 + kk + 20 ≤ 60; omega) (DS.new_calm _ _) (J.fresh_inv 60 w1.heap.size kk 20) (by show (0 : Nat) + 0 + 1 < _; omega)).mono ?_
  rintro e w3 ⟨p, S3, D3, j3, d3, rfl, hl3, hc3, hn3, hlog3, hnb3, hB3, hp3, hf3, hS3, hD3⟩
  have HR3 : Hid (RmI w w3 p dp kk 0 0 S3 D3 j3 d3 0 0 []) := by
    refine ⟨hl3, hc3, hn3, hlog3, hnb3, hl3.seq, Nat.le_refl _, ?_, HB2.out.trans (hf3.below HB2.out.size HN2.out), fun k hk => hk.elim (fun h => Nat.le_trans HB2.out.size (hS3 k h)) fun h => (hD3 k h).elim (HN2.out k) fun h => Nat.le_trans HB2.out.size h⟩
    have : d3.pend.length ≤ 0 + 20 := hp3
    omega
  clear hl3 hc3 hn3 hlog3 hnb3 hB3 hp3 hf3 hS3 hD3 HD2 HB2 HN2 r0 r1
  obtain ⟨i0, hi0, hz0, hz1, hz2⟩ := info_parts infos_wr
  have HI0 := Lib.hid hi0
  have HZ0 := Lib.hid hz0
  have HZ1 := Lib.hid hz1
  have HZ2 := Lib.hid hz2
  clear hi0 hz0 hz1 hz2
  go_wp2_with fail
  go_loopw [11, 12] (fun cv i wr => ∃ (k cnt : Nat), k ≤ n ∧ i = .int .i64 k ∧ cv = .int .u64 cnt ∧ ∃ S D j d s t cs, Hid (RmI w wr p dp kk k cnt S D j d s t cs)) (fun _ i _ => n - (intOf i).toNat)
  case atStart => exact ⟨0, 0, by omega, rfl, rfl, S3, D3, j3, d3, 0, 0, [], HR3.out⟩
  case round =>
    obtain ⟨k, cnt, hk, rfl, rfl, S, D, j, d, s, t, cs, HI⟩ := hrel
    rename World => W0
    by_cases hlt : k < n
    · obtain ⟨bb, oo, rfl, hkl, hc0⟩ := (H.out.below HI.out.bel).at hlt
      have r2 : ((sz[k].toNat : Int).tmod 18) = ((sz[k].toNat % 18 : Nat) : Int) := tmod_nat _ 18
      have r3 : sz[k].toNat % 18 < 18 := Nat.mod_lt _ (by omega)
      generalize sz[k].toNat % 18 = mm at *
      have hki : (k : Int) < (n : Int) := by omega
      have hcnt := HI.out.cnt
      have k30 : k < 30 := by omega
      go_upto_region 16 with (fail)
      obtain ⟨my, HM, hm1, hm18⟩ : ∃ my : Nat, Hid ((my : Int) = (mm : Int) + 1) ∧ 1 ≤ my ∧ my ≤ 18 := ⟨mm + 1, by show ((mm + 1 : Nat) : Int) = _; omega, by omega, by omega⟩
      rw [← HM.out]
      clear hc0 r2 r3
      go_wp2_with fail
      go_loopw [14, 15] (fun lv b wr2 => ∃ (q c' : Nat) (A' : Option Addr) (sl : List Sl), q ≤ my ∧ b = .int .i64 q ∧ lv = .slice A' q c' ∧ Hid (Below W0.heap.size W0 wr2) ∧ Hid (WR wr2 W0.heap.size A' c' (lr k q) sl)) (fun _ b _ => my - (intOf b).toNat)
      case atStart => exact ⟨0, 0, none, [], by omega, rfl, rfl, Below.refl _ _, WR.nil _ _⟩
      case round =>
        obtain ⟨q, c', A', sl, hq, rfl, rfl, HBW, HWR⟩ := hrel
        by_cases hq' : q < my
        · have q18 : q < 18 := by omega
          have qi : (q : Int) < (my : Int) := by omega
          go_wp2_with (at_builtin
                       go_must (refine wpList_append_own_at _ rfl (.tmp 59) (.tmp 67) 35 rfl W0.heap.size 37 i0 _ 2 32 Try.underlying35 HI0.out HZ0.out HZ1.out HZ2.out rfl (by omega) (.slice A' q c') q (wcs (lr k q) sl) rfl HWR.out.room ⟨wr.heap.size + 1, 0, none⟩ 1 1 (wv (q : Int) ⟨some ⟨wr.heap.size, 0, none⟩, 2, 2⟩) rfl (by simp [wv]) room_news (by simp [wv, Value.oneCell']) (by unfold maxLen; omega) (by omega) (by rw [room_size]; have := HBW.out.size; omega) ?_)
                       intro v' w8 hown' hgrow _ hat
                       obtain ⟨g', cap', rfl⟩ := ownsRow_succ hown'
                       have HMO := Lib.hid (HWR.out.more HBW.out.size (by omega) (by omega) hown' hgrow hat)
                       clear hown' hgrow hat)
          go_wp2
          exact ⟨⟨q + 1, cap', _, _, hq', by go_num, rfl, HBW.out.trans ((room_below.mono HBW.out.size).trans HMO.out.2), HMO.out.1⟩, by simp only [intOf]; omega⟩
        · obtain rfl : q = my := by omega
          have HWS := HWR.out.ws
          rw [lr_len] at HWS
          have HW2 : Hid (WS wr (fun b => W0.heap.size ≤ b) A' q (lw k q)) := HWS
          have HR := Lib.hid (HI.out.below HBW.out)
          have HOK := Lib.hid (okW_lw k q hm1 (by omega))
          clear HWS
          have HOFF : Hid (∀ b, W0.heap.size ≤ b ∧ b < wr.heap.size → b < wr.heap.size ∧ ¬ (S b ∨ D b)) := fun b hb => ⟨hb.2, fun h => by have := HI.out.live.jd.lt b h; omega⟩
          have HW3 : Hid (WS wr (fun b => W0.heap.size ≤ b ∧ b < wr.heap.size) A' q (lw k q)) := by
            refine ⟨HW2.out.1, fun h0 => ?_⟩
            obtain ⟨b, o, e, hX, hc⟩ := HW2.out.2 h0
            have hlt' : b < wr.heap.size := by
              obtain ⟨x, g1, -⟩ := hc 0 (by rw [lw_len]; exact h0)
              exact World.block_lt_of_cell? wr _ g1
            refine ⟨b, o, e, ⟨hX, hlt'⟩, fun m hm => ?_⟩
            obtain ⟨x, g1, g2, g3, g4, g5⟩ := hc m hm
            exact ⟨x, g1, g2, g3, g4, fun h ad e => ⟨g5 h ad e, g3.lt_block h ad e⟩⟩
          clear HW2
          go_wp2_with fail
          by_cases hroom : q < kk
          · have hroom' : (q : Int) < (kk : Int) := by omega
            refine (HR.out.live.commitOk HR.out.calm (by rw [HR.out.seq]; omega) (by have := HR.out.pend; omega) _ A' q c' (lw k q) HW3.out HOFF.out (by omega) (by rw [HR.out.nb]; exact HOK.out) (by rw [lw_len, HR.out.log]; omega)).mono ?_
            rintro e w9 ⟨rfl, j9, d9, s9, t9, cs9, l9, q1, q2, q3, q4, q5, q6, q7⟩
            rw [lw_len] at q7
            obtain ⟨S9, D9, h9⟩ := HR.out.step l9 q1 q2 q3 q4 (q5.trans (by rw [HR.out.seq])) (by omega) (by omega)
            have H9 := Lib.hid h9
            have HB9 : Hid (∀ m, m < q → j9.B m = [UInt8.ofNat k, UInt8.ofNat m]) := fun m hm => by
              have := apl_at HOK.out j.B m (by rw [lw_len]; exact hm)
              rw [lw_at] at this
              rw [q6]
              exact this
            clear h9 l9 q1 q2 q3 q4 q5 q6 q7 HW3 HOFF HR
            go_wp2_with fail
            go_loopw [17] (fun b wx => ∃ m : Nat, m ≤ q ∧ b = .int .i64 m ∧ Hid (RmI w wx p dp kk (k + 1) (cnt + 1) S9 D9 j9 d9 s9 t9 cs9)) (fun b _ => q - (intOf b).toNat)
            case atStart => exact ⟨0, by omega, rfl, H9.out⟩
            case round =>
              obtain ⟨m, hm, rfl, HX⟩ := hrel
              by_cases hmq : m < q
              · have hmi : (m : Int) < (q : Int) := by omega
                go_wp2_with fail
                refine (readJ_any HX.out.live.jd.jm m (by rw [HX.out.nb]; omega) (by rw [HB9.out m hmq]; simp)).mono ?_
                rintro e w11 ⟨A7, n7, c7, rfl, hb7, -, -, hw7⟩
                rw [HB9.out m hmq] at hb7
                obtain rfl : n7 = 2 := hb7.1.symm
                obtain ⟨b7, o7, rfl, hc7⟩ := hb7.2 (by omega)
                have d0 : w11.cell? ⟨b7, o7, none⟩ = some (.int .u8 (k : Int)) := by
                  have := hc7 0 (by simp)
                  rw [Nat.add_zero] at this
                  rw [this]
                  show some (Value.int .u8 ((UInt8.ofNat k).toNat : Int)) = _
                  rw [J.ofNat_toNat (by omega)]
                have d1 : w11.cell? ⟨b7, o7 + 1, none⟩ = some (.int .u8 (m : Int)) := by
                  rw [hc7 1 (by simp)]
                  show some (Value.int .u8 ((UInt8.ofNat m).toNat : Int)) = _
                  rw [J.ofNat_toNat (by omega)]
                have HX7 := Lib.hid (HX.out.below hw7)
                clear hb7 hw7 hc7
                have m18 : m < 18 := by omega
                go_wp2
                exact ⟨⟨m + 1, by omega, by go_num, HX7.out⟩, by simp only [intOf]; omega⟩
              · go_wp2_with fail
                refine (seq_any HX.out.live.jd).mono ?_
                rintro e w12 ⟨rfl, rfl⟩
                rw [HX.out.seq]
                go_wp2_with fail
                refine (used_any HX.out.live.jd.jm).mono ?_
                rintro e w12 ⟨rfl, rfl⟩
                have hu : ¬ (kk : Int) < (j9.used : Int) := by have h1 := HX.out.live.used_le; have h2 := HX.out.log; omega
                go_wp2
                exact ⟨⟨k + 1, cnt + 1, by omega, by go_num, by go_num, S9, D9, _, d9, s9, t9, cs9, HX.out⟩, by simp only [intOf]; omega⟩
          · have hroom' : ¬ (q : Int) < (kk : Int) := by omega
            refine (HR.out.live.commitFull (by rw [HR.out.seq]; omega) (by have := HR.out.pend; omega) _ A' q c' (lw k q) HW3.out HOFF.out (by omega) (by rw [HR.out.nb]; exact HOK.out) (by rw [lw_len, HR.out.log]; omega)).mono ?_
            rintro e w9 ⟨rfl, l9⟩
            obtain ⟨S9, D9, h9⟩ := HR.out.step l9 HR.out.calm rfl rfl rfl HR.out.seq (by omega) (by omega)
            have H9 := Lib.hid h9
            clear h9 l9 HW3 HOFF HR
            go_wp2_with fail
            refine (seq_any H9.out.live.jd).mono ?_
            rintro e w12 ⟨rfl, rfl⟩
            rw [H9.out.seq]
            go_wp2_with fail
            refine (used_any H9.out.live.jd.jm).mono ?_
            rintro e w12 ⟨rfl, rfl⟩
            have hu : ¬ (kk : Int) < (j.used : Int) := by have h1 := H9.out.live.used_le; have h2 := H9.out.log; omega
            go_wp2
            exact ⟨⟨k + 1, cnt, by omega, by go_num, rfl, S9, D9, _, d, s, t, cs, H9.out⟩, by simp only [intOf]; omega⟩
    · go_wp2
      go_ret
      exact ⟨rfl, HI.out.bel⟩
end Go.Proofs.Ytpbokckobghdmaa
