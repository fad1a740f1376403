/-
  The law of a journal that is opened again.
-/
import Derived.Test.YtpjcdnfnghekcaaJAgainM
import Derived.Deep.RegionHeld
import Derived.StillTailTactics
namespace Go.Proofs.Ytpjcdnfnghekcaa
open Go.RowKit

theorem two_six_all : ∀ n : Fin 256, bits BinOp.and IntKind.u8 ((n.val : Nat) : Int) 2 = 2 → 0 < bits BinOp.and IntKind.u8 ((n.val : Nat) : Int) 6 := by decide +kernel
theorem two_six (x : UInt8) : bits BinOp.and IntKind.u8 (x.toNat : Int) 2 = 2 → 0 < bits BinOp.and IntKind.u8 (x.toNat : Int) 6 := two_six_all ⟨x.toNat, x.toNat_lt⟩
theorem upd_apl {l : List (Int × List UInt8)} {m : Nat} (hm : m < l.length) {y : Nat} (hy : l[m].1.toNat = y) (f : Nat → List UInt8) : upd (J.apl (J.asChg (l.take m)) f) y l[m].2 = J.apl (J.asChg (l.take (m + 1))) f := by
  funext i
  rw [apl_take l f m hm, hy]
  unfold upd
  by_cases e : i = y
  · rw [if_pos e, if_pos e.symm]
  · rw [if_neg e, if_neg (Ne.symm e)]
set_option maxRecDepth 100000 in
set_option maxHeartbeats 4000000 in
theorem again_any (w : World) (A0 A1 : Option Addr) (n0 n1 c0 c1 : Nat) (ls : List (List (Int × List UInt8))) (ag : List UInt8) (h0 : CI w A0 n0 ls) (h1 : BS w A1 n1 ag) (m1 : n1 ≤ maxLen) :
    Calls Try.prog 4 #[.slice A0 n0 c0, .slice A1 n1 c1] w fun e w' => e = .returned (.bool true) ∧ Below w.heap.size w w' := by
  have H0 := Lib.hid h0
  have H1 := Lib.hid h1
  have N0 : Hid (ls.length = n0) := h0.len
  have hn0 : n0 ≤ maxLen := h0.few
  clear h0 h1
  unfold maxLen at hn0 m1
  go_enter Try.func4, Try.ntmps4
  go_wp2_with fail
  refine (awake_any w).mono ?_
  rintro e w1 ⟨rfl, hb1⟩
  have HB1 := Lib.hid hb1
  clear hb1
  by_cases a0 : 16 < n0
  · have a0' : (16 : Int) < (n0 : Int) := by omega
    go_wp2
    go_ret
    exact ⟨rfl, HB1.out⟩
  by_cases a1 : n1 < n0
  · go_wp2
    go_ret
    exact ⟨rfl, HB1.out⟩
  have b0 : ¬ (16 : Int) < (n0 : Int) := by omega
  go_wp2_with fail
  refine (new_any 40 w1 (by omega) (by omega)).mono ?_
  rintro e w2 ⟨dp, D2, rfl, hd2, hb2, hD2⟩
  have HD2 := Lib.hid hd2
  have HB2 := Lib.hid (HB1.out.trans (hb2.mono HB1.out.size))
  have HN2 : Hid (∀ k, D2 k → w.heap.size ≤ k) := fun k hk => Nat.le_trans HB1.out.size (hD2 k hk)
  clear hd2 hb2 hD2
  generalize w1.heap.size = db at HD2
  go_wp2_with fail
  refine (open_fresh HD2.out 16 6 (by omega) (by omega) (by omega) (by omega) (by omega)).mono ?_
  rintro e w3 ⟨p0, S3, D3, j3, rfl, hl3, hg3, hn3, hB3, hf3, hS3, hD3⟩
  have HL3 : Hid (∀ W, Below w3.heap.size w3 W → W.heap[w3.heap.size]? = some (.cells (List.replicate 6 (Value.string (txt []))).toArray 9 (0, 0)) → AgI w W p0 dp w3.heap.size 0 0 S3 D3 j3 (DS.new 40 db) 0 0 [] fun _ => []) := by
    intro W hW hrow
    have hb3 : Below w.heap.size w w3 := HB2.out.trans (hf3.below HB2.out.size HN2.out)
    rw [six_new] at hrow
    refine ⟨⟨⟨hl3.below hW, DS.new_calm _ _, rfl, hg3, hn3, hb3.trans (hW.mono hb3.size), fun k hk => ?_⟩, hrow, fun h => Nat.lt_irrefl _ (hl3.jd.lt _ h), hb3.size⟩, hl3.inv.seq, Nat.le_refl _, Nat.zero_le _, hB3⟩
    rcases hk with hk | hk
    · exact Nat.le_trans HB2.out.size (hS3 k hk)
    · rcases hD3 k hk with hk | hk
      · exact HN2.out k hk
      · exact Nat.le_trans HB2.out.size hk
  clear hl3 hg3 hn3 hB3 hf3 hS3 hD3 HD2
  go_wp2_with (refine wpList_make_cells rfl 33 9 (.string (txt [])) 16 _ _ rfl Try.underlying33 infos_str rfl (by omega) 6 rfl rfl (by omega) w3.heap.size rfl ?_
               intro w4 hrow4 hb4
               have HR4 := Lib.hid (HL3.out w4 hb4 hrow4)
               clear hrow4 hb4)
  clear HL3
  obtain ⟨g, HG⟩ : ∃ g, Hid (g = w3.heap.size) := ⟨_, Lib.hid rfl⟩
  rw [← HG.out] at HR4 ⊢
  clear HG
  go_loopw [8, 11, 12] (fun jv cv i wr => ∃ k cnt p : Nat, k ≤ n0 ∧ i = .int .i64 k ∧ cv = .int .u64 cnt ∧ jv = .pointer (some ⟨p, 0, none⟩) ∧ ∃ S D j d s t c f, Hid (AgI w wr p dp g k cnt S D j d s t c f)) (fun _ _ i _ => n0 - (intOf i).toNat)
  case atStart => exact ⟨0, 0, p0, by omega, rfl, rfl, rfl, S3, D3, j3, _, 0, 0, [], _, HR4.out⟩
  case round =>
    obtain ⟨k, cnt, p, hk, rfl, rfl, rfl, S, D, j, d, s, t, c, f, HI⟩ := hrel
    by_cases hlt : k < n0
    · have hkl : k < ls.length := by rw [N0.out]; exact hlt
      obtain ⟨bc, oc, ⟨xa, xn, xc⟩, rfl, hw, hx⟩ := ci_held H0.out k hlt hkl
      change WI w xa xn ls[k] at hw
      change ∀ W, Below w.heap.size w W → W.cell? ⟨bc, oc + k, none⟩ = some (.slice xa xn xc) at hx
      have HW := Lib.hid hw
      have HX := Lib.hid hx
      have NL : Hid (ls[k].length = xn) := hw.ws.1
      have hk16 : k < 16 := by omega
      have hxn : xn ≤ 9223372036854775807 := hw.few
      clear hw hx
      have hcx := HX.out wr HI.out.tg.ts.bel
      go_wp2_with fail
      refine (few_any wr _ xa xn xc ls[k] (below_ws HI.out.tg.ts.bel HW.out.ws) hxn (fun y hy => HW.out.len y hy)).mono ?_
      rintro e w5 ⟨rfl, rfl⟩
      cases hf : fewB ls[k] with
      | false =>
        go_wp2
        go_ret
        exact ⟨rfl, HI.out.tg.ts.bel⟩
      | true =>
      have hn20 : xn ≤ 20 := by rw [← NL.out]; exact (fewB_true hf).1
      clear hf
      go_wp2_with fail
      refine (HI.out.tg.commit (by rw [HI.out.seq]; have := HI.out.cnt; omega) (by have := HI.out.pend; omega) xa xn xc ls[k] HW.out.ws hn20).mono ?_
      rintro e w6 ⟨r, S6, D6, j6, d6, s6, t6, c6, rfl, h6, hp6, hr6⟩
      have H6 := Lib.hid h6
      have HP6 := Lib.hid hp6
      have HR6 := Lib.hid hr6
      clear h6 hp6 hr6 hcx
      go_upto_if 62 with (fail)
      go_cut [11] (fun cv W => ∃ (cnt6 : Nat) (f6 : Nat → List UInt8), cv = .int .u64 cnt6 ∧ Hid (TG w W p dp g S6 D6 j6 d6 s6 t6 c6 f6 ∧ j6.seq = cnt6 ∧ cnt6 ≤ k + 1 ∧ ∀ i, i < 6 → j6.B i = f6 i))
      case first =>
        rcases HR6.out with ⟨hr, hok, hs, hB⟩ | ⟨hr, hs, hB⟩
        · subst hr
          have HOK := Lib.hid hok
          have HS6 := Lib.hid hs
          have HB6 := Lib.hid hB
          clear hok hs hB
          have hcnt := HI.out.cnt
          have hcw : IntKind.u64.wrap ((cnt : Int) + 1) = (cnt : Int) + 1 := by rw [IntKind.wrap_u64]; omega
          go_wp2_with fail
          go_loopw [14] (fun b wr2 => ∃ m : Nat, m ≤ xn ∧ b = .int .i64 m ∧ Hid (TG w wr2 p dp g S6 D6 j6 d6 s6 t6 c6 (J.apl (J.asChg (ls[k].take m)) f))) (fun b _ => xn - (intOf b).toNat)
          case atStart => exact ⟨0, by omega, rfl, H6.out⟩
          case round =>
            obtain ⟨m, hm, rfl, HT⟩ := hrel
            have hcx := HX.out wr HT.out.ts.bel
            by_cases hlm : m < xn
            · have hml : m < ls[k].length := by rw [NL.out]; exact hlm
              have HOA := Lib.hid (okW_at HOK.out m hml)
              obtain ⟨y, HY⟩ : ∃ y : Nat, Hid ((y : Int) = ls[k][m].1) := ⟨ls[k][m].1.toNat, by show ((_ : Nat) : Int) = _; have := HOA.out.1; omega⟩
              have hy6 : y < 6 := by have h1 := HOA.out.2.1; have h2 := HY.out; omega
              have HUP : Hid (upd (J.apl (J.asChg (ls[k].take m)) f) y ls[k][m].2 = J.apl (J.asChg (ls[k].take (m + 1))) f) := upd_apl hml (by rw [← HY.out, Int.toNat_natCast]) f
              obtain ⟨bw, ow, z, hz, hz2⟩ := ws_held HW.out.ws m hlm hml y HY.out
              subst hz
              have HZ := Lib.hid hz2
              clear hz2
              generalize ls[k][m].2 = L at *
              go_upto_region 23 with (fail)
              have TD := Lib.hid (HT.out.below (Below.refl _ _).drew)
              obtain ⟨v1, v2, v3⟩ := HZ.out wr.drew TD.out.ts.bel
              have v0 := HX.out wr.drew TD.out.ts.bel
              have v4 := TD.out.row.cell hy6
              have v5 := TD.out.row.frozen y
              have HST := Lib.hid (TD.out.set hy6 L)
              rw [HUP.out] at HST
              have hy6i : (y : Int) < 6 := by omega
              have hmi : (m : Int) < (xn : Int) := by omega
              with_reducible refine wp_region_still_tail 19 (by kernel_rfl) (by kernel_rfl) ?_
              simp only [List.take_succ_cons, List.take_zero, List.drop_succ_cons, List.drop_zero]
              change wpStill _ _ (World.drew _) _ _ _
              iterate 19 still_step
              refine wpStill_nil ?_
              change wpList _ _ _ _ _ (World.drew _)
              go_wp2
              exact ⟨⟨m + 1, by omega, by go_num, HST.out⟩, by simp only [intOf]; omega⟩
            · obtain rfl : m = xn := by omega
              go_wp2_with fail
              go_meet
              case rel =>
                have e : ls[k].take m = ls[k] := List.take_of_length_le (by rw [NL.out]; exact Nat.le_refl _)
                have h := HT.out
                rw [e] at h
                exact ⟨cnt + 1, _, by push_cast; rfl, h, by rw [HS6.out, HI.out.seq], by omega, fun i hi => by rw [HB6.out]; exact J.apl_same _ _ (HI.out.B i hi)⟩
        · have HS6 := Lib.hid hs
          have HB6 := Lib.hid hB
          clear hs hB
          go_wp2_with fail
          go_meet
          case rel => exact ⟨cnt, f, rfl, H6.out, by rw [HS6.out, HI.out.seq], by have := HI.out.cnt; omega, fun i hi => by rw [HB6.out]; exact HI.out.B i hi⟩
      case rest =>
        obtain ⟨cnt6, f6, rfl, HC6⟩ := hcut
        rename_i wq
        have hp := HI.out.pend
        have HPB : Hid (d6.pend.length ≤ 48 + 50 * k) := by have := HP6.out; show _ ≤ _; omega
        clear hp HR6 HP6 H6
        obtain ⟨b1, o1, rfl, hcq⟩ := (H1.out.below HC6.out.1.ts.bel).2 (by omega)
        have hka : k < ag.length := by rw [H1.out.1]; omega
        have hc1 := hcq k hka
        clear hcq
        have hk1 : (k : Int) < (n1 : Int) := by omega
        have h26 := two_six ag[k]
        have HAG : Hid (∀ W, Below w.heap.size w W → W.cell? ⟨b1, o1 + k, none⟩ = some (.int .u8 (ag[k].toNat : Int))) := fun W hb => by
          obtain ⟨b2, o2, e2, hc2⟩ := (H1.out.below hb).2 (by omega)
          cases e2
          exact hc2 k hka
        generalize (ag[k].toNat : Int) = ak at *
        have H26 := Lib.hid h26
        clear h26
        go_upto_region 24 with (fail)
        go_cut [103] (fun v W => v = .bool false ∧ ∃ (S7 D7 : Nat → Prop) (j7 : J.JS) (d7 : DS) (s7 t7 : Nat) (c7 : List J.Chg), Hid (TG w W p dp g S7 D7 j7 d7 s7 t7 c7 f6 ∧ j7.seq = cnt6 ∧ d7.pend.length ≤ 49 + 50 * k ∧ ∀ i, i < 6 → j7.B i = f6 i))
        case first =>
          by_cases hb : bits BinOp.and IntKind.u8 ak 1 = 1
          · go_wp2_with fail
            refine (HC6.out.1.ckpt (by rw [HC6.out.2.1]; have := HC6.out.2.2.1; omega) (by have := HPB.out; omega)).mono ?_
            rintro e w7 ⟨rfl, S7, D7, j7, d7, s7, t7, c7, h7, hp7, hs7, hB7⟩
            have H7 : Hid (TG w w7 p dp g S7 D7 j7 d7 s7 t7 c7 f6 ∧ j7.seq = cnt6 ∧ d7.pend.length ≤ 49 + 50 * k ∧ ∀ i, i < 6 → j7.B i = f6 i) := ⟨h7, by rw [hs7, HC6.out.2.1], by have := HPB.out; omega, fun i hi => by rw [hB7]; exact HC6.out.2.2.2 i hi⟩
            clear h7 hp7 hs7 hB7
            go_wp2_with fail
            go_meet
            case rel => exact ⟨rfl, S7, D7, j7, d7, s7, t7, c7, H7.out⟩
          · go_wp2_with fail
            go_meet
            case rel => exact ⟨rfl, S6, D6, j6, d6, s6, t6, c6, HC6.out.1, HC6.out.2.1, by have := HPB.out; omega, HC6.out.2.2.2⟩
        case rest =>
          obtain ⟨rfl, S7, D7, j7, d7, s7, t7, c7, H7⟩ := hcut
          clear hc1
          have HC7 := Lib.hid H7.out.1.cd
          have hc1 := HAG.out _ H7.out.1.ts.bel
          go_upto_if 109 with (fail)
          go_cut [] (fun W => ∃ (D8 : Nat → Prop) (d8 : DS), Hid (CD w W p dp g S7 D8 j7 d8 s7 t7 c7 f6 ∧ d8.pend.length ≤ 49 + 50 * k) ∧ Hid (bits BinOp.and IntKind.u8 ak 2 = 2 ∨ TG w W p dp g S7 D8 j7 d8 s7 t7 c7 f6))
          case first =>
            by_cases hb : bits BinOp.and IntKind.u8 ak 2 = 2
            · go_wp2_with fail
              refine (H7.out.1.crash (by have := H7.out.2.2.1; omega)).mono ?_
              rintro e w8 ⟨⟨v8, rfl⟩, D8, h8⟩
              have H8 := Lib.hid h8
              clear h8
              go_wp2_with fail
              go_meet
              case rel => exact ⟨D8, _, ⟨H8.out, Nat.zero_le _⟩, .inl hb⟩
            · go_wp2_with fail
              go_meet
              case rel => exact ⟨D7, d7, ⟨HC7.out, H7.out.2.2.1⟩, .inr H7.out.1⟩
          case rest =>
            obtain ⟨D8, d8, H8, HV8⟩ := hcut
            clear hc1
            have hc1 := HAG.out _ H8.out.1.bel
            go_upto_if 117 with (fail)
            go_cut [8] (fun jv W => ∃ (q : Nat) (S9 D9 : Nat → Prop) (j9 : J.JS) (d9 : DS) (s9 t9 : Nat) (c9 : List J.Chg), jv = .pointer (some ⟨q, 0, none⟩) ∧ Hid (AgI w W q dp g (k + 1) cnt6 S9 D9 j9 d9 s9 t9 c9 f6))
            case first =>
              by_cases hb : 0 < bits BinOp.and IntKind.u8 ak 6
              · go_wp2_with fail
                refine (used_any H8.out.1.jd.jm).mono ?_
                rintro e w9 ⟨rfl, rfl⟩
                go_wp2_with fail
                refine (H8.out.1.open (by have := H8.out.2; omega) (by rw [H7.out.2.1]; have := HC6.out.2.2.1; omega)).mono ?_
                rintro e w10 ⟨q, S9, D9, j9, d9, rfl, h9, hB9, hp9, hs9, hu9⟩
                have H9 : Hid (AgI w w10 q dp g (k + 1) cnt6 S9 D9 j9 d9 s7 t7 c7 f6) := ⟨h9, by rw [hs9, H7.out.2.1], HC6.out.2.2.1, by have := H8.out.2; omega, fun i hi => by rw [hB9 i hi]; exact H7.out.2.2.2 i hi⟩
                have HU9 := Lib.hid hu9
                clear h9 hB9 hp9 hs9 hu9
                go_wp2_with fail
                refine (used_any H9.out.tg.ts.live.jd.jm).mono ?_
                rintro e w11 ⟨rfl, rfl⟩
                rw [HU9.out]
                go_wp2_with fail
                go_meet
                case rel => exact ⟨q, S9, D9, j9, d9, s7, t7, c7, rfl, H9.out⟩
              · have HT8 : Hid (TG w wc p dp g S7 D8 j7 d8 s7 t7 c7 f6) := HV8.out.elim (fun h => absurd (H26.out h) hb) id
                go_wp2_with fail
                go_meet
                case rel => exact ⟨p, S7, D8, j7, d8, s7, t7, c7, rfl, HT8.out, H7.out.2.1, HC6.out.2.2.1, by have := H8.out.2; omega, H7.out.2.2.2⟩
            case rest =>
              obtain ⟨q, S9, D9, j9, d9, s9, t9, c9, rfl, H9⟩ := hcut
              clear hc1
              go_wp2_with fail
              refine (seq_any H9.out.tg.ts.live.jd).mono ?_
              rintro e w11 ⟨rfl, rfl⟩
              rw [H9.out.seq]
              go_wp2_with fail
              go_loopw [16] (fun b wr => ∃ m : Nat, m ≤ 6 ∧ b = .int .i64 m ∧ Hid (AgI w wr q dp g (k + 1) cnt6 S9 D9 j9 d9 s9 t9 c9 f6)) (fun b _ => 6 - (intOf b).toNat)
              case atStart => exact ⟨0, by omega, rfl, H9.out⟩
              case round =>
                obtain ⟨m, hm, rfl, HM⟩ := hrel
                by_cases hlm : m < 6
                · have hmi : (m : Int) < 6 := by omega
                  go_upto_region 38 with (fail)
                  have HBM : Hid (j9.B m = f6 m) := HM.out.B m hlm
                  have HL96 : Hid ((j9.B m).length ≤ 96) := HM.out.tg.ts.live.inv.lens m (by rw [HM.out.tg.ts.nb]; exact hlm)
                  have I0 := Lib.hid (HM.out.below (Below.refl _ _).drew)
                  go_region_held (fun W => W.cell? ⟨g, m, none⟩ = some (.string (txt (f6 m))))
                    (first | exact I0.out.tg.row.cell hlm | exact I1.out.tg.row.cell hlm)
                    (first
                      | (go_at_call 16
                         refine (readJ_any (Hid.out (p := AgI w _ q dp g (k + 1) cnt6 S9 D9 j9 d9 s9 t9 c9 f6) (by assumption)).tg.ts.live.jd.jm m (by rw [HM.out.tg.ts.nb]; exact hlm) HL96.out).mono ?_
                         rintro e w21 ⟨A7, n7, c7, rfl, hb7, -, -, hw7⟩
                         have I1 : Hid (AgI w w21 q dp g (k + 1) cnt6 S9 D9 j9 d9 s9 t9 c9 f6) := AgI.below (Hid.out (by assumption)) hw7
                         rw [HBM.out] at hb7
                         have v7 := run_convert_bs w21 A7 n7 c7 (f6 m) hb7
                         clear hb7 hw7))
                  all_goals
                    go_wp2
                    exact ⟨⟨m + 1, by omega, by go_num, I1.out⟩, by simp only [intOf]; omega⟩
                · obtain rfl : m = 6 := by omega
                  go_wp2
                  go_roundw
                  case rel => exact ⟨k + 1, cnt6, q, by omega, by go_num, rfl, rfl, S9, D9, j9, d9, s9, t9, c9, f6, HM.out⟩
                  case measure => simp [intOf]; omega
    · go_wp2_with fail
      refine (commit_nil wr none 0 0).mono ?_
      rintro e w5 ⟨rfl, rfl⟩
      go_wp2_with fail
      refine (checkpoint_nil wr).mono ?_
      rintro e w6 ⟨rfl, rfl⟩
      go_wp2_with fail
      refine (readJ_nil wr 0).mono ?_
      rintro e w7 ⟨rfl, rfl⟩
      go_wp2_with fail
      refine (all_nil wr).mono ?_
      rintro e w8 ⟨rfl, rfl⟩
      go_wp2_with fail
      refine (used_nil wr).mono ?_
      rintro e w9 ⟨rfl, rfl⟩
      go_wp2_with fail
      refine (seq_nil wr).mono ?_
      rintro e w10 ⟨rfl, rfl⟩
      go_wp2_with fail
      refine (err_nil wr).mono ?_
      rintro e w11 ⟨rfl, rfl⟩
      go_wp2
      go_ret
      exact ⟨rfl, HI.out.tg.ts.bel⟩
end Go.Proofs.Ytpjcdnfnghekcaa
