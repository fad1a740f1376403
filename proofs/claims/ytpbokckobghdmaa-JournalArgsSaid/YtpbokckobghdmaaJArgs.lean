/-
  The law of arguments.
-/
import Derived.Test.YtpbokckobghdmaaJArgsM
import Derived.Deep.DeepCutAuto
namespace Go.Proofs.Ytpbokckobghdmaa
open Go.RowKit

theorem ite_noA {c a b : Prop} [Decidable c] (hc : ¬ c) (hb : b) : if c then a else b := by rw [if_neg hc]; exact hb
theorem wrap_i64_A (z : Nat) (h : z < 256) : IntKind.i64.wrap (z : Int) = (z : Int) := by
  have e : (z : Int) % (2 ^ 64 : Int) = (z : Int) := by omega
  show (if true && decide ((z : Int) % (2 ^ 64 : Int) ≥ (2 ^ 63 : Int)) then (z : Int) % (2 ^ 64 : Int) - (2 ^ 64 : Int) else (z : Int) % (2 ^ 64 : Int)) = _
  rw [e, if_neg (by simp; omega)]
set_option maxRecDepth 100000 in
set_option maxHeartbeats 4000000 in
theorem args_any (w : World) (A : Option Addr) (n c : Nat) (l : List (Int × List UInt8)) (log nb : Int) (hw : WS w (fun k => k < w.heap.size) A n l) (hn : n ≤ maxLen) (hb : ∀ x ∈ l, x.2.length ≤ maxLen) :
    Calls Try.prog 7 #[.slice A n c, .int .i64 log, .int .i64 nb] w fun e w' => e = .returned (.bool true) ∧ Below w.heap.size w w' := by
  have HW := Lib.hid hw
  have Hn : Hid (l.length = n) := hw.1
  have HM := Lib.hid hb
  clear hw hb
  unfold maxLen at hn
  go_enter Try.func7, Try.ntmps7
  go_wp2_with fail
  refine (awake_any w).mono ?_
  rintro e w1 ⟨rfl, hb1⟩
  have HB1 := Lib.hid hb1
  clear hb1
  go_wp2_with fail
  refine (few_any w1 _ A n c l (HW.out.keepK ((Keep.of_below HB1.out).mono fun _ hk => hk)) (by omega) (fun x hx => by have := HM.out x hx; unfold maxLen at this; omega)).mono ?_
  rintro e w2 ⟨rfl, rfl⟩
  cases hf : fewB l with
  | false =>
    go_wp2
    go_ret
    exact ⟨rfl, HB1.out⟩
  | true =>
    have HFW := Lib.hid (fewB_true hf)
    have hn20 : n ≤ 20 := by rw [← Hn.out]; exact HFW.out.1
    clear hf
    go_wp2_with fail
    refine (new_any 40 w1 (by omega) (by omega)).mono ?_
    rintro e w2 ⟨dp, D2, rfl, hd2, hb2, hD2⟩
    have HD2 := Lib.hid hd2
    have HB2 := Lib.hid (HB1.out.trans (hb2.mono HB1.out.size))
    have HN2 : Hid (∀ k, D2 k → w.heap.size ≤ k) := fun k hk => Nat.le_trans HB1.out.size (hD2 k hk)
    clear hd2 hb2 hD2
    generalize w1.heap.size = db at HD2
    go_wp2_with fail
    refine (open_either HD2.out log nb).mono ?_
    rintro e w3 ⟨v3, D3, rfl, hd3, hf3, hD3⟩
    have HD3 := Lib.hid hd3
    have HB3 : Hid (Below w.heap.size w w3) := HB2.out.trans (hf3.below HB2.out.size HN2.out)
    have HN3 : Hid (∀ k, D3 k → w.heap.size ≤ k) := fun k hk => (hD3 k hk).elim (HN2.out k) fun h => Nat.le_trans HB2.out.size h
    clear hd3 hf3 hD3
    obtain ⟨my, HMY⟩ : ∃ my, Hid (my = mayO log nb) := ⟨_, Lib.hid rfl⟩
    rw [← HMY.out]
    obtain ⟨er, HER⟩ : ∃ er : Int, Hid (er = if my = true then 0 else 1) := ⟨_, Lib.hid rfl⟩
    rw [← HER.out]
    go_upto_region 9 with (fail)
    go_cut [13] (fun s13 W => s13 = .bool my ∧ w3 = W)
    case first =>
      by_cases a1 : 4 ≤ log
      · by_cases a2 : log ≤ 39
        · by_cases a3 : 1 ≤ nb
          · by_cases a4 : nb ≤ 39
            · have e1 : decide (4 ≤ log) = true := by simpa using a1
              have e2 : decide (log ≤ 39) = true := by simpa using a2
              have e3 : decide (1 ≤ nb) = true := by simpa using a3
              have e4 : decide (nb ≤ 39) = true := by simpa using a4
              have HF : Hid (my = decide (1 + log + nb ≤ 40)) := by show _ = _; rw [HMY.out]; unfold mayO; rw [e1, e2, e3, e4]; simp
              go_wp2_with fail
              go_meet
              case rel => exact ⟨by rw [HF.out], rfl⟩
            · have e1 : decide (4 ≤ log) = true := by simpa using a1
              have e2 : decide (log ≤ 39) = true := by simpa using a2
              have e3 : decide (1 ≤ nb) = true := by simpa using a3
              have e4 : decide (nb ≤ 39) = false := by simpa using a4
              have HF : Hid (my = false) := by show _ = _; rw [HMY.out]; unfold mayO; rw [e1, e2, e3, e4]; simp
              go_wp2_with fail
              go_meet
              case rel => exact ⟨by rw [HF.out], rfl⟩
          · have e1 : decide (4 ≤ log) = true := by simpa using a1
            have e2 : decide (log ≤ 39) = true := by simpa using a2
            have e3 : decide (1 ≤ nb) = false := by simpa using a3
            have HF : Hid (my = false) := by show _ = _; rw [HMY.out]; unfold mayO; rw [e1, e2, e3]; simp
            go_wp2_with fail
            go_meet
            case rel => exact ⟨by rw [HF.out], rfl⟩
        · have e1 : decide (4 ≤ log) = true := by simpa using a1
          have e2 : decide (log ≤ 39) = false := by simpa using a2
          have HF : Hid (my = false) := by show _ = _; rw [HMY.out]; unfold mayO; rw [e1, e2]; simp
          go_wp2_with fail
          go_meet
          case rel => exact ⟨by rw [HF.out], rfl⟩
      · have e1 : decide (4 ≤ log) = false := by simpa using a1
        have HF : Hid (my = false) := by show _ = _; rw [HMY.out]; unfold mayO; rw [e1]; simp
        go_wp2_with fail
        go_meet
        case rel => exact ⟨by rw [HF.out], rfl⟩
    case rest =>
      obtain ⟨rfl, rfl⟩ := hcut
      go_upto_region 10 with (fail)
      go_cut [70] (fun s70 W => s70 = .bool false ∧ w3 = W)
      case first =>
        have her := HER.out
        cases my with
        | true =>
          rw [if_pos rfl] at her
          subst her
          go_wp2_with fail
          go_meet
          case rel => exact ⟨rfl, rfl⟩
        | false =>
          rw [if_neg (by decide)] at her
          subst her
          go_wp2_with fail
          go_meet
          case rel => exact ⟨rfl, rfl⟩
      case rest =>
        obtain ⟨rfl, rfl⟩ := hcut
        go_wp2_with fail
        refine (open_fresh HD3.out 20 6 (by omega) (by omega) (by omega) (by omega) (by omega)).mono ?_
        rintro e w4 ⟨p, S4, D4, j4, rfl, hl4, hg4, hn4, hB4, hf4, hS4, hD4⟩
        have HA : Hid (ArI w w4 p dp db S4 D4 j4) := ⟨hl4, hg4, hn4, hB4, HB3.out.trans (hf4.below HB3.out.size HN3.out), fun k hk => hk.elim (fun h => Nat.le_trans HB3.out.size (hS4 k h)) fun h => (hD4 k h).elim (HN3.out k) fun h => Nat.le_trans HB3.out.size h⟩
        clear hl4 hg4 hn4 hB4 hf4 hS4 hD4 HD2 HD3 HB2 HN2 HN3 HB3 HMY HER
        go_upto_region 16 with (fail)
        obtain ⟨fb0, HE0⟩ : ∃ fb0, Hid (fb0 = decide (0 < n)) := ⟨_, Lib.hid rfl⟩
        rw [← HE0.out]
        go_wp2_with fail
        go_loopw [16, 17] (fun f i wr => ∃ (k : Nat) (fb : Bool), k ≤ n ∧ i = .int .i64 k ∧ f = .bool fb ∧ Hid (fb = finB l k) ∧ Hid (ArI w wr p dp db S4 D4 j4)) (fun _ i _ => n - (intOf i).toNat)
        case atStart => exact ⟨0, fb0, by omega, rfl, rfl, by show _ = decide (0 < l.length); rw [HE0.out, Hn.out], HA.out⟩
        case round =>
          obtain ⟨k, fb, hk, rfl, rfl, HFB, HI⟩ := hrel
          by_cases hlt : k < n
          · have HFS := Lib.hid (finB_step l k (by rw [Hn.out]; exact hlt))
            have hki : (k : Int) < (n : Int) := by omega
            obtain ⟨b, o, x, hkl, rfl, -, g1, g2, g3, -, -⟩ := (HI.out.ws HW.out).at k hlt
            have HXN : Hid (l[k].2.length = x.n) := g3.1
            rw [HXN.out, ← HFB.out] at HFS
            have HPV := Lib.hid (prevA_succ l)
            clear g3
            generalize l[k].1 = v at *
            cases fb with
            | false =>
              have HR : Hid (false = finB l (k + 1)) := by show _ = _; rw [HFS.out]; simp
              go_wp2_with fail
              with_reducible refine wp_region_still_lit (by kernel_rfl) (by kernel_rfl) ?_
              change wpStill _ _ (World.drew _) _ _ _
              iterate 45 (with_reducible refine wpStill_step (fun K hK => ?_); go_simp; first | with_reducible refine hK _ ?_ | with_reducible refine ite_noA (by decide) (hK _ ?_); clear hK K)
              with_reducible refine wpStill_nil ?_
              go_wp2
              exact ⟨⟨k + 1, false, by omega, by go_num, rfl, HR.out, HI.out.below (Below.refl _ _).drew⟩, by simp only [intOf]; omega⟩
            | true =>
              by_cases d1 : 0 ≤ v
              · have e1 : decide (0 ≤ v) = true := by simpa using d1
                by_cases d2 : v < 6
                · have e2 : decide (v < 6) = true := by simpa using d2
                  by_cases d3 : x.n ≤ 96
                  · have e3 : decide ((x.n : Int) ≤ 96) = true := by simp; omega
                    by_cases d4 : k = 0
                    · subst d4
                      simp only [Nat.zero_mul, Nat.add_zero] at g1 g2
                      have HR : Hid (true = finB l (0 + 1)) := by show _ = _; rw [HFS.out]; rw [e1, e2, decide_eq_true d3]; rfl
                      go_wp2_with fail
                      with_reducible refine wp_region_still_lit (by kernel_rfl) (by kernel_rfl) ?_
                      change wpStill _ _ (World.drew _) _ _ _
                      iterate 45 (with_reducible refine wpStill_step (fun K hK => ?_); go_simp; first | with_reducible refine hK _ ?_ | with_reducible refine ite_noA (by decide) (hK _ ?_); clear hK K)
                      with_reducible refine wpStill_nil ?_
                      go_wp2
                      exact ⟨⟨1, true, by omega, by go_num, rfl, HR.out, HI.out.below (Below.refl _ _).drew⟩, by simp only [intOf]; omega⟩
                    · obtain ⟨k1, hk1⟩ : ∃ k1 : Nat, k = k1 + 1 := ⟨k - 1, by omega⟩
                      have km : (k : Int) - 1 = (k1 : Int) := by omega
                      have kw : IntKind.i64.wrap (k1 : Int) = (k1 : Int) := wrap_i64_A k1 (by omega)
                      have k0 : ¬ (k = 0) := d4
                      have kb : ((k : Int) == 0) = false := by simpa using d4
                      have k1n : (k1 : Int) < (n : Int) := by omega
                      obtain ⟨b', o', x', hkl', hbo, -, g1', -, -, -, -⟩ := (HI.out.ws HW.out).at k1 (by omega)
                      obtain ⟨rfl, rfl⟩ : b = b' ∧ o = o' := by cases hbo; exact ⟨rfl, rfl⟩
                      have HPK : Hid (prevA l k = l[k1].1) := by show _ = _; rw [hk1]; exact HPV.out k1 hkl'
                      rw [HPK.out, decide_eq_false d4] at HFS
                      clear hbo d4
                      have HK1 := Lib.hid hk1
                      clear hk1
                      generalize l[k1].1 = v' at *
                      by_cases d5 : v' < v
                      · have e5 : decide (v' < v) = true := by simpa using d5
                        have HR : Hid (true = finB l (k + 1)) := by show _ = _; rw [HFS.out]; rw [e1, e2, decide_eq_true d3, e5]; rfl
                        go_wp2_with fail
                        with_reducible refine wp_region_still_lit (by kernel_rfl) (by kernel_rfl) ?_
                        change wpStill _ _ (World.drew _) _ _ _
                        iterate 45 (with_reducible refine wpStill_step (fun K hK => ?_); go_simp; first | with_reducible refine hK _ ?_ | with_reducible refine ite_noA (by decide) (hK _ ?_); clear hK K)
                        with_reducible refine wpStill_nil ?_
                        go_wp2
                        exact ⟨⟨k + 1, true, by omega, by go_num, rfl, HR.out, HI.out.below (Below.refl _ _).drew⟩, by simp only [intOf]; omega⟩
                      · have e5 : decide (v' < v) = false := by simpa using d5
                        have HR : Hid (false = finB l (k + 1)) := by show _ = _; rw [HFS.out]; rw [e5]; simp
                        go_wp2_with fail
                        with_reducible refine wp_region_still_lit (by kernel_rfl) (by kernel_rfl) ?_
                        change wpStill _ _ (World.drew _) _ _ _
                        iterate 45 (with_reducible refine wpStill_step (fun K hK => ?_); go_simp; first | with_reducible refine hK _ ?_ | with_reducible refine ite_noA (by decide) (hK _ ?_); clear hK K)
                        with_reducible refine wpStill_nil ?_
                        go_wp2
                        exact ⟨⟨k + 1, false, by omega, by go_num, rfl, HR.out, HI.out.below (Below.refl _ _).drew⟩, by simp only [intOf]; omega⟩
                  · have e3 : decide ((x.n : Int) ≤ 96) = false := by simp; omega
                    have HR : Hid (false = finB l (k + 1)) := by show _ = _; rw [HFS.out]; rw [decide_eq_false d3]; simp
                    go_wp2_with fail
                    with_reducible refine wp_region_still_lit (by kernel_rfl) (by kernel_rfl) ?_
                    change wpStill _ _ (World.drew _) _ _ _
                    iterate 45 (with_reducible refine wpStill_step (fun K hK => ?_); go_simp; first | with_reducible refine hK _ ?_ | with_reducible refine ite_noA (by decide) (hK _ ?_); clear hK K)
                    with_reducible refine wpStill_nil ?_
                    go_wp2
                    exact ⟨⟨k + 1, false, by omega, by go_num, rfl, HR.out, HI.out.below (Below.refl _ _).drew⟩, by simp only [intOf]; omega⟩
                · have e2 : decide (v < 6) = false := by simpa using d2
                  have HR : Hid (false = finB l (k + 1)) := by show _ = _; rw [HFS.out]; rw [e2]; simp
                  go_wp2_with fail
                  with_reducible refine wp_region_still_lit (by kernel_rfl) (by kernel_rfl) ?_
                  change wpStill _ _ (World.drew _) _ _ _
                  iterate 45 (with_reducible refine wpStill_step (fun K hK => ?_); go_simp; first | with_reducible refine hK _ ?_ | with_reducible refine ite_noA (by decide) (hK _ ?_); clear hK K)
                  with_reducible refine wpStill_nil ?_
                  go_wp2
                  exact ⟨⟨k + 1, false, by omega, by go_num, rfl, HR.out, HI.out.below (Below.refl _ _).drew⟩, by simp only [intOf]; omega⟩
              · have e1 : decide (0 ≤ v) = false := by simpa using d1
                have HR : Hid (false = finB l (k + 1)) := by show _ = _; rw [HFS.out]; rw [e1]; simp
                go_wp2_with fail
                with_reducible refine wp_region_still_lit (by kernel_rfl) (by kernel_rfl) ?_
                change wpStill _ _ (World.drew _) _ _ _
                iterate 45 (with_reducible refine wpStill_step (fun K hK => ?_); go_simp; first | with_reducible refine hK _ ?_ | with_reducible refine ite_noA (by decide) (hK _ ?_); clear hK K)
                with_reducible refine wpStill_nil ?_
                go_wp2
                exact ⟨⟨k + 1, false, by omega, by go_num, rfl, HR.out, HI.out.below (Below.refl _ _).drew⟩, by simp only [intOf]; omega⟩
          · obtain rfl : k = n := by omega
            go_wp2_with fail
            have HOK : Hid (fb = J.okW 6 l) := by
              show _ = _
              rw [HFB.out, ← Hn.out]
              exact finB_ok l (by have := Hn.out; omega)
            cases fb with
            | true =>
              have HL6 := Lib.hid (okW_len HOK.out.symm)
              refine (HI.out.live.commitOk (DS.new_calm _ _) (by have : j4.seq = 0 := HI.out.live.seq; omega) (by show (0 : Nat) ≤ _; omega) _ A k c l (HI.out.ws HW.out) HI.out.off (by omega) (by rw [HI.out.nb]; exact HOK.out.symm) (by have := HI.out.log; have := HL6.out; omega)).mono ?_
              rintro e w6 ⟨rfl, j6, d6, s6, t6, c6, ⟨S6, D6, l6, f6, hS6, hD6⟩, -, -, -, -, q5, -, -⟩
              have HJ6 := Lib.hid l6.jd
              have HS6 : Hid (j6.seq = 1) := by have : j4.seq = 0 := HI.out.live.seq; show _ = _; omega
              have HB6 : Hid (Below w.heap.size w w6) := HI.out.bel.trans (f6.below HI.out.bel.size HI.out.hS)
              clear l6 f6 hS6 hD6 q5
              go_wp2_with fail
              refine (seq_any HJ6.out).mono ?_
              rintro e w7 ⟨rfl, rfl⟩
              rw [HS6.out]
              go_wp2
              go_ret
              exact ⟨rfl, HB6.out⟩
            | false =>
              refine (HI.out.live.commitNo (by have : j4.seq = 0 := HI.out.live.seq; omega) (by show (0 : Nat) ≤ _; omega) _ A k c l (HI.out.ws HW.out) HI.out.off (by omega) (by rw [HI.out.nb]; exact HOK.out.symm)).mono ?_
              rintro e w6 ⟨rfl, l6⟩
              obtain ⟨S6, D6, h6⟩ := HI.out.same l6
              have HA6 := Lib.hid h6
              clear l6 h6
              go_wp2_with fail
              go_loopw [19] (fun i wr => ∃ m : Nat, m ≤ 6 ∧ i = .int .i64 m ∧ Hid (ArI w wr p dp db S6 D6 j4)) (fun i _ => 6 - (intOf i).toNat)
              case atStart => exact ⟨0, by omega, rfl, HA6.out⟩
              case round =>
                obtain ⟨m, hm, rfl, HM6⟩ := hrel
                by_cases hm6 : m < 6
                · have hmi : (m : Int) < 6 := by omega
                  go_wp2_with fail
                  refine (readJ_any HM6.out.live.jd.jm m (by rw [HM6.out.nb]; exact hm6) (by rw [HM6.out.B m hm6]; simp)).mono ?_
                  rintro e w8 ⟨A8, n8, c8, rfl, hb8, -, -, hw8⟩
                  rw [HM6.out.B m hm6] at hb8
                  obtain rfl : n8 = 0 := hb8.1.symm
                  have HM8 := Lib.hid (HM6.out.below hw8)
                  clear hb8 hw8
                  go_wp2
                  exact ⟨⟨m + 1, by omega, by go_num, HM8.out⟩, by simp only [intOf]; omega⟩
                · obtain rfl : m = 6 := by omega
                  have hs0 : j4.seq = 0 := HM6.out.live.seq
                  have hu0 : j4.used = 0 := HM6.out.live.inv.used
                  have he0 : j4.err = 0 := HM6.out.live.err
                  have HS0 := Lib.hid (And.intro hs0 (And.intro hu0 he0))
                  clear hs0 hu0 he0
                  go_wp2_with fail
                  refine (seq_any HM6.out.live.jd).mono ?_
                  rintro e w7 ⟨rfl, rfl⟩
                  rw [HS0.out.1]
                  go_wp2_with fail
                  refine (used_any HM6.out.live.jd.jm).mono ?_
                  rintro e w7 ⟨rfl, rfl⟩
                  rw [HS0.out.2.1]
                  go_wp2_with fail
                  refine (err_any HM6.out.live.jd.jm).mono ?_
                  rintro e w7 ⟨rfl, rfl⟩
                  rw [HS0.out.2.2]
                  go_wp2_with fail
                  refine (waits_any _ _ _ _ HM6.out.live.jd.dk).mono ?_
                  rintro e w7 ⟨rfl, rfl⟩
                  go_wp2
                  go_ret
                  exact ⟨rfl, HM6.out.bel⟩
end Go.Proofs.Ytpbokckobghdmaa
