/-
  TxnPlays walked (layer 10).
-/
import Derived.Test.YtnjkcodegcojcaaTPlaysM
import Derived.Deep.DeepCutAuto
import Derived.Deep.CutBlock
namespace Go.Proofs.Ytnjkcodegcojcaa
open Go.RowKit

theorem weakenH {P : Program} {md : Region.Mode} {ops : Array Oper} {Q : Exit → Act → World → Prop} {S S' : World → Prop} (hS : ∀ W, S' W → S W) : ∀ (fuel : Nat) (listed : Array Bool) (a : Act) (w : World), wpAnyH P md ops Q S' fuel listed a w → wpAnyH P md ops Q S fuel listed a w
  | 0, _, _, _, h => h
  | fuel + 1, _, _, _, h => ⟨h.1, fun i hi => wpOp_mono (fun a' w' h' => ⟨hS _ h'.1, weakenH hS fuel _ a' w' h'.2⟩) (h.2 i hi)⟩
theorem wasL_new {ls : List (List UInt8)} {n : Nat} (h : ls.length = n) : wasL (TX.new ls) n = ls := by
  apply List.ext_getElem
  · simp [wasL, h]
  · intro j h1 h2
    simp [wasL, TX.get, TX.new, TX.was, List.getD, h2]
set_option maxRecDepth 100000 in
set_option maxHeartbeats 4000000 in
theorem plays_walk (A C : Option Addr) (n c ns cs : Nat) (ls : List (List UInt8)) (w : World) (hA : RP w A n ls) (hC : AC w C ns) (hns : ns ≤ maxLen) :
    Calls Try.prog 3 #[.slice A n c, .slice C ns cs] w fun e w' => e = .returned (.bool true) ∧ Below w.heap.size w w' := by
  have HA := Lib.hid hA
  have HC := Lib.hid hC
  clear hA hC
  have HNS := Lib.hid hns
  clear hns
  by_cases q0n : 20 < n
  · have q0 : decide ((20 : Int) < (n : Int)) = true := by simp; omega
    go_enter Try.func3, Try.ntmps3
    go_wp2_with fail
    refine (awake_any w).mono ?_
    rintro e w1 ⟨rfl, hb1⟩
    have HW1 := Lib.hid hb1
    clear hb1
    go_wp2_with fail
    go_ret
    exact ⟨rfl, HW1.out⟩
  have q0 : decide ((20 : Int) < (n : Int)) = false := by simp; omega
  have n20 : n ≤ 20 := by omega
  clear q0n
  go_enter Try.func3, Try.ntmps3
  go_wp2_with fail
  refine (awake_any w).mono ?_
  rintro e w1 ⟨rfl, hb1⟩
  have HW1 := Lib.hid hb1
  clear hb1
  go_wp2_with fail
  clear q0
  go_loop [6] (fun i => ∃ k : Nat, k ≤ n ∧ i = .int .i64 k ∧ Hid (∀ j, j < k → (ls.getD j []).length ≤ 200)) (fun i => n - (intOf i).toNat)
  case atStart => exact ⟨0, by omega, rfl, fun j hj => by omega⟩
  case round =>
    obtain ⟨k, hk, rfl, HL⟩ := hrel
    by_cases hlt : k < n
    · obtain ⟨b, o, x, rfl, hc, hx⟩ := HA.out.at HW1.out hlt
      have HX := Lib.hid hx
      clear hx
      by_cases h96 : 200 < x.n
      · have q : decide ((200 : Int) < (x.n : Int)) = true := by simp; omega
        go_wp2_with fail
        go_ret
        exact ⟨rfl, HW1.out⟩
      · have q : decide ((200 : Int) < (x.n : Int)) = false := by simp; omega
        have HL1 : Hid (∀ j, j < k + 1 → (ls.getD j []).length ≤ 200) := fun j hj => by
          by_cases e : j = k
          · subst e; rw [HX.out.1]; omega
          · exact HL.out j (by omega)
        go_wp2_with fail
        go_round
        case rel => exact ⟨k + 1, by omega, by go_num, HL1⟩
        case measure => simp [intOf]; omega
    · obtain rfl : n = k := by omega
      have HRI := Lib.hid (HA.out.ri fun j hj => le_big47 (Nat.le_trans (HL.out j hj) (by omega)))
      have HLL : Hid (ls.length = n) := HA.out.len
      clear HL HA
      go_wp2_with fail
      refine (new_any A n c ls w1 (HRI.out.below HW1.out) (by omega)).mono ?_
      rintro e w2 ⟨g, m, p, rfl, h1, h2, -, -⟩
      have HT2 : Hid (Tq w2 p m ⟨some ⟨g, 0, none⟩, n, n⟩ (fun z => w.heap.size ≤ z) (TX.new ls)) := h1.mono fun z hz => Nat.le_trans HW1.out.size hz
      have HB2 := Lib.hid (HW1.out.trans (h2.mono HW1.out.size))
      clear h1 h2
      go_wp2_with fail
      refine (fork_any HT2.out fun z hz => Nat.le_trans HB2.out.size hz).mono ?_
      intro e w3 hf
      obtain ⟨q, mq, rfl, h3⟩ := T2.of_fork HT2.out HB2.out hf
      have HT3 := Lib.hid h3
      clear hf h3 HT2 HB2
      go_wp2_with fail
      refine (texts_any A n c ls w3 (HRI.out.below HT3.out.bel) (by omega)).mono ?_
      rintro e w4 ⟨A4, c4, rfl, h4, hb4⟩
      have HT4 := Lib.hid (HT3.out.below hb4)
      have HS4 : Hid (TS w4 A4 n ls) := by have := h4.ts; rwa [HLL.out] at this
      clear h4 hb4 HT3
      go_wp2_with fail
      refine (refNew_any A4 n c4 w4).mono ?_
      rintro e w5 ⟨rfl, hb5⟩
      have HT5 := Lib.hid (HT4.out.below hb5)
      have HS5 := Lib.hid (HS4.out.below hb5)
      clear hb5 HT4 HS4
      unfold TV
      have HP0 : Hid (PlI w ((w5.alloc (.cells #[.slice A4 n c4, .slice A4 n c4] 31)).alloc (.cells #[.slice A4 n c4, .slice A4 n c4] 31)) ls n p m ⟨some ⟨g, 0, none⟩, n, n⟩ q mq w5.heap.size (w5.heap.size + 1) (TX.new ls) (TX.new ls) (TX.new ls) (TX.new ls)) := by
        have hb : Below w5.heap.size w5 ((w5.alloc (.cells #[.slice A4 n c4, .slice A4 n c4] 31)).alloc (.cells #[.slice A4 n c4, .slice A4 n c4] 31)) := ((Below.refl _ _).alloc (Nat.le_refl _) _).alloc (by rw [World.size_alloc]; omega) _
        have hr : RT ((w5.alloc (.cells #[.slice A4 n c4, .slice A4 n c4] 31)).alloc (.cells #[.slice A4 n c4, .slice A4 n c4] 31)) n ⟨A4, n, c4⟩ ⟨A4, n, c4⟩ (TX.new ls) := ⟨HLL.out, rfl, rfl, HS5.out.below hb, by rw [wasL_new HLL.out]; exact HS5.out.below hb⟩
        have h1 := heap_alloc_new (w5.alloc (.cells #[.slice A4 n c4, .slice A4 n c4] 31)) (.cells #[.slice A4 n c4, .slice A4 n c4] 31)
        rw [World.size_alloc] at h1
        have h0 := (Below.heap_alloc (w5.alloc (.cells #[.slice A4 n c4, .slice A4 n c4] 31)) (.cells #[.slice A4 n c4, .slice A4 n c4] 31) w5.heap.size (by rw [World.size_alloc]; omega)).trans (heap_alloc_new w5 (.cells #[.slice A4 n c4, .slice A4 n c4] 31))
        have hz := HT5.out.bel.size
        exact ⟨HT5.out.below hb, rfl, rfl, rfl, ⟨⟨A4, n, c4⟩, ⟨A4, n, c4⟩, h0, hr⟩, ⟨⟨A4, n, c4⟩, ⟨A4, n, c4⟩, h1, hr⟩, hz, by omega, by omega⟩
      clear HT5 HS5
      go_wp2_with fail
      generalize (w5.alloc (.cells #[.slice A4 n c4, .slice A4 n c4] 31)).alloc (.cells #[.slice A4 n c4, .slice A4 n c4] 31) = w6 at *
      obtain ⟨bv, hbv⟩ : ∃ bv, w5.heap.size = bv := ⟨_, rfl⟩
      rw [hbv] at HP0 ⊢
      clear hbv
      obtain ⟨bw, hbw⟩ : ∃ bw, bv + 1 = bw := ⟨_, rfl⟩
      rw [hbw] at HP0 ⊢
      clear hbw
      go_loopw [8, 11] (fun bp i wr => ∃ (k q mq m : Nat) (X Y : TX), k ≤ 40 ∧ k ≤ ns ∧ i = .int .i64 k ∧ bp = .pointer (some ⟨q, 0, none⟩) ∧ Hid (PlI w wr ls n p m ⟨some ⟨g, 0, none⟩, n, n⟩ q mq bv bw X Y X Y)) (fun _ i _ => 40 - (intOf i).toNat)
      case atStart => exact ⟨0, q, mq, m, _, _, by omega, by omega, rfl, rfl, HP0⟩
      case round =>
        clear HP0
        obtain ⟨k, q, mq, m, X, Y, hk40, hkn, rfl, rfl, HI⟩ := hrel
        rename World => wr
        by_cases hlt : k < ns
        · by_cases h40 : k < 40
          · have hd40 : decide ((k : Int) < 40) = true := by simp; omega
            obtain ⟨b, o, kd, ix, B, nb, cb, L, rfl, g1, g2, g3, hL0, hL, hnb, -, hix⟩ := HC.out.at HI.out.bel hlt
            have HL := Lib.hid hL
            have HL0 := Lib.hid hL0
            have hnb' : nb ≤ 120 ∨ 120 < nb := by omega
            clear hL hL0 hnb
            have HI1 := Lib.hid (HI.out.below ((Below.refl _ _).alloc (Nat.le_refl _) (.cells #[.int .i64 kd, .int .i64 ix, .slice B nb cb] 35)))
            have HA1 : Hid ((wr.alloc (.cells #[.int .i64 kd, .int .i64 ix, .slice B nb cb] 35)).heap[wr.heap.size]? = some (.cells #[.int .i64 kd, .int .i64 ix, .slice B nb cb] 35 (0, 0))) := heap_alloc_new wr _
            by_cases h120 : 120 < nb
            · have d2 : decide ((120 : Int) < (nb : Int)) = true := by simp; omega
              go_wp2_with fail
              go_ret
              exact ⟨rfl, HI1.out.bel⟩
            · have d2 : decide ((120 : Int) < (nb : Int)) = false := by simp; omega
              have n120 : nb ≤ 120 := by omega
              clear h120 hnb'
              go_upto_block 4 with (fail)
              generalize wr.alloc (.cells #[.int .i64 kd, .int .i64 ix, .slice B nb cb] 35) = w7 at *
              generalize bits BinOp.and IntKind.i64 kd 7 = kk at *
              obtain ⟨ba, hba⟩ : ∃ ba, wr.heap.size = ba := ⟨_, rfl⟩
              rw [hba] at HA1 ⊢
              clear hba g1 g2 g3 d2
              have a1 : w7.cell? ⟨ba, 1, none⟩ = some (.int .i64 ix) := by rw [cell_of_row _ _ _ _ _ _ HA1.out]; rfl
              have a2 : w7.cell? ⟨ba, 2, none⟩ = some (.slice B nb cb) := by rw [cell_of_row _ _ _ _ _ _ HA1.out]; rfl
              clear HI
              go_cut [8, 13, 14] (fun bp ev fv W => ∃ (q mq m : Nat) (X Y : TX) (er : Int), bp = .pointer (some ⟨q, 0, none⟩) ∧ ev = .int .i64 er ∧ fv = .int .i64 er ∧ Hid (PlI w W ls n p m ⟨some ⟨g, 0, none⟩, n, n⟩ q mq bv bw X Y X Y) ∧ Hid (W.heap[ba]? = some (.cells #[.int .i64 kd, .int .i64 ix, .slice B nb cb] 35 (0, 0))))
              case first =>
                by_cases h3 : kk = 3
                · have t3 : (kk == 3) = true := by simpa using h3
                  clear h3
                  have hcv := run_convert_bs w7 B nb cb L (HL0.out.below HI1.out.bel)
                  go_wp2_with fail
                  refine (put_any HI1.out.t2.b HI1.out.t2.new ix B nb cb L (HL0.out.below HI1.out.bel)).mono ?_
                  rintro e w8 ⟨rfl, h1, h2⟩
                  rw [show TX.perr (Sl.n ⟨some ⟨g, 0, none⟩, n, n⟩) ix L = TX.perr n ix L from rfl]
                  rw [show Y.putI (Sl.n ⟨some ⟨g, 0, none⟩, n, n⟩) ix L = Y.putI n ix L from rfl] at h1
                  have HI8 := Lib.hid (HI1.out.putb h1 h2 (by rw [TX.putI_l]; exact HI1.out.yl))
                  have HA8 := Lib.hid (h2.row HA1.out (by decide))
                  clear h1 h2 hcv
                  obtain ⟨x1, x2, hvb, hrt⟩ := HI8.out.wb
                  have HVB := Lib.hid hvb
                  have HRT := Lib.hid hrt
                  have c0 : w8.cell? ⟨bw, 0, none⟩ = some (.slice x1.a x1.n x1.c) := by rw [cell_of_row _ _ _ _ _ _ hvb]; rfl
                  have c1 : w8.cell? ⟨bw, 1, none⟩ = some (.slice x2.a x2.n x2.c) := by rw [cell_of_row _ _ _ _ _ _ hvb]; rfl
                  have a1 : w8.cell? ⟨ba, 1, none⟩ = some (.int .i64 ix) := by rw [cell_of_row _ _ _ _ _ _ HA8.out]; rfl
                  have a2 : w8.cell? ⟨ba, 2, none⟩ = some (.slice B nb cb) := by rw [cell_of_row _ _ _ _ _ _ HA8.out]; rfl
                  have hcv := run_convert_bs w8 B nb cb L (HL0.out.below HI8.out.bel)
                  clear hvb hrt
                  obtain ⟨er, her⟩ : ∃ er, TX.perr n ix L = er := ⟨_, rfl⟩
                  have HER := Lib.hid her
                  rw [her]
                  clear her
                  go_wp2_with fail
                  have hrp := refPut_any HRT.out ix L (by omega)
                  unfold TV at hrp
                  refine hrp.mono ?_
                  rintro e w9 ⟨y, rfl, hrt9, hb9⟩
                  rw [HER.out]
                  have HI9 := Lib.hid (HI8.out.below hb9)
                  have HA9 := Lib.hid (below_row hb9 HA8.out)
                  have HR9 := Lib.hid hrt9
                  obtain ⟨z1, z2, hvb9, -⟩ := HI9.out.wb
                  have HVB9 := Lib.hid hvb9
                  clear hrp hrt9 hb9 hvb9 c0 c1 a1 a2 hcv
                  unfold TV
                  go_wp2_with (refine wpList_store_any rfl 31 (.tmp 10) (.tmp 95) rfl bw #[.slice x1.a x1.n x1.c, .slice y.a y.n y.c] rfl rfl 31 _ HVB9.out size_T rfl (by simp [Value.oneCell']) ?_
                               intro wa hra hza hka
                               have HIa := Lib.hid (HI9.out.setw HR9.out hra hka)
                               have HAa : Hid (wa.heap[ba]? = some (.cells #[.int .i64 kd, .int .i64 ix, .slice B nb cb] 35 (0, 0))) := (hka.block ba fun e => by
                                 have h9 := HA9.out
                                 rw [e, HVB9.out] at h9
                                 simp only [Option.some.injEq, Obj.cells.injEq] at h9
                                 exact absurd h9.2.1 (by decide)).trans HA9.out
                               clear hra hza hka)
                  try simp only [Act.put]
                  go_meet
                  case rel => exact ⟨q, mq, m, X, Y.putI n ix L, er, rfl, rfl, rfl, HIa, HAa⟩
                have t3 : (kk == 3) = false := by simpa using h3
                by_cases h4 : kk = 4
                · have t4 : (kk == 4) = true := by simpa using h4
                  clear h3 h4
                  go_wp2_with fail
                  refine (fork_any HI1.out.t2.a HI1.out.t2.new).mono ?_
                  intro e w8 hf
                  have hbf : Below w7.heap.size w7 w8 := by obtain ⟨_, _, _, _, hb, _⟩ := hf; exact hb
                  obtain ⟨q', n', rfl, hi8⟩ := HI1.out.fork hf
                  have HI8 := Lib.hid hi8
                  have HA8 := Lib.hid (below_row hbf HA1.out)
                  clear hf hbf hi8
                  obtain ⟨x1, x2, hvb, hrt⟩ := HI8.out.vb
                  obtain ⟨z1, z2, hvb9, -⟩ := HI8.out.wb
                  have HRT := Lib.hid hrt
                  have HVB9 := Lib.hid hvb9
                  have c0 : w8.cell? ⟨bv, 0, none⟩ = some (.slice x1.a x1.n x1.c) := by rw [cell_of_row _ _ _ _ _ _ hvb]; rfl
                  have c1 : w8.cell? ⟨bv, 1, none⟩ = some (.slice x2.a x2.n x2.c) := by rw [cell_of_row _ _ _ _ _ _ hvb]; rfl
                  clear hvb hrt hvb9
                  go_wp2_with (refine wpList_store_any rfl 31 (.tmp 10) (.tmp 101) rfl bw #[.slice x1.a x1.n x1.c, .slice x2.a x2.n x2.c] rfl rfl 31 _ HVB9.out size_T rfl (by simp [Value.oneCell']) ?_
                               intro wa hra hza hka
                               have HIa := Lib.hid (HI8.out.setw HRT.out hra hka)
                               have HAa : Hid (wa.heap[ba]? = some (.cells #[.int .i64 kd, .int .i64 ix, .slice B nb cb] 35 (0, 0))) := (hka.block ba fun e => by
                                 have h9 := HA8.out
                                 rw [e, HVB9.out] at h9
                                 simp only [Option.some.injEq, Obj.cells.injEq] at h9
                                 exact absurd h9.2.1 (by decide)).trans HA8.out
                               clear hra hza hka)
                  try simp only [Act.put]
                  go_meet
                  case rel => exact ⟨q', n', m, X, X, 0, rfl, rfl, rfl, HIa, HAa⟩
                have t4 : (kk == 4) = false := by simpa using h4
                by_cases h5 : kk = 5
                · have t5 : (kk == 5) = true := by simpa using h5
                  clear h3 h4 h5
                  go_wp2_with fail
                  refine (take_any HI1.out.t2.a HI1.out.t2.b rfl HI1.out.t2.new).mono ?_
                  rintro e w8 ⟨rfl, m', h1, h2, hm⟩
                  have HI8 := Lib.hid (HI1.out.taka h1 h2 hm)
                  have HA8 := Lib.hid (h2.row HA1.out (by decide))
                  clear h1 h2 hm
                  obtain ⟨x1, x2, hvb, hrt⟩ := HI8.out.wb
                  obtain ⟨z1, z2, hvb9, -⟩ := HI8.out.vb
                  have HRT := Lib.hid hrt
                  have HVB9 := Lib.hid hvb9
                  have c0 : w8.cell? ⟨bw, 0, none⟩ = some (.slice x1.a x1.n x1.c) := by rw [cell_of_row _ _ _ _ _ _ hvb]; rfl
                  have c1 : w8.cell? ⟨bw, 1, none⟩ = some (.slice x2.a x2.n x2.c) := by rw [cell_of_row _ _ _ _ _ _ hvb]; rfl
                  clear hvb hrt hvb9
                  go_wp2_with (refine wpList_store_any rfl 31 (.tmp 9) (.tmp 107) rfl bv #[.slice x1.a x1.n x1.c, .slice x2.a x2.n x2.c] rfl rfl 31 _ HVB9.out size_T rfl (by simp [Value.oneCell']) ?_
                               intro wa hra hza hka
                               have HIa := Lib.hid (HI8.out.setv HRT.out hra hka)
                               have HAa : Hid (wa.heap[ba]? = some (.cells #[.int .i64 kd, .int .i64 ix, .slice B nb cb] 35 (0, 0))) := (hka.block ba fun e => by
                                 have h9 := HA8.out
                                 rw [e, HVB9.out] at h9
                                 simp only [Option.some.injEq, Obj.cells.injEq] at h9
                                 exact absurd h9.2.1 (by decide)).trans HA8.out
                               clear hra hza hka)
                  try simp only [Act.put]
                  go_meet
                  case rel => exact ⟨q, mq, m', Y, Y, 0, rfl, rfl, rfl, HIa, HAa⟩
                have t5 : (kk == 5) = false := by simpa using h5
                clear h3 h4 h5
                have hcv := run_convert_bs w7 B nb cb L (HL0.out.below HI1.out.bel)
                go_wp2_with fail
                refine (put_any HI1.out.t2.a HI1.out.t2.new ix B nb cb L (HL0.out.below HI1.out.bel)).mono ?_
                rintro e w8 ⟨rfl, h1, h2⟩
                rw [show TX.perr (Sl.n ⟨some ⟨g, 0, none⟩, n, n⟩) ix L = TX.perr n ix L from rfl]
                rw [show X.putI (Sl.n ⟨some ⟨g, 0, none⟩, n, n⟩) ix L = X.putI n ix L from rfl] at h1
                have HI8 := Lib.hid (HI1.out.puta h1 h2 (by rw [TX.putI_l]; exact HI1.out.xl))
                have HA8 := Lib.hid (h2.row HA1.out (by decide))
                clear h1 h2 hcv
                obtain ⟨x1, x2, hvb, hrt⟩ := HI8.out.vb
                have HVB := Lib.hid hvb
                have HRT := Lib.hid hrt
                have c0 : w8.cell? ⟨bv, 0, none⟩ = some (.slice x1.a x1.n x1.c) := by rw [cell_of_row _ _ _ _ _ _ hvb]; rfl
                have c1 : w8.cell? ⟨bv, 1, none⟩ = some (.slice x2.a x2.n x2.c) := by rw [cell_of_row _ _ _ _ _ _ hvb]; rfl
                have a1 : w8.cell? ⟨ba, 1, none⟩ = some (.int .i64 ix) := by rw [cell_of_row _ _ _ _ _ _ HA8.out]; rfl
                have a2 : w8.cell? ⟨ba, 2, none⟩ = some (.slice B nb cb) := by rw [cell_of_row _ _ _ _ _ _ HA8.out]; rfl
                have hcv := run_convert_bs w8 B nb cb L (HL0.out.below HI8.out.bel)
                clear hvb hrt
                obtain ⟨er, her⟩ : ∃ er, TX.perr n ix L = er := ⟨_, rfl⟩
                have HER := Lib.hid her
                rw [her]
                clear her
                go_wp2_with fail
                have hrp := refPut_any HRT.out ix L (by omega)
                unfold TV at hrp
                refine hrp.mono ?_
                rintro e w9 ⟨y, rfl, hrt9, hb9⟩
                rw [HER.out]
                have HI9 := Lib.hid (HI8.out.below hb9)
                have HA9 := Lib.hid (below_row hb9 HA8.out)
                have HR9 := Lib.hid hrt9
                obtain ⟨z1, z2, hvb9, -⟩ := HI9.out.vb
                have HVB9 := Lib.hid hvb9
                clear hrp hrt9 hb9 hvb9 c0 c1 a1 a2 hcv
                unfold TV
                go_wp2_with (refine wpList_store_any rfl 31 (.tmp 9) (.tmp 77) rfl bv #[.slice x1.a x1.n x1.c, .slice y.a y.n y.c] rfl rfl 31 _ HVB9.out size_T rfl (by simp [Value.oneCell']) ?_
                             intro wa hra hza hka
                             have HIa := Lib.hid (HI9.out.setv HR9.out hra hka)
                             have HAa : Hid (wa.heap[ba]? = some (.cells #[.int .i64 kd, .int .i64 ix, .slice B nb cb] 35 (0, 0))) := (hka.block ba fun e => by
                               have h9 := HA9.out
                               rw [e, HVB9.out] at h9
                               simp only [Option.some.injEq, Obj.cells.injEq] at h9
                               exact absurd h9.2.1 (by decide)).trans HA9.out
                             clear hra hza hka)
                try simp only [Act.put]
                go_meet
                case rel => exact ⟨q, mq, m, X.putI n ix L, Y, er, rfl, rfl, rfl, HIa, HAa⟩
              case rest =>
                clear HI1 HA1 a1 a2
                obtain ⟨q, mq, m, X, Y, er, rfl, rfl, rfl, HI, HAC⟩ := hcut
                have HIc := Lib.hid HI.out
                obtain ⟨x1, x2, hvb, hrt1⟩ := HI.out.vb
                obtain ⟨y1, y2, hwb, hrt2⟩ := HI.out.wb
                have HXc : Hid (∀ W, Below wc.heap.size wc W → W.cell? ⟨ba, 1, none⟩ = some (.int .i64 ix) ∧ W.cell? ⟨bv, 0, none⟩ = some (.slice x1.a x1.n x1.c) ∧ W.cell? ⟨bv, 1, none⟩ = some (.slice x2.a x2.n x2.c) ∧ W.cell? ⟨bw, 0, none⟩ = some (.slice y1.a y1.n y1.c) ∧ W.cell? ⟨bw, 1, none⟩ = some (.slice y2.a y2.n y2.c)) := fun W h => by
                  have e1 := below_row h HAC.out
                  have e2 := below_row h hvb
                  have e3 := below_row h hwb
                  refine ⟨?_, ?_, ?_, ?_, ?_⟩
                  · rw [cell_of_row _ _ _ _ _ _ e1]; rfl
                  · rw [cell_of_row _ _ _ _ _ _ e2]; rfl
                  · rw [cell_of_row _ _ _ _ _ _ e2]; rfl
                  · rw [cell_of_row _ _ _ _ _ _ e3]; rfl
                  · rw [cell_of_row _ _ _ _ _ _ e3]; rfl
                obtain ⟨bx, hbx⟩ : ∃ bx, gotT X n ix = bx := ⟨_, rfl⟩
                obtain ⟨by', hby⟩ : ∃ by', gotT Y n ix = by' := ⟨_, rfl⟩
                go_upto_region 35 with (fail)
                have hbd : Below wc.heap.size wc wc.drew := (Below.refl _ _).drew
                have HIw4 := Lib.hid (HI.out.below hbd)
                have HR1w4 := Lib.hid (hrt1.below hbd)
                have HR2w4 := Lib.hid (hrt2.below hbd)
                have HXw4 : Hid (∀ W, Below wc.drew.heap.size wc.drew W → W.cell? ⟨ba, 1, none⟩ = some (.int .i64 ix) ∧ W.cell? ⟨bv, 0, none⟩ = some (.slice x1.a x1.n x1.c) ∧ W.cell? ⟨bv, 1, none⟩ = some (.slice x2.a x2.n x2.c) ∧ W.cell? ⟨bw, 0, none⟩ = some (.slice y1.a y1.n y1.c) ∧ W.cell? ⟨bw, 1, none⟩ = some (.slice y2.a y2.n y2.c)) := fun W h => HXc.out W (hbd.trans (h.mono hbd.size))
                refine wp_region_held_drew (S := fun W => Below wc.drew.heap.size wc.drew W) (by kernel_rfl) (Below.refl _ _) (fun _ => ?_)
                change wpAnyH _ _ _ _ _ 50 (Array.replicate 50 false) _ _
                clear hvb hwb hrt1 hrt2 HXc hbd HIc
                generalize wc.drew = w4 at *
                have HSw4 : Hid (Below w4.heap.size w4 w4) := Below.refl _ _
                refine takeH (i := 0) 108 (.int .i64 er) rfl rfl (by kernel_rfl) (by kernel_rfl) (by kernel_rfl) (fun _ _ _ h => h) (.inl ⟨by rfl, fun W hW => by go_simp⟩) HSw4.out ?_
                simp only [Act.put, List.setIfInBounds_toArray, List.set_cons_zero, List.set_cons_succ]
                refine takeH (i := 1) 109 (.int .i64 er) rfl rfl (by kernel_rfl) (by kernel_rfl) (by kernel_rfl) (fun _ _ _ h => h) (.inl ⟨by rfl, fun W hW => by go_simp⟩) HSw4.out ?_
                simp only [Act.put, List.setIfInBounds_toArray, List.set_cons_zero, List.set_cons_succ]
                refine takeH (i := 2) 110 (.bool false) rfl rfl (by kernel_rfl) (by kernel_rfl) (by kernel_rfl) (fun _ _ _ h => h) (.inl ⟨by rfl, fun W hW => by go_simp⟩) HSw4.out ?_
                simp only [Act.put, List.setIfInBounds_toArray, List.set_cons_zero, List.set_cons_succ]
                refine takeH (i := 3) 111 (.bool false) rfl rfl (by kernel_rfl) (by kernel_rfl) (by kernel_rfl) (fun _ _ _ h => h) (.inl ⟨by rfl, fun W hW => by go_simp⟩) HSw4.out ?_
                simp only [Act.put, List.setIfInBounds_toArray, List.set_cons_zero, List.set_cons_succ]
                refine takeH (i := 4) 112 (.pointer (some ⟨p, 0, none⟩)) rfl rfl (by kernel_rfl) (by kernel_rfl) (by kernel_rfl) (fun _ _ _ h => h) (.inl ⟨by rfl, fun W hW => by go_simp⟩) HSw4.out ?_
                simp only [Act.put, List.setIfInBounds_toArray, List.set_cons_zero, List.set_cons_succ]
                refine takeH (i := 5) 113 (.pointer (some ⟨ba, 1, none⟩)) rfl rfl (by kernel_rfl) (by kernel_rfl) (by kernel_rfl) (fun _ _ _ h => h) (.inl ⟨by rfl, fun W hW => by go_simp⟩) HSw4.out ?_
                simp only [Act.put, List.setIfInBounds_toArray, List.set_cons_zero, List.set_cons_succ]
                refine takeH (i := 6) 114 (.int .i64 ix) rfl rfl (by kernel_rfl) (by kernel_rfl) (by kernel_rfl) (fun _ _ _ h => h) (.inl ⟨by rfl, fun W hW => by (obtain ⟨hz1, hz2, hz3, hz4, hz5⟩ := HXw4.out W hW; go_simp)⟩) HSw4.out ?_
                simp only [Act.put, List.setIfInBounds_toArray, List.set_cons_zero, List.set_cons_succ]
                refine takeH (i := 9) 117 (.agg #[.slice x1.a x1.n x1.c, .slice x2.a x2.n x2.c]) rfl rfl (by kernel_rfl) (by kernel_rfl) (by kernel_rfl) (fun _ _ _ h => h) (.inl ⟨by rfl, fun W hW => by (obtain ⟨hz1, hz2, hz3, hz4, hz5⟩ := HXw4.out W hW; go_simp)⟩) HSw4.out ?_
                simp only [Act.put, List.setIfInBounds_toArray, List.set_cons_zero, List.set_cons_succ]
                refine takeH (i := 10) 118 (.pointer (some ⟨ba, 1, none⟩)) rfl rfl (by kernel_rfl) (by kernel_rfl) (by kernel_rfl) (fun _ _ _ h => h) (.inl ⟨by rfl, fun W hW => by go_simp⟩) HSw4.out ?_
                simp only [Act.put, List.setIfInBounds_toArray, List.set_cons_zero, List.set_cons_succ]
                refine takeH (i := 11) 119 (.int .i64 ix) rfl rfl (by kernel_rfl) (by kernel_rfl) (by kernel_rfl) (fun _ _ _ h => h) (.inl ⟨by rfl, fun W hW => by (obtain ⟨hz1, hz2, hz3, hz4, hz5⟩ := HXw4.out W hW; go_simp)⟩) HSw4.out ?_
                simp only [Act.put, List.setIfInBounds_toArray, List.set_cons_zero, List.set_cons_succ]
                refine wpAnyH_ready (rs := [7]) (by kernel_rfl) (by simp) ?_
                refine AllReadyH.cons rfl (fun K hK => ?_) AllReadyH.nil
                go_simp
                refine (get_any HIw4.out.t2.a rfl ix).mono ?_
                rw [hbx]
                rintro e w5 ⟨A5, n5, c5, rfl, h1, -, -, -, h5, -⟩
                have HCw5 := Lib.hid h1
                have HIw5 := Lib.hid (HIw4.out.below h5)
                have HR1w5 := Lib.hid (HR1w4.out.below h5)
                have HR2w5 := Lib.hid (HR2w4.out.below h5)
                have HBw5 : Hid (Below w4.heap.size w4 w5) := HSw4.out.trans (h5.mono HSw4.out.size)
                refine hK.out _ _ HBw5.out fun _ => ?_
                clear hK K h1 h5
                refine weakenH (S' := fun W => Below w5.heap.size w5 W) (fun W h => HBw5.out.trans (h.mono HBw5.out.size)) _ _ _ _ ?_
                have HXw5 : Hid (∀ W, Below w5.heap.size w5 W → W.cell? ⟨ba, 1, none⟩ = some (.int .i64 ix) ∧ W.cell? ⟨bv, 0, none⟩ = some (.slice x1.a x1.n x1.c) ∧ W.cell? ⟨bv, 1, none⟩ = some (.slice x2.a x2.n x2.c) ∧ W.cell? ⟨bw, 0, none⟩ = some (.slice y1.a y1.n y1.c) ∧ W.cell? ⟨bw, 1, none⟩ = some (.slice y2.a y2.n y2.c)) := fun W h => HXw4.out W (HBw5.out.trans (h.mono HBw5.out.size))
                have HSw5 : Hid (Below w5.heap.size w5 w5) := Below.refl _ _
                refine takeH (i := 8) 116 (.string (txt bx)) rfl rfl (by kernel_rfl) (by kernel_rfl) (by kernel_rfl) (fun _ _ _ h => h) (.inl ⟨by rfl, fun W hW => by (have hz := run_convert_bs W A5 n5 c5 bx (HCw5.out.below hW); go_simp)⟩) HSw5.out ?_
                simp only [Act.put, List.setIfInBounds_toArray, List.set_cons_zero, List.set_cons_succ]
                refine wpAnyH_ready (rs := [12]) (by kernel_rfl) (by simp) ?_
                refine AllReadyH.cons rfl (fun K hK => ?_) AllReadyH.nil
                go_simp
                have hrg := refGet_any HR1w5.out ix
                unfold TV at hrg
                refine hrg.mono ?_
                rw [hbx]
                rintro e w6 ⟨rfl, h5⟩
                have HIw6 := Lib.hid (HIw5.out.below h5)
                have HR1w6 := Lib.hid (HR1w5.out.below h5)
                have HR2w6 := Lib.hid (HR2w5.out.below h5)
                have HSw6 : Hid (Below w5.heap.size w5 w6) := h5
                refine hK.out _ _ HSw6.out fun _ => ?_
                clear hK K h5 hrg
                refine wpAnyH_ready (rs := [13]) (by kernel_rfl) (by simp) ?_
                refine AllReadyH.cons rfl (fun K hK => ?_) AllReadyH.nil
                go_simp
                refine hK.out _ _ HSw6.out fun _ => ?_
                clear hK K
                refine wpAnyH_ready (rs := [14]) (by kernel_rfl) (by simp) ?_
                refine AllReadyH.cons rfl (fun K hK => ?_) AllReadyH.nil
                go_simp
                refine hK.out _ _ HSw6.out fun _ => ?_
                clear hK K
                refine wpAnyH_ready (rs := [15]) (by kernel_rfl) (by simp) ?_
                refine AllReadyH.cons rfl (fun K hK => ?_) AllReadyH.nil
                go_simp
                refine hK.out _ _ HSw6.out fun _ => ?_
                clear hK K
                refine takeH (i := 16) 124 (.pointer (some ⟨q, 0, none⟩)) rfl rfl (by kernel_rfl) (by kernel_rfl) (by kernel_rfl) (fun _ _ _ h => h) (.inl ⟨by rfl, fun W hW => by go_simp⟩) HSw6.out ?_
                simp only [Act.put, List.setIfInBounds_toArray, List.set_cons_zero, List.set_cons_succ]
                refine takeH (i := 17) 125 (.pointer (some ⟨ba, 1, none⟩)) rfl rfl (by kernel_rfl) (by kernel_rfl) (by kernel_rfl) (fun _ _ _ h => h) (.inl ⟨by rfl, fun W hW => by go_simp⟩) HSw6.out ?_
                simp only [Act.put, List.setIfInBounds_toArray, List.set_cons_zero, List.set_cons_succ]
                refine takeH (i := 18) 126 (.int .i64 ix) rfl rfl (by kernel_rfl) (by kernel_rfl) (by kernel_rfl) (fun _ _ _ h => h) (.inl ⟨by rfl, fun W hW => by (obtain ⟨hz1, hz2, hz3, hz4, hz5⟩ := HXw5.out W hW; go_simp)⟩) HSw6.out ?_
                simp only [Act.put, List.setIfInBounds_toArray, List.set_cons_zero, List.set_cons_succ]
                refine takeH (i := 21) 129 (.agg #[.slice y1.a y1.n y1.c, .slice y2.a y2.n y2.c]) rfl rfl (by kernel_rfl) (by kernel_rfl) (by kernel_rfl) (fun _ _ _ h => h) (.inl ⟨by rfl, fun W hW => by (obtain ⟨hz1, hz2, hz3, hz4, hz5⟩ := HXw5.out W hW; go_simp)⟩) HSw6.out ?_
                simp only [Act.put, List.setIfInBounds_toArray, List.set_cons_zero, List.set_cons_succ]
                refine takeH (i := 22) 130 (.pointer (some ⟨ba, 1, none⟩)) rfl rfl (by kernel_rfl) (by kernel_rfl) (by kernel_rfl) (fun _ _ _ h => h) (.inl ⟨by rfl, fun W hW => by go_simp⟩) HSw6.out ?_
                simp only [Act.put, List.setIfInBounds_toArray, List.set_cons_zero, List.set_cons_succ]
                refine takeH (i := 23) 131 (.int .i64 ix) rfl rfl (by kernel_rfl) (by kernel_rfl) (by kernel_rfl) (fun _ _ _ h => h) (.inl ⟨by rfl, fun W hW => by (obtain ⟨hz1, hz2, hz3, hz4, hz5⟩ := HXw5.out W hW; go_simp)⟩) HSw6.out ?_
                simp only [Act.put, List.setIfInBounds_toArray, List.set_cons_zero, List.set_cons_succ]
                refine wpAnyH_ready (rs := [19]) (by kernel_rfl) (by simp) ?_
                refine AllReadyH.cons rfl (fun K hK => ?_) AllReadyH.nil
                go_simp
                refine (get_any HIw6.out.t2.b rfl ix).mono ?_
                rw [hby]
                rintro e w7 ⟨A5, n5, c5, rfl, h1, -, -, -, h5, -⟩
                have HCw7 := Lib.hid h1
                have HIw7 := Lib.hid (HIw6.out.below h5)
                have HR1w7 := Lib.hid (HR1w6.out.below h5)
                have HR2w7 := Lib.hid (HR2w6.out.below h5)
                have HBw7 : Hid (Below w5.heap.size w5 w7) := HSw6.out.trans (h5.mono HSw6.out.size)
                refine hK.out _ _ HBw7.out fun _ => ?_
                clear hK K h1 h5
                refine weakenH (S' := fun W => Below w7.heap.size w7 W) (fun W h => HBw7.out.trans (h.mono HBw7.out.size)) _ _ _ _ ?_
                have HXw7 : Hid (∀ W, Below w7.heap.size w7 W → W.cell? ⟨ba, 1, none⟩ = some (.int .i64 ix) ∧ W.cell? ⟨bv, 0, none⟩ = some (.slice x1.a x1.n x1.c) ∧ W.cell? ⟨bv, 1, none⟩ = some (.slice x2.a x2.n x2.c) ∧ W.cell? ⟨bw, 0, none⟩ = some (.slice y1.a y1.n y1.c) ∧ W.cell? ⟨bw, 1, none⟩ = some (.slice y2.a y2.n y2.c)) := fun W h => HXw5.out W (HBw7.out.trans (h.mono HBw7.out.size))
                have HSw7 : Hid (Below w7.heap.size w7 w7) := Below.refl _ _
                refine takeH (i := 20) 128 (.string (txt by')) rfl rfl (by kernel_rfl) (by kernel_rfl) (by kernel_rfl) (fun _ _ _ h => h) (.inl ⟨by rfl, fun W hW => by (have hz := run_convert_bs W A5 n5 c5 by' (HCw7.out.below hW); go_simp)⟩) HSw7.out ?_
                simp only [Act.put, List.setIfInBounds_toArray, List.set_cons_zero, List.set_cons_succ]
                refine wpAnyH_ready (rs := [24]) (by kernel_rfl) (by simp) ?_
                refine AllReadyH.cons rfl (fun K hK => ?_) AllReadyH.nil
                go_simp
                have hrg := refGet_any HR2w7.out ix
                unfold TV at hrg
                refine hrg.mono ?_
                rw [hby]
                rintro e w8 ⟨rfl, h5⟩
                have HIw8 := Lib.hid (HIw7.out.below h5)
                have HR1w8 := Lib.hid (HR1w7.out.below h5)
                have HR2w8 := Lib.hid (HR2w7.out.below h5)
                have HSw8 : Hid (Below w7.heap.size w7 w8) := h5
                refine hK.out _ _ HSw8.out fun _ => ?_
                clear hK K h5 hrg
                refine wpAnyH_ready (rs := [25]) (by kernel_rfl) (by simp) ?_
                refine AllReadyH.cons rfl (fun K hK => ?_) AllReadyH.nil
                go_simp
                refine hK.out _ _ HSw8.out fun _ => ?_
                clear hK K
                refine wpAnyH_ready (rs := [26]) (by kernel_rfl) (by simp) ?_
                refine AllReadyH.cons rfl (fun K hK => ?_) AllReadyH.nil
                go_simp
                refine hK.out _ _ HSw8.out fun _ => ?_
                clear hK K
                refine wpAnyH_ready (rs := [27]) (by kernel_rfl) (by simp) ?_
                refine AllReadyH.cons rfl (fun K hK => ?_) AllReadyH.nil
                go_simp
                refine hK.out _ _ HSw8.out fun _ => ?_
                clear hK K
                refine takeH (i := 28) 136 (.pointer (some ⟨p, 0, none⟩)) rfl rfl (by kernel_rfl) (by kernel_rfl) (by kernel_rfl) (fun _ _ _ h => h) (.inl ⟨by rfl, fun W hW => by go_simp⟩) HSw8.out ?_
                simp only [Act.put, List.setIfInBounds_toArray, List.set_cons_zero, List.set_cons_succ]
                refine takeH (i := 30) 138 (.agg #[.slice x1.a x1.n x1.c, .slice x2.a x2.n x2.c]) rfl rfl (by kernel_rfl) (by kernel_rfl) (by kernel_rfl) (fun _ _ _ h => h) (.inl ⟨by rfl, fun W hW => by (obtain ⟨hz1, hz2, hz3, hz4, hz5⟩ := HXw7.out W hW; go_simp)⟩) HSw8.out ?_
                simp only [Act.put, List.setIfInBounds_toArray, List.set_cons_zero, List.set_cons_succ]
                refine wpAnyH_ready (rs := [29]) (by kernel_rfl) (by simp) ?_
                refine AllReadyH.cons rfl (fun K hK => ?_) AllReadyH.nil
                go_simp
                refine (changes_any HIw8.out.t2.a (by show n ≤ _; omega)).mono ?_
                intro e w9 hcq
                have hcq' : ChgQ w8 (X.chs n) e w9 := hcq
                obtain ⟨Ac, cc, sl, rfl, hw, h5, -⟩ := hcq'
                have HIw9 := Lib.hid (HIw8.out.below h5)
                have HR1w9 := Lib.hid (HR1w8.out.below h5)
                have HR2w9 := Lib.hid (HR2w8.out.below h5)
                have HWw9 := Lib.hid hw
                have HSw9 : Hid (Below w7.heap.size w7 w9) := HSw8.out.trans (h5.mono HSw8.out.size)
                refine hK.out _ _ HSw9.out fun _ => ?_
                clear hK K hcq hw h5
                refine wpAnyH_ready (rs := [31]) (by kernel_rfl) (by simp) ?_
                refine AllReadyH.cons rfl (fun K hK => ?_) AllReadyH.nil
                go_simp
                have hrc := refChg_any HR1w9.out (by omega)
                unfold TV at hrc
                refine hrc.mono ?_
                rintro e wA ⟨Ad, cd, rfl, hx, h5⟩
                have HIwA := Lib.hid (HIw9.out.below h5)
                have HR1wA := Lib.hid (HR1w9.out.below h5)
                have HR2wA := Lib.hid (HR2w9.out.below h5)
                have HWwA := Lib.hid (HWw9.out.below h5)
                have HZwA := Lib.hid hx
                have HSwA : Hid (Below w7.heap.size w7 wA) := HSw9.out.trans (h5.mono HSw9.out.size)
                refine hK.out _ _ HSwA.out fun _ => ?_
                clear hK K hx h5 hrc
                refine wpAnyH_ready (rs := [32]) (by kernel_rfl) (by simp) ?_
                refine AllReadyH.cons rfl (fun K hK => ?_) AllReadyH.nil
                go_simp
                refine (same_any Ac Ad cc cd _ _ (X.chs n) sl wA HWwA.out HZwA.out (Nat.le_trans (TX.chs_len X n) (by omega))).mono ?_
                rintro e wB ⟨rfl, h5⟩
                have HIwB := Lib.hid (HIwA.out.below h5)
                have HR1wB := Lib.hid (HR1wA.out.below h5)
                have HR2wB := Lib.hid (HR2wA.out.below h5)
                have HSwB : Hid (Below w7.heap.size w7 wB) := HSwA.out.trans (h5.mono HSwA.out.size)
                refine hK.out _ _ HSwB.out fun _ => ?_
                clear hK K h5
                refine wpAnyH_ready (rs := [33]) (by kernel_rfl) (by simp) ?_
                refine AllReadyH.cons rfl (fun K hK => ?_) AllReadyH.nil
                go_simp
                refine hK.out _ _ HSwB.out fun _ => ?_
                clear hK K
                refine wpAnyH_ready (rs := [34]) (by kernel_rfl) (by simp) ?_
                refine AllReadyH.cons rfl (fun K hK => ?_) AllReadyH.nil
                go_simp
                refine hK.out _ _ HSwB.out fun _ => ?_
                clear hK K
                refine wpAnyH_ready (rs := [35]) (by kernel_rfl) (by simp) ?_
                refine AllReadyH.cons rfl (fun K hK => ?_) AllReadyH.nil
                go_simp
                refine hK.out _ _ HSwB.out fun _ => ?_
                clear hK K
                refine takeH (i := 36) 144 (.pointer (some ⟨q, 0, none⟩)) rfl rfl (by kernel_rfl) (by kernel_rfl) (by kernel_rfl) (fun _ _ _ h => h) (.inl ⟨by rfl, fun W hW => by go_simp⟩) HSwB.out ?_
                simp only [Act.put, List.setIfInBounds_toArray, List.set_cons_zero, List.set_cons_succ]
                refine takeH (i := 38) 146 (.agg #[.slice y1.a y1.n y1.c, .slice y2.a y2.n y2.c]) rfl rfl (by kernel_rfl) (by kernel_rfl) (by kernel_rfl) (fun _ _ _ h => h) (.inl ⟨by rfl, fun W hW => by (obtain ⟨hz1, hz2, hz3, hz4, hz5⟩ := HXw7.out W hW; go_simp)⟩) HSwB.out ?_
                simp only [Act.put, List.setIfInBounds_toArray, List.set_cons_zero, List.set_cons_succ]
                refine wpAnyH_ready (rs := [37]) (by kernel_rfl) (by simp) ?_
                refine AllReadyH.cons rfl (fun K hK => ?_) AllReadyH.nil
                go_simp
                refine (changes_any HIwB.out.t2.b (by show n ≤ _; omega)).mono ?_
                intro e wC hcq
                have hcq' : ChgQ wB (Y.chs n) e wC := hcq
                obtain ⟨Ac, cc, sl, rfl, hw, h5, -⟩ := hcq'
                have HIwC := Lib.hid (HIwB.out.below h5)
                have HR1wC := Lib.hid (HR1wB.out.below h5)
                have HR2wC := Lib.hid (HR2wB.out.below h5)
                have HWwC := Lib.hid hw
                have HSwC : Hid (Below w7.heap.size w7 wC) := HSwB.out.trans (h5.mono HSwB.out.size)
                refine hK.out _ _ HSwC.out fun _ => ?_
                clear hK K hcq hw h5
                refine wpAnyH_ready (rs := [39]) (by kernel_rfl) (by simp) ?_
                refine AllReadyH.cons rfl (fun K hK => ?_) AllReadyH.nil
                go_simp
                have hrc := refChg_any HR2wC.out (by omega)
                unfold TV at hrc
                refine hrc.mono ?_
                rintro e wD ⟨Ad, cd, rfl, hx, h5⟩
                have HIwD := Lib.hid (HIwC.out.below h5)
                have HR1wD := Lib.hid (HR1wC.out.below h5)
                have HR2wD := Lib.hid (HR2wC.out.below h5)
                have HWwD := Lib.hid (HWwC.out.below h5)
                have HZwD := Lib.hid hx
                have HSwD : Hid (Below w7.heap.size w7 wD) := HSwC.out.trans (h5.mono HSwC.out.size)
                refine hK.out _ _ HSwD.out fun _ => ?_
                clear hK K hx h5 hrc
                refine wpAnyH_ready (rs := [40]) (by kernel_rfl) (by simp) ?_
                refine AllReadyH.cons rfl (fun K hK => ?_) AllReadyH.nil
                go_simp
                refine (same_any Ac Ad cc cd _ _ (Y.chs n) sl wD HWwD.out HZwD.out (Nat.le_trans (TX.chs_len Y n) (by omega))).mono ?_
                rintro e wE ⟨rfl, h5⟩
                have HIwE := Lib.hid (HIwD.out.below h5)
                have HR1wE := Lib.hid (HR1wD.out.below h5)
                have HR2wE := Lib.hid (HR2wD.out.below h5)
                have HSwE : Hid (Below w7.heap.size w7 wE) := HSwD.out.trans (h5.mono HSwD.out.size)
                refine hK.out _ _ HSwE.out fun _ => ?_
                clear hK K h5
                refine wpAnyH_ready (rs := [41]) (by kernel_rfl) (by simp) ?_
                refine AllReadyH.cons rfl (fun K hK => ?_) AllReadyH.nil
                go_simp
                refine hK.out _ _ HSwE.out fun _ => ?_
                clear hK K
                refine wpAnyH_ready (rs := [42]) (by kernel_rfl) (by simp) ?_
                refine AllReadyH.cons rfl (fun K hK => ?_) AllReadyH.nil
                go_simp
                refine hK.out _ _ HSwE.out fun _ => ?_
                clear hK K
                refine wpAnyH_ready (rs := [43]) (by kernel_rfl) (by simp) ?_
                refine AllReadyH.cons rfl (fun K hK => ?_) AllReadyH.nil
                go_simp
                refine hK.out _ _ HSwE.out fun _ => ?_
                clear hK K
                refine takeH (i := 44) 152 (.pointer (some ⟨p, 0, none⟩)) rfl rfl (by kernel_rfl) (by kernel_rfl) (by kernel_rfl) (fun _ _ _ h => h) (.inl ⟨by rfl, fun W hW => by go_simp⟩) HSwE.out ?_
                simp only [Act.put, List.setIfInBounds_toArray, List.set_cons_zero, List.set_cons_succ]
                refine takeH (i := 46) 154 (.slice A n c) rfl rfl (by kernel_rfl) (by kernel_rfl) (by kernel_rfl) (fun _ _ _ h => h) (.inl ⟨by rfl, fun W hW => by go_simp⟩) HSwE.out ?_
                simp only [Act.put, List.setIfInBounds_toArray, List.set_cons_zero, List.set_cons_succ]
                refine takeH (i := 47) 155 (.int .i64 (n : Int)) rfl rfl (by kernel_rfl) (by kernel_rfl) (by kernel_rfl) (fun _ _ _ h => h) (.inl ⟨by rfl, fun W hW => by go_simp⟩) HSwE.out ?_
                simp only [Act.put, List.setIfInBounds_toArray, List.set_cons_zero, List.set_cons_succ]
                refine wpAnyH_ready (rs := [45]) (by kernel_rfl) (by simp) ?_
                refine AllReadyH.cons rfl (fun K hK => ?_) AllReadyH.nil
                go_simp
                refine (tlen_any HIwE.out.t2.a).mono ?_
                rintro e wF ⟨rfl, rfl⟩
                refine hK.out _ _ HSwE.out fun _ => ?_
                clear hK K
                refine wpAnyH_ready (rs := [48]) (by kernel_rfl) (by simp) ?_
                refine AllReadyH.cons rfl (fun K hK => ?_) AllReadyH.nil
                go_simp
                refine hK.out _ _ HSwE.out fun _ => ?_
                clear hK K
                refine wpAnyH_ready (rs := [49]) (by kernel_rfl) (by simp) ?_
                refine AllReadyH.cons rfl (fun K hK => ?_) AllReadyH.nil
                go_simp
                refine hK.out _ _ HSwE.out fun _ => ?_
                clear hK K
                refine wpAnyH_done (by kernel_rfl) ?_ _
                go_wp2
                go_roundw
                case rel => exact ⟨k + 1, q, mq, m, X, Y, by omega, by omega, by go_num, rfl, HIwE⟩
                case measure => simp [intOf]; omega
          · have hd40 : decide ((k : Int) < 40) = false := by simp; omega
            go_wp2_with fail
            refine (take_nil (.pointer (some ⟨p, 0, none⟩)) wr (.inr ⟨_, rfl⟩)).mono ?_
            rintro e w' ⟨rfl, rfl⟩
            go_wp2_with fail
            refine (take_none ⟨p, 0, none⟩ w').mono ?_
            rintro e w'' ⟨rfl, rfl⟩
            go_wp2_with fail
            refine (put_nil 0 none 0 0 w'').mono ?_
            rintro e wa ⟨rfl, rfl⟩
            go_wp2_with fail
            refine (fork_nil wa).mono ?_
            rintro e wb ⟨rfl, rfl⟩
            go_wp2_with fail
            refine (tlen_nil wb).mono ?_
            rintro e wc ⟨rfl, rfl⟩
            go_wp2_with fail
            refine (get_nil 0 wc).mono ?_
            rintro e wd ⟨rfl, rfl⟩
            go_wp2_with fail
            refine (changes_nil wd).mono ?_
            rintro e we ⟨rfl, rfl⟩
            go_wp2_with fail
            go_ret
            exact ⟨rfl, HI.out.bel⟩
        · obtain rfl : ns = k := by omega
          go_wp2_with fail
          refine (take_nil (.pointer (some ⟨p, 0, none⟩)) wr (.inr ⟨_, rfl⟩)).mono ?_
          rintro e w' ⟨rfl, rfl⟩
          go_wp2_with fail
          refine (take_none ⟨p, 0, none⟩ w').mono ?_
          rintro e w'' ⟨rfl, rfl⟩
          go_wp2_with fail
          refine (put_nil 0 none 0 0 w'').mono ?_
          rintro e wa ⟨rfl, rfl⟩
          go_wp2_with fail
          refine (fork_nil wa).mono ?_
          rintro e wb ⟨rfl, rfl⟩
          go_wp2_with fail
          refine (tlen_nil wb).mono ?_
          rintro e wc ⟨rfl, rfl⟩
          go_wp2_with fail
          refine (get_nil 0 wc).mono ?_
          rintro e wd ⟨rfl, rfl⟩
          go_wp2_with fail
          refine (changes_nil wd).mono ?_
          rintro e we ⟨rfl, rfl⟩
          go_wp2_with fail
          go_ret
          exact ⟨rfl, HI.out.bel⟩
end Go.Proofs.Ytnjkcodegcojcaa
