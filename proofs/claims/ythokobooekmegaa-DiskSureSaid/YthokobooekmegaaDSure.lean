/-
  The walk of DiskSure.
-/
import Derived.Test.YthokobooekmegaaDSeq
import Derived.IntWalk
import Derived.Deep.QuietTactic
import Derived.BigQuiet
namespace Go.Proofs.Ythokobooekmegaa
open Go.RowKit

theorem below_drewN {B : Nat} {a w : World} (h : Below B a w) (n : Nat) : Below B a (w.drewN n) := ⟨h.os, h.tape, h.output, h.size, h.block⟩
/-- The writes that are flushed. -/
def g1 (FL : List UInt8) (j : Nat) : Int × List UInt8 := ((j : Int), fl [FL[j]?.getD 0, 1])
/-- The writes that wait. -/
def g2 (n : Nat) (LA : List UInt8) (j : Nat) : Int × List UInt8 := (((LA[j]?.getD 0).toNat % n : Nat), fl [UInt8.ofNat j, 2])
/-- The disk behind the flush and k writes. -/
def sS (n : Nat) (FL LA : List UInt8) (k : Nat) : DS := sG n (sG n (fun _ => zs) (g1 FL) n).read (g2 n LA) k
theorem sS_F (n : Nat) (FL LA : List UInt8) (k i : Nat) (hi : i < n) : (sS n FL LA k).F (i : Int) = fl [FL[i]?.getD 0, 1] := by
  show rd (wrs (g1 FL) n) (i : Int) zs = _
  rw [rd_wrs _ (fun _ => rfl), if_pos hi]
  rfl

set_option maxRecDepth 100000 in
set_option maxHeartbeats 4000000 in
theorem sure_walk (A : Option Addr) (n ca : Nat) (FL : List UInt8) (B : Option Addr) (m cb : Nat) (LA : List UInt8) (C : Option Addr) (q cc : Nat) (P : List UInt8) (w : World) (hFL : BS w A n FL) (hLA : BS w B m LA) (hP : BS w C q P) (hq : q ≤ maxLen) (hn : n ≤ maxLen) (hm : m ≤ maxLen) :
    Calls Try.prog 4 #[.slice A n ca, .slice B m cb, .slice C q cc] w fun e w' => e = .returned (.bool true) ∧ Below w.heap.size w w' := by
  unfold maxLen at hq hn hm
  have HFL := Lib.hid hFL
  have HLA := Lib.hid hLA
  have HP := Lib.hid hP
  clear hFL hLA hP
  by_cases hout : n = 0 ∨ 12 < n ∨ 30 < m
  · by_cases h0 : n = 0
    · subst h0
      clear hout
      go_enter Try.func4, Try.ntmps4
      go_wp2_with fail
      refine (awake_any w).mono ?_
      rintro e w1 ⟨rfl, hw1⟩
      have HW1 := Lib.hid hw1
      clear hw1
      go_wp2
      go_ret
      exact ⟨rfl, HW1.out⟩
    · by_cases h12 : 12 < n
      · clear hout
        go_enter Try.func4, Try.ntmps4
        go_wp2_with fail
        refine (awake_any w).mono ?_
        rintro e w1 ⟨rfl, hw1⟩
        have HW1 := Lib.hid hw1
        clear hw1
        go_wp2
        go_ret
        exact ⟨rfl, HW1.out⟩
      · have h30 : 30 < m := by omega
        clear hout
        go_enter Try.func4, Try.ntmps4
        go_wp2_with fail
        refine (awake_any w).mono ?_
        rintro e w1 ⟨rfl, hw1⟩
        have HW1 := Lib.hid hw1
        clear hw1
        go_wp2
        go_ret
        exact ⟨rfl, HW1.out⟩
  · have h0 : ¬ n = 0 := by omega
    have h12 : ¬ 12 < n := by omega
    have h30 : ¬ 30 < m := by omega
    have h0d : ((n : Int) == 0) = false := by simp; omega
    clear hout
    go_enter Try.func4, Try.ntmps4
    go_wp2_with fail
    refine (awake_any w).mono ?_
    rintro e w1 ⟨rfl, hw1⟩
    have HW1 := Lib.hid hw1
    clear hw1
    go_wp2_with fail
    refine (new_any n w1 (by omega) (by omega)).mono ?_
    rintro e w2 ⟨p, S, rfl, hd, hb, hS⟩
    have HD : Hid (Dk w2 p S (sG n (fun _ => zs) (g1 FL) 0)) := hd
    have HB : Hid (Below w.heap.size w w2) := HW1.out.trans (hb.mono HW1.out.size)
    have HS : Hid (∀ k, S k → w.heap.size ≤ k) := fun k hk => Nat.le_trans HW1.out.size (hS k hk)
    clear hd hb hS
    go_wp2_with fail
    go_loopw [11] (fun i wr => ∃ k : Nat, k ≤ n ∧ i = .int .i64 k ∧ Hid (∃ S, Dk wr p S (sG n (fun _ => zs) (g1 FL) k) ∧ ∀ j, S j → w.heap.size ≤ j) ∧ Hid (Below w.heap.size w wr)) (fun i _ => n - (intOf i).toNat)
    case atStart => exact ⟨0, by omega, rfl, ⟨S, HD.out, HS.out⟩, HB⟩
    case round =>
      clear HD HB HS
      obtain ⟨k, hk, rfl, HDK, HBK⟩ := hrel
      obtain ⟨S3, hd3, hS3⟩ := HDK.out
      have HD3 := Lib.hid hd3
      have HS3 := Lib.hid hS3
      clear hd3 hS3 HDK
      by_cases hlt : k < n
      · obtain ⟨b, o, rfl, hjl, hcell⟩ := (HFL.out.below HBK.out).at hlt
        have HBT : Hid (#[Value.int .u8 (FL[k].toNat : Int), Value.int .u8 1] = (bc [FL[k]?.getD 0, 1]).toArray) := by show _ = _; simp [bc, hjl]
        go_wp2_with fail
        refine (full_any _ 2 _ [FL[k]?.getD 0, 1] false _ (BS.built' wr _ _ 2 5 HBT.out rfl) (by unfold maxLen; omega)).mono ?_
        rintro e w4 ⟨rfl, hb4, hw4⟩
        have HW4 : Hid (Below wr.heap.size wr w4) := ((Below.refl _ wr).alloc (Nat.le_refl _) _).trans (hw4.mono (by simp))
        have HB4 := Lib.hid hb4
        clear hb4 hw4
        simp only [World.size_alloc] at HB4 ⊢
        have HPL : Hid ((sG n (fun _ => zs) (g1 FL) k).pend.length ≤ 1000000) := by show (wrs _ k).length ≤ _; rw [wrs_len]; omega
        go_wp2_with fail
        refine (write_up p S3 (sG n (fun _ => zs) (g1 FL) k) k _ 128 (fl [FL[k]?.getD 0, 1]) w4 (HD3.out.below HW4.out) HPL.out (refus_ok rfl (by omega) (by show (k : Int) < (n : Int); omega)) (block_BS HB4.out (fl_len _)) (not_S HD3.out.2.1 (by omega)) (DS.count_down rfl rfl)).mono ?_
        have HPU : Hid ((sG n (fun _ => zs) (g1 FL) k).count.push (k : Int) (fl [FL[k]?.getD 0, 1]) = sG n (fun _ => zs) (g1 FL) (k + 1)) := sG_push n _ (g1 FL) k
        rw [HPU.out]
        rintro e w5 ⟨rfl, S5, hd5, hf5, hS5⟩
        have HD5 := Lib.hid hd5
        have HB5 : Hid (Below w.heap.size w w5) := (HBK.out.trans (HW4.out.mono HBK.out.size)).trans (hf5.below (Nat.le_trans HBK.out.size HW4.out.size) HS3.out)
        have HS5 : Hid (∀ j, S5 j → w.heap.size ≤ j) := fun j hj => by
          rcases hS5 j hj with h | h
          · exact HS3.out j h
          · have := HBK.out.size; have := HW4.out.size; omega
        clear hd5 hf5 hS5
        go_wp2
        go_roundw
        case rel => exact ⟨k + 1, by omega, by go_num, ⟨S5, HD5.out, HS5.out⟩, HB5⟩
        case measure => simp [intOf]; omega
      · obtain rfl : k = n := by omega
        clear hlt
        have HPL : Hid ((sG k (fun _ => zs) (g1 FL) k).pend.length ≤ 1000000) := by show (wrs _ k).length ≤ _; rw [wrs_len]; omega
        go_wp2_with fail
        refine (flush_up p S3 _ wr HD3.out HPL.out rfl (DS.count_down rfl rfl)).mono ?_
        rw [sG_flush _ _ _ (g2 k LA)]
        rintro e w5 ⟨rfl, hd5, hf5⟩
        have HD5 : Hid (Dk w5 p S3 (sS k FL LA 0)) := hd5
        have HB5 : Hid (Below w.heap.size w w5) := HBK.out.trans (hf5.below HBK.out.size HS3.out)
        clear hd5 hf5 HD3 HBK
        go_wp2_with fail
        go_loopw [12] (fun i wr => ∃ j : Nat, j ≤ m ∧ i = .int .i64 j ∧ Hid (∃ S, Dk wr p S (sS k FL LA j) ∧ ∀ j, S j → w.heap.size ≤ j) ∧ Hid (Below w.heap.size w wr)) (fun i _ => m - (intOf i).toNat)
        case atStart => exact ⟨0, by omega, rfl, ⟨S3, HD5.out, HS3.out⟩, HB5⟩
        case round =>
          clear HD5 HB5 HS3
          obtain ⟨j, hj, rfl, HDK, HBK⟩ := hrel
          obtain ⟨S6, hd6, hS6⟩ := HDK.out
          have HD6 := Lib.hid hd6
          have HS6 := Lib.hid hS6
          clear hd6 hS6 HDK
          by_cases hjm : j < m
          · obtain ⟨b, o, rfl, hjl, hcell⟩ := (HLA.out.below HBK.out).at hjm
            have HBC : Hid (b < wr.heap.size) := World.block_lt_of_cell? wr _ hcell
            have hx3 : (0 : Int) ≤ (LA[j].toNat : Int) ∧ (LA[j].toNat : Int) ≤ 255 := by have := LA[j].toNat_lt; omega
            have HG2 : Hid (g2 k LA j = (((LA[j].toNat % k : Nat) : Int), fl [UInt8.ofNat j, 2])) := by show _ = _; simp [g2, hjl]
            obtain ⟨x, hx⟩ : ∃ x : Nat, LA[j].toNat = x := ⟨_, rfl⟩
            rw [hx] at hcell hx3 HG2
            clear hx
            have HBT : Hid (#[Value.int .u8 (j : Int), Value.int .u8 2] = (bc [UInt8.ofNat j, 2]).toArray) := by show _ = _; simp only [bc, List.map_cons, List.map_nil]; rw [byte_nat (by omega)]; rfl
            obtain ⟨y, hy3, hwt, hyx⟩ : ∃ y : Nat, y < k ∧ (x : Int).tmod (k : Int) = (y : Int) ∧ y = x % k := ⟨x % k, Nat.mod_lt _ (by omega), by
              rw [Int.tmod_eq_emod_of_nonneg (by omega)]
              have h2 : (x : Int) % (k : Int) = ((x % k : Nat) : Int) := by simp
              rw [h2], rfl⟩
            rw [← hyx] at HG2
            clear hyx
            have hw1 : IntKind.u8.wrap (j : Int) = (j : Int) := by unfold IntKind.wrap; simp [IntKind.bits, IntKind.signed]; omega
            have hw2 : IntKind.i64.wrap (x : Int) = (x : Int) := IntWalk.i64_in _ (by omega)
            have hca : (wr.alloc (.cells #[.int .u8 (j : Int), .int .u8 2] 5)).cell? ⟨b, o + j, none⟩ = some (.int .u8 (x : Int)) := (World.cell?_alloc_lt wr _ ⟨b, o + j, none⟩ HBC.out).trans hcell
            have hca' : (wr.drew.alloc (.cells #[.int .u8 (j : Int), .int .u8 2] 5)).cell? ⟨b, o + j, none⟩ = some (.int .u8 (x : Int)) := (World.cell?_alloc_lt wr.drew _ ⟨b, o + j, none⟩ HBC.out).trans hcell
            have HPL : Hid ((sS k FL LA j).pend.length ≤ 1000000) := by show (wrs _ j).length ≤ _; rw [wrs_len]; omega
            have HPU : Hid ((sS k FL LA j).count.push (y : Int) (fl [UInt8.ofNat j, 2]) = sS k FL LA (j + 1)) := by
              have := sG_push k (sG k (fun _ => zs) (g1 FL) k).read (g2 k LA) j
              rw [HG2.out] at this
              exact this
            go_wp2_with fail
            go_region_with (first
              | (go_at_call 13
                 refine (full_any _ 2 _ [UInt8.ofNat j, 2] false _ (BS.built' wr.drew _ _ 2 5 HBT.out rfl) (by unfold maxLen; omega)).mono ?_
                 rintro e w4 ⟨rfl, hb4, hw4⟩
                 have HW4 : Hid (Below wr.heap.size wr w4) := ((Below.refl wr.heap.size wr).drew.alloc (Nat.le_refl _) _).trans (hw4.mono (by simp))
                 have HB4 : Hid (w4.heap[wr.heap.size + 1]? = some (.cells (bc (fl [UInt8.ofNat j, 2])).toArray 5 (0, 0))) := by have h := hb4; rw [World.size_alloc] at h; exact h
                 have hcell4 : w4.cell? ⟨b, o + j, none⟩ = some (.int .u8 (x : Int)) := (HW4.out.cell (p := ⟨b, o + j, none⟩) HBC.out).trans hcell
                 clear hb4 hw4)
              | (go_at_call 14
                 have HWU := Lib.hid (write_up p S6 (sS k FL LA j) (y : Int) _ 128 (fl [UInt8.ofNat j, 2]) w4 (HD6.out.below HW4.out) HPL.out (refus_ok rfl (Int.natCast_nonneg y) (Int.ofNat_lt.2 hy3)) (block_BS HB4.out (fl_len _)) (not_S HD6.out.2.1 (Nat.le_succ _)) (DS.count_down rfl rfl))
                 (with_reducible refine HWU.out.mono ?_)
                 rw [HPU.out]
                 rintro e w5 ⟨rfl, S7, hd7, hf7, hS7⟩
                 have HD7 := Lib.hid hd7
                 have HF7 := Lib.hid hf7
                 have HS7 := Lib.hid hS7
                 clear hd7 hf7 hS7))
            all_goals
              clear hwt hcell4 hw1 hw2 hca hca'
              have HB5 : Hid (Below w.heap.size w w5) := (HBK.out.trans (HW4.out.mono HBK.out.size)).trans (HF7.out.below (Nat.le_trans HBK.out.size HW4.out.size) HS6.out)
              have HS8 : Hid (∀ j, S7 j → w.heap.size ≤ j) := fun j hj => by
                rcases HS7.out j hj with h | h
                · exact HS6.out j h
                · have := HBK.out.size; have := HW4.out.size; omega
              go_wp2
              go_roundw
              case rel => exact ⟨j + 1, by omega, by go_num, ⟨S7, HD7.out, HS8.out⟩, HB5⟩
              case measure => simp [intOf]; omega
          · --PART2
            obtain rfl : j = m := by omega
            clear hjm
            have HPL : Hid ((sS k FL LA j).pend.length = j) := by show (wrs _ j).length = _; rw [wrs_len]
            go_wp2_with fail
            refine (waits_any p S6 _ wr HD6.out).mono ?_
            rintro e w6 ⟨rfl, rfl⟩
            rw [HPL.out]
            go_wp2_with fail
            refine (crash_any p S6 (sS k FL LA j) C q cc P wr HD6.out (by rw [HPL.out]; omega) (HP.out.below HBK.out) (old_not_S HP.out HS6.out) (by unfold maxLen; omega)).mono ?_
            rintro e w6 ⟨rfl, hd6, hf6⟩
            have HDC := Lib.hid hd6
            have HBC : Hid (Below w.heap.size w w6) := HBK.out.trans (hf6.below HBK.out.size HS6.out)
            have hch : (cho P (sS k FL LA j).pend (sS k FL LA j).pend.length).length ≤ j := by rw [HPL.out]; exact cho_len P _ j
            have HRD : Hid (∀ i, i < k → ((sS k FL LA j).crashed P).read (i : Int) = fl [FL[i]?.getD 0, 1] ∨ ∃ a, a < j ∧ bit P a = true ∧ (((LA[a]?.getD 0).toNat % k : Nat) : Int) = (i : Int) ∧ ((sS k FL LA j).crashed P).read (i : Int) = fl [UInt8.ofNat a, 2]) := fun i hi => by
              have := crash_read k (sG k (fun _ => zs) (g1 FL) k).read (g2 k LA) j P (i : Int)
              have hF := sS_F k FL LA j i hi
              rcases this with h | h
              · exact .inl (h.trans hF)
              · exact .inr h
            have HRF : Hid (∀ i, i < k → refus ((sS k FL LA j).crashed P) (i : Int) = 0) := fun i hi => refus_ok rfl (by omega) (by show (i : Int) < (k : Int); omega)
            have HPN : Hid (((sS k FL LA j).crashed P).pend.length = 0) := rfl
            generalize (cho P (sS k FL LA j).pend (sS k FL LA j).pend.length).length = ch at *
            generalize (sS k FL LA j).crashed P = s6 at *
            have hchd : decide ((j : Int) < (ch : Int)) = false := by simp; omega
            have hchn : decide (j < ch) = false := by simp; omega
            clear hd6 hf6 HD6 HBK HPL hch
            go_wp2_with fail
            clear hchd hchn
            go_loopw [13] (fun i wr => ∃ i' : Nat, i' ≤ k ∧ i = .int .i64 i' ∧ Hid (Dk wr p S6 s6) ∧ Hid (Below w.heap.size w wr)) (fun i _ => k - (intOf i).toNat)
            case atStart => exact ⟨0, by omega, rfl, HDC, HBC⟩
            case round =>
              clear HDC HBC
              obtain ⟨i, hi, rfl, HDI, HBI⟩ := hrel
              by_cases hik : i < k
              · have HRI := Lib.hid (HRD.out i hik)
                have HFI := Lib.hid (HRF.out i hik)
                obtain ⟨b, o, rfl, hjl, hcell⟩ := HFL.out.at hik
                have HC0 := Lib.hid hcell
                have HBC : Hid (b < w.heap.size) := HFL.out.lt_block (by omega) _ rfl
                have HFX : Hid (FL[i]?.getD 0 = FL[i]) := by show _ = _; simp [hjl]
                clear hcell
                go_wp2_with fail
                refine (read_any p S6 s6 i wr HDI.out (by rw [HPN.out]; omega) HFI.out).mono ?_
                rintro e w7 ⟨g7, rfl, hb7, hg7, hw7⟩
                have HW7 := Lib.hid hw7
                have HB7 := Lib.hid hb7
                have HBW : Hid (Below w.heap.size w w7) := HBI.out.trans (hw7.mono HBI.out.size)
                have hcell : w7.cell? ⟨b, o + i, none⟩ = some (.int .u8 (FL[i].toNat : Int)) := (HBW.out.cell (p := ⟨b, o + i, none⟩) HBC.out).trans HC0.out
                clear hb7 hw7
                rcases HRI.out with hr | ⟨a, ha, hba, hai, hr⟩
                · have hc0 : w7.cell? ⟨g7, 0, none⟩ = some (.int .u8 (FL[i].toNat : Int)) := by
                    have h := HB7.out
                    rw [hr] at h
                    rw [← HFX.out]
                    exact block_cell h rfl
                  have hc1 : w7.cell? ⟨g7, 1, none⟩ = some (.int .u8 1) := by
                    have h := HB7.out
                    rw [hr] at h
                    exact block_cell (b := 1) h rfl
                  clear hr
                  go_wp2_with fail
                  go_quiet (fail)
                  go_wp2_with fail
                  go_loop [16, 17] (fun f t => ∃ a : Nat, a ≤ j ∧ t = .int .i64 a ∧ f = .bool true) (fun _ t => j - (intOf t).toNat)
                  case atStart => exact ⟨0, by omega, rfl, rfl⟩
                  case round =>
                    obtain ⟨a, ha, rfl, rfl⟩ := hrel
                    by_cases haj : a < j
                    · go_wp2
                      go_round
                      case rel => exact ⟨a + 1, by omega, by go_num, rfl⟩
                      case measure => simp [intOf]; omega
                    · go_wp2
                      go_roundw
                      case rel => exact ⟨i + 1, by omega, by go_num, HDI.out.below (below_drewN HW7.out _), below_drewN HBW.out _⟩
                      case measure => simp [intOf]; omega
                · have HN9 : Hid (((UInt8.ofNat a).toNat : Int) = (a : Int)) := byte_nat (by omega)
                  have hc0 : w7.cell? ⟨g7, 0, none⟩ = some (.int .u8 (a : Int)) := by
                    have h := HB7.out
                    rw [hr] at h
                    rw [← HN9.out]
                    exact block_cell h rfl
                  have hc1 : w7.cell? ⟨g7, 1, none⟩ = some (.int .u8 2) := by
                    have h := HB7.out
                    rw [hr] at h
                    exact block_cell (b := 2) h rfl
                  clear hr
                  have HAI : Hid ((((LA[a]?.getD 0).toNat % k : Nat) : Int) = (i : Int)) := hai
                  have HBA : Hid (bit P a = true) := hba
                  clear hai hba
                  cases hfe : ((a : Int) == (FL[i].toNat : Int))
                  all_goals
                    go_wp2_with fail
                    go_quiet (fail)
                    go_wp2_with fail
                    go_loop [16, 17] (fun f t => ∃ u : Nat, u ≤ j ∧ t = .int .i64 u ∧ f = .bool (decide (a < u))) (fun _ t => j - (intOf t).toNat)
                    case atStart => exact ⟨0, by omega, rfl, by simp⟩
                    case round =>
                      clear hfe
                      obtain ⟨u, hu, rfl, rfl⟩ := hrel
                      by_cases huj : u < j
                      · by_cases hau : a < u
                        · have hd : decide (a < u) = true := by simpa using hau
                          have hd2 : Hid (decide (a < u + 1) = true) := by show _ = _; simp; omega
                          rw [hd]
                          go_wp2
                          go_round
                          case rel => exact ⟨u + 1, by omega, by go_num, by rw [hd2.out]⟩
                          case measure => simp [intOf]; omega
                        · have hd : decide (a < u) = false := by simpa using hau
                          rw [hd]
                          obtain ⟨b2, o2, hB2, hjl2, hcell2⟩ := (HLA.out.below HBW.out).at huj
                          subst hB2
                          obtain ⟨x, hx⟩ : ∃ x : Nat, LA[u].toNat = x := ⟨_, rfl⟩
                          have hx255 : x ≤ 255 := by have := LA[u].toNat_lt; omega
                          rw [hx] at hcell2
                          have hkk : (k : Int) ≠ 0 := by omega
                          by_cases hue : u = a
                          · subst hue
                            have hxi : (x : Int) % (k : Int) = (i : Int) := by
                              have := HAI.out
                              rw [List.getElem?_eq_getElem hjl2, Option.getD_some, hx] at this
                              rw [← this]
                              simp
                            have hxb : ((x : Int) % (k : Int) == (i : Int)) = true := by rw [hxi]; simp
                            have hql : u / 8 < q := by
                              rcases Nat.lt_or_ge (u / 8) P.length with h | h
                              · rw [← HP.out.1]; exact h
                              · have := HBA.out; rw [bit_none h] at this; cases this
                            obtain ⟨b3, o3, hC3, hjl3, hcell3⟩ := (HP.out.below HBW.out).at hql
                            subst hC3
                            have hqi : (u : Int) / 8 < (q : Int) := by omega
                            have hbb := bit_at hjl3
                            rw [HBA.out] at hbb
                            clear hxi hx
                            go_wp2
                            go_round
                            case rel => exact ⟨u + 1, by omega, by go_num, by simp⟩
                            case measure => simp [intOf]; omega
                          · have hne : ((a : Int) == (u : Int)) = false := by simp; omega
                            have hd2 : Hid (decide (a < u + 1) = false) := by show _ = _; simp; omega
                            clear hx
                            cases hxb : ((x : Int) % (k : Int) == (i : Int))
                            all_goals
                              go_wp2
                              go_round
                              case rel => exact ⟨u + 1, by omega, by go_num, by rw [hd2.out]⟩
                              case measure => simp [intOf]; omega
                      · have hd : decide (a < u) = true := by simp; omega
                        rw [hd]
                        go_wp2
                        go_roundw
                        case rel => exact ⟨i + 1, by omega, by go_num, HDI.out.below (below_drewN HW7.out _), below_drewN HBW.out _⟩
                        case measure => simp [intOf]; omega
              · obtain rfl : i = k := by omega
                go_wp2_with fail
                refine (waits_any p S6 _ wr HDI.out).mono ?_
                rintro e w8 ⟨rfl, rfl⟩
                rw [HPN.out]
                go_wp2
                go_ret
                exact ⟨rfl, HBI.out⟩
end Go.Proofs.Ythokobooekmegaa
