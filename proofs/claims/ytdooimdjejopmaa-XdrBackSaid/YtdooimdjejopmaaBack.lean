/-
  The walk of XdrBack: what is put is read as it was; cut anywhere it ends too early: the law's function returns true for every input.
-/
import Derived.Test.YtdooimdjejopmaaRow4
namespace Go.Proofs.Ytdooimdjejopmaa
open Go.RowKit

set_option maxRecDepth 100000 in
set_option maxHeartbeats 4000000 in
theorem back_walk (A : Option Addr) (n c : Nat) (xs : List Nat) (A2 : Option Addr) (n2 c2 : Nat) (b : List UInt8) (at_ : Int) (w : World) (hx : NS .u64 w A n xs) (hx64 : ∀ x ∈ xs, x < 256 ^ 8) (hb : BS w A2 n2 b) (ha0 : 0 ≤ at_) (ha1 : at_ ≤ 65535) :
    Calls Try.prog 5 #[.slice A n c, .slice A2 n2 c2, .int .u16 at_] w fun e w' => e = .returned (.bool true) ∧ Below w.heap.size w w' := by
  have HA := Lib.hid (awake_any w)
  have HX := Lib.hid hx
  have HX64 := Lib.hid hx64
  have HB := Lib.hid hb
  have Hnx : Hid (xs.length = n) := hx.1
  have Hn2 : Hid (b.length = n2) := hb.1
  clear hb hx hx64
  by_cases h20 : 20 < n
  · go_enter Try.func5, Try.ntmps5
    have hd : decide ((20 : Int) < (n : Int)) = true := by simp; omega
    go_wp2_with fail
    refine HA.out.mono ?_
    rintro e w1 ⟨rfl, hw1⟩
    have HW1 := Lib.hid hw1
    clear hw1
    go_wp2_with fail
    go_ret
    exact ⟨rfl, HW1.out⟩
  · by_cases h100 : 100 < n2
    · go_enter Try.func5, Try.ntmps5
      have hd : decide ((20 : Int) < (n : Int)) = false := by simp; omega
      have hd2 : decide ((100 : Int) < (n2 : Int)) = true := by simp; omega
      go_wp2_with fail
      refine HA.out.mono ?_
      rintro e w1 ⟨rfl, hw1⟩
      have HW1 := Lib.hid hw1
      clear hw1
      go_wp2_with fail
      go_ret
      exact ⟨rfl, HW1.out⟩
    · go_enter Try.func5, Try.ntmps5
      have hd : decide ((20 : Int) < (n : Int)) = false := by simp; omega
      have hd2 : decide ((100 : Int) < (n2 : Int)) = false := by simp; omega
      go_wp2_with fail
      refine HA.out.mono ?_
      rintro e w1 ⟨rfl, hw1⟩
      have HW1 := Lib.hid hw1
      have hs1 := hw1.size
      clear hw1 HA
      go_wp2_with fail
      refine (newWriter_op w1).mono ?_
      rintro e w2 ⟨p, rfl, hw, hbe⟩
      have HW := Lib.hid hw
      have HK := Lib.hid ((Keep.of_below HW1.out).trans ((Keep.of_below hbe).mono (fun k h => Nat.lt_of_lt_of_le h hs1)))
      clear hw hbe
      go_wp2_with fail
      go_loopw [9] (fun i wr => ∃ k : Nat, k ≤ n ∧ i = .int .i64 k ∧ Hid (Wr (· < w1.heap.size) wr p (enc 8 (xs.take k))) ∧ Hid (Keep (· < w.heap.size) w wr)) (fun i _ => n - (intOf i).toNat)
      case atStart => exact ⟨0, by omega, rfl, by simpa [Hid, enc] using HW.out, HK⟩
      case round =>
        clear HW HK
        obtain ⟨k, hk, rfl, HW, HK⟩ := hrel
        by_cases hlt : k < n
        · obtain ⟨bb, o, rfl, hj, hcell⟩ := (HX.out.below HK.out.below).at hlt
          have HE := Lib.hid (enc_snoc 8 xs k hj)
          have HL : Hid ((enc 8 (xs.take k)).length ≤ 200) := by show _ ≤ _; rw [enc_length, List.length_take]; omega
          go_wp2_with fail
          refine (u64w _ wr p _ _ (by omega) HW.out (Nat.le_trans HL.out (by omega))).mono ?_
          rintro e w3 ⟨rfl, hw, hkk⟩
          rw [Int.toNat_natCast, ← HE.out] at hw
          have HW3 := Lib.hid hw
          have HK3 := Lib.hid (HK.out.trans (hkk.mono (fun k h => Nat.lt_of_lt_of_le h hs1)))
          clear hw hkk
          go_wp2_with fail
          go_roundw
          case rel => exact ⟨k + 1, by omega, by go_num, HW3, HK3⟩
          case measure => simp [intOf]; omega
        · have hkn : k = n := by omega
          subst hkn
          have HW2 : Hid (Wr (· < w1.heap.size) wr p (enc 8 xs)) := by
            have := HW.out
            rwa [List.take_of_length_le (by rw [Hnx.out]; exact Nat.le_refl _)] at this
          clear HW hlt hk
          have HEl : Hid ((enc 8 xs).length = 8 * k) := by show _ = _; rw [enc_length, Hnx.out]
          go_wp2_with fail
          refine (opaquew _ wr p _ A2 n2 c2 b HW2.out (HB.out.kept HK.out) (fun h ad ha => Nat.lt_of_lt_of_le (HB.out.lt_block h ad ha) hs1) (by rw [HEl.out]; omega) (by omega)).mono ?_
          rintro e w3 ⟨rfl, hw, hkk⟩
          have HW3 := Lib.hid hw
          have HK3 := Lib.hid (HK.out.trans (hkk.mono (fun k h => Nat.lt_of_lt_of_le h hs1)))
          clear hw hkk HW2 HK
          have hpb := pad_lt n2
          have HLn : Hid ((enc 8 xs ++ opq b).length = 8 * k + (4 + n2 + pad n2)) := by show _ = _; rw [List.length_append, HEl.out, opq_length, Hn2.out]
          go_wp2_with fail
          refine (out_any _ w3 p _ HW3.out (by rw [HLn.out]; omega)).mono ?_
          rintro e w4 ⟨A4, c4, rfl, ho⟩
          have hBe : ∃ Bn, Bn = 8 * k + (4 + n2 + pad n2) := ⟨_, rfl⟩
          obtain ⟨Bn, hBn⟩ := hBe
          rw [HLn.out, ← hBn] at ho ⊢
          have HBn := Lib.hid hBn
          have hBn1 : Bn ≤ 400 := by omega
          have hBn2 : 8 * k + 4 + n2 ≤ Bn := by omega
          have HO4 := Lib.hid ho
          have HK4 := Lib.hid (HK3.out.trans ((Keep.of_below ho.2).mono (fun k h => Nat.lt_of_lt_of_le h HK3.out.size)))
          have hcap := ho.cap
          clear ho HW3 HK3 hBn hpb
          have a1 : (0 : Int) ≤ at_ % ((Bn : Int) + 1) := Int.emod_nonneg _ (by omega)
          have a2 : at_ % ((Bn : Int) + 1) < (Bn : Int) + 1 := Int.emod_lt_of_pos _ (by omega)
          obtain ⟨m, hm⟩ := Int.eq_ofNat_of_zero_le a1
          have hmB : m ≤ Bn := by omega
          clear a1 a2
          have HM := Lib.hid hm
          go_wp2_with fail
          refine (newReader_any A4 m c4 _ w4 (HO4.out.bs.take hmB) (by omega)).mono ?_
          rintro e w5 ⟨q, rfl, hr, hbe, hq⟩
          have HR5 := Lib.hid hr
          have HK5 := Lib.hid (HK4.out.trans ((Keep.of_below hbe).mono (fun k h => Nat.lt_of_lt_of_le h HK4.out.size)))
          have hq0 : w.heap.size ≤ q := Nat.le_trans HK4.out.size hq
          clear hr hbe HK4 hq HO4 hm
          go_wp2_with fail
          rw [HM.out]
          clear HM
          have HLT : Hid (((enc 8 xs ++ opq b).take m).length = m) := by show _ = _; rw [List.length_take, HLn.out, ← HBn.out]; omega
          go_loopw [13] (fun i wr => ∃ j : Nat, j ≤ k ∧ i = .int .i64 j ∧ 8 * j ≤ m ∧ Hid (Rd wr q (((enc 8 xs ++ opq b).take m).drop (8 * j)) 0) ∧ Hid (Keep (· < w.heap.size) w wr)) (fun i _ => k - (intOf i).toNat)
          case atStart => exact ⟨0, by omega, rfl, by omega, by simpa [Hid] using HR5.out, HK5⟩
          case round =>
            clear HR5 HK5
            obtain ⟨j, hj, rfl, hjm, HR, HK⟩ := hrel
            by_cases hlt : j < k
            · obtain ⟨bb, o, rfl, hjx, hcell⟩ := (HX.out.below HK.out.below).at hlt
              by_cases hsh : m < 8 * j + 8
              · have hd3 : decide ((m : Int) < 8 * (j : Int) + 8) = true := by simp; omega
                have Hrd := Lib.hid (rdN_short 8 (((enc 8 xs ++ opq b).take m).drop (8 * j)) (by rw [List.length_drop, HLT.out]; omega))
                go_wp2_with fail
                refine (u64r _ q _ 0 HR.out).mono ?_
                rw [Hrd.out]
                rintro e w6 ⟨rfl, hr, hg⟩
                have HR6 := Lib.hid hr
                have HK6 := Lib.hid (HK.out.grown hg (fun k h => Nat.lt_of_lt_of_le h HK.out.size) (fun k h h' => by injection h with h; omega))
                clear hr hg HR HK Hrd
                go_wp2_with fail
                refine (err_any _ q _ 10 HR6.out).mono ?_
                rintro e w7 ⟨rfl, rfl⟩
                go_wp2_with fail
                go_ret
                exact ⟨rfl, HK6.out.below⟩
              · have hd3 : decide ((m : Int) < 8 * (j : Int) + 8) = false := by simp; omega
                have Hrd := Lib.hid (rdN_enc 8 xs (opq b) j m hjx (by omega) (HX64.out _ (List.getElem_mem hjx)))
                go_wp2_with fail
                refine (u64r _ q _ 0 HR.out).mono ?_
                rw [Hrd.out]
                rintro e w6 ⟨rfl, hr, hg⟩
                have HR6 := Lib.hid hr
                have HK6 := Lib.hid (HK.out.grown hg (fun k h => Nat.lt_of_lt_of_le h HK.out.size) (fun k h h' => by injection h with h; omega))
                clear hr hg Hrd
                obtain ⟨bb', o', hee, hjx', hcell'⟩ := (HX.out.below HK6.out.below).at hlt
                injection hee with hee
                injection hee with h1 h2 _
                subst h1 h2
                clear HR HK hcell
                go_wp2_with fail
                go_roundw
                case rel => exact ⟨j + 1, by omega, by go_num, by omega, HR6, HK6⟩
                case measure => simp [intOf]; omega
            · have hjk : j = k := by omega
              subst hjk
              have HE : Hid (((enc 8 xs ++ opq b).take m).drop (8 * j) = (opq b).take (m - 8 * j)) := by
                show _ = _
                rw [List.drop_take, ← HEl.out, List.drop_append_of_le_length (Nat.le_refl _), List.drop_of_length_le (Nat.le_refl _), List.nil_append]
              have hpl := opq_length b
              have HPL : Hid ((opq b).length = 4 + n2 + pad n2) := by show _ = _; rw [opq_length, Hn2.out]
              clear hpl hlt hj
              by_cases hcut : m < Bn
              · have hd3 : decide ((m : Int) < (Bn : Int)) = true := by simp; omega
                obtain ⟨l', hro⟩ := rdO_cut 100 b (m - 8 * j) (by rw [HPL.out]; have := HBn.out; omega) (by rw [Hn2.out]; omega) (by rw [Hn2.out]; omega)
                rw [← HE.out] at hro
                have Hro := Lib.hid hro
                clear hro
                go_wp2_with fail
                refine (opaquer _ q _ 0 100 (by omega) (by omega) HR.out).mono ?_
                rw [Hro.out]
                rintro e w6 ⟨A6, c6, rfl, hbs, hr, hg, hA⟩
                have HR6 := Lib.hid hr
                have HK6 := Lib.hid (HK.out.grown hg (fun k h => Nat.lt_of_lt_of_le h HK.out.size) (fun k h h' => by injection h with h; omega))
                clear hbs hr hg hA HR HK Hro
                go_wp2_with fail
                refine (err_any _ q _ 10 HR6.out).mono ?_
                rintro e w7 ⟨rfl, rfl⟩
                go_wp2_with fail
                go_ret
                exact ⟨rfl, HK6.out.below⟩
              · have hd3 : decide ((m : Int) < (Bn : Int)) = false := by simp; omega
                have hro := rdO_opq 100 b [] (by rw [Hn2.out]; omega) (by rw [Hn2.out]; omega)
                rw [List.append_nil] at hro
                have hE := HE.out
                have hT : (opq b).take (m - 8 * j) = opq b := List.take_of_length_le (by rw [HPL.out]; have := HBn.out; omega)
                rw [hT] at hE
                rw [← hE] at hro
                have Hro := Lib.hid hro
                clear hro hE hT
                go_wp2_with fail
                refine (opaquer _ q _ 0 100 (by omega) (by omega) HR.out).mono ?_
                rw [Hro.out]
                rintro e w6 ⟨A6, c6, rfl, hbs, hr, hg, hA⟩
                rw [Hn2.out] at hbs ⊢
                have HR6 := Lib.hid hr
                have HK6 := Lib.hid (HK.out.grown hg (fun k h => Nat.lt_of_lt_of_le h HK.out.size) (fun k h h' => by injection h with h; omega))
                have v1 := run_convert_bs w6 A6 n2 c6 b hbs
                have v2 := run_convert_bs w6 A2 n2 c2 b (HB.out.kept HK6.out)
                clear hbs hr hg hA HR HK Hro
                go_wp2_with fail
                refine (end_any w6 q [] 0 HR6.out).mono ?_
                rw [rd4]
                rintro e w7 ⟨rfl, rfl⟩
                go_wp2_with fail
                go_ret
                exact ⟨rfl, HK6.out.below⟩
end Go.Proofs.Ytdooimdjejopmaa
