/-
  The walk of XdrBig: as many bytes as may be are read, one more is too many: the law's function returns true for every input.
-/
import Derived.Test.YtdooimdjejopmaaRow2
namespace Go.Proofs.Ytdooimdjejopmaa
open Go.RowKit

set_option maxRecDepth 100000 in
set_option maxHeartbeats 4000000 in
theorem big_walk (A : Option Addr) (n c : Nat) (b : List UInt8) (m : Int) (A2 : Option Addr) (n2 c2 : Nat) (d : List UInt8) (w : World) (hb : BS w A n b) (hd : BS w A2 n2 d) (hm0 : 0 ≤ m) (hm1 : m ≤ 65535) :
    Calls Try.prog 8 #[.slice A n c, .int .u16 m, .slice A2 n2 c2] w fun e w' => e = .returned (.bool true) ∧ Below w.heap.size w w' := by
  have HA := Lib.hid (awake_any w)
  have HB := Lib.hid hb
  have HD := Lib.hid hd
  clear hb hd
  by_cases h200 : 200 < n
  · go_enter Try.func8, Try.ntmps8
    have hd : decide ((200 : Int) < (n : Int)) = true := by simp; omega
    go_wp2_with fail
    refine HA.out.mono ?_
    rintro e w1 ⟨rfl, hw1⟩
    have HW1 := Lib.hid hw1
    clear hw1
    go_wp2_with fail
    go_ret
    exact ⟨rfl, HW1.out⟩
  · by_cases h20 : 20 < n2
    · go_enter Try.func8, Try.ntmps8
      have hd : decide ((200 : Int) < (n : Int)) = false := by simp; omega
      have hd2 : decide ((20 : Int) < (n2 : Int)) = true := by simp; omega
      go_wp2_with fail
      refine HA.out.mono ?_
      rintro e w1 ⟨rfl, hw1⟩
      have HW1 := Lib.hid hw1
      clear hw1
      go_wp2_with fail
      go_ret
      exact ⟨rfl, HW1.out⟩
    · go_enter Try.func8, Try.ntmps8
      have hd : decide ((200 : Int) < (n : Int)) = false := by simp; omega
      have hd2 : decide ((20 : Int) < (n2 : Int)) = false := by simp; omega
      go_wp2_with fail
      refine HA.out.mono ?_
      rintro e w1 ⟨rfl, hw1⟩
      have HW1 := Lib.hid hw1
      have hs1 := hw1.size
      clear hw1
      go_wp2_with fail
      refine (newWriter_op w1).mono ?_
      rintro e w2 ⟨p, rfl, hw, hbe⟩
      have HW := Lib.hid hw
      have HK := Lib.hid ((Keep.of_below HW1.out).trans ((Keep.of_below hbe).mono (fun k h => Nat.lt_of_lt_of_le h hs1)))
      have HB2 := Lib.hid (HB.out.kept HK.out)
      clear hw hbe
      go_wp2_with fail
      refine (opaquew _ w2 p [] A n c b HW.out HB2.out (fun h ad ha => Nat.lt_of_lt_of_le (HB.out.lt_block h ad ha) hs1) (by simp) (by omega)).mono ?_
      rintro e w3 ⟨rfl, hw, hk⟩
      have HW3 := Lib.hid hw
      have HK3 := Lib.hid (HK.out.trans (hk.mono (fun k h => Nat.lt_of_lt_of_le h hs1)))
      have HD3 := Lib.hid (HD.out.kept HK3.out)
      have Hn : Hid (b.length = n) := HB.out.1
      have Hn2 : Hid (d.length = n2) := HD.out.1
      have hpb := pad_lt b.length
      have hpd := pad_lt d.length
      clear hw hk HW HK HB2
      go_wp2_with fail
      refine (opaquew _ w3 p _ A2 n2 c2 d HW3.out HD3.out (fun h ad ha => Nat.lt_of_lt_of_le (HD.out.lt_block h ad ha) hs1) (by rw [List.nil_append, opq_length]; have := Hn.out; omega) (by omega)).mono ?_
      rintro e w4 ⟨rfl, hw, hk⟩
      rw [List.nil_append] at hw
      have HW4 := Lib.hid hw
      have HK4 := Lib.hid (HK3.out.trans (hk.mono (fun k h => Nat.lt_of_lt_of_le h hs1)))
      have HL : Hid ((opq b ++ opq d).length ≤ 300) := by show _ ≤ _; rw [List.length_append, opq_length, opq_length]; have := Hn.out; have := Hn2.out; omega
      clear hw hk HW3 HK3 HD3 hpb hpd
      generalize hL : opq b ++ opq d = L at *
      have HLe := Lib.hid hL
      clear hL
      go_wp2_with fail
      refine (out_any _ w4 p _ HW4.out (Nat.le_trans HL.out (by omega))).mono ?_
      rintro e w5 ⟨A5, c5, rfl, ho⟩
      have HO5 := Lib.hid ho.bs
      have HK5 := Lib.hid (HK4.out.trans ((Keep.of_below ho.2).mono (fun k h => Nat.lt_of_lt_of_le h HK4.out.size)))
      clear ho HW4 HK4
      go_wp2_with fail
      refine (newReader_any A5 _ c5 _ w5 HO5.out (Nat.le_trans HL.out (by omega))).mono ?_
      rintro e w6 ⟨q, rfl, hr, hbe, hq⟩
      have HR6 := Lib.hid hr
      have HK6 := Lib.hid (HK5.out.trans ((Keep.of_below hbe).mono (fun k h => Nat.lt_of_lt_of_le h HK5.out.size)))
      have hq0 : w.heap.size ≤ q := Nat.le_trans HK5.out.size hq
      clear hr hbe HK5 hq HO5
      have wm : wrap64 m = m := by unfold wrap64; omega
      go_wp2_with fail
      refine (opaquer w6 q L 0 m (by omega) (by omega) HR6.out).mono ?_
      by_cases hbig : m < (b.length : Int)
      · obtain ⟨l', hro⟩ := rdO_big m b (opq d) (by rw [Hn.out]; omega) hbig
        rw [HLe.out] at hro
        rw [hro]
        rintro e w7 ⟨A7, c7, rfl, hbs, hr, hg, hA⟩
        have HR7 := Lib.hid hr
        have HK7 := Lib.hid (HK6.out.grown hg (fun k h => Nat.lt_of_lt_of_le h HK6.out.size) (fun k h h' => by injection h with h; omega))
        have hd3 : decide (m < (n : Int)) = true := by rw [← Hn.out]; simp [hbig]
        clear hbs hr hg hA HR6 HK6 hro hbig
        go_wp2_with fail
        refine (err_any w7 q l' 13 HR7.out).mono ?_
        rintro e w8 ⟨rfl, rfl⟩
        go_wp2_with fail
        refine (opaquer w7 q l' 13 1000 (by omega) (by omega) HR7.out).mono ?_
        rw [rdO_err 1000 l' 13 (by omega)]
        rintro e w8 ⟨A8, c8, rfl, hbs, hr, hg, hA⟩
        have HK8 := Lib.hid (HK7.out.grown hg (fun k h => Nat.lt_of_lt_of_le h HK7.out.size) (fun k h h' => by injection h with h; omega))
        clear hbs hr hg hA
        go_wp2_with fail
        go_ret
        exact ⟨rfl, HK8.out.below⟩
      · have hro := rdO_opq m b (opq d) (by rw [Hn.out]; omega) (by omega)
        rw [HLe.out] at hro
        rw [hro]
        rintro e w7 ⟨A7, c7, rfl, hbs, hr, hg, hA⟩
        rw [Hn.out] at hbs ⊢
        have HR7 := Lib.hid hr
        have HK7 := Lib.hid (HK6.out.grown hg (fun k h => Nat.lt_of_lt_of_le h HK6.out.size) (fun k h h' => by injection h with h; omega))
        have HC7 := Lib.hid hbs
        have hd3 : decide (m < (n : Int)) = false := by rw [← Hn.out]; simp; omega
        clear hbs hr hg hA HR6 HK6 hro hbig
        go_wp2_with fail
        refine (opaquer w7 q (opq d) 0 20 (by omega) (by omega) HR7.out).mono ?_
        have hro := rdO_opq 20 d [] (by rw [Hn2.out]; omega) (by rw [Hn2.out]; omega)
        rw [List.append_nil] at hro
        rw [hro]
        rintro e w8 ⟨A8, c8, rfl, hbs, hr, hg, hA⟩
        rw [Hn2.out] at hbs ⊢
        have HR8 := Lib.hid hr
        have HK8 := Lib.hid (HK7.out.grown hg (fun k h => Nat.lt_of_lt_of_le h HK7.out.size) (fun k h h' => by injection h with h; omega))
        have v1 := run_convert_bs w8 A7 n c7 b (HC7.out.rd HR7.out hg)
        have v2 := run_convert_bs w8 A n c b (HB.out.kept HK8.out)
        have v3 := run_convert_bs w8 A8 n2 c8 d hbs
        have v4 := run_convert_bs w8 A2 n2 c2 d (HD.out.kept HK8.out)
        clear hbs hr hg hA hro HR7 HK7 HC7
        go_wp2_with fail
        refine (end_any w8 q [] 0 HR8.out).mono ?_
        rw [rd4]
        rintro e w9 ⟨rfl, rfl⟩
        go_wp2_with fail
        go_ret
        exact ⟨rfl, HK8.out.below⟩
end Go.Proofs.Ytdooimdjejopmaa
