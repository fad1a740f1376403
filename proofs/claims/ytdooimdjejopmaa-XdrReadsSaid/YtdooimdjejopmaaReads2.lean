/-
  The walk of XdrReads: whatever is read of any bytes, in whatever order, is the document's, also its errors: the law's function returns true for every input.
-/
import Derived.Test.YtdooimdjejopmaaReads
import Derived.Test.YtdooimdjejopmaaBools
namespace Go.Proofs.Ytdooimdjejopmaa
open Go.RowKit

set_option maxRecDepth 100000 in
set_option maxHeartbeats 4000000 in
theorem reads_walk (A : Option Addr) (n c : Nat) (b : List UInt8) (A2 : Option Addr) (n2 c2 : Nat) (cs : List UInt8) (w : World) (hb : BS w A n b) (hc : BS w A2 n2 cs) :
    Calls Try.prog 4 #[.slice A n c, .slice A2 n2 c2] w fun e w' => e = .returned (.bool true) ∧ Below w.heap.size w w' := by
  have HA := Lib.hid (awake_any w)
  have HB := Lib.hid hb
  have HC := Lib.hid hc
  have Hbn : Hid (b.length = n) := hb.1
  clear hb hc
  by_cases h200 : 200 < n
  · go_enter Try.func4, Try.ntmps4
    have hd : decide ((200 : Int) < (n : Int)) = true := by simp; omega
    go_wp2_with fail
    refine HA.out.mono ?_
    rintro e w1 ⟨rfl, hw1⟩
    have HW1 := Lib.hid hw1
    clear hw1
    go_wp2_with fail
    go_ret
    exact ⟨rfl, HW1.out⟩
  by_cases h60 : 60 < n2
  · go_enter Try.func4, Try.ntmps4
    have hd : decide ((200 : Int) < (n : Int)) = false := by simp; omega
    have hd2 : decide ((60 : Int) < (n2 : Int)) = true := by simp; omega
    go_wp2_with fail
    refine HA.out.mono ?_
    rintro e w1 ⟨rfl, hw1⟩
    have HW1 := Lib.hid hw1
    clear hw1
    go_wp2_with fail
    go_ret
    exact ⟨rfl, HW1.out⟩
  go_enter Try.func4, Try.ntmps4
  have hd : decide ((200 : Int) < (n : Int)) = false := by simp; omega
  have hd2 : decide ((60 : Int) < (n2 : Int)) = false := by simp; omega
  go_wp2_with fail
  refine HA.out.mono ?_
  rintro e w1 ⟨rfl, hw1⟩
  have HW1 := Lib.hid hw1
  clear hw1
  go_wp2_with fail
  refine (newReader_any A n c b w1 (HB.out.below HW1.out) (by omega)).mono ?_
  rintro e w2 ⟨q, rfl, hr, hbe, hq⟩
  have HR := Lib.hid hr
  have HK : Hid (Keep (· < w.heap.size) w w2) := (Keep.of_below HW1.out).trans ((Keep.of_below hbe).mono (fun k h => Nat.lt_of_lt_of_le h HW1.out.size))
  have hq0 : w.heap.size ≤ q := Nat.le_trans HW1.out.size hq
  have v1 := run_convert_bs w2 A n c b (HB.out.kept HK.out)
  clear hr hbe HW1 hq HB HA
  go_wp2_with fail
  clear v1
  have HR3 := Lib.hid (HR.out.alloc (.cells #[.string (txt b), .int .i64 0] 44))
  have HT3 : Hid (Two (w2.alloc (.cells #[.string (txt b), .int .i64 0] 44)) w2.heap.size (.string (txt b)) (.int .i64 0)) := heap_alloc_new w2 _
  have HK3 := Lib.hid (HK.out.alloc (fun k hk' => Nat.lt_of_lt_of_le hk' HK.out.size) (.cells #[.string (txt b), .int .i64 0] 44))
  have hg0 : w.heap.size ≤ w2.heap.size := HK.out.size
  clear HR HK
  generalize w2.alloc (.cells #[.string (txt b), .int .i64 0] 44) = w3 at *
  generalize w2.heap.size = g at *
  go_loopw [8] (fun i wr => ∃ (k : Nat) (l : List UInt8) (e : Int), k ≤ n2 ∧ l.length ≤ 200 ∧ i = .int .i64 k ∧ Hid (Rd wr q l e) ∧ Hid (Two wr g (.string (txt l)) (.int .i64 e)) ∧ Hid (Keep (· < w.heap.size) w wr)) (fun i _ => n2 - (intOf i).toNat)
  case atStart => exact ⟨0, b, 0, by omega, by rw [Hbn.out]; omega, rfl, HR3, HT3, HK3⟩
  case round =>
    clear HR3 HT3 HK3
    obtain ⟨k, l, e, hk, hl, rfl, HR, HT, HK⟩ := hrel
    by_cases hlt : k < n2
    · obtain ⟨bb, o, rfl, hj, hcell⟩ := (HC.out.below HK.out.below).at hlt
      have hb8 : (cs[k].toNat : Int) < 256 := by
        have : cs[k].toNat < 256 := cs[k].toNat_lt
        omega
      have h4 : cs[k].toNat % 4 = 0 ∨ cs[k].toNat % 4 = 1 ∨ cs[k].toNat % 4 = 2 ∨ cs[k].toNat % 4 = 3 := by omega
      rcases h4 with h4 | h4 | h4 | h4
      · have hbt := and3 cs[k] 0 h4
        clear h4
        have hle := rdN_len 4 (l, e)
        have HCr := Lib.hid (u32r wr q l e HR.out)
        have HCf := Lib.hid (fun W => refRead32 l e W)
        generalize rdN 4 (l, e) = r at *
        obtain ⟨⟨l', e'⟩, x⟩ := r
        simp only at hle
        unfold RV at HCf
        go_wp2_with fail
        refine HCr.out.mono ?_
        rintro en w4 ⟨rfl, hr, hg⟩
        have HR4 := Lib.hid hr
        have HT4 := Lib.hid (HT.out.rd HR.out hg)
        have HK4 := Lib.hid (HK.out.grown hg (fun k h => Nat.lt_of_lt_of_le h HK.out.size) (fun k h h' => by injection h with h; omega))
        have c0 := HT4.out.c0
        have c1 := HT4.out.c1
        clear hr hg HR HT HK HCr
        go_wp2_with fail
        refine (HCf.out _).mono ?_
        rintro en w5 ⟨rfl, hb5⟩
        have HR5 := Lib.hid (HR4.out.kept hb5)
        have HT5 := Lib.hid (HT4.out.below hb5 HT4.out.lt)
        have HK5 := Lib.hid (HK4.out.trans ((Keep.of_below hb5).mono (fun k h => Nat.lt_of_lt_of_le h HK4.out.size)))
        clear hb5 HR4 HT4 HK4 HCf c0 c1
        have c0 := HT5.out.c0
        have c1 := HT5.out.c1
        have f0 := HT5.out.fr 0
        have f1 := HT5.out.fr 1
        have gl : g < w5.heap.size := HT5.out.lt
        go_upto_region 33 with (fail)
        have hre := round_end HR5.out HT5.out HK5.out hg0 (.cells #[.string (txt l'), .int .i64 e'] 44)
        have HR6 := Lib.hid hre.1
        have HT6 := Lib.hid hre.2.1
        have HK6 := Lib.hid hre.2.2
        clear hre c0 c1 f0 f1 gl HR5 HT5 HK5
        generalize ((w5.setCell ⟨g, 0, none⟩ (.string (txt l'))).setCell ⟨g, 1, none⟩ (.int .i64 e')).alloc (.cells #[.string (txt l'), .int .i64 e'] 44) = w6 at *
        have c0 := HT6.out.c0
        have c1 := HT6.out.c1
        have HRd : Hid (Rd w6.drew q l' e') := HR6.out.drew
        have HKd : Hid (Keep (· < w.heap.size) w w6.drew) := HK6.out.drew
        have HTd : Hid (Two w6.drew g (.string (txt l')) (.int .i64 e')) := HT6.out.drew
        have hsz : (txt l').size = l'.length := txt_size l'
        go_region_held3 (fun W => W.cell? ⟨g, 0, none⟩ = some (.string (txt l')) ∧ W.cell? ⟨g, 1, none⟩ = some (.int .i64 e'))
          (first | go_keep | exact ⟨c0, c1⟩ | exact ⟨HT7.out.c0, HT7.out.c1⟩)
          (first
            | (go_at_call 31
               refine (err_any _ q l' e' HRd.out).mono ?_
               rintro en w7 ⟨rfl, rfl⟩)
            | (go_at_call 32
               refine (end_any _ q l' e' HRd.out).mono ?_
               rintro en w7 ⟨rfl, rfl⟩)
            | (go_at_call 33
               refine (refEnd l' e' _).mono ?_
               rintro en w7 ⟨rfl, hb7⟩
               have HR7 := Lib.hid (HRd.out.kept hb7)
               have HT7 := Lib.hid (HTd.out.below hb7 HTd.out.lt)
               have HK7 := Lib.hid (HKd.out.trans ((Keep.of_below hb7).mono (fun k h => Nat.lt_of_lt_of_le h HKd.out.size)))
               clear hb7)
            | (go_at_call 34
               refine (left_any _ q l' e' HR7.out).mono ?_
               rintro en w8 ⟨rfl, rfl⟩))
        go_wp2_with fail
        go_roundw
        case rel => exact ⟨k + 1, l', e', by omega, by omega, by go_num, HR7, HT7, HK7⟩
        case measure => simp [intOf]; omega
      · have hbt := and3 cs[k] 1 h4
        clear h4
        have hle := rdN_len 8 (l, e)
        have HCr := Lib.hid (u64r wr q l e HR.out)
        have HCf := Lib.hid (fun W => refRead64 l e W)
        generalize rdN 8 (l, e) = r at *
        obtain ⟨⟨l', e'⟩, x⟩ := r
        simp only at hle
        unfold RV at HCf
        go_wp2_with fail
        refine HCr.out.mono ?_
        rintro en w4 ⟨rfl, hr, hg⟩
        have HR4 := Lib.hid hr
        have HT4 := Lib.hid (HT.out.rd HR.out hg)
        have HK4 := Lib.hid (HK.out.grown hg (fun k h => Nat.lt_of_lt_of_le h HK.out.size) (fun k h h' => by injection h with h; omega))
        have c0 := HT4.out.c0
        have c1 := HT4.out.c1
        clear hr hg HR HT HK HCr
        go_wp2_with fail
        refine (HCf.out _).mono ?_
        rintro en w5 ⟨rfl, hb5⟩
        have HR5 := Lib.hid (HR4.out.kept hb5)
        have HT5 := Lib.hid (HT4.out.below hb5 HT4.out.lt)
        have HK5 := Lib.hid (HK4.out.trans ((Keep.of_below hb5).mono (fun k h => Nat.lt_of_lt_of_le h HK4.out.size)))
        clear hb5 HR4 HT4 HK4 HCf c0 c1
        have c0 := HT5.out.c0
        have c1 := HT5.out.c1
        have f0 := HT5.out.fr 0
        have f1 := HT5.out.fr 1
        have gl : g < w5.heap.size := HT5.out.lt
        go_upto_region 33 with (fail)
        have hre := round_end HR5.out HT5.out HK5.out hg0 (.cells #[.string (txt l'), .int .i64 e'] 44)
        have HR6 := Lib.hid hre.1
        have HT6 := Lib.hid hre.2.1
        have HK6 := Lib.hid hre.2.2
        clear hre c0 c1 f0 f1 gl HR5 HT5 HK5
        generalize ((w5.setCell ⟨g, 0, none⟩ (.string (txt l'))).setCell ⟨g, 1, none⟩ (.int .i64 e')).alloc (.cells #[.string (txt l'), .int .i64 e'] 44) = w6 at *
        have c0 := HT6.out.c0
        have c1 := HT6.out.c1
        have HRd : Hid (Rd w6.drew q l' e') := HR6.out.drew
        have HKd : Hid (Keep (· < w.heap.size) w w6.drew) := HK6.out.drew
        have HTd : Hid (Two w6.drew g (.string (txt l')) (.int .i64 e')) := HT6.out.drew
        have hsz : (txt l').size = l'.length := txt_size l'
        go_region_held3 (fun W => W.cell? ⟨g, 0, none⟩ = some (.string (txt l')) ∧ W.cell? ⟨g, 1, none⟩ = some (.int .i64 e'))
          (first | go_keep | exact ⟨c0, c1⟩ | exact ⟨HT7.out.c0, HT7.out.c1⟩)
          (first
            | (go_at_call 31
               refine (err_any _ q l' e' HRd.out).mono ?_
               rintro en w7 ⟨rfl, rfl⟩)
            | (go_at_call 32
               refine (end_any _ q l' e' HRd.out).mono ?_
               rintro en w7 ⟨rfl, rfl⟩)
            | (go_at_call 33
               refine (refEnd l' e' _).mono ?_
               rintro en w7 ⟨rfl, hb7⟩
               have HR7 := Lib.hid (HRd.out.kept hb7)
               have HT7 := Lib.hid (HTd.out.below hb7 HTd.out.lt)
               have HK7 := Lib.hid (HKd.out.trans ((Keep.of_below hb7).mono (fun k h => Nat.lt_of_lt_of_le h HKd.out.size)))
               clear hb7)
            | (go_at_call 34
               refine (left_any _ q l' e' HR7.out).mono ?_
               rintro en w8 ⟨rfl, rfl⟩))
        go_wp2_with fail
        go_roundw
        case rel => exact ⟨k + 1, l', e', by omega, by omega, by go_num, HR7, HT7, HK7⟩
        case measure => simp [intOf]; omega
      · have hbt := and3 cs[k] 2 h4
        clear h4
        have hle := rdB_len (l, e)
        have HCr := Lib.hid (boolr wr q l e HR.out)
        have HCf := Lib.hid (fun W => refReadBool l e W)
        generalize rdB (l, e) = r at *
        obtain ⟨⟨l', e'⟩, x⟩ := r
        simp only at hle
        unfold RV at HCf
        go_wp2_with fail
        refine HCr.out.mono ?_
        rintro en w4 ⟨rfl, hr, hg⟩
        have HR4 := Lib.hid hr
        have HT4 := Lib.hid (HT.out.rd HR.out hg)
        have HK4 := Lib.hid (HK.out.grown hg (fun k h => Nat.lt_of_lt_of_le h HK.out.size) (fun k h h' => by injection h with h; omega))
        have c0 := HT4.out.c0
        have c1 := HT4.out.c1
        clear hr hg HR HT HK HCr
        go_wp2_with fail
        refine (HCf.out _).mono ?_
        rintro en w5 ⟨rfl, hb5⟩
        have HR5 := Lib.hid (HR4.out.kept hb5)
        have HT5 := Lib.hid (HT4.out.below hb5 HT4.out.lt)
        have HK5 := Lib.hid (HK4.out.trans ((Keep.of_below hb5).mono (fun k h => Nat.lt_of_lt_of_le h HK4.out.size)))
        clear hb5 HR4 HT4 HK4 HCf c0 c1
        have c0 := HT5.out.c0
        have c1 := HT5.out.c1
        have f0 := HT5.out.fr 0
        have f1 := HT5.out.fr 1
        have gl : g < w5.heap.size := HT5.out.lt
        go_upto_region 33 with (fail)
        have hre := round_end HR5.out HT5.out HK5.out hg0 (.cells #[.string (txt l'), .int .i64 e'] 44)
        have HR6 := Lib.hid hre.1
        have HT6 := Lib.hid hre.2.1
        have HK6 := Lib.hid hre.2.2
        clear hre c0 c1 f0 f1 gl HR5 HT5 HK5
        generalize ((w5.setCell ⟨g, 0, none⟩ (.string (txt l'))).setCell ⟨g, 1, none⟩ (.int .i64 e')).alloc (.cells #[.string (txt l'), .int .i64 e'] 44) = w6 at *
        have c0 := HT6.out.c0
        have c1 := HT6.out.c1
        have HRd : Hid (Rd w6.drew q l' e') := HR6.out.drew
        have HKd : Hid (Keep (· < w.heap.size) w w6.drew) := HK6.out.drew
        have HTd : Hid (Two w6.drew g (.string (txt l')) (.int .i64 e')) := HT6.out.drew
        have hsz : (txt l').size = l'.length := txt_size l'
        go_region_held3 (fun W => W.cell? ⟨g, 0, none⟩ = some (.string (txt l')) ∧ W.cell? ⟨g, 1, none⟩ = some (.int .i64 e'))
          (first | go_keep | exact ⟨c0, c1⟩ | exact ⟨HT7.out.c0, HT7.out.c1⟩)
          (first
            | (go_at_call 31
               refine (err_any _ q l' e' HRd.out).mono ?_
               rintro en w7 ⟨rfl, rfl⟩)
            | (go_at_call 32
               refine (end_any _ q l' e' HRd.out).mono ?_
               rintro en w7 ⟨rfl, rfl⟩)
            | (go_at_call 33
               refine (refEnd l' e' _).mono ?_
               rintro en w7 ⟨rfl, hb7⟩
               have HR7 := Lib.hid (HRd.out.kept hb7)
               have HT7 := Lib.hid (HTd.out.below hb7 HTd.out.lt)
               have HK7 := Lib.hid (HKd.out.trans ((Keep.of_below hb7).mono (fun k h => Nat.lt_of_lt_of_le h HKd.out.size)))
               clear hb7)
            | (go_at_call 34
               refine (left_any _ q l' e' HR7.out).mono ?_
               rintro en w8 ⟨rfl, rfl⟩))
        go_wp2_with fail
        go_roundw
        case rel => exact ⟨k + 1, l', e', by omega, by omega, by go_num, HR7, HT7, HK7⟩
        case measure => simp [intOf]; omega
      · have hbt := and3 cs[k] 3 h4
        clear h4
        have hle := rdO_len ((cs[k].toNat : Int) / 4 - 1) (l, e)
        have HCr := Lib.hid (opaquer wr q l e ((cs[k].toNat : Int) / 4 - 1) (by omega) (by omega) HR.out)
        have HCf := Lib.hid (fun W => refReadOpaque l e ((cs[k].toNat : Int) / 4 - 1) W (by omega) (by omega))
        generalize rdO ((cs[k].toNat : Int) / 4 - 1) (l, e) = r at *
        obtain ⟨⟨l', e'⟩, x⟩ := r
        simp only at hle
        unfold RV at HCf
        go_wp2_with fail
        refine HCr.out.mono ?_
        rintro en w4 ⟨Ao, co, rfl, hbs, hr, hg, _⟩
        have HR4 := Lib.hid hr
        have HT4 := Lib.hid (HT.out.rd HR.out hg)
        have HK4 := Lib.hid (HK.out.grown hg (fun k h => Nat.lt_of_lt_of_le h HK.out.size) (fun k h h' => by injection h with h; omega))
        have c0 := HT4.out.c0
        have c1 := HT4.out.c1
        have HX4 := Lib.hid hbs
        clear hbs
        clear hr hg HR HT HK HCr
        go_wp2_with fail
        refine (HCf.out _).mono ?_
        rintro en w5 ⟨rfl, hb5⟩
        have HR5 := Lib.hid (HR4.out.kept hb5)
        have HT5 := Lib.hid (HT4.out.below hb5 HT4.out.lt)
        have HK5 := Lib.hid (HK4.out.trans ((Keep.of_below hb5).mono (fun k h => Nat.lt_of_lt_of_le h HK4.out.size)))
        have HX5 := Lib.hid (HX4.out.below hb5)
        clear hb5 HR4 HT4 HK4 HCf c0 c1
        have c0 := HT5.out.c0
        have c1 := HT5.out.c1
        have f0 := HT5.out.fr 0
        have f1 := HT5.out.fr 1
        have gl : g < w5.heap.size := HT5.out.lt
        go_upto_region 17 with (fail)
        have hre := round_end HR5.out HT5.out HK5.out hg0 (.cells #[.string (txt l'), .int .i64 e'] 44)
        have hv := run_convert_bs (((w5.setCell ⟨g, 0, none⟩ (.string (txt l'))).setCell ⟨g, 1, none⟩ (.int .i64 e')).alloc (.cells #[.string (txt l'), .int .i64 e'] 44)) Ao x.length co x (round_bs HX5.out HT5.out _)
        have HR6 := Lib.hid hre.1
        have HT6 := Lib.hid hre.2.1
        have HK6 := Lib.hid hre.2.2
        clear hre c0 c1 f0 f1 gl HR5 HT5 HK5
        generalize ((w5.setCell ⟨g, 0, none⟩ (.string (txt l'))).setCell ⟨g, 1, none⟩ (.int .i64 e')).alloc (.cells #[.string (txt l'), .int .i64 e'] 44) = w6 at *
        have c0 := HT6.out.c0
        have c1 := HT6.out.c1
        have HRd : Hid (Rd w6.drew q l' e') := HR6.out.drew
        have HKd : Hid (Keep (· < w.heap.size) w w6.drew) := HK6.out.drew
        have HTd : Hid (Two w6.drew g (.string (txt l')) (.int .i64 e')) := HT6.out.drew
        have hsz : (txt l').size = l'.length := txt_size l'
        go_upto_region 33 with (fail)
        clear hv
        go_region_held3 (fun W => W.cell? ⟨g, 0, none⟩ = some (.string (txt l')) ∧ W.cell? ⟨g, 1, none⟩ = some (.int .i64 e'))
          (first | go_keep | exact ⟨c0, c1⟩ | exact ⟨HT7.out.c0, HT7.out.c1⟩)
          (first
            | (go_at_call 31
               refine (err_any _ q l' e' HRd.out).mono ?_
               rintro en w7 ⟨rfl, rfl⟩)
            | (go_at_call 32
               refine (end_any _ q l' e' HRd.out).mono ?_
               rintro en w7 ⟨rfl, rfl⟩)
            | (go_at_call 33
               refine (refEnd l' e' _).mono ?_
               rintro en w7 ⟨rfl, hb7⟩
               have HR7 := Lib.hid (HRd.out.kept hb7)
               have HT7 := Lib.hid (HTd.out.below hb7 HTd.out.lt)
               have HK7 := Lib.hid (HKd.out.trans ((Keep.of_below hb7).mono (fun k h => Nat.lt_of_lt_of_le h HKd.out.size)))
               clear hb7)
            | (go_at_call 34
               refine (left_any _ q l' e' HR7.out).mono ?_
               rintro en w8 ⟨rfl, rfl⟩))
        go_wp2_with fail
        go_roundw
        case rel => exact ⟨k + 1, l', e', by omega, by omega, by go_num, HR7, HT7, HK7⟩
        case measure => simp [intOf]; omega
    · go_wp2_with fail
      refine (u32r_nil wr).mono ?_
      rintro en w4 ⟨rfl, rfl⟩
      go_wp2_with fail
      refine (u64r_nil wr).mono ?_
      rintro en w4 ⟨rfl, rfl⟩
      go_wp2_with fail
      refine (boolr_nil wr).mono ?_
      rintro en w4 ⟨rfl, rfl⟩
      go_wp2_with fail
      refine (opaquer_nil wr 1).mono ?_
      rintro en w4 ⟨rfl, rfl⟩
      go_wp2_with fail
      refine (left_nil wr).mono ?_
      rintro en w4 ⟨rfl, rfl⟩
      go_wp2_with fail
      refine (err_nil wr).mono ?_
      rintro en w4 ⟨rfl, rfl⟩
      go_wp2_with fail
      refine (end_nil wr).mono ?_
      rintro en w4 ⟨rfl, rfl⟩
      go_wp2_with fail
      go_ret
      exact ⟨rfl, HK.out.below⟩
end Go.Proofs.Ytdooimdjejopmaa
