/-
  Contracts of valid and operations (layer 13).
-/
import Derived.Test.YtpbpdnjlomhkdaaGreatOUsed
import Derived.Test.YtpbpdnjlomhkdaaGreatOPC
import Derived.Carry
import Derived.Maps.Own
namespace Go.Proofs.YtpbpdnjlomhkdaaGreat
open Go.RowKit Go.Shelf

set_option maxRecDepth 100000 in
set_option maxHeartbeats 1500000 in
theorem validT_any {A : Option Addr} {c : Nat} {t : Op.TT} {w : World} (h : SS w A 24 ((List.range 24).map t.s)) (hs : Op.Sound t) :
    Calls Tryz.prog 37 #[.agg (tc t (.slice A 24 c)).toArray] w fun e w' => e = .returned (.bool true) ∧ Below w.heap.size w w' := by
  obtain ⟨b, o, rfl, hat⟩ := ss_at h
  have HA := Lib.hid hat
  have HS := Lib.hid hs
  have HB := Lib.hid (alloc_below w (.cells (tc t (.slice (some ⟨b, o, none⟩) 24 c)).toArray 27))
  have HC : Hid (Bw (w.alloc (.cells (tc t (.slice (some ⟨b, o, none⟩) 24 c)).toArray 27)) w.heap.size (tc t (.slice (some ⟨b, o, none⟩) 24 c)) 27) := heap_alloc_new w _
  have c0 := HC.out.cell 0 _ rfl
  clear h hat hs
  go_enter Tryz.func37, Tryz.ntmps37
  go_upto_region 4 with fail
  clear c0 HC
  go_loopw [12] (fun i wr => ∃ k : Nat, k ≤ 24 ∧ i = .int .i64 k ∧ Hid (Below w.heap.size w wr)) (fun i _ => 24 - (intOf i).toNat)
  case atStart => exact ⟨0, by omega, rfl, HB.out⟩
  case round =>
    clear HB
    obtain ⟨k, hk, rfl, HB⟩ := hrel
    by_cases hlt : k < 24
    · obtain ⟨y, hy1, hy2⟩ := HA.out wr HB.out k hlt
      have HY := Lib.hid hy1
      have HD := Lib.hid hy2
      have hino := HS.out.inv.may.ino k hlt
      have hok := HS.out.inv.may.ok k hlt
      have HF : Hid (Fits (t.s k)) := Fits.of_ok hok (HS.out.inv.wide k hlt)
      have HK : Hid (Sl.chkS (t.s k) = 0) := by show _ = _; unfold Sl.chkS; rw [if_pos hok]
      have HN : Hid (y.n ≤ 1000) := by show _ ≤ _; rw [← hy2.1]; have := (Vl.okB_facts hok).2.2; omega
      clear hy1 hy2 hok
      go_upto_region 6 with (first
        | (refine Did.list rfl (did_load 92 (.tmp 15) rfl ⟨b, o + k * 9, none⟩ rfl _ Tryz.underlying92 rfl (sc (t.s k) (.slice y.a y.n y.c)) size_Sl HY.out) ?_)
        | (refine wpList_alloc_any rfl 92 rfl _ zero_Sl ?_; intro w5 hb5 hs5 hw5)
        | (refine wpList_store_part rfl 92 (.tmp 4) (.tmp 16) rfl wr.heap.size 0 (sc (t.s k) (.slice y.a y.n y.c)) rfl rfl 92 _ hb5 size_Sl (by simp [sc]) (sc_row _ _ _ _) ?_
           intro w6 hb6 hs6 hk6))
      have hbb : Below wr.heap.size wr w6 := hw5.trans (hk6.below2 (fun k hk => by omega))
      have HB6 : Hid (Below w.heap.size w w6) := HB.out.trans (hbb.mono HB.out.size)
      have HCH := Lib.hid (checkS_any (t.s k) y.a y.n y.c w6 HF.out (HD.out.below hbb) HN.out)
      have HBW : Hid (Bw w6 wr.heap.size (sc (t.s k) (.slice y.a y.n y.c)) 92) := hb6
      rw [HK.out] at HCH
      generalize t.s k = s at HCH HBW hino
      have c0 := HBW.out.cell 0 _ rfl
      have c1 := HBW.out.cell 1 _ rfl
      have c2 := HBW.out.cell 2 _ rfl
      have c3 := HBW.out.cell 3 _ rfl
      have c4 := HBW.out.cell 4 _ rfl
      have c5 := HBW.out.cell 5 _ rfl
      have c6 := HBW.out.cell 6 _ rfl
      have c7 := HBW.out.cell 7 _ rfl
      have c8 := HBW.out.cell 8 _ rfl
      have hd : ((s.ino : Int) != (k : Int)) = false := by rw [hino]; simp
      clear hb5 hs5 hw5 hb6 hs6 hk6 HY HB hbb HBW HF HK HN HD hino
      go_wp2_with fail
      refine HCH.out.mono ?_
      rintro e w7 ⟨rfl, hb⟩
      have HB7 : Hid (Below w.heap.size w w7) := HB6.out.trans (hb.mono HB6.out.size)
      clear hb HCH HB6
      go_wp2
      go_roundw
      case rel => exact ⟨k + 1, by omega, by go_num, HB7.out⟩
      case measure => simp [intOf]; omega
    · obtain rfl : k = 24 := by omega
      clear HA HS
      go_wp2_with fail
      go_ret
      exact ⟨rfl, HB.out⟩
end Go.Proofs.YtpbpdnjlomhkdaaGreat
