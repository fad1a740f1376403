/-
  The walk of the statement on what may be kept (layer 14).
-/
import Derived.Test.YtjgmboleiaehaaaYQ6
import Derived.Laws.BitsAllLaws
namespace Go.Proofs.Ytjgmboleiaehaaa
open Go.RowKit Go.Shelf

set_option maxRecDepth 100000 in
set_option maxHeartbeats 8000000 in
theorem form_walk (w : World) (r : Rp) (A : Option Addr) (n c : Nat) (B : Option Addr) (k d : Nat) (at_ : Nat) (hat : at_ < 256) (M : Option Addr) (mm cm : Nat) (ml : List UInt8) (hn : r.dt.length = n) (hk : r.es.length = k) (hw : r.Wide) (h3 : BS w M mm ml) :
    Calls Try.prog 6 #[.agg (rc r (.slice A n c) (.slice B k d)).toArray, .int .u8 (at_ : Int), .slice M mm cm] w fun e w' => e = .returned (.bool true) ∧ Below w.heap.size w w' := by
  have HWD := Lib.hid hw
  have HM := Lib.hid h3
  have HNX := Lib.hid hn
  have HEX := Lib.hid hk
  have HML : Hid (ml.length = mm) := h3.1
  clear hw h3 hn hk
  go_enter Try.func6, Try.ntmps6
  go_upto_region 1 with fail
  have HB0 : Hid (Bw (w.alloc (.cells (rc r (.slice A n c) (.slice B k d)).toArray 41)) w.heap.size (rc r (.slice A n c) (.slice B k d)) 41) := heap_alloc_new w _
  have HW0 : Hid (Below w.heap.size w (w.alloc (.cells (rc r (.slice A n c) (.slice B k d)).toArray 41))) := (Below.refl _ w).alloc (Nat.le_refl _) _
  generalize w.alloc (.cells (rc r (.slice A n c) (.slice B k d)).toArray 41) = w0 at *
  go_wp2_with fail
  refine (awakeY_any _).mono ?_
  rintro e w1 ⟨rfl, hb⟩
  have HB1 := Lib.hid (HB0.out.below hb)
  have HW1 := Lib.hid (HW0.out.trans (hb.mono HW0.out.size))
  clear hb HB0 HW0
  have e10 := HB1.out.cell 10 _ rfl
  have e11 := HB1.out.cell 11 _ rfl
  by_cases g1 : n > 100
  · have f1 : decide ((100 : Int) < (n : Int)) = true := by simp; omega
    go_wp2_with fail
    go_ret
    exact ⟨rfl, HW1.out⟩
  have f1 : decide ((100 : Int) < (n : Int)) = false := by simp; omega
  by_cases g2 : k > 10
  · have f2 : decide ((10 : Int) < (k : Int)) = true := by simp; omega
    go_wp2_with fail
    go_ret
    exact ⟨rfl, HW1.out⟩
  have f2 : decide ((10 : Int) < (k : Int)) = false := by simp; omega
  by_cases g3 : mm = 0
  · have f3 : ((mm : Int) == 0) = true := by simp; omega
    go_wp2_with fail
    go_ret
    exact ⟨rfl, HW1.out⟩
  have f3 : ((mm : Int) == 0) = false := by simp; omega
  by_cases g4 : mm > 20
  · have f4 : decide ((20 : Int) < (mm : Int)) = true := by simp; omega
    go_wp2_with fail
    go_ret
    exact ⟨rfl, HW1.out⟩
  have f4 : decide ((20 : Int) < (mm : Int)) = false := by simp; omega
  have HMM : Hid (0 < mm ∧ mm ≤ 20) := by show _ ∧ _; omega
  go_upto_region 6 with fail
  clear f1 f2 f3 f4 g1 g2 g3 g4 e10 e11
  obtain ⟨c8, hc8⟩ : ∃ q, r.cli % 8 = q := ⟨_, rfl⟩
  have HC8 : Hid (c8 < 8) := by show _ < _; omega
  have hand : bits BinOp.and IntKind.u32 (r.cli : Int) 7 = (c8 : Int) := by
    have h1 := u32_and_nat r.cli 7 HWD.out.cli (by decide)
    rw [Nat.and_two_pow_sub_one_eq_mod r.cli 3] at h1
    rw [← hc8]
    exact h1
  have e0 := HB1.out.cell 0 _ rfl
  go_upto_region 7 with (refine wpList_store_cell rfl 31 (.tmp 41) (.tmp 40) rfl w.heap.size 0 (.int .u32 (c8 : Int)) rfl rfl 41 _ HB1.out (by kernel_rfl) rfl (by simp [rc]) rfl ?_; intro w2 hb2 hs2 hk2)
  obtain ⟨rr, hrr⟩ : ∃ t : Rp, ({ r with cli := c8 } : Rp) = t := ⟨_, rfl⟩
  have HB2 : Hid (Bw w2 w.heap.size (rc rr (.slice A n c) (.slice B k d)) 41) := by rw [← hrr]; exact hb2
  have HRR : Hid (rr.cli = c8 ∧ rr.st = r.st ∧ rr.dt.length = n ∧ rr.es.length = k ∧ rr.Wide) := by
    rw [← hrr]
    have h := HWD.out
    exact ⟨rfl, rfl, HNX.out, HEX.out, ⟨by have := HC8.out; show c8 < _; omega, h.xid, h.ati, h.atg, h.kd, h.md, h.ln, h.sz, h.ch, h.vf, h.fr, h.es⟩⟩
  have HW2 : Hid (Below w.heap.size w w2) := HW1.out.trans (hk2.below2 (fun k hk => by omega))
  have HM2 := Lib.hid (HM.out.below HW2.out)
  have HLT : Hid (w.heap.size < w2.heap.size) := HB2.out.lt
  clear hb2 hs2 hk2 hand e0 hc8 hrr HB1 HW1 HM HWD HNX HEX
  have HRI := Lib.hid (RI.made w2 40)
  have HBa : Hid (Below w2.heap.size w2 (w2.alloc (.cells (Array.replicate 40 (.slice none 0 0)) 38))) := (Below.refl _ _).alloc (Nat.le_refl _) _
  have hmk : ∀ W : World, (Instr.makeSlice 26 (.int .i64 40) (.int .i64 40)).run Try.prog W = .ok (.slice (some ⟨W.heap.size, 0, none⟩) 40 40) (W.alloc (.cells (Array.replicate 40 (.slice none 0 0)) 38)) := fun W => run_make_rows W 40 (by omega)
  go_wp2_with fail
  refine (new_any _ 40 40 (List.replicate 40 []) _ HRI.out (by omega)).mono ?_
  rintro en w3 ⟨h, m, p, rfl, ht, hb, _, hm⟩
  have HT3 : Hid (TK w2 p m ⟨some ⟨h, 0, none⟩, 40, 40⟩ (TX.new (List.replicate 40 [])) w3) := TK.start (Below.refl _ _) (ht.mono fun k hk => Nat.le_trans HBa.out.size hk) (HBa.out.trans (hb.mono HBa.out.size))
  clear ht hb hm HBa HRI hmk
  go_wp2_with (refine wpList_load_part rfl 41 (.tmp 3) rfl _ 0 rfl _ Try.underlying41 rfl (rc rr (.slice A n c) (.slice B k d)) 41 _ (HB2.out.below HT3.out.bel) size_Rp (fun j u hu => by rw [Nat.zero_add]; exact hu) ?_)
  refine (putRp_any HT3.out.tq HT3.out.new rr A n c B k d HRR.out.2.2.2.2 HRR.out.2.2.1 HRR.out.2.2.2.1).mono ?_
  rintro en w4 ⟨rfl, ht, hb⟩
  have HT4 := Lib.hid (HT3.out.put ht hb)
  clear ht hb HT3
  have HB4 := Lib.hid (HB2.out.below HT4.out.bel)
  have e2 := HB4.out.cell 2 _ rfl
  have e10 := HB4.out.cell 10 _ rfl
  have e11 := HB4.out.cell 11 _ rfl
  have e12 := HB4.out.cell 12 _ rfl
  go_upto_region 9 with fail
  obtain ⟨z, hz⟩ : ∃ z, Ry.okB rr = z := ⟨_, rfl⟩
  have HZ := Lib.hid hz
  have HIFF : Hid (z = true ↔ stOk rr.st = true ∧ n = 0 ∧ k = 0 ∧ rr.eof = false) := by
    show _ ↔ _
    rw [← hz, Ry.okB_iff, ← HRR.out.2.2.1, ← HRR.out.2.2.2.1, List.length_eq_zero_iff, List.length_eq_zero_iff]
    exact ⟨fun h => h.2, fun h => ⟨by rw [HRR.out.1]; exact HC8.out, h⟩⟩
  clear hz
  obtain ⟨pe, hpe⟩ : ∃ q, Ry.pErr (Sl.n ⟨some ⟨h, 0, none⟩, 40, 40⟩) rr = q := ⟨_, rfl⟩
  have HPE := Lib.hid hpe
  rw [hpe]
  clear hpe
  go_cut [10] (fun s10 W => s10 = .bool z ∧ w4 = W)
  case first =>
    have hc : rr.st = 0 ∨ (rr.st ≠ 0 ∧ ¬ 60 ≤ rr.st) ∨ (rr.st ≠ 0 ∧ 60 ≤ rr.st ∧ rr.st ≤ 71) ∨ (rr.st ≠ 0 ∧ 60 ≤ rr.st ∧ ¬ rr.st ≤ 71) := by omega
    rcases hc with h0 | h0 | h0 | h0
    · have f0 : (rr.st == 0) = true := by simp; omega
      have hs : Hid (stOk rr.st = true) := by show _ = _; rw [stOk_iff]; omega
      clear h0
      by_cases h1 : n = 0
      rotate_left
      · have f3 : ((n : Int) == 0) = false := by simp; omega
        have hz : Hid (z = false) := by show _ = _; cases z; rfl; exact absurd (HIFF.out.1 rfl).2.1 h1
        clear h1
        go_wp2_with fail
        go_meet
        case rel => exact ⟨by rw [hz.out], rfl⟩
      have f3 : ((n : Int) == 0) = true := by simp; omega
      by_cases h2 : k = 0
      rotate_left
      · have f4 : ((k : Int) == 0) = false := by simp; omega
        have hz : Hid (z = false) := by show _ = _; cases z; rfl; exact absurd (HIFF.out.1 rfl).2.2.1 h2
        clear h1 h2
        go_wp2_with fail
        go_meet
        case rel => exact ⟨by rw [hz.out], rfl⟩
      have f4 : ((k : Int) == 0) = true := by simp; omega
      cases h3 : rr.eof with
      | true =>
        have hz : Hid (z = false) := by show _ = _; cases z; rfl; exact absurd ((HIFF.out.1 rfl).2.2.2.symm.trans h3) (by decide)
        rw [h3] at e12
        clear h1 h2 h3
        go_wp2_with fail
        go_meet
        case rel => exact ⟨by rw [hz.out], rfl⟩
      | false =>
        have hz : Hid (z = true) := HIFF.out.2 ⟨hs.out, h1, h2, h3⟩
        rw [h3] at e12
        clear h1 h2 h3
        go_wp2_with fail
        go_meet
        case rel => exact ⟨by rw [hz.out], rfl⟩
    · have f0 : (rr.st == 0) = false := by simp; omega
      have f1 : decide (60 ≤ rr.st) = false := by simp; omega
      have hz : Hid (z = false) := by show _ = _; cases z; rfl; exact absurd (HIFF.out.1 rfl).1 (by rw [stOk_iff]; omega)
      clear h0
      go_wp2_with fail
      go_meet
      case rel => exact ⟨by rw [hz.out], rfl⟩
    · have f0 : (rr.st == 0) = false := by simp; omega
      have f1 : decide (60 ≤ rr.st) = true := by simp; omega
      have f2 : decide (rr.st ≤ 71) = true := by simp; omega
      have hs : Hid (stOk rr.st = true) := by show _ = _; rw [stOk_iff]; omega
      clear h0
      by_cases h1 : n = 0
      rotate_left
      · have f3 : ((n : Int) == 0) = false := by simp; omega
        have hz : Hid (z = false) := by show _ = _; cases z; rfl; exact absurd (HIFF.out.1 rfl).2.1 h1
        clear h1
        go_wp2_with fail
        go_meet
        case rel => exact ⟨by rw [hz.out], rfl⟩
      have f3 : ((n : Int) == 0) = true := by simp; omega
      by_cases h2 : k = 0
      rotate_left
      · have f4 : ((k : Int) == 0) = false := by simp; omega
        have hz : Hid (z = false) := by show _ = _; cases z; rfl; exact absurd (HIFF.out.1 rfl).2.2.1 h2
        clear h1 h2
        go_wp2_with fail
        go_meet
        case rel => exact ⟨by rw [hz.out], rfl⟩
      have f4 : ((k : Int) == 0) = true := by simp; omega
      cases h3 : rr.eof with
      | true =>
        have hz : Hid (z = false) := by show _ = _; cases z; rfl; exact absurd ((HIFF.out.1 rfl).2.2.2.symm.trans h3) (by decide)
        rw [h3] at e12
        clear h1 h2 h3
        go_wp2_with fail
        go_meet
        case rel => exact ⟨by rw [hz.out], rfl⟩
      | false =>
        have hz : Hid (z = true) := HIFF.out.2 ⟨hs.out, h1, h2, h3⟩
        rw [h3] at e12
        clear h1 h2 h3
        go_wp2_with fail
        go_meet
        case rel => exact ⟨by rw [hz.out], rfl⟩
    · have f0 : (rr.st == 0) = false := by simp; omega
      have f1 : decide (60 ≤ rr.st) = true := by simp; omega
      have f2 : decide (rr.st ≤ 71) = false := by simp; omega
      have hz : Hid (z = false) := by show _ = _; cases z; rfl; exact absurd (HIFF.out.1 rfl).1 (by rw [stOk_iff]; omega)
      clear h0
      go_wp2_with fail
      go_meet
      case rel => exact ⟨by rw [hz.out], rfl⟩
  obtain ⟨rfl, rfl⟩ := hcut
  clear e2 e10 e11 e12
  cases z with
  | false =>
    have HNO : Hid (¬ Ry.okB rr = true) := by show ¬ _; rw [HZ.out]; decide
    obtain rfl : pe = 1 := HPE.out.symm.trans (Ry.pErr_no _ _ HNO.out)
    rw [show Ry.pPut (Sl.n ⟨some ⟨h, 0, none⟩, 40, 40⟩) (TX.new (List.replicate 40 [])) rr = TX.new (List.replicate 40 []) from Ry.pPut_no _ _ _ HNO.out] at HT4
    go_wp2_with fail
    refine (changes_any HT4.out.tq (by show 40 ≤ _; omega)).mono ?_
    intro e w5 hcx
    have hc' : ChgQ w4 [] e w5 := by
      have := hcx
      rw [chs_new] at this
      exact this
    obtain ⟨A4, c4, sl, rfl, _, hb, _⟩ := hc'
    have HT5 := Lib.hid (HT4.out.below hb)
    clear hcx hb HT4
    rw [List.length_nil]
    go_wp2_with fail
    go_ret
    exact ⟨rfl, HW2.out.trans (HT5.out.bel.mono HW2.out.size)⟩
  | true =>
    have HOK : Hid (Ry.okB rr = true) := HZ.out
    have HWR := Lib.hid HRR.out.2.2.2.2
    obtain rfl : pe = 0 := HPE.out.symm.trans (Ry.pErr_ok 40 _ HOK.out (by omega))
    have HBK : Hid (TX.bk (Ry.pPut (Sl.n ⟨some ⟨h, 0, none⟩, 40, 40⟩) (TX.new (List.replicate 40 [])) rr) 40 (1 + c8) = Ry.enc rr) := by
      show _ = _
      rw [show TX.bk (Ry.pPut (Sl.n ⟨some ⟨h, 0, none⟩, 40, 40⟩) (TX.new (List.replicate 40 [])) rr) 40 (1 + c8) = _ from Ry.pPut_bk 40 _ rr HOK.out (by omega) (1 + c8)]
      exact if_pos (by rw [HRR.out.1])
    generalize Ry.pPut (Sl.n ⟨some ⟨h, 0, none⟩, 40, 40⟩) (TX.new (List.replicate 40 [])) rr = X at *
    have e0 : w4.cell? ⟨w.heap.size, 0, none⟩ = some (.int .u32 (c8 : Int)) := by rw [← HRR.out.1]; exact HB4.out.cell 0 _ rfl
    have hst := ((Ry.okB_iff rr).1 HOK.out).2.1
    have HMORE : Hid (Ry.err (Ry.enc rr ++ ml) = 12) := Ry.err_more rr ml HWR.out hst (by rw [HML.out]; exact HMM.out.1)
    have HCUT : Hid (∀ j, j < 52 → Ry.err ((Ry.enc rr).take j) = 10) := fun j hj => Ry.err_cut rr j HWR.out hst (by rw [Ry.enc_length]; exact hj)
    have HLL : Hid ((Ry.enc rr).length = 52) := Ry.enc_length rr
    have HNE : Hid (Ry.enc rr ≠ []) := Ry.enc_ne rr
    clear hst
    go_wp2_with fail
    refine (raw_tq HT4.out.tq c8).mono ?_
    rintro en w5 ⟨A5, n5, c5, rfl, ho⟩
    rw [if_pos HC8.out, show TX.bk X (Sl.n ⟨some ⟨h, 0, none⟩, 40, 40⟩) (1 + c8) = Ry.enc rr from HBK.out] at ho
    generalize Ry.enc rr = L at *
    have hn5 : n5 = 52 := by have := ho.bs.1; have := HLL.out; omega
    subst hn5
    have HCP := Lib.hid ho.cap
    have HO5 : Hid (w5.ownsRow w4.heap.size 5 1 (.slice A5 52 c5) 52 (bc L)) := ho.1
    have HBL5 : Hid (Below w4.heap.size w4 w5) := ho.2
    have HM5 := Lib.hid (HM2.out.below ((HT4.out.below ho.2).bel))
    clear ho e0
    have hk : at_ % 52 < 52 := Nat.mod_lt _ (by decide)
    obtain ⟨j8, hj8⟩ : ∃ q : Nat, at_ % 52 = q := ⟨_, rfl⟩
    have HJ : Hid (j8 < 52) := by rw [hj8] at hk; exact hk
    have HJ2 : Hid ((at_ : Int) % 52 = (j8 : Int)) := by show _ = _; omega
    clear hk hj8
    obtain ⟨A6, c6, w6, hrun, hB6, hB5, hg6⟩ := append_keep w5 w4.heap.size 38 A5 52 c5 L HO5.out M mm cm ml HM5.out HMM.out.1 (by have := HMM.out; omega) HBL5.out.size
    have HT6 : Hid (TK w2 p m ⟨some ⟨h, 0, none⟩, 40, 40⟩ X w6) := HT4.out.below (own_growF HO5.out hg6 HBL5.out (Nat.le_refl _) HBL5.out.size)
    have HB6 := Lib.hid hB6
    have HB5 := Lib.hid hB5
    have HRUN := Lib.hid hrun
    clear hB6 hB5 hg6 hrun HT4 HO5 HBL5 HM5
    have hj2 := HJ2.out
    go_wp2_with (at_builtin; refine wpList_append_run rfl (.tmp 95) (.tmp 96) 38 rfl _ _ _ rfl rfl HRUN.out ?_)
    refine (setRaw_any HT6.out.tq HT6.out.new 1 A6 (52 + mm) c6 (L ++ ml) HB6.out (by have := HMM.out; omega)).mono ?_
    rintro en w7 ⟨rfl, ht, hb⟩
    have hs1 : Ry.sErr 1 (L ++ ml) = 11 := (if_pos (by decide)).trans (if_pos ⟨fun e => HNE.out (List.append_eq_nil_iff.1 e).1, by rw [HMORE.out]; decide⟩)
    rw [show Ry.srErr (Sl.n ⟨some ⟨h, 0, none⟩, 40, 40⟩) 1 (L ++ ml) = 11 from (if_neg (by rw [hs1]; decide)).trans hs1]
    rw [show Ry.srPut (Sl.n ⟨some ⟨h, 0, none⟩, 40, 40⟩) X 1 (L ++ ml) = X from if_neg (by rw [hs1]; decide)] at ht
    have HT7 := Lib.hid (HT6.out.put ht hb)
    have HB7 : Hid (BS w7 A5 52 L) := HB5.out.ch hb
    clear ht hb hs1 HT6 HB6 HB5 HRUN HMORE hj2
    go_upto_if 105 with fail
    go_cut [14] (fun s14 W => s14 = .int .i64 11 ∧ Hid (TK w2 p m ⟨some ⟨h, 0, none⟩, 40, 40⟩ X W))
    case first =>
      by_cases hj : j8 = 0
      · have hj3 : decide (0 < j8) = false := by simp; omega
        have hj6 : ¬ 0 < j8 := by omega
        clear hj
        go_wp2_with fail
        go_meet
        case rel => exact ⟨rfl, HT7⟩
      · have hj4 : decide (0 < j8) = true := by simp; omega
        have hj6 : 0 < j8 := by omega
        have hjl : (j8 : Int) ≤ (c5 : Int) := by have := HCP.out; have := HJ.out; omega
        clear hj
        go_wp2_with fail
        refine (setRaw_any HT7.out.tq HT7.out.new 1 A5 j8 c5 (L.take j8) (HB7.out.take (by have := HJ.out; omega)) (by have := HJ.out; omega)).mono ?_
        rintro en w8 ⟨rfl, ht, hb⟩
        have hs1 : Ry.sErr 1 (L.take j8) = 11 := (if_pos (by decide)).trans (if_pos ⟨fun e => by have h1 := HCUT.out j8 HJ.out; rw [e, Ry.err_nil] at h1; have h2 := congrArg List.length e; rw [List.length_take, HLL.out] at h2; simp at h2; simp at hj4; omega, by rw [HCUT.out j8 HJ.out]; decide⟩)
        rw [show Ry.srErr (Sl.n ⟨some ⟨h, 0, none⟩, 40, 40⟩) 1 (L.take j8) = 11 from (if_neg (by rw [hs1]; decide)).trans hs1]
        rw [show Ry.srPut (Sl.n ⟨some ⟨h, 0, none⟩, 40, 40⟩) X 1 (L.take j8) = X from if_neg (by rw [hs1]; decide)] at ht
        have HT8 := Lib.hid (HT7.out.put ht hb)
        clear ht hb hs1
        go_wp2_with fail
        go_meet
        case rel => exact ⟨rfl, HT8⟩
    obtain ⟨rfl, HT9⟩ := hcut
    clear HT7 HB7
    go_wp2_with fail
    refine (setRaw_any HT9.out.tq HT9.out.new 8 none 0 0 [] BS.nil (by omega)).mono ?_
    rintro en wa ⟨rfl, ht, hb⟩
    have hs1 : Ry.sErr 8 [] = 1 := if_neg (by decide)
    rw [show Ry.srErr (Sl.n ⟨some ⟨h, 0, none⟩, 40, 40⟩) 8 [] = 1 from (if_neg (by rw [hs1]; decide)).trans hs1]
    have HTa := Lib.hid (HT9.out.put ht hb)
    clear ht hb hs1 HT9
    go_wp2_with fail
    refine (setRaw_any HTa.out.tq HTa.out.new 2 none 0 0 [] BS.nil (by omega)).mono ?_
    rintro en wb ⟨rfl, ht, hb⟩
    have hs1 : Ry.sErr 2 [] = 0 := (if_pos (by decide)).trans (if_neg (fun e => e.1 rfl))
    rw [show Ry.srErr (Sl.n ⟨some ⟨h, 0, none⟩, 40, 40⟩) 2 [] = 0 from (if_pos hs1).trans (TX.perr_ok (hasB_nat (show 3 < 40 by omega)) (by decide))]
    have HTb := Lib.hid (HTa.out.put ht hb)
    clear ht hb hs1 HTa
    go_wp2_with fail
    go_ret
    exact ⟨rfl, HW2.out.trans (HTb.out.bel.mono HW2.out.size)⟩
end Go.Proofs.Ytjgmboleiaehaaa
