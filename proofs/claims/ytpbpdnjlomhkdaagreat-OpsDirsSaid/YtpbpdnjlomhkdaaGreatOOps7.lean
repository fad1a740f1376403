/-
  Contract of Read (layer 13).
-/
import Derived.Test.YtpbpdnjlomhkdaaGreatOOps5
namespace Go.Proofs.YtpbpdnjlomhkdaaGreat
open Go.RowKit Go.Shelf

theorem fileE_stale {t : Op.TT} {i gn : Nat} (h : Op.thingE t i gn ≠ 0) : Op.fileE t i gn = 69 := if_pos h
section
variable {w0 w w' : World} {p g k : Nat} {t u : Op.TT} {sl : Nat → Sl} {c : Cl} {B : Option Addr} {n d : Nat} {r r' : Rp} {D D' : Option Addr} {m e m' e' : Nat} {E E' : Option Addr} {q f q' f' : Nat}
set_option maxRecDepth 100000 in
set_option maxHeartbeats 4000000 in
theorem read_any (h : RX w0 w p g k t sl c B n d (Op.rep0 c) none 0 0 none 0 0) (hs : Op.Sound t) (hcn : c.cnt < 4294967296) :
    Calls Tryz.prog 56 #[.pointer (some ⟨p, 0, none⟩)] w (OutQ w0 p g k c B n d (Op.read t c)) := by
  have HX0 := Lib.hid h
  have HSD := Lib.hid hs
  obtain ⟨RR, hRR⟩ : ∃ RR, RR = Op.read t c := ⟨_, rfl⟩
  rw [← hRR]
  have HR0 := Lib.hid hRR
  have HCN := Lib.hid hcn
  clear h hs hRR hcn
  go_enter Tryz.func56, Tryz.ntmps56
  go_wp2_with (refine wpList_load_part rfl 35 (.tmp 9) rfl p 6 rfl _ Tryz.underlying35 rfl (hc c.ati c.atg) 104 _ HX0.out.run size_H xc_at ?_)
  refine (thing_any HX0.out c.ati c.atg).mono ?_
  rintro e w1 ⟨⟨hz, rfl⟩ | ⟨hz, rfl⟩, hb⟩
  rotate_left
  · have h69 : Op.thingE t c.ati c.atg = 69 := by
      rcases thingE_two t c.ati c.atg with h | h
      · exact absurd h.1 hz
      · exact h
    rw [h69]
    exact ⟨rfl, .no (HR0.out.trans ((if_pos (by rw [fileE_stale hz]; decide)).trans (by rw [fileE_stale hz]))) (HX0.out.below hb).bel⟩
  have HX1 := Lib.hid (HX0.out.below hb)
  have HIA := Lib.hid (Op.thing_ok hz)
  have HFE := Lib.hid (fileE_thing hz (Vl.okB_facts (HSD.out.inv.may.ok _ HIA.out.1)).2.1)
  clear hz hb HX0
  go_wp2_with fail
  refine (file_any HX1.out HIA.out.1).mono ?_
  rw [← HFE.out]
  rintro e w1 ⟨⟨hz, rfl⟩ | ⟨hz, rfl⟩, hb⟩
  rotate_left
  · exact ⟨rfl, .no (HR0.out.trans (if_pos hz)) (HX1.out.below hb).bel⟩
  have HXF := Lib.hid (HX1.out.below hb)
  have HRF := Lib.hid (HR0.out.trans (if_neg (fun h => h hz)))
  clear hz hb HR0 HX1 HFE
  have s8 := HXF.out.cellS HIA.out.1 8 _ rfl
  have q12 := HXF.out.cellR 12 _ rfl
  have hbs := HXF.out.sx.bs c.ati HIA.out.1
  have HBS := Lib.hid hbs.1
  have HLC := Lib.hid hbs.2.1
  have HLE : Hid ((t.s c.ati).dt.length ≤ 768) := (Vl.okB_facts (HSD.out.inv.may.ok _ HIA.out.1)).2.2
  have HLN : Hid ((t.s c.ati).dt.length = (sl c.ati).n) := hbs.1.1
  have hcap : (sl c.ati).n ≤ (sl c.ati).c := hbs.2.1
  have hn7 : (sl c.ati).n ≤ 768 := by rw [← hbs.1.1]; exact HLE.out
  clear hbs
  generalize (sl c.ati).a = A at *
  generalize (sl c.ati).n = x at *
  generalize (sl c.ati).c = y at *
  obtain ⟨O, hO⟩ : ∃ O, O = min c.off x := ⟨_, rfl⟩
  have hOx : O ≤ x := by omega
  have hmin : min (c.off : Int) (x : Int) = (O : Int) := by omega
  have HOO := Lib.hid hO
  clear hO
  go_upto_region 2 with fail
  go_quiet (fail)
  have hO := HOO.out
  have HX2 := Lib.hid (HXF.out.below (Below.drewM (Below.refl _ w1) nq))
  have HB1 := Lib.hid ((BS.drewN HBS.out nq).drop hOx hcap)
  have HDR : Hid ((t.s c.ati).dt.drop O = (t.s c.ati).dt.drop c.off) := by
    show _ = _
    rw [hO]
    by_cases h : c.off ≤ x
    · rw [Nat.min_eq_left h]
    · rw [Nat.min_eq_right (by omega), List.drop_eq_nil_of_le (by rw [HLN.out]; exact Nat.le_refl _), List.drop_eq_nil_of_le (by rw [HLN.out]; omega)]
  rw [HDR.out] at HB1
  have HOX : Hid (x - O = x - c.off) := by show _ = _; omega
  have HY1 : Hid (x - O ≤ y - O) := by show _ ≤ _; omega
  have hx7 : x - O ≤ 768 := by omega
  clear s8 q12 HBS HLC hcap hn7 hOx hO HOO hmin HDR HXF
  generalize (if y = O then A else Option.map (fun x => x.add O) A) = A1 at *
  generalize w1.drewN nq = w2 at *
  have HB2 : Hid (BS w2 A1 (x - O) ((t.s c.ati).dt.drop c.off)) := HB1.out
  generalize x - O = x1 at *
  generalize y - O = y1 at *
  obtain ⟨M, hM⟩ : ∃ M, M = min c.cnt x1 := ⟨_, rfl⟩
  have hMx : M ≤ x1 := by omega
  have hyc := HY1.out
  have hmin : min (c.cnt : Int) (x1 : Int) = (M : Int) := by omega
  have q14 := HX2.out.cellR 14 _ rfl
  have HBT := Lib.hid (HB2.out.take hMx)
  have HTK : Hid (((t.s c.ati).dt.drop c.off).take M = ((t.s c.ati).dt.drop c.off).take c.cnt) := by
    show _ = _
    rw [hM]
    by_cases h : c.cnt ≤ x1
    · rw [Nat.min_eq_left h]
    · rw [Nat.min_eq_right (by omega), List.take_of_length_le (by rw [HB2.out.1]; exact Nat.le_refl _), List.take_of_length_le (by rw [HB2.out.1]; omega)]
  rw [HTK.out] at HBT
  have HMM := Lib.hid hM
  clear HB1 HB2 hM
  have HMX : Hid ((((M : Int) == (x1 : Int)) = decide ((t.s c.ati).dt.length ≤ c.off + c.cnt)) ∧ M ≤ 768) := by
    refine ⟨?_, by omega⟩
    have h1 := HOX.out
    have h2 := HLN.out
    by_cases h : (t.s c.ati).dt.length ≤ c.off + c.cnt
    · rw [decide_eq_true h]; simp; omega
    · rw [decide_eq_false h]; simp; omega
  have hcn := HCN.out
  clear HOX HLN HLE
  go_upto_region 4 with fail
  have hMM := HMX.out.2
  clear hmin q14 hcn hx7
  go_wp2_with fail
  refine (cloneB_off A1 M y1 _ w2 HBT.out (by omega)).mono ?_
  rintro e wc ⟨A2, c2, rfl, h1, h2, h3, h4⟩
  have HXC := Lib.hid (HX2.out.below h4)
  have HD1 := Lib.hid h1
  have q27 := HXC.out.cellR 27 _ rfl
  have f27 := HXC.out.run.froz 27
  clear h1 h2 h3 h4 HX2 HBT hyc hMx HY1
  go_upto_region 5 with fail
  have hk : Keep (· ≠ p) wc (wc.setCell ⟨p, 27, none⟩ (.slice A2 M c2)) := (Keep.refl _ wc).setCell (p := ⟨p, 27, none⟩) (fun h => h rfl) _
  have HXE : Hid (RX w0 (wc.setCell ⟨p, 27, none⟩ (.slice A2 M c2)) p g k t sl c B n d { Op.rep0 c with dt := ((t.s c.ati).dt.drop c.off).take c.cnt } A2 M c2 none 0 0) := HXC.out.setR 27 _ rfl rfl
  have HDE := Lib.hid (HXC.out.offP HD1.out hk)
  generalize wc.setCell ⟨p, 27, none⟩ (.slice A2 M c2) = we at *
  clear hk q27 f27 HXC HD1
  have q29 := HXE.out.cellR 29 _ rfl
  have f29 := HXE.out.run.froz 29
  go_upto_region 6 with fail
  rw [HMX.out.1]
  have hk : Keep (· ≠ p) we (we.setCell ⟨p, 29, none⟩ (.bool (decide ((t.s c.ati).dt.length ≤ c.off + c.cnt)))) := (Keep.refl _ we).setCell (p := ⟨p, 29, none⟩) (fun h => h rfl) _
  have HXI : Hid (RX w0 (we.setCell ⟨p, 29, none⟩ (.bool (decide ((t.s c.ati).dt.length ≤ c.off + c.cnt)))) p g k t sl c B n d { Op.rep0 c with dt := ((t.s c.ati).dt.drop c.off).take c.cnt, eof := decide ((t.s c.ati).dt.length ≤ c.off + c.cnt) } A2 M c2 none 0 0) := HXE.out.setR 29 _ rfl rfl
  have HDI := Lib.hid (HXE.out.offP HDE.out hk)
  generalize we.setCell ⟨p, 29, none⟩ (.bool (decide ((t.s c.ati).dt.length ≤ c.off + c.cnt))) = wi at *
  generalize hv : ((M : Int) == (x1 : Int)) = V at *
  clear hk q29 f29 HXE HDE hv
  go_wp2_with fail
  refine (report_any HXI.out HIA.out.1).mono ?_
  rintro e w2 ⟨rfl, h1, h2⟩
  have HX2 := Lib.hid h1
  have HDR := Lib.hid (BS.rep HXI.out HDI.out h2)
  clear h1 h2 HXI
  go_wp2_with fail
  go_end0
  exact .ok HRF.out HX2.out ⟨HDR.out, ES.nil, by have := HMX.out.2; omega⟩
end
end Go.Proofs.YtpbpdnjlomhkdaaGreat
