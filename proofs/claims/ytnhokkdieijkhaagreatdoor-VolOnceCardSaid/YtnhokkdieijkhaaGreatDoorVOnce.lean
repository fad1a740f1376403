/-
  The law VolOnce (layer 12).
-/
import Derived.Test.YtnhokkdieijkhaaGreatDoorVOnceM
namespace Go.Proofs.YtnhokkdieijkhaaGreatDoor
open Go.RowKit Go.Shelf
attribute [local go_sem] Oper.semAt_some

set_option maxRecDepth 100000 in
set_option maxHeartbeats 1000000 in
theorem once_walk (A : Option Addr) (n cap : Nat) (l : List Vl.Th) (w : World) (h : SS w A n l) (hn : n ≤ maxLen) (hf : ∀ s ∈ l, Fits s) (hm : ∀ s ∈ l, s.dt.length ≤ maxLen) :
    Calls Tryz.prog 6 #[.slice A n cap] w fun e w' => e = .returned (.bool true) ∧ Below w.heap.size w w' := by
  have hmk : ∀ W : World, (Instr.makeSlice 26 (.int .i64 135) (.int .i64 135)).run Tryz.prog W = .ok (.slice (some ⟨W.heap.size, 0, none⟩) 135 135) (W.alloc (.cells (Array.replicate 135 (.slice none 0 0)) 30)) := fun W => run_make_rows W 135 (by omega)
  have HX := Lib.hid h
  have HM := Lib.hid hm
  have HF := Lib.hid hf
  have HNM := Lib.hid hn
  clear h hm hf hn
  go_enter Tryz.func6, Tryz.ntmps6
  go_wp2_with fail
  refine (awake_any w).mono ?_
  rintro e w1 ⟨rfl, hw1⟩
  have HW1 := Lib.hid hw1
  have HX1 := Lib.hid (HX.out.below hw1)
  clear hw1
  go_wp2_with fail
  refine (few_any A n cap l w1 HX1.out HNM.out HM.out).mono ?_
  rintro e w1' ⟨rfl, rfl⟩
  cases hfw : Vl.fewB l with
  | false =>
    go_wp2_with fail
    go_ret
    exact ⟨rfl, HW1.out⟩
  | true =>
    obtain ⟨h8, h12⟩ := Vl.fewB_iff.1 hfw
    have H8 : Hid (∀ s ∈ l, Fits s ∧ s.dt.length ≤ 1000) := fun s hs => ⟨HF.out s hs, by have := h8 s hs; omega⟩
    have hn12 : n ≤ 12 := by rw [← HX.out.1]; exact h12
    have HLN : Hid (l.length = n) := HX.out.1
    clear h8 h12 hfw HM HF HNM
    go_wp2_with fail
    refine (new_fresh (B := w.heap.size) 135 _ 135 _ (RI.made w1' 135) (by omega) (by omega) (by have := HW1.out.size; simp; omega)).mono ?_
    rintro e w2 ⟨p, m, g, rfl, hv, hw2, -⟩
    have HV2 := Lib.hid hv
    have hbw2 : Below w1'.heap.size w1' w2 := (((Below.refl _ _).alloc (Nat.le_refl _) _).trans (hw2.mono (by simp)))
    have HW2 : Hid (Below w.heap.size w w2) := HW1.out.trans (hbw2.mono HW1.out.size)
    have HX2 := Lib.hid (HX1.out.below hbw2)
    clear hv hw2 hbw2 HW1 HX1
    go_wp2_with fail
    refine (new_fresh (B := w.heap.size) 135 _ 135 _ (RI.made w2 135) (by omega) (by omega) (by have := HW2.out.size; simp; omega)).mono ?_
    rintro e w3 ⟨q, m', g', rfl, hu, hw3, hq⟩
    have hbw3 : Below w2.heap.size w2 w3 := (((Below.refl _ _).alloc (Nat.le_refl _) _).trans (hw3.mono (by simp)))
    have HPQ : Hid (q ≠ p) := by
      have h1 := HV2.out.tq.plt
      simp at hq
      show q ≠ p
      omega
    have HV3 := Lib.hid (HV2.out.below hbw3)
    have HU3 := Lib.hid hu.vm
    have HW3 := Lib.hid (HW2.out.trans (hbw3.mono HW2.out.size))
    have HX3 := Lib.hid (HX2.out.below hbw3)
    clear hu hw3 hq hbw3 HV2 HW2 HX2 hmk
    obtain ⟨ze, hze⟩ : ∃ ze : Int, (if Vl.mayB Sl.dirB l = true then (0 : Int) else 1) = ze := ⟨_, rfl⟩
    have HZE := Lib.hid hze
    have HSV := Lib.hid (HV3.out.saveTI rfl A n cap l HX3.out H8.out (by rw [HLN.out]; exact hn12))
    rw [hze] at HSV
    clear hze
    go_wp2_with fail
    refine HSV.out.mono ?_
    rintro e w4 ⟨rfl, hc4, ht4⟩
    have HT4 := Lib.hid ht4
    have HU4 : Hid (Vm w4 q 135 w.heap.size Vl.bare 0) := HU3.out.other HV3.out.vm hc4 HPQ.out
    have HW4 : Hid (Below w.heap.size w w4) := HW3.out.trans (hc4.bel HV3.out.vm)
    have HUI4 : Hid (UI w4 q w.heap.size l 0 true) := ⟨rfl, fun _ => HU4.out⟩
    clear ht4 hc4 HV3 HU3 HU4 HW3 HX3 HSV
    go_wp2_with fail
    go_loopw [8, 9] (fun f i wr => ∃ (k : Nat) (fb : Bool), k ≤ n ∧ i = .int .i64 k ∧ f = .bool fb ∧ Hid (TI wr p w.heap.size l) ∧ Hid (UI wr q w.heap.size l k fb) ∧ Hid (Below w.heap.size w wr)) (fun _ i _ => n - (intOf i).toNat)
    case atStart => exact ⟨0, true, by omega, rfl, rfl, HT4, HUI4, HW4⟩
    case round =>
      clear HT4 HUI4 HW4
      obtain ⟨k, fb, hk, rfl, rfl, HT, HU, HW⟩ := hrel
      obtain ⟨wo, rfl⟩ : ∃ wo, wo = wr := ⟨wr, rfl⟩
      by_cases hlt : k < n
      · obtain ⟨b, o, y, hl, rfl, hc, hbs, hyc⟩ := (HX.out.below HW.out).at hlt
        have HSN := Lib.hid (Vl.mayB_snoc (D := Sl.dirB) hl)
        have HTK : Hid (l.take (k + 1) = l.take k ++ [l[k]]) := List.take_succ_eq_append_getElem hl
        have HCI : Hid (∀ W', Below wo.heap.size wo W' → ∀ j (hj : j < l.length), W'.cell? ⟨b, o + j * 9, none⟩ = some (.int .u32 (l[j].ino : Int))) := fun W' hW j hj => by
          obtain ⟨b', o', y', hl', e', hc', -⟩ := ((HX.out.below HW.out).below hW).at (k := j) (by rw [← HLN.out]; exact hj)
          cases e'
          exact hc' 0 _ rfl
        have hfk := H8.out _ (List.getElem_mem hl)
        have HFT := Lib.hid hfk.1
        have HDL := Lib.hid hfk.2
        have HBS := Lib.hid hbs
        have HYC := Lib.hid hyc
        have HTJ : Hid (∀ j (hj : j < l.length), (l.take (j + 1)).map Vl.Th.ino = (l.take j).map Vl.Th.ino ++ [l[j].ino]) := fun j hj => by rw [List.take_succ_eq_append_getElem hj, List.map_append]; rfl
        have HQ : Hid (∀ W', Below wo.heap.size wo W' → ∀ j u, (sc l[k] (.slice y.a y.n y.c))[j]? = some u → W'.cell? ⟨b, o + k * 9 + j, none⟩ = some u) := fun W' hW j u hu => (hW.cell (p := ⟨b, o + k * 9 + j, none⟩) (World.block_lt_of_cell? wo _ (hc j u hu))).trans (hc j u hu)
        generalize l[k] = s at *
        clear hc hbs hfk hyc
        go_wp2_with fail
        go_loopw [8, 10] (fun f i wi => ∃ (j : Nat) (gb : Bool), j ≤ k ∧ i = .int .i64 j ∧ f = .bool gb ∧ Hid (gb = (fb && !decide (s.ino ∈ (l.take j).map Vl.Th.ino))) ∧ Hid (Below wo.heap.size wo wi)) (fun _ i _ => k - (intOf i).toNat)
        case atStart => exact ⟨0, fb, by omega, rfl, rfl, by show _ = _; simp, Below.refl _ _⟩
        case round =>
          obtain ⟨j, gb, hj, rfl, rfl, HG, HBI⟩ := hrel
          obtain ⟨wi, rfl⟩ : ∃ wi, wi = wr := ⟨wr, rfl⟩
          by_cases hjk : j < k
          · have hjl : j < l.length := by rw [HLN.out]; omega
            have r0 := HCI.out wi HBI.out j hjl
            have q0 : wi.cell? ⟨b, o + k * 9, none⟩ = some (.int .u32 (s.ino : Int)) := HQ.out wi HBI.out 0 _ rfl
            have HTJ2 := Lib.hid (HTJ.out j hjl)
            have HBN : Hid (∀ n, Below wo.heap.size wo (wi.drewN n)) := fun n => HBI.out.trans (Below.drewsN wi wo.heap.size n)
            generalize l[j].ino = a at *
            obtain ⟨d, hd⟩ : ∃ d, s.ino = d := ⟨_, rfl⟩
            have HST : Hid ((fb && !decide (s.ino ∈ (l.take (j + 1)).map Vl.Th.ino)) = (gb && !decide (d = a))) := by
              show _ = _
              rw [HTJ2.out, seen_step, ← HG.out, hd]
            rw [hd] at q0
            clear HG
            cases gb with
            | false =>
              have HG2 : Hid (false = (fb && !decide (s.ino ∈ (l.take (j + 1)).map Vl.Th.ino))) := by
                show _ = _
                rw [HST.out]
                rfl
              go_upto_region 17 with fail
              go_quiet (fail)
              go_wp2_with fail
              go_roundw
              case rel => exact ⟨j + 1, false, by omega, by go_num, rfl, HG2, HBN.out _⟩
              case measure => simp [intOf]; omega
            | true =>
              by_cases e : a = d
              · have hne : ((a : Int) != (d : Int)) = false := by simp; omega
                have HG2 : Hid (false = (fb && !decide (s.ino ∈ (l.take (j + 1)).map Vl.Th.ino))) := by
                  show _ = _
                  rw [HST.out, e]
                  simp
                clear e
                go_upto_region 17 with fail
                go_quiet (fail)
                go_wp2_with fail
                go_roundw
                case rel => exact ⟨j + 1, false, by omega, by go_num, rfl, HG2, HBN.out _⟩
                case measure => simp [intOf]; omega
              · have hne : ((a : Int) != (d : Int)) = true := by simp; omega
                have HG2 : Hid (true = (fb && !decide (s.ino ∈ (l.take (j + 1)).map Vl.Th.ino))) := by
                  show _ = _
                  have e2 : ¬ d = a := fun h => e h.symm
                  rw [HST.out]
                  simp [e2]
                clear e
                go_upto_region 17 with fail
                go_quiet (fail)
                go_wp2_with fail
                go_roundw
                case rel => exact ⟨j + 1, true, by omega, by go_num, rfl, HG2, HBN.out _⟩
                case measure => simp [intOf]; omega
          · obtain rfl : k = j := by omega
            have HTi := Lib.hid (HT.out.below HBI.out)
            have HUi := Lib.hid (HU.out.below HBI.out)
            have HWi := Lib.hid (HW.out.trans (HBI.out.mono HW.out.size))
            have HBSi := Lib.hid (HBS.out.below HBI.out)
            have q0 : wi.cell? ⟨b, o + k * 9, none⟩ = some (.int .u32 (s.ino : Int)) := HQ.out wi HBI.out 0 _ rfl
            have q1 := HQ.out wi HBI.out 1 _ rfl
            have q2 := HQ.out wi HBI.out 2 _ rfl
            have q3 := HQ.out wi HBI.out 3 _ rfl
            have q4 := HQ.out wi HBI.out 4 _ rfl
            have q5 := HQ.out wi HBI.out 5 _ rfl
            have q6 := HQ.out wi HBI.out 6 _ rfl
            have q7 := HQ.out wi HBI.out 7 _ rfl
            have q8 := HQ.out wi HBI.out 8 _ rfl
            clear HT HU HW HBS HBI HQ HCI
            have HBL : Hid (Below wi.heap.size wi (wi.alloc (.cells (sc s (.slice y.a y.n y.c)).toArray 32))) := (Below.refl _ _).alloc (Nat.le_refl _) _
            cases gb with
            | false =>
              have HU2 : Hid (UI wi q w.heap.size l (k + 1) false) := ⟨by
                have h1 := HG.out
                rw [HSN.out, ← HUi.out.eq]
                revert h1
                generalize Vl.Th.okB Sl.dirB s = c
                generalize decide (s.ino ∈ (l.take k).map Vl.Th.ino) = d
                cases fb <;> cases c <;> cases d <;> simp, fun h => by cases h⟩
              clear HG HUi q0 q1 q2 q3 q4 q5 q6 q7 q8
              go_wp2_with fail
              go_roundw
              case rel => exact ⟨k + 1, false, by omega, by go_num, rfl, HTi, HU2, HWi⟩
              case measure => simp [intOf]; omega
            | true =>
              have hfb : fb = true := by
                have h1 := HG.out
                revert h1
                cases fb
                · simp
                · simp
              subst hfb
              have HND : Hid (decide (s.ino ∈ (l.take k).map Vl.Th.ino) = false) := by
                have h1 := HG.out
                show _ = _
                revert h1
                generalize decide (s.ino ∈ (l.take k).map Vl.Th.ino) = d
                cases d <;> simp
              have HVM := Lib.hid (HUi.out.vm rfl)
              have HSV := Lib.hid (HVM.out.saveAny (HUi.out.tot (by omega)) s y.a y.n y.c HFT.out HDL.out HBSi.out HYC.out _ rfl)
              clear HG
              go_wp2_with fail
              refine HSV.out.mono ?_
              have HT2 := Lib.hid (HTi.out.below HBL.out)
              have HV2 := Lib.hid (HVM.out.below HBL.out)
              rintro e w5 ⟨hc5, ⟨hok, rfl, hv5⟩ | ⟨hok, rfl⟩⟩
              · have HT5 : Hid (TI w5 p w.heap.size l) := HT2.out.other HV2.out hc5 HPQ.out.symm
                have HW5 : Hid (Below w.heap.size w w5) := (HWi.out.trans (HBL.out.mono HWi.out.size)).trans (hc5.bel HV2.out)
                have HU5 : Hid (UI w5 q w.heap.size l (k + 1) true) := ⟨by rw [HSN.out, ← HUi.out.eq, show Vl.Th.okB Sl.dirB s = true from hok, HND.out]; rfl, fun _ => by rw [HTK.out, Vl.setS_snoc]; exact hv5⟩
                clear hc5 hok hv5 HT2 HV2 HVM HSV HUi HTi HWi q0 q1 q2 q3 q4 q5 q6 q7 q8
                go_wp2_with fail
                go_roundw
                case rel => exact ⟨k + 1, true, by omega, by go_num, rfl, HT5, HU5, HW5⟩
                case measure => simp [intOf]; omega
              · have HT5 : Hid (TI w5 p w.heap.size l) := HT2.out.other HV2.out hc5 HPQ.out.symm
                have HW5 : Hid (Below w.heap.size w w5) := (HWi.out.trans (HBL.out.mono HWi.out.size)).trans (hc5.bel HV2.out)
                have HU5 : Hid (UI w5 q w.heap.size l (k + 1) false) := ⟨by rw [HSN.out, ← HUi.out.eq, show Vl.Th.okB Sl.dirB s = false from hok]; rfl, fun h => by cases h⟩
                clear hc5 hok HT2 HV2 HVM HSV HUi HTi HWi q0 q1 q2 q3 q4 q5 q6 q7 q8
                go_wp2_with fail
                go_roundw
                case rel => exact ⟨k + 1, false, by omega, by go_num, rfl, HT5, HU5, HW5⟩
                case measure => simp [intOf]; omega
      · obtain rfl : n = k := by omega
        have HTA : Hid (l.take n = l) := by show _ = _; rw [← HLN.out, List.take_length]
        have hf := HU.out.eq
        rw [HTA.out] at hf
        cases fb with
        | false =>
          have hz := HZE.out
          rw [← hf, if_neg (by decide)] at hz
          subst hz
          have HCH := Lib.hid (HT.out.changes hf.symm)
          clear hf
          go_wp2_with fail
          refine HCH.out.mono ?_
          rintro e w5 ⟨A5, k5, rfl, hb5⟩
          have HW5 := Lib.hid (HW.out.trans (hb5.mono HW.out.size))
          clear hb5
          go_wp2_with fail
          go_ret
          exact ⟨rfl, HW5.out⟩
        | true =>
          have hz := HZE.out
          rw [← hf, if_pos rfl] at hz
          subst hz
          have HVT := Lib.hid (HT.out.1 hf.symm)
          have HVU : Hid (Vm wo q 135 w.heap.size (Vl.setS l Vl.bare) 0) := by
            have := HU.out.vm rfl
            rw [HTA.out] at this
            exact this
          clear hf HU HT
          generalize Vl.setS l Vl.bare = Sv at *
          have HF1 : Hid (∀ W, Below wo.heap.size wo W → Calls Tryz.prog 17 #[.pointer (some ⟨p, 0, none⟩)] W fun e w' => e = .returned (.int .i64 ((135 - 35 - Vl.tot Sv : Nat) : Int)) ∧ Below W.heap.size W w') := fun W hW => (HVT.out.below hW).free
          have HF2 : Hid (∀ W, Below wo.heap.size wo W → Calls Tryz.prog 17 #[.pointer (some ⟨q, 0, none⟩)] W fun e w' => e = .returned (.int .i64 ((135 - 35 - Vl.tot Sv : Nat) : Int)) ∧ Below W.heap.size W w') := fun W hW => (HVU.out.below hW).free
          generalize 135 - 35 - Vl.tot Sv = z at *
          go_wp2_with fail
          refine (HF1.out wo (Below.refl _ _)).mono ?_
          rintro e w5 ⟨rfl, hw5⟩
          have HB5 := Lib.hid hw5
          clear hw5
          go_wp2_with fail
          refine (HF2.out w5 HB5.out).mono ?_
          rintro e w6 ⟨rfl, hw6⟩
          have HB6 := Lib.hid (HB5.out.trans (hw6.mono HB5.out.size))
          clear hw6 HB5 HF1 HF2
          go_wp2_with fail
          refine (HVT.out.below HB6.out).all.mono ?_
          rintro e w7 ⟨A7, k7, rfl, hs7, hw7⟩
          have HS7 := Lib.hid hs7
          have HB7 := Lib.hid (HB6.out.trans (hw7.mono HB6.out.size))
          clear hs7 hw7 HB6
          go_wp2_with fail
          refine (HVU.out.below HB7.out).all.mono ?_
          rintro e w8 ⟨A8, k8, rfl, hs8, hw8⟩
          have HS8 := Lib.hid hs8
          have HS7' := Lib.hid (HS7.out.below hw8)
          have HB8 := Lib.hid (HB7.out.trans (hw8.mono HB7.out.size))
          have HW8 := Lib.hid (HW.out.trans (HB8.out.mono HW.out.size))
          clear hs8 hw8 HB7 HB8 HS7 HVT HVU HW
          generalize (List.range 24).map Sv = L24 at *
          go_wp2_with fail
          go_loopw [15] (fun i wr => ∃ m : Nat, m ≤ 24 ∧ i = .int .i64 m ∧ Hid (SS wr A7 24 L24) ∧ Hid (SS wr A8 24 L24) ∧ Hid (Below w.heap.size w wr)) (fun i _ => 24 - (intOf i).toNat)
          case atStart => exact ⟨0, by omega, rfl, HS7', HS8, HW8⟩
          case round =>
            clear HS7' HS8 HW8
            obtain ⟨m, hm, rfl, HSA, HSB, HW⟩ := hrel
            by_cases hlm : m < 24
            · obtain ⟨b1, o1, y1, hl1, rfl, hc1, hb1, -⟩ := HSA.out.at hlm
              obtain ⟨b2, o2, y2, hl2, rfl, hc2, hb2, -⟩ := HSB.out.at hlm
              generalize L24[m] = th at *
              have HC1 : Hid (∀ j u, (sc th (.slice y1.a y1.n y1.c))[j]? = some u → wr.drew.cell? ((⟨b1, o1 + m * 9, none⟩ : Addr).add j) = some u) := fun j u hu => by
                rw [add_plain]
                exact hc1 j u hu
              have HC2 : Hid (∀ j u, (sc th (.slice y2.a y2.n y2.c))[j]? = some u → wr.drew.cell? ((⟨b2, o2 + m * 9, none⟩ : Addr).add j) = some u) := fun j u hu => by
                rw [add_plain]
                exact hc2 j u hu
              have HB1 := Lib.hid hb1
              have HB2 := Lib.hid hb2
              clear hc1 hc2 hb1 hb2 hl1 hl2
              go_upto_region 28 with fail
              with_reducible refine wp_region_still_tail 8 (by kernel_rfl) (by kernel_rfl) ?_
              simp only [List.take_succ_cons, List.take_zero, List.drop_succ_cons, List.drop_zero]
              iterate 3 still_step
              refine wpStill_did rfl (did_load 32 (.tmp 109) rfl ⟨b1, o1 + m * 9, none⟩ rfl _ Tryz.underlying32 rfl (sc th (.slice y1.a y1.n y1.c)) size_Sl HC1.out) ?_
              iterate 3 still_step
              refine wpStill_did rfl (did_load 32 (.tmp 113) rfl ⟨b2, o2 + m * 9, none⟩ rfl _ Tryz.underlying32 rfl (sc th (.slice y2.a y2.n y2.c)) size_Sl HC2.out) ?_
              refine wpStill_nil ?_
              go_wp2_with fail
              have hdr : Below wr.heap.size wr wr.drew := (Below.refl _ _).drew
              refine (sameS_any th th y1.a y1.n y1.c y2.a y2.n y2.c _ (HB1.out.below hdr) (HB2.out.below hdr)).mono ?_
              rintro e w9 ⟨rfl, hw9⟩
              have hb9 : Below wr.heap.size wr w9 := hdr.trans hw9
              have HSA9 := Lib.hid (HSA.out.below hb9)
              have HSB9 := Lib.hid (HSB.out.below hb9)
              have HW9 := Lib.hid (HW.out.trans (hb9.mono HW.out.size))
              clear hw9 hb9 hdr HC1 HC2 HB1 HB2
              go_wp2_with fail
              go_roundw
              case rel => exact ⟨m + 1, by omega, by go_num, HSA9, HSB9, HW9⟩
              case measure => simp [intOf]; omega
            · obtain rfl : m = 24 := by omega
              go_wp2_with fail
              go_ret
              exact ⟨rfl, HW.out⟩
end Go.Proofs.YtnhokkdieijkhaaGreatDoor
