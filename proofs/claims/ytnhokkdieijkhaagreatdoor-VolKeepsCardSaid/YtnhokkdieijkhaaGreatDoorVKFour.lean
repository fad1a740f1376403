/-
  The fourth loop of VolKeeps, as a declaration of its own (layer 12).
-/
import Derived.Test.YtnhokkdieijkhaaGreatDoorVKLoop
namespace Go.Proofs.YtnhokkdieijkhaaGreatDoor
open Go.RowKit Go.Shelf
attribute [local go_sem] Oper.semAt_some

set_option maxRecDepth 1000000 in
set_option maxHeartbeats 8000000 in
/-- Which may be saved, and what is there then. -/
theorem keep_loop4 (W0 W : World) (rb ro kk n1 c1 : Nat) (x : Sl) (l : List Vl.Th) (S : Nat → Vl.Th) (g2 : Nat) (sl : Nat → Sl) (hrow : ∀ W', Below W0.heap.size W0 W' → W'.cell? ⟨rb, ro + kk, none⟩ = some (.slice x.a x.n x.c)) (hss : SS W0 x.a x.n l) (hf : ∀ s ∈ l, Fits s ∧ s.dt.length ≤ 1000)
    (hk : kk < n1) (hxn : x.n ≤ 12) (h2 : W0.heap.size ≤ g2) (hg2 : KR W g2 S sl) (hbe : Below W0.heap.size W0 W)
    (c0 c2 c3 c4 c5 c6 c7 c8 c9 c11 c13 c18 c19 c20 c21 c22 c23 c24 c25 c26 c27 c28 c29 c30 c31 c32 c33 c34 c35 c36 c37 c38 c39 c40 c41 c42 c43 c44 c45 c46 c47 c48 c49 c50 c51 c52 c53 c54 c55 c56 c57 c58 c59 c60 c61 c62 c63 c64 c65 c66 c67 c68 c69 c70 c71 c72 c73 c117 c118 c119 c120 c121 c122 c123 c124 c125 c126 c127 c128 c129 c130 c131 c132 c133 c134 c135 c136 c137 c138 c139 c140 c141 c142 c143 c144 c145 c146 c147 c148 c149 c150 c151 c152 c153 c154 c155 c156 c157 c158 c159 c160 c161 c162 c163 c164 c165 c166 c167 c168 c169 c170 c171 c172 c173 c174 c175 c176 c177 c178 c179 c180 c181 c182 c183 c184 c185 c186 c187 c188 c189 c190 c191 c192 c193 c194 c195 c196 c197 c198 c199 c200 c201 c202 c203 c204 c205 c206 c207 c208 c209 c210 c211 c212 c213 c214 : Value) (u16 u17 u74 u75 u76 u77 u78 u79 u80 u81 u82 u83 u84 u85 u86 u87 u88 u89 u90 u91 u92 u93 u94 u95 u96 u97 u98 u99 u100 u101 u102 u103 u104 u105 u106 u107 u108 u109 u110 u111 u112 u113 u114 u115 u116 : Value) (Q0 : Exit → Act → World → Prop)
    (hexit : ∀ (v16 v17 v74 v75 v76 v77 v78 v79 v80 v81 v82 v83 v84 v85 v86 v87 v88 v89 v90 v91 v92 v93 v94 v95 v96 v97 v98 v99 v100 v101 v102 v103 v104 v105 v106 v107 v108 v109 v110 v111 v112 v113 v114 v115 v116 : Value) (W' : World) (sl' : Nat → Sl), KR W' g2 (Vl.nowS l S) sl' → Below W0.heap.size W0 W' → Q0 (.exit 6) ⟨List.toArray (c0 :: .slice (some ⟨rb, ro, none⟩) n1 c1 :: c2 :: c3 :: c4 :: c5 :: c6 :: c7 :: c8 :: c9 :: .int .i64 (kk : Int) :: c11 :: .slice (some ⟨g2, 0, none⟩) 24 24 :: c13 :: .bool (Vl.mayB Sl.dirB l) :: .int .i64 (x.n : Int) :: v16 :: v17 :: c18 :: c19 :: c20 :: c21 :: c22 :: c23 :: c24 :: c25 :: c26 :: c27 :: c28 :: c29 :: c30 :: c31 :: c32 :: c33 :: c34 :: c35 :: c36 :: c37 :: c38 :: c39 :: c40 :: c41 :: c42 :: c43 :: c44 :: c45 :: c46 :: c47 :: c48 :: c49 :: c50 :: c51 :: c52 :: c53 :: c54 :: c55 :: c56 :: c57 :: c58 :: c59 :: c60 :: c61 :: c62 :: c63 :: c64 :: c65 :: c66 :: c67 :: c68 :: c69 :: c70 :: c71 :: c72 :: c73 :: v74 :: v75 :: v76 :: v77 :: v78 :: v79 :: v80 :: v81 :: v82 :: v83 :: v84 :: v85 :: v86 :: v87 :: v88 :: v89 :: v90 :: v91 :: v92 :: v93 :: v94 :: v95 :: v96 :: v97 :: v98 :: v99 :: v100 :: v101 :: v102 :: v103 :: v104 :: v105 :: v106 :: v107 :: v108 :: v109 :: v110 :: v111 :: v112 :: v113 :: v114 :: v115 :: v116 :: c117 :: c118 :: c119 :: c120 :: c121 :: c122 :: c123 :: c124 :: c125 :: c126 :: c127 :: c128 :: c129 :: c130 :: c131 :: c132 :: c133 :: c134 :: c135 :: c136 :: c137 :: c138 :: c139 :: c140 :: c141 :: c142 :: c143 :: c144 :: c145 :: c146 :: c147 :: c148 :: c149 :: c150 :: c151 :: c152 :: c153 :: c154 :: c155 :: c156 :: c157 :: c158 :: c159 :: c160 :: c161 :: c162 :: c163 :: c164 :: c165 :: c166 :: c167 :: c168 :: c169 :: c170 :: c171 :: c172 :: c173 :: c174 :: c175 :: c176 :: c177 :: c178 :: c179 :: c180 :: c181 :: c182 :: c183 :: c184 :: c185 :: c186 :: c187 :: c188 :: c189 :: c190 :: c191 :: c192 :: c193 :: c194 :: c195 :: c196 :: c197 :: c198 :: c199 :: c200 :: c201 :: c202 :: c203 :: c204 :: c205 :: c206 :: c207 :: c208 :: c209 :: c210 :: c211 :: c212 :: c213 :: c214 :: []), []⟩ W') :
    Code.wp Tryz.prog (Code.loop body4) Q0 ⟨List.toArray (c0 :: .slice (some ⟨rb, ro, none⟩) n1 c1 :: c2 :: c3 :: c4 :: c5 :: c6 :: c7 :: c8 :: c9 :: .int .i64 (kk : Int) :: c11 :: .slice (some ⟨g2, 0, none⟩) 24 24 :: c13 :: .bool true :: .int .i64 0 :: u16 :: u17 :: c18 :: c19 :: c20 :: c21 :: c22 :: c23 :: c24 :: c25 :: c26 :: c27 :: c28 :: c29 :: c30 :: c31 :: c32 :: c33 :: c34 :: c35 :: c36 :: c37 :: c38 :: c39 :: c40 :: c41 :: c42 :: c43 :: c44 :: c45 :: c46 :: c47 :: c48 :: c49 :: c50 :: c51 :: c52 :: c53 :: c54 :: c55 :: c56 :: c57 :: c58 :: c59 :: c60 :: c61 :: c62 :: c63 :: c64 :: c65 :: c66 :: c67 :: c68 :: c69 :: c70 :: c71 :: c72 :: c73 :: u74 :: u75 :: u76 :: u77 :: u78 :: u79 :: u80 :: u81 :: u82 :: u83 :: u84 :: u85 :: u86 :: u87 :: u88 :: u89 :: u90 :: u91 :: u92 :: u93 :: u94 :: u95 :: u96 :: u97 :: u98 :: u99 :: u100 :: u101 :: u102 :: u103 :: u104 :: u105 :: u106 :: u107 :: u108 :: u109 :: u110 :: u111 :: u112 :: u113 :: u114 :: u115 :: u116 :: c117 :: c118 :: c119 :: c120 :: c121 :: c122 :: c123 :: c124 :: c125 :: c126 :: c127 :: c128 :: c129 :: c130 :: c131 :: c132 :: c133 :: c134 :: c135 :: c136 :: c137 :: c138 :: c139 :: c140 :: c141 :: c142 :: c143 :: c144 :: c145 :: c146 :: c147 :: c148 :: c149 :: c150 :: c151 :: c152 :: c153 :: c154 :: c155 :: c156 :: c157 :: c158 :: c159 :: c160 :: c161 :: c162 :: c163 :: c164 :: c165 :: c166 :: c167 :: c168 :: c169 :: c170 :: c171 :: c172 :: c173 :: c174 :: c175 :: c176 :: c177 :: c178 :: c179 :: c180 :: c181 :: c182 :: c183 :: c184 :: c185 :: c186 :: c187 :: c188 :: c189 :: c190 :: c191 :: c192 :: c193 :: c194 :: c195 :: c196 :: c197 :: c198 :: c199 :: c200 :: c201 :: c202 :: c203 :: c204 :: c205 :: c206 :: c207 :: c208 :: c209 :: c210 :: c211 :: c212 :: c213 :: c214 :: []), []⟩ W := by
  have HROW := Lib.hid hrow
  have HSS := Lib.hid hss
  have HF := Lib.hid hf
  have HG0 : Hid (KR W g2 (Vl.nowS (l.take 0) S) sl) := hg2
  have HB := Lib.hid hbe
  have HE := Lib.hid hexit
  have H2 := Lib.hid h2
  have HLN : Hid (l.length = x.n) := hss.1
  clear hrow hss hf h2 hg2 hbe hexit
  conv => arg 2; arg 1; whnf
  go_loopw [14, 15] (fun f i wr => ∃ (k : Nat) (fb : Bool) (sl' : Nat → Sl), k ≤ x.n ∧ i = .int .i64 k ∧ f = .bool fb ∧ Hid (fb = Vl.mayB Sl.dirB (l.take k)) ∧ Hid (KR wr g2 (Vl.nowS (l.take k) S) sl') ∧ Hid (Below W0.heap.size W0 wr)) (fun _ i _ => x.n - (intOf i).toNat)
  case atStart => exact ⟨0, true, _, by omega, rfl, rfl, rfl, HG0, HB⟩
  case round =>
    clear HG0 HB
    obtain ⟨k, fb, sl', hk', rfl, rfl, HM, HG, HB⟩ := hrel
    obtain ⟨wo, rfl⟩ : ∃ wo, wo = wr := ⟨wr, rfl⟩
    have r0 := HROW.out wo HB.out
    by_cases hlt : k < x.n
    · obtain ⟨b, o, y, hl, hxa, hc, hbs, hyc⟩ := (HSS.out.below HB.out).at hlt
      have HSN := Lib.hid (Vl.mayB_snoc (D := Sl.dirB) hl)
      have HTK : Hid (l.take (k + 1) = l.take k ++ [l[k]]) := List.take_succ_eq_append_getElem hl
      rw [hxa] at r0
      have HCI : Hid (∀ (W' : World), Below W0.heap.size W0 W' → W'.cell? ⟨rb, ro + kk, none⟩ = some (.slice (some ⟨b, o, none⟩) x.n x.c) ∧ ∀ j (hj : j < l.length), W'.cell? ⟨b, o + j * 9, none⟩ = some (.int .u32 (l[j].ino : Int))) := fun W' hW => by
        refine ⟨by rw [← hxa]; exact HROW.out W' hW, fun j hj => ?_⟩
        obtain ⟨b', o', y', hl', e', hc', -⟩ := (HSS.out.below hW).at (k := j) (by rw [← HLN.out]; exact hj)
        rw [hxa] at e'
        cases e'
        exact hc' 0 _ rfl
      have hfk := HF.out _ (List.getElem_mem hl)
      have HFT := Lib.hid hfk.1
      have HDL := Lib.hid hfk.2
      have HBS := Lib.hid hbs
      have HYC := Lib.hid hyc
      have hyn : y.n ≤ 1000 := by rw [← hbs.1]; exact hfk.2
      have HTJ : Hid (∀ j (hj : j < l.length), (l.take (j + 1)).map Vl.Th.ino = (l.take j).map Vl.Th.ino ++ [l[j].ino]) := fun j hj => by rw [List.take_succ_eq_append_getElem hj, List.map_append]; rfl
      have HNS := Lib.hid (Vl.nowS_snoc (l.take k) l[k] S)
      rw [← HTK.out] at HNS
      have q0 : wo.cell? ⟨b, o + k * 9, none⟩ = some (.int .u32 (l[k].ino : Int)) := hc 0 _ rfl
      have q1 := hc 1 _ rfl
      have q2 := hc 2 _ rfl
      have q3 := hc 3 _ rfl
      have q4 := hc 4 _ rfl
      have q5 := hc 5 _ rfl
      have q6 := hc 6 _ rfl
      have q7 := hc 7 _ rfl
      have q8 := hc 8 _ rfl
      generalize l[k] = s at *
      clear hc hbs hfk hyc hxa
      go_upto_region 29 with (first
        | (refine wpList_alloc_any rfl 32 rfl _ zero_Sl ?_; intro w2 hb2 hs2 hw2)
        | (refine wpList_store_part rfl 32 (.tmp 16) (.tmp 89) rfl _ 0 (sc s (.slice y.a y.n y.c)) rfl rfl 32 (sc Sl.zero (.slice none 0 0)) hb2 size_Sl (by simp [sc]) (sc_row _ _ _ _) ?_
           intro w3 hb3 hs3 hk3))
      have HV3 : Hid (Bw w3 wo.heap.size (sc s (.slice y.a y.n y.c)) 32) := hb3
      have hbw : Below wo.heap.size wo w3 := hw2.trans (hk3.below2 (fun k hk => by omega))
      have HB3 := Lib.hid (HB.out.trans (hbw.mono HB.out.size))
      have HG3 := Lib.hid (HG.out.below hbw)
      have HBS3 := Lib.hid (HBS.out.below hbw)
      have HGN : Hid (g2 < wo.heap.size) := HG.out.row.lt
      clear hb2 hs2 hw2 hb3 hs3 hk3 hbw q0 q1 q2 q3 q4 q5 q6 q7 q8 r0
      go_wp2_with (refine wpList_load_part rfl 32 (.tmp 16) rfl _ 0 rfl _ Tryz.underlying32 rfl (sc s (.slice y.a y.n y.c)) 32 _ HV3.out size_Sl (fun j u hu => by rw [Nat.zero_add]; exact hu) ?_)
      refine (checkS_any s y.a y.n y.c _ HFT.out HBS3.out hyn).mono ?_
      rintro e w4 ⟨rfl, hw4⟩
      have HV4 := Lib.hid (HV3.out.below hw4)
      have HB4 := Lib.hid (HB3.out.trans (hw4.mono HB3.out.size))
      have HG4 := Lib.hid (HG3.out.below hw4)
      have HBS4 := Lib.hid (HBS3.out.below hw4)
      clear hw4 HV3 HB3 HG3 HBS3
      cases hok : Sl.okS s with
      | false =>
        have HC : Hid (Sl.chkS s = 1) := if_neg (by rw [hok]; simp)
        have HM2 : Hid (false = Vl.mayB Sl.dirB (l.take (k + 1))) := by
          show _ = _
          rw [HSN.out, show Vl.Th.okB Sl.dirB s = false from hok]
          simp
        have HG5 : Hid (KR w4 g2 (Vl.nowS (l.take (k + 1)) S) sl') := by
          show KR _ _ _ _
          rw [HNS.out, if_neg (by rw [hok]; decide)]
          exact HG4.out
        rw [HC.out]
        clear hok
        go_wp2_with fail
        go_roundw
        case rel => exact ⟨k + 1, false, _, by omega, by go_num, rfl, HM2, HG5, HB4⟩
        case measure => simp [intOf]; omega
      | true =>
        have HC : Hid (Sl.chkS s = 0) := if_pos hok
        have hi24 : s.ino < 24 := by have := (Vl.okB_facts hok).1; omega
        have HOK := Lib.hid hok
        rw [HC.out]
        clear hok
        go_wp2_with fail
        go_loopw [14, 17] (fun f i wi => ∃ (j : Nat) (gb : Bool), j ≤ k ∧ i = .int .i64 j ∧ f = .bool gb ∧ Hid (gb = (fb && !decide (s.ino ∈ (l.take j).map Vl.Th.ino))) ∧ Hid (Below w4.heap.size w4 wi)) (fun _ i _ => k - (intOf i).toNat)
        case atStart => exact ⟨0, fb, by omega, rfl, rfl, by show _ = _; simp, Below.refl _ _⟩
        case round =>
          obtain ⟨j, gb, hj, rfl, rfl, HGB, HBI⟩ := hrel
          obtain ⟨wi, rfl⟩ : ∃ wi, wi = wr := ⟨wr, rfl⟩
          have HBi := Lib.hid (HB4.out.trans (HBI.out.mono HB4.out.size))
          have HVi := Lib.hid (HV4.out.below HBI.out)
          have k0 := HVi.out.cell 0 _ rfl
          by_cases hjk : j < k
          · have hjl : j < l.length := by rw [HLN.out]; omega
            have hci := HCI.out wi HBi.out
            have r4 := hci.1
            have j0 := hci.2 j hjl
            have HTJ2 := Lib.hid (HTJ.out j hjl)
            have HBN : Hid (∀ n, Below w4.heap.size w4 (wi.drewN n)) := fun n => HBI.out.trans (Below.drewsN wi w4.heap.size n)
            generalize l[j].ino = a at *
            obtain ⟨d, hd⟩ : ∃ d, s.ino = d := ⟨_, rfl⟩
            have HST : Hid ((fb && !decide (s.ino ∈ (l.take (j + 1)).map Vl.Th.ino)) = (gb && !decide (d = a))) := by
              show _ = _
              rw [HTJ2.out, seen_step, ← HGB.out, hd]
            rw [hd] at k0
            clear HGB hci
            cases gb with
            | false =>
              have HG2 : Hid (false = (fb && !decide (s.ino ∈ (l.take (j + 1)).map Vl.Th.ino))) := by
                show _ = _
                rw [HST.out]
                rfl
              go_upto_region 34 with fail
              go_quiet (fail)
              go_wp2_with fail
              go_roundw
              case rel => exact ⟨j + 1, false, by omega, by go_num, rfl, HG2, HBN.out _⟩
              case measure => simp [intOf]; omega
            | true =>
              by_cases e : a = d
              · have hne : ((a : Int) != (d : Int)) = false := by simp; omega
                have HG2 : Hid (false = (fb && !decide (s.ino ∈ (l.take (j + 1)).map Vl.Th.ino))) := by
                  show _ = _
                  rw [HST.out, e]
                  simp
                clear e
                go_upto_region 34 with fail
                go_quiet (fail)
                go_wp2_with fail
                go_roundw
                case rel => exact ⟨j + 1, false, by omega, by go_num, rfl, HG2, HBN.out _⟩
                case measure => simp [intOf]; omega
              · have hne : ((a : Int) != (d : Int)) = true := by simp; omega
                have HG2 : Hid (true = (fb && !decide (s.ino ∈ (l.take (j + 1)).map Vl.Th.ino))) := by
                  show _ = _
                  have e2 : ¬ d = a := fun h => e h.symm
                  rw [HST.out]
                  simp [e2]
                clear e
                go_upto_region 34 with fail
                go_quiet (fail)
                go_wp2_with fail
                go_roundw
                case rel => exact ⟨j + 1, true, by omega, by go_num, rfl, HG2, HBN.out _⟩
                case measure => simp [intOf]; omega
          · obtain rfl : k = j := by omega
            have HGi := Lib.hid (HG4.out.below HBI.out)
            have HM2 : Hid (gb = Vl.mayB Sl.dirB (l.take (k + 1))) := by
              show _ = _
              rw [HSN.out, ← HM.out, show Vl.Th.okB Sl.dirB s = true from HOK.out, HGB.out, Bool.and_true]
            have HUP : Hid (Vl.nowS (l.take (k + 1)) S = Vl.upd (Vl.nowS (l.take k) S) s.ino s) := by
              show _ = _
              rw [HNS.out, if_pos HOK.out]
            have HFIT : Hid (s.ino * 9 + (sc s (.slice y.a y.n y.c)).length ≤ (kro (Vl.nowS (l.take k) S) sl' 24).length) := by
              show _ ≤ _
              rw [kro_len]
              simp only [sc, List.length_cons, List.length_nil]
              omega
            have HYS : Hid (BS wi y.a y.n s.dt ∧ y.n ≤ y.c) := ⟨HBS4.out.below HBI.out, HYC.out⟩
            clear HGB HM HNS HTJ HCI
            have k1 := HVi.out.cell 1 _ rfl
            have k2 := HVi.out.cell 2 _ rfl
            have k3 := HVi.out.cell 3 _ rfl
            have k4 := HVi.out.cell 4 _ rfl
            have k5 := HVi.out.cell 5 _ rfl
            have k6 := HVi.out.cell 6 _ rfl
            have k7 := HVi.out.cell 7 _ rfl
            have k8 := HVi.out.cell 8 _ rfl
            go_wp2_with (refine wpList_store_part rfl 32 (.tmp 116) (.tmp 115) rfl g2 (s.ino * 9) (sc s (.slice y.a y.n y.c)) rfl rfl 32 _ HGi.out.row size_Sl HFIT.out (sc_row _ _ _ _) ?_
                         intro w5 hb5 hs5 hk5
                         have HG5 : Hid (KR w5 g2 (Vl.nowS (l.take (k + 1)) S) (Vl.upd sl' s.ino y)) := by
                           show KR _ _ _ _
                           rw [HUP.out]
                           exact HGi.out.put (s := y) hi24 hb5 hk5 HYS.out.1 HYS.out.2
                         have HB5 : Hid (Below W0.heap.size W0 w5) := HBi.out.trans (hk5.below2 (fun k hk => by have := H2.out; omega))
                         clear hb5 hs5 hk5)
            go_roundw
            case rel => exact ⟨k + 1, gb, _, by omega, by go_num, rfl, HM2, HG5, HB5⟩
            case measure => simp [intOf]; omega
    · obtain rfl : k = x.n := by omega
      have HTA : Hid (l.take x.n = l) := by show _ = _; rw [← HLN.out, List.take_length]
      have hm := HM.out
      have hg := HG.out
      rw [HTA.out] at hm hg
      subst hm
      go_wp2
      exact HE.out _ _ _ _ _ _ _ _ _ _ _ _ _ _ _ _ _ _ _ _ _ _ _ _ _ _ _ _ _ _ _ _ _ _ _ _ _ _ _ _ _ _ _ _ _ _ sl' hg HB.out
end Go.Proofs.YtnhokkdieijkhaaGreatDoor
