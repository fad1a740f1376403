/-
  The outer loop of VolKeeps, as a declaration of its own (layer 12).
-/
import Derived.Test.YtnhokkdieijkhaaGreatDoorVKFour
import Derived.Test.YtnhokkdieijkhaaGreatDoorVIn2
import Derived.Deep.CutRange
namespace Go.Proofs.YtnhokkdieijkhaaGreatDoor
open Go.RowKit Go.Shelf
attribute [local go_sem] Oper.semAt_some

theorem Vm.dl {w : World} {p n B c : Nat} {S : Nat → Vl.Th} (h : Vm w p n B S c) : ∀ i, i < 24 → (S i).dt.length ≤ 1000 := fun i hi => by
  obtain ⟨m, x, X, bl, h1, _⟩ := h
  have := (Vl.okB_facts (h1.vol.vp.ok i hi)).2.2
  omega
theorem Vl.nowS_dl : ∀ (l : List Vl.Th) (S : Nat → Vl.Th), (∀ i, i < 24 → (S i).dt.length ≤ 1000) → ∀ i, i < 24 → (Vl.nowS l S i).dt.length ≤ 1000
  | [], _, h => h
  | s :: r, S, h => by
    refine Vl.nowS_dl r _ fun i hi => ?_
    dsimp only
    by_cases hok : Sl.okS s = true
    · rw [if_pos hok]
      unfold Vl.upd
      split
      · have := (Vl.okB_facts hok).2.2
        omega
      · exact h i hi
    · rw [if_neg hok]
      exact h i hi
/-- Between two saves. -/
structure KI (w W : World) (p N g : Nat) (S : Nat → Vl.Th) (sl : Nat → Sl) : Prop where
  vm : Vm W p (35 + N) w.heap.size S 0
  bel : Below w.heap.size w W
  tot : Vl.tot S ≤ N
  row : KR W g S sl
/-- The three ways of a save. -/
theorem sv_ways (N : Nat) (l : List Vl.Th) (S : Nat → Vl.Th) (ht : Vl.tot S ≤ N) : Vl.tot (Vl.svS Sl.dirB (35 + N) l S) ≤ N ∧
    ((Vl.mayB Sl.dirB l = false ∧ Vl.svE Sl.dirB (35 + N) l S = 1 ∧ Vl.svS Sl.dirB (35 + N) l S = S) ∨
     (Vl.mayB Sl.dirB l = true ∧ Vl.svE Sl.dirB (35 + N) l S = 0 ∧ Vl.tot (Vl.nowS l S) ≤ N ∧ Vl.svS Sl.dirB (35 + N) l S = Vl.nowS l S) ∨
     (Vl.mayB Sl.dirB l = true ∧ Vl.svE Sl.dirB (35 + N) l S = 66 ∧ ¬ Vl.tot (Vl.nowS l S) ≤ N ∧ Vl.svS Sl.dirB (35 + N) l S = S)) := by
  cases hm : Vl.mayB Sl.dirB l with
  | false =>
    have he : Vl.svE Sl.dirB (35 + N) l S = 1 := by unfold Vl.svE; rw [if_neg (by rw [hm]; decide)]
    have hs : Vl.svS Sl.dirB (35 + N) l S = S := by unfold Vl.svS; rw [if_neg (by rw [he]; decide)]
    exact ⟨by rw [hs]; exact ht, .inl ⟨rfl, he, hs⟩⟩
  | true =>
    have hn := Vl.nowS_may l S (Vl.mayB_ok hm)
    by_cases hle : Vl.tot (Vl.nowS l S) ≤ N
    · have he : Vl.svE Sl.dirB (35 + N) l S = 0 := by unfold Vl.svE; rw [if_pos hm, if_pos (by rw [← hn]; omega)]
      have hs : Vl.svS Sl.dirB (35 + N) l S = Vl.nowS l S := by unfold Vl.svS; rw [if_pos he, hn]
      exact ⟨by rw [hs]; exact hle, .inr (.inl ⟨rfl, he, hle, hs⟩)⟩
    · have he : Vl.svE Sl.dirB (35 + N) l S = 66 := by unfold Vl.svE; rw [if_pos hm, if_neg (by rw [← hn]; omega)]
      have hs : Vl.svS Sl.dirB (35 + N) l S = S := by unfold Vl.svS; rw [if_neg (by rw [he]; decide)]
      exact ⟨by rw [hs]; exact ht, .inr (.inr ⟨rfl, he, hle, hs⟩)⟩
set_option maxRecDepth 1000000 in
set_option maxHeartbeats 40000000 in
theorem keep_loop2 (w W : World) (A1 : Option Addr) (n1 c1 : Nat) (ls : List (List Vl.Th)) (p N g0 : Nat) (sl0 : Nat → Sl) (h1 : RI2 w A1 n1 ls) (hn12 : n1 ≤ 12) (hN1 : 1 ≤ N) (hN2 : N ≤ 30) (hi : KI w W p N g0 Vl.bare sl0)
    (c0 c2 c3 c5 c9 c24 c25 c26 c27 c28 c29 c30 c31 c32 c33 c34 c35 c36 c37 c38 c39 c40 c41 c42 c43 c44 c45 c46 c47 c48 : Value) (u4 u11 u12 u13 u14 u15 u16 u17 u18 u19 u20 u21 u22 u23 u49 u50 u51 u52 u53 u54 u55 u56 u57 u58 u59 u60 u61 u62 u63 u64 u65 u66 u67 u68 u69 u70 u71 u72 u73 u74 u75 u76 u77 u78 u79 u80 u81 u82 u83 u84 u85 u86 u87 u88 u89 u90 u91 u92 u93 u94 u95 u96 u97 u98 u99 u100 u101 u102 u103 u104 u105 u106 u107 u108 u109 u110 u111 u112 u113 u114 u115 u116 u117 u118 u119 u120 u121 u122 u123 u124 u125 u126 u127 u128 u129 u130 u131 u132 u133 u134 u135 u136 u137 u138 u139 u140 u141 u142 u143 u144 u145 u146 u147 u148 u149 u150 u151 u152 u153 u154 u155 u156 u157 u158 u159 u160 u161 u162 u163 u164 u165 u166 u167 u168 u169 u170 u171 u172 u173 u174 u175 u176 u177 u178 u179 u180 u181 u182 u183 u184 u185 u186 u187 u188 u189 u190 u191 u192 u193 u194 u195 u196 u197 u198 u199 u200 u201 u202 u203 u204 u205 u206 u207 u208 u209 u210 u211 u212 u213 u214 : Value) (Q0 : Exit → Act → World → Prop)
    (hret : ∀ (z0 z1 z2 z3 z5 z6 z7 z8 z9 z10 z11 z12 z13 z14 z15 z16 z17 z18 z19 z20 z21 z22 z23 z24 z25 z26 z27 z28 z29 z30 z31 z32 z33 z34 z35 z36 z37 z38 z39 z40 z41 z42 z43 z44 z45 z46 z47 z48 z49 z50 z51 z52 z53 z54 z55 z56 z57 z58 z59 z60 z61 z62 z63 z64 z65 z66 z67 z68 z69 z70 z71 z72 z73 z74 z75 z76 z77 z78 z79 z80 z81 z82 z83 z84 z85 z86 z87 z88 z89 z90 z91 z92 z93 z94 z95 z96 z97 z98 z99 z100 z101 z102 z103 z104 z105 z106 z107 z108 z109 z110 z111 z112 z113 z114 z115 z116 z117 z118 z119 z120 z121 z122 z123 z124 z125 z126 z127 z128 z129 z130 z131 z132 z133 z134 z135 z136 z137 z138 z139 z140 z141 z142 z143 z144 z145 z146 z147 z148 z149 z150 z151 z152 z153 z154 z155 z156 z157 z158 z159 z160 z161 z162 z163 z164 z165 z166 z167 z168 z169 z170 z171 z172 z173 z174 z175 z176 z177 z178 z179 z180 z181 z182 z183 z184 z185 z186 z187 z188 z189 z190 z191 z192 z193 z194 z195 z196 z197 z198 z199 z200 z201 z202 z203 z204 z205 z206 z207 z208 z209 z210 z211 z212 z213 z214 : Value) (W' : World), Below w.heap.size w W' → Q0 .ret ⟨List.toArray (z0 :: z1 :: z2 :: z3 :: .bool true :: z5 :: z6 :: z7 :: z8 :: z9 :: z10 :: z11 :: z12 :: z13 :: z14 :: z15 :: z16 :: z17 :: z18 :: z19 :: z20 :: z21 :: z22 :: z23 :: z24 :: z25 :: z26 :: z27 :: z28 :: z29 :: z30 :: z31 :: z32 :: z33 :: z34 :: z35 :: z36 :: z37 :: z38 :: z39 :: z40 :: z41 :: z42 :: z43 :: z44 :: z45 :: z46 :: z47 :: z48 :: z49 :: z50 :: z51 :: z52 :: z53 :: z54 :: z55 :: z56 :: z57 :: z58 :: z59 :: z60 :: z61 :: z62 :: z63 :: z64 :: z65 :: z66 :: z67 :: z68 :: z69 :: z70 :: z71 :: z72 :: z73 :: z74 :: z75 :: z76 :: z77 :: z78 :: z79 :: z80 :: z81 :: z82 :: z83 :: z84 :: z85 :: z86 :: z87 :: z88 :: z89 :: z90 :: z91 :: z92 :: z93 :: z94 :: z95 :: z96 :: z97 :: z98 :: z99 :: z100 :: z101 :: z102 :: z103 :: z104 :: z105 :: z106 :: z107 :: z108 :: z109 :: z110 :: z111 :: z112 :: z113 :: z114 :: z115 :: z116 :: z117 :: z118 :: z119 :: z120 :: z121 :: z122 :: z123 :: z124 :: z125 :: z126 :: z127 :: z128 :: z129 :: z130 :: z131 :: z132 :: z133 :: z134 :: z135 :: z136 :: z137 :: z138 :: z139 :: z140 :: z141 :: z142 :: z143 :: z144 :: z145 :: z146 :: z147 :: z148 :: z149 :: z150 :: z151 :: z152 :: z153 :: z154 :: z155 :: z156 :: z157 :: z158 :: z159 :: z160 :: z161 :: z162 :: z163 :: z164 :: z165 :: z166 :: z167 :: z168 :: z169 :: z170 :: z171 :: z172 :: z173 :: z174 :: z175 :: z176 :: z177 :: z178 :: z179 :: z180 :: z181 :: z182 :: z183 :: z184 :: z185 :: z186 :: z187 :: z188 :: z189 :: z190 :: z191 :: z192 :: z193 :: z194 :: z195 :: z196 :: z197 :: z198 :: z199 :: z200 :: z201 :: z202 :: z203 :: z204 :: z205 :: z206 :: z207 :: z208 :: z209 :: z210 :: z211 :: z212 :: z213 :: z214 :: []), []⟩ W')
    (hexit : ∀ (z0 z1 z2 z3 z4 z5 z6 z7 z8 z9 z10 z11 z12 z13 z14 z15 z16 z17 z18 z19 z20 z21 z22 z23 z24 z25 z26 z27 z28 z29 z30 z31 z32 z33 z34 z35 z36 z37 z38 z39 z40 z41 z42 z43 z44 z45 z46 z47 z48 z49 z50 z51 z52 z53 z54 z55 z56 z57 z58 z59 z60 z61 z62 z63 z64 z65 z66 z67 z68 z69 z70 z71 z72 z73 z74 z75 z76 z77 z78 z79 z80 z81 z82 z83 z84 z85 z86 z87 z88 z89 z90 z91 z92 z93 z94 z95 z96 z97 z98 z99 z100 z101 z102 z103 z104 z105 z106 z107 z108 z109 z110 z111 z112 z113 z114 z115 z116 z117 z118 z119 z120 z121 z122 z123 z124 z125 z126 z127 z128 z129 z130 z131 z132 z133 z134 z135 z136 z137 z138 z139 z140 z141 z142 z143 z144 z145 z146 z147 z148 z149 z150 z151 z152 z153 z154 z155 z156 z157 z158 z159 z160 z161 z162 z163 z164 z165 z166 z167 z168 z169 z170 z171 z172 z173 z174 z175 z176 z177 z178 z179 z180 z181 z182 z183 z184 z185 z186 z187 z188 z189 z190 z191 z192 z193 z194 z195 z196 z197 z198 z199 z200 z201 z202 z203 z204 z205 z206 z207 z208 z209 z210 z211 z212 z213 z214 : Value) (W' : World), Below w.heap.size w W' → Q0 (.exit 2) ⟨List.toArray (z0 :: z1 :: z2 :: z3 :: z4 :: z5 :: z6 :: z7 :: z8 :: z9 :: z10 :: z11 :: z12 :: z13 :: z14 :: z15 :: z16 :: z17 :: z18 :: z19 :: z20 :: z21 :: z22 :: z23 :: z24 :: z25 :: z26 :: z27 :: z28 :: z29 :: z30 :: z31 :: z32 :: z33 :: z34 :: z35 :: z36 :: z37 :: z38 :: z39 :: z40 :: z41 :: z42 :: z43 :: z44 :: z45 :: z46 :: z47 :: z48 :: z49 :: z50 :: z51 :: z52 :: z53 :: z54 :: z55 :: z56 :: z57 :: z58 :: z59 :: z60 :: z61 :: z62 :: z63 :: z64 :: z65 :: z66 :: z67 :: z68 :: z69 :: z70 :: z71 :: z72 :: z73 :: z74 :: z75 :: z76 :: z77 :: z78 :: z79 :: z80 :: z81 :: z82 :: z83 :: z84 :: z85 :: z86 :: z87 :: z88 :: z89 :: z90 :: z91 :: z92 :: z93 :: z94 :: z95 :: z96 :: z97 :: z98 :: z99 :: z100 :: z101 :: z102 :: z103 :: z104 :: z105 :: z106 :: z107 :: z108 :: z109 :: z110 :: z111 :: z112 :: z113 :: z114 :: z115 :: z116 :: z117 :: z118 :: z119 :: z120 :: z121 :: z122 :: z123 :: z124 :: z125 :: z126 :: z127 :: z128 :: z129 :: z130 :: z131 :: z132 :: z133 :: z134 :: z135 :: z136 :: z137 :: z138 :: z139 :: z140 :: z141 :: z142 :: z143 :: z144 :: z145 :: z146 :: z147 :: z148 :: z149 :: z150 :: z151 :: z152 :: z153 :: z154 :: z155 :: z156 :: z157 :: z158 :: z159 :: z160 :: z161 :: z162 :: z163 :: z164 :: z165 :: z166 :: z167 :: z168 :: z169 :: z170 :: z171 :: z172 :: z173 :: z174 :: z175 :: z176 :: z177 :: z178 :: z179 :: z180 :: z181 :: z182 :: z183 :: z184 :: z185 :: z186 :: z187 :: z188 :: z189 :: z190 :: z191 :: z192 :: z193 :: z194 :: z195 :: z196 :: z197 :: z198 :: z199 :: z200 :: z201 :: z202 :: z203 :: z204 :: z205 :: z206 :: z207 :: z208 :: z209 :: z210 :: z211 :: z212 :: z213 :: z214 :: []), []⟩ W') :
    Code.wp Tryz.prog (Code.loop bodyA) Q0 ⟨List.toArray (c0 :: .slice A1 n1 c1 :: c2 :: c3 :: u4 :: c5 :: .int .i64 (N : Int) :: .pointer (some ⟨p, 0, none⟩) :: .slice (some ⟨g0, 0, none⟩) 24 24 :: c9 :: .int .i64 0 :: u11 :: u12 :: u13 :: u14 :: u15 :: u16 :: u17 :: u18 :: u19 :: u20 :: u21 :: u22 :: u23 :: c24 :: c25 :: c26 :: c27 :: c28 :: c29 :: c30 :: c31 :: c32 :: c33 :: c34 :: c35 :: c36 :: c37 :: c38 :: c39 :: c40 :: c41 :: c42 :: c43 :: c44 :: c45 :: c46 :: c47 :: c48 :: u49 :: u50 :: u51 :: u52 :: u53 :: u54 :: u55 :: u56 :: u57 :: u58 :: u59 :: u60 :: u61 :: u62 :: u63 :: u64 :: u65 :: u66 :: u67 :: u68 :: u69 :: u70 :: u71 :: u72 :: u73 :: u74 :: u75 :: u76 :: u77 :: u78 :: u79 :: u80 :: u81 :: u82 :: u83 :: u84 :: u85 :: u86 :: u87 :: u88 :: u89 :: u90 :: u91 :: u92 :: u93 :: u94 :: u95 :: u96 :: u97 :: u98 :: u99 :: u100 :: u101 :: u102 :: u103 :: u104 :: u105 :: u106 :: u107 :: u108 :: u109 :: u110 :: u111 :: u112 :: u113 :: u114 :: u115 :: u116 :: u117 :: u118 :: u119 :: u120 :: u121 :: u122 :: u123 :: u124 :: u125 :: u126 :: u127 :: u128 :: u129 :: u130 :: u131 :: u132 :: u133 :: u134 :: u135 :: u136 :: u137 :: u138 :: u139 :: u140 :: u141 :: u142 :: u143 :: u144 :: u145 :: u146 :: u147 :: u148 :: u149 :: u150 :: u151 :: u152 :: u153 :: u154 :: u155 :: u156 :: u157 :: u158 :: u159 :: u160 :: u161 :: u162 :: u163 :: u164 :: u165 :: u166 :: u167 :: u168 :: u169 :: u170 :: u171 :: u172 :: u173 :: u174 :: u175 :: u176 :: u177 :: u178 :: u179 :: u180 :: u181 :: u182 :: u183 :: u184 :: u185 :: u186 :: u187 :: u188 :: u189 :: u190 :: u191 :: u192 :: u193 :: u194 :: u195 :: u196 :: u197 :: u198 :: u199 :: u200 :: u201 :: u202 :: u203 :: u204 :: u205 :: u206 :: u207 :: u208 :: u209 :: u210 :: u211 :: u212 :: u213 :: u214 :: []), []⟩ W := by
  have H1 := Lib.hid h1
  have N1 : Hid (ls.length = n1) := h1.len
  have HI0 := Lib.hid hi
  have HRET := Lib.hid hret
  have HEXIT := Lib.hid hexit
  clear h1 hi hret hexit
  conv => arg 2; arg 1; whnf
  go_loopw [8, 10] (fun v i wr => ∃ (k g : Nat) (S : Nat → Vl.Th) (sl : Nat → Sl), k ≤ n1 ∧ i = .int .i64 k ∧ v = .slice (some ⟨g, 0, none⟩) 24 24 ∧ Hid (KI w wr p N g S sl)) (fun _ i _ => n1 - (intOf i).toNat)
  case atStart => exact ⟨0, g0, _, _, by omega, rfl, rfl, HI0⟩
  case round =>
    clear HI0
    obtain ⟨k, g, S, sl, hk, rfl, rfl, HI⟩ := hrel
    obtain ⟨wo, rfl⟩ : ∃ wo, wo = wr := ⟨wr, rfl⟩
    by_cases hlt : k < n1
    · obtain ⟨rb, ro, rfl, hblt, hc⟩ := H1.out.row (by omega)
      have hkl : k < ls.length := by rw [N1.out]; exact hlt
      obtain ⟨x, hcell, hsi⟩ := hc k hkl
      have HROW : Hid (∀ W', Below wo.heap.size wo W' → W'.cell? ⟨rb, ro + k, none⟩ = some (.slice x.a x.n x.c)) := fun W' hW => ((HI.out.bel.trans (hW.mono HI.out.bel.size)).cell (p := ⟨rb, ro + k, none⟩) hblt).trans hcell
      have HSI := Lib.hid (hsi.below HI.out.bel)
      have r0 := HROW.out wo (Below.refl _ _)
      generalize ls[k] = l at *
      clear hc hcell hsi hblt
      go_wp2_with fail
      refine (few_any x.a x.n x.c l wo HSI.out.ss HSI.out.few HSI.out.len).mono ?_
      rintro e w1 ⟨rfl, rfl⟩
      cases hfw : Vl.fewB l with
      | false =>
        clear r0
        go_wp2_with fail
        exact HRET.out _ _ _ _ _ _ _ _ _ _ _ _ _ _ _ _ _ _ _ _ _ _ _ _ _ _ _ _ _ _ _ _ _ _ _ _ _ _ _ _ _ _ _ _ _ _ _ _ _ _ _ _ _ _ _ _ _ _ _ _ _ _ _ _ _ _ _ _ _ _ _ _ _ _ _ _ _ _ _ _ _ _ _ _ _ _ _ _ _ _ _ _ _ _ _ _ _ _ _ _ _ _ _ _ _ _ _ _ _ _ _ _ _ _ _ _ _ _ _ _ _ _ _ _ _ _ _ _ _ _ _ _ _ _ _ _ _ _ _ _ _ _ _ _ _ _ _ _ _ _ _ _ _ _ _ _ _ _ _ _ _ _ _ _ _ _ _ _ _ _ _ _ _ _ _ _ _ _ _ _ _ _ _ _ _ _ _ _ _ _ _ _ _ _ _ _ _ _ _ _ _ _ _ _ _ _ _ _ _ _ _ _ _ _ _ HI.out.bel
      | true =>
        obtain ⟨h8, h12⟩ := Vl.fewB_iff.1 hfw
        have H8 : Hid (∀ s ∈ l, Fits s ∧ s.dt.length ≤ 1000) := fun s hs => ⟨HSI.out.fits s hs, by have := h8 s hs; omega⟩
        have hx12 : x.n ≤ 12 := by rw [← HSI.out.ss.1]; exact h12
        have hms := fun W : World => run_make_slots W
        clear h8 h12 hfw r0
        go_wp2_with fail
        have HK3 := Lib.hid (KR.made w1)
        have HB3 : Hid (Below w1.heap.size w1 (w1.alloc (.cells (kro (fun _ => Sl.zero) (fun _ => ⟨none, 0, 0⟩) 24).toArray 32))) := (Below.refl _ _).alloc (Nat.le_refl _) _
        generalize w1.alloc (.cells (kro (fun _ => Sl.zero) (fun _ => ⟨none, 0, 0⟩) 24).toArray 32) = w3 at *
        clear hms
        refine keep_loop3 w1 w3 g w1.heap.size S sl _ HI.out.row.row.lt (Nat.le_refl _) HI.out.row HK3.out HB3.out _ _ _ _ _ _ _ _ _ _ _ _ _ _ _ _ _ _ _ _ _ _ _ _ _ _ _ _ _ _ _ _ _ _ _ _ _ _ _ _ _ _ _ _ _ _ _ _ _ _ _ _ _ _ _ _ _ _ _ _ _ _ _ _ _ _ _ _ _ _ _ _ _ _ _ _ _ _ _ _ _ _ _ _ _ _ _ _ _ _ _ _ _ _ _ _ _ _ _ _ _ _ _ _ _ _ _ _ _ _ _ _ _ _ _ _ _ _ _ _ _ _ _ _ _ _ _ _ _ _ _ _ _ _ _ _ _ _ _ _ _ _ _ _ _ _ _ _ _ _ _ _ _ _ _ _ _ _ _ _ _ _ _ _ _ _ _ _ _ _ _ _ _ _ _ _ _ _ _ _ _ _ _ _ _ _ _ _ _ _ _ _ _ _ _ _ _ _ _ _ _ _ _ _ _ _ _ _ _ _ _ _ _ ?_
        intro v63 v64 v65 v66 v67 v68 v69 v70 v71 v72 v73 w4 sl4 hk4 hb4
        have HK4 := Lib.hid hk4
        have HB4 := Lib.hid hb4
        clear hk4 hb4 HK3 HB3
        go_wp2_with fail
        refine keep_loop4 w1 w4 rb ro k n1 c1 x l S w1.heap.size sl4 HROW.out HSI.out.ss H8.out hlt hx12 (Nat.le_refl _) HK4.out HB4.out _ _ _ _ _ _ _ _ _ _ _ _ _ _ _ _ _ _ _ _ _ _ _ _ _ _ _ _ _ _ _ _ _ _ _ _ _ _ _ _ _ _ _ _ _ _ _ _ _ _ _ _ _ _ _ _ _ _ _ _ _ _ _ _ _ _ _ _ _ _ _ _ _ _ _ _ _ _ _ _ _ _ _ _ _ _ _ _ _ _ _ _ _ _ _ _ _ _ _ _ _ _ _ _ _ _ _ _ _ _ _ _ _ _ _ _ _ _ _ _ _ _ _ _ _ _ _ _ _ _ _ _ _ _ _ _ _ _ _ _ _ _ _ _ _ _ _ _ _ _ _ _ _ _ _ _ _ _ _ _ _ _ _ _ _ _ _ _ _ _ _ _ _ _ _ _ _ _ _ _ _ _ _ _ _ _ _ _ _ _ _ _ _ _ _ _ _ _ _ _ _ _ _ _ _ _ _ _ _ _ _ ?_
        intro v16 v17 v74 v75 v76 v77 v78 v79 v80 v81 v82 v83 v84 v85 v86 v87 v88 v89 v90 v91 v92 v93 v94 v95 v96 v97 v98 v99 v100 v101 v102 v103 v104 v105 v106 v107 v108 v109 v110 v111 v112 v113 v114 v115 v116 w5 sl5 hk5 hb5
        have HK5 := Lib.hid hk5
        have HB5 := Lib.hid hb5
        clear hk5 hb5 HK4 HB4
        go_wp2_with fail
        refine keep_loop6 w5 w1.heap.size (Vl.nowS l S) sl5 HK5.out (Vl.nowS_dl l S HI.out.vm.dl) _ _ _ _ _ _ _ _ _ _ _ _ _ _ _ _ _ _ _ _ _ _ _ _ _ _ _ _ _ _ _ _ _ _ _ _ _ _ _ _ _ _ _ _ _ _ _ _ _ _ _ _ _ _ _ _ _ _ _ _ _ _ _ _ _ _ _ _ _ _ _ _ _ _ _ _ _ _ _ _ _ _ _ _ _ _ _ _ _ _ _ _ _ _ _ _ _ _ _ _ _ _ _ _ _ _ _ _ _ _ _ _ _ _ _ _ _ _ _ _ _ _ _ _ _ _ _ _ _ _ _ _ _ _ _ _ _ _ _ _ _ _ _ _ _ _ _ _ _ _ _ _ _ _ _ _ _ _ _ _ _ _ _ _ _ _ _ _ _ _ _ _ _ _ _ _ _ _ _ _ _ _ _ _ _ _ _ _ _ _ _ _ _ _ _ _ _ _ _ _ _ _ _ _ _ _ _ _ _ _ _ _ _ ?_
        intro v117 v118 v119 v120 v121 v122 v123 v124 v125 v126 v127 v128 v129 v130
        have r5 := HROW.out w5 HB5.out
        have HSV := Lib.hid ((HI.out.vm.below HB5.out).save x.a x.n x.c l (HSI.out.ss.below HB5.out) H8.out (by omega))
        have HWY := Lib.hid (sv_ways N l S HI.out.tot)
        have HV5 := Lib.hid (HI.out.vm.below HB5.out)
        have HKG := Lib.hid (HI.out.row.below HB5.out)
        have HW5 : Hid (Below w.heap.size w w5) := HI.out.bel.trans (HB5.out.mono HI.out.bel.size)
        go_wp2_with fail
        refine HSV.out.mono ?_
        rintro e w6 ⟨rfl, hc6, hv6⟩
        have HV6 := Lib.hid hv6
        have HKN := Lib.hid (HK5.out.ch hc6)
        have HKG6 := Lib.hid (HKG.out.ch hc6)
        have HW6 : Hid (Below w.heap.size w w6) := HW5.out.trans (hc6.bel HV5.out)
        clear hc6 hv6 HV5 HKG HW5 HSV r5 HI HK5 HB5 HSI HROW
        generalize Vl.svE Sl.dirB (35 + N) l S = ze at *
        generalize Vl.svS Sl.dirB (35 + N) l S = S' at *
        generalize Vl.mayB Sl.dirB l = mb at *
        generalize Vl.nowS l S = M at *
        obtain ⟨tn, htn⟩ : ∃ tn, Vl.tot M = tn := ⟨_, rfl⟩
        rw [htn] at HWY ⊢
        go_upto_region 42 with fail
        go_cut [164] from 49 to 214 (fun v W => w6 = W ∧ v = .bool false)
        case first =>
          as_aux_lemma =>
            rcases HWY.out.2 with ⟨rfl, rfl, _⟩ | ⟨rfl, rfl, hle, _⟩ | ⟨rfl, rfl, hle, _⟩
            · go_wp2_with fail
              go_meet
              case rel => exact ⟨rfl, rfl⟩
            · have hd : decide ((tn : Int) ≤ (N : Int)) = true := by simp; omega
              have hd2 : decide (tn ≤ N) = true := by simpa using hle
              clear hle
              go_wp2_with fail
              go_meet
              case rel => exact ⟨rfl, rfl⟩
            · have hd : decide ((tn : Int) ≤ (N : Int)) = false := by simp; omega
              have hd2 : decide (tn ≤ N) = false := by simpa using hle
              clear hle
              go_wp2_with fail
              go_meet
              case rel => exact ⟨rfl, rfl⟩
        case rest =>
          as_aux_lemma =>
            obtain ⟨rfl, rfl⟩ := hcut
            go_upto_if 166 with fail
            have hw := HWY.out.2
            clear htn
            go_cut [8] from 49 to 214 (fun v W => w6 = W ∧ ∃ (g' : Nat) (sl' : Nat → Sl), v = .slice (some ⟨g', 0, none⟩) 24 24 ∧ Hid (KR W g' S' sl'))
            case first =>
              as_aux_lemma =>
                rcases hw with ⟨-, hz, hS⟩ | ⟨-, hz, -, hS⟩ | ⟨-, hz, -, hS⟩
                · subst hz
                  have HS := Lib.hid hS
                  clear hS
                  go_wp2_with fail
                  go_meet
                  case rel => exact ⟨rfl, g, sl, rfl, by rw [HS.out]; exact HKG6⟩
                · subst hz
                  have HS := Lib.hid hS
                  clear hS
                  go_wp2_with fail
                  go_meet
                  case rel => exact ⟨rfl, _, sl5, rfl, by rw [HS.out]; exact HKN⟩
                · subst hz
                  have HS := Lib.hid hS
                  clear hS
                  go_wp2_with fail
                  go_meet
                  case rel => exact ⟨rfl, g, sl, rfl, by rw [HS.out]; exact HKG6⟩
            case rest =>
              as_aux_lemma =>
                clear hw
                obtain ⟨rfl, g', sl', rfl, HKR⟩ := hcut
                go_wp2_with fail
                refine HV6.out.all.mono ?_
                rintro e w7 ⟨A7, k7, rfl, hs7, hw7⟩
                have HS7 := Lib.hid hs7
                have HV7 := Lib.hid (HV6.out.below hw7)
                have HK7 := Lib.hid (HKR.out.below hw7)
                have HW7 := Lib.hid (HW6.out.trans (hw7.mono HW6.out.size))
                clear hs7 hw7 HKR HV6 HKN HKG6 HW6
                go_wp2_with fail
                refine (HV7.out.wrong (by omega)).mono ?_
                rintro e w8 ⟨rfl, hw8⟩
                have HS8 := Lib.hid (HS7.out.below hw8)
                have HV8 := Lib.hid (HV7.out.below hw8)
                have HK8 := Lib.hid (HK7.out.below hw8)
                have HW8 := Lib.hid (HW7.out.trans (hw8.mono HW7.out.size))
                clear hw8 HS7 HV7 HK7 HW7
                go_wp2_with fail
                refine keep_loop7 w8 w8 g' S' sl' A7 k7 HK8.out HS8.out HV8.out.dl (Below.refl _ _) _ _ _ _ _ _ _ _ _ _ _ _ _ _ _ _ _ _ _ _ _ _ _ _ _ _ _ _ _ _ _ _ _ _ _ _ _ _ _ _ _ _ _ _ _ _ _ _ _ _ _ _ _ _ _ _ _ _ _ _ _ _ _ _ _ _ _ _ _ _ _ _ _ _ _ _ _ _ _ _ _ _ _ _ _ _ _ _ _ _ _ _ _ _ _ _ _ _ _ _ _ _ _ _ _ _ _ _ _ _ _ _ _ _ _ _ _ _ _ _ _ _ _ _ _ _ _ _ _ _ _ _ _ _ _ _ _ _ _ _ _ _ _ _ _ _ _ _ _ _ _ _ _ _ _ _ _ _ _ _ _ _ _ _ _ _ _ _ _ _ _ _ _ _ _ _ _ _ _ _ _ _ _ _ _ _ _ _ _ _ _ _ _ _ _ _ _ _ _ _ _ _ _ _ _ _ _ _ _ _ _ _ ?_
                intro v4 v185 v186 v187 v188 v189 v190 v191 v192 v193 v194 v195 v196 v197 v198 v199 v200 v201 v202 v203 v204 v205 v206 v207 v208 w9 hb9
                have HV9 := Lib.hid (HV8.out.below hb9)
                have HK9 := Lib.hid (HK8.out.below hb9)
                have HW9 := Lib.hid (HW8.out.trans (hb9.mono HW8.out.size))
                have hfr := HV9.out.free
                have hts := HWY.out.1
                rw [show (((35 + N) - 35 - Vl.tot S' : Nat) : Int) = (N : Int) - (Vl.tot S' : Int) by omega] at hfr
                have HFR := Lib.hid hfr
                have HTS := Lib.hid hts
                clear hfr hb9 HS8 HV8 HK8 HW8
                obtain ⟨t9, ht9⟩ : ∃ t9, Vl.tot S' = t9 := ⟨_, rfl⟩
                rw [ht9] at hts HFR ⊢
                clear ht9
                go_wp2_with fail
                refine HFR.out.mono ?_
                rintro e w10 ⟨rfl, hw10⟩
                have HIN : Hid (KI w w10 p N g' S' sl') := ⟨HV9.out.below hw10, HW9.out.trans (hw10.mono HW9.out.size), HTS.out, HK9.out.below hw10⟩
                clear hw10 HV9 HK9 HW9 HFR
                go_wp2_with fail
                go_roundw
                case rel => exact ⟨k + 1, g', S', sl', by omega, by go_num, rfl, HIN⟩
                case measure => simp [intOf]; omega
    · obtain rfl : k = n1 := by omega
      go_wp2
      exact HEXIT.out _ _ _ _ _ _ _ _ _ _ _ _ _ _ _ _ _ _ _ _ _ _ _ _ _ _ _ _ _ _ _ _ _ _ _ _ _ _ _ _ _ _ _ _ _ _ _ _ _ _ _ _ _ _ _ _ _ _ _ _ _ _ _ _ _ _ _ _ _ _ _ _ _ _ _ _ _ _ _ _ _ _ _ _ _ _ _ _ _ _ _ _ _ _ _ _ _ _ _ _ _ _ _ _ _ _ _ _ _ _ _ _ _ _ _ _ _ _ _ _ _ _ _ _ _ _ _ _ _ _ _ _ _ _ _ _ _ _ _ _ _ _ _ _ _ _ _ _ _ _ _ _ _ _ _ _ _ _ _ _ _ _ _ _ _ _ _ _ _ _ _ _ _ _ _ _ _ _ _ _ _ _ _ _ _ _ _ _ _ _ _ _ _ _ _ _ _ _ _ _ _ _ _ _ _ _ _ _ _ _ _ _ _ _ _ _ HI.out.bel
end Go.Proofs.YtnhokkdieijkhaaGreatDoor
