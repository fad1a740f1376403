/-
  The law of crashes: the outer loop, as a declaration of its own.
-/
import Derived.Test.YtcieahfhpanogaaJSureB
import Derived.Deep.CutRange
namespace Go.Proofs.Ytcieahfhpanogaa
open Go.RowKit

theorem wrap64_rng (x : Int) : -9223372036854775808 ≤ wrap64 x ∧ wrap64 x ≤ 9223372036854775807 := by
  unfold wrap64
  omega
set_option maxRecDepth 1000000 in
set_option maxHeartbeats 40000000 in
theorem sure_loop1 (w W : World) (A1 A2 A3 : Option Addr) (n1 n2 n3 k1 k2 k3 : Nat) (ls : List (List (Int × List UInt8))) (st : List UInt8) (pk : List (List UInt8)) (h1 : CI w A1 n1 ls) (h2 : BS w A2 n2 st) (h3 : PI w A3 n3 pk)
    (a0 : ¬ 12 < n1) (a1 : ¬ n2 < n1) (a2 : ¬ n3 < n1) (m2 : n2 ≤ 9223372036854775807) (kk : Nat) (hk8 : 8 ≤ kk) (hk19 : kk ≤ 19) (dp p0 g0 : Nat)
    (S3 D3 : Nat → Prop) (j3 : J.JS) (d3 : DS) (hg : SG w W p0 dp kk 0 S3 D3 j3 d3 0 0 []) (hx : SX w W S3 D3 g0 (fun _ => [])) (hbb : ∀ i, i < 6 → j3.B i = [])
    (c0 c4 c5 c6 c7 c9 c12 c27 c28 c29 c30 c31 c32 c33 c34 c35 c36 c37 c38 c39 c40 c41 c42 c43 c44 c45 c46 c47 c48 c49 c50 c51 c52 c53 c54 c55 c56 c57 c58 c59 c60 c61 c62 c63 : Value) (u8 u14 u17 u18 u19 u20 u21 u22 u23 u24 u25 u26 u64 u65 u66 u67 u68 u69 u70 u71 u72 u73 u74 u75 u76 u77 u78 u79 u80 u81 u82 u83 u84 u85 u86 u87 u88 u89 u90 u91 u92 u93 u94 u95 u96 u97 u98 u99 u100 u101 u102 u103 u104 u105 u106 u107 u108 u109 u110 u111 u112 u113 u114 u115 u116 u117 u118 u119 u120 u121 u122 u123 u124 u125 u126 u127 u128 u129 u130 u131 u132 u133 u134 u135 u136 u137 u138 u139 u140 u141 u142 u143 u144 u145 u146 u147 u148 u149 u150 u151 u152 u153 u154 u155 u156 u157 u158 u159 u160 u161 u162 u163 u164 u165 u166 u167 u168 u169 u170 u171 u172 u173 u174 u175 u176 u177 u178 u179 u180 u181 u182 u183 u184 u185 u186 u187 u188 u189 u190 u191 u192 u193 u194 u195 u196 u197 u198 u199 u200 u201 u202 u203 u204 u205 u206 u207 u208 u209 u210 u211 u212 u213 u214 u215 u216 u217 u218 u219 u220 u221 u222 u223 u224 u225 : Value) (Q0 : Exit → Act → World → Prop)
    (hret : ∀ (z0 z1 z2 z3 z4 z5 z6 z7 z9 z10 z11 z12 z13 z14 z15 z16 z17 z18 z19 z20 z21 z22 z23 z24 z25 z26 z27 z28 z29 z30 z31 z32 z33 z34 z35 z36 z37 z38 z39 z40 z41 z42 z43 z44 z45 z46 z47 z48 z49 z50 z51 z52 z53 z54 z55 z56 z57 z58 z59 z60 z61 z62 z63 z64 z65 z66 z67 z68 z69 z70 z71 z72 z73 z74 z75 z76 z77 z78 z79 z80 z81 z82 z83 z84 z85 z86 z87 z88 z89 z90 z91 z92 z93 z94 z95 z96 z97 z98 z99 z100 z101 z102 z103 z104 z105 z106 z107 z108 z109 z110 z111 z112 z113 z114 z115 z116 z117 z118 z119 z120 z121 z122 z123 z124 z125 z126 z127 z128 z129 z130 z131 z132 z133 z134 z135 z136 z137 z138 z139 z140 z141 z142 z143 z144 z145 z146 z147 z148 z149 z150 z151 z152 z153 z154 z155 z156 z157 z158 z159 z160 z161 z162 z163 z164 z165 z166 z167 z168 z169 z170 z171 z172 z173 z174 z175 z176 z177 z178 z179 z180 z181 z182 z183 z184 z185 z186 z187 z188 z189 z190 z191 z192 z193 z194 z195 z196 z197 z198 z199 z200 z201 z202 z203 z204 z205 z206 z207 z208 z209 z210 z211 z212 z213 z214 z215 z216 z217 z218 z219 z220 z221 z222 z223 z224 z225 : Value) (W' : World), Below w.heap.size w W' → Q0 .ret ⟨List.toArray (z0 :: z1 :: z2 :: z3 :: z4 :: z5 :: z6 :: z7 :: .bool true :: z9 :: z10 :: z11 :: z12 :: z13 :: z14 :: z15 :: z16 :: z17 :: z18 :: z19 :: z20 :: z21 :: z22 :: z23 :: z24 :: z25 :: z26 :: z27 :: z28 :: z29 :: z30 :: z31 :: z32 :: z33 :: z34 :: z35 :: z36 :: z37 :: z38 :: z39 :: z40 :: z41 :: z42 :: z43 :: z44 :: z45 :: z46 :: z47 :: z48 :: z49 :: z50 :: z51 :: z52 :: z53 :: z54 :: z55 :: z56 :: z57 :: z58 :: z59 :: z60 :: z61 :: z62 :: z63 :: z64 :: z65 :: z66 :: z67 :: z68 :: z69 :: z70 :: z71 :: z72 :: z73 :: z74 :: z75 :: z76 :: z77 :: z78 :: z79 :: z80 :: z81 :: z82 :: z83 :: z84 :: z85 :: z86 :: z87 :: z88 :: z89 :: z90 :: z91 :: z92 :: z93 :: z94 :: z95 :: z96 :: z97 :: z98 :: z99 :: z100 :: z101 :: z102 :: z103 :: z104 :: z105 :: z106 :: z107 :: z108 :: z109 :: z110 :: z111 :: z112 :: z113 :: z114 :: z115 :: z116 :: z117 :: z118 :: z119 :: z120 :: z121 :: z122 :: z123 :: z124 :: z125 :: z126 :: z127 :: z128 :: z129 :: z130 :: z131 :: z132 :: z133 :: z134 :: z135 :: z136 :: z137 :: z138 :: z139 :: z140 :: z141 :: z142 :: z143 :: z144 :: z145 :: z146 :: z147 :: z148 :: z149 :: z150 :: z151 :: z152 :: z153 :: z154 :: z155 :: z156 :: z157 :: z158 :: z159 :: z160 :: z161 :: z162 :: z163 :: z164 :: z165 :: z166 :: z167 :: z168 :: z169 :: z170 :: z171 :: z172 :: z173 :: z174 :: z175 :: z176 :: z177 :: z178 :: z179 :: z180 :: z181 :: z182 :: z183 :: z184 :: z185 :: z186 :: z187 :: z188 :: z189 :: z190 :: z191 :: z192 :: z193 :: z194 :: z195 :: z196 :: z197 :: z198 :: z199 :: z200 :: z201 :: z202 :: z203 :: z204 :: z205 :: z206 :: z207 :: z208 :: z209 :: z210 :: z211 :: z212 :: z213 :: z214 :: z215 :: z216 :: z217 :: z218 :: z219 :: z220 :: z221 :: z222 :: z223 :: z224 :: z225 :: []), []⟩ W')
    (hexit : ∀ (z0 z1 z2 z3 z4 z5 z6 z7 z8 z9 z10 z11 z12 z13 z14 z15 z16 z17 z18 z19 z20 z21 z22 z23 z24 z25 z26 z27 z28 z29 z30 z31 z32 z33 z34 z35 z36 z37 z38 z39 z40 z41 z42 z43 z44 z45 z46 z47 z48 z49 z50 z51 z52 z53 z54 z55 z56 z57 z58 z59 z60 z61 z62 z63 z64 z65 z66 z67 z68 z69 z70 z71 z72 z73 z74 z75 z76 z77 z78 z79 z80 z81 z82 z83 z84 z85 z86 z87 z88 z89 z90 z91 z92 z93 z94 z95 z96 z97 z98 z99 z100 z101 z102 z103 z104 z105 z106 z107 z108 z109 z110 z111 z112 z113 z114 z115 z116 z117 z118 z119 z120 z121 z122 z123 z124 z125 z126 z127 z128 z129 z130 z131 z132 z133 z134 z135 z136 z137 z138 z139 z140 z141 z142 z143 z144 z145 z146 z147 z148 z149 z150 z151 z152 z153 z154 z155 z156 z157 z158 z159 z160 z161 z162 z163 z164 z165 z166 z167 z168 z169 z170 z171 z172 z173 z174 z175 z176 z177 z178 z179 z180 z181 z182 z183 z184 z185 z186 z187 z188 z189 z190 z191 z192 z193 z194 z195 z196 z197 z198 z199 z200 z201 z202 z203 z204 z205 z206 z207 z208 z209 z210 z211 z212 z213 z214 z215 z216 z217 z218 z219 z220 z221 z222 z223 z224 z225 : Value) (W' : World), Below w.heap.size w W' → Q0 (.exit 0) ⟨List.toArray (z0 :: z1 :: z2 :: z3 :: z4 :: z5 :: z6 :: z7 :: z8 :: z9 :: z10 :: z11 :: z12 :: z13 :: z14 :: z15 :: z16 :: z17 :: z18 :: z19 :: z20 :: z21 :: z22 :: z23 :: z24 :: z25 :: z26 :: z27 :: z28 :: z29 :: z30 :: z31 :: z32 :: z33 :: z34 :: z35 :: z36 :: z37 :: z38 :: z39 :: z40 :: z41 :: z42 :: z43 :: z44 :: z45 :: z46 :: z47 :: z48 :: z49 :: z50 :: z51 :: z52 :: z53 :: z54 :: z55 :: z56 :: z57 :: z58 :: z59 :: z60 :: z61 :: z62 :: z63 :: z64 :: z65 :: z66 :: z67 :: z68 :: z69 :: z70 :: z71 :: z72 :: z73 :: z74 :: z75 :: z76 :: z77 :: z78 :: z79 :: z80 :: z81 :: z82 :: z83 :: z84 :: z85 :: z86 :: z87 :: z88 :: z89 :: z90 :: z91 :: z92 :: z93 :: z94 :: z95 :: z96 :: z97 :: z98 :: z99 :: z100 :: z101 :: z102 :: z103 :: z104 :: z105 :: z106 :: z107 :: z108 :: z109 :: z110 :: z111 :: z112 :: z113 :: z114 :: z115 :: z116 :: z117 :: z118 :: z119 :: z120 :: z121 :: z122 :: z123 :: z124 :: z125 :: z126 :: z127 :: z128 :: z129 :: z130 :: z131 :: z132 :: z133 :: z134 :: z135 :: z136 :: z137 :: z138 :: z139 :: z140 :: z141 :: z142 :: z143 :: z144 :: z145 :: z146 :: z147 :: z148 :: z149 :: z150 :: z151 :: z152 :: z153 :: z154 :: z155 :: z156 :: z157 :: z158 :: z159 :: z160 :: z161 :: z162 :: z163 :: z164 :: z165 :: z166 :: z167 :: z168 :: z169 :: z170 :: z171 :: z172 :: z173 :: z174 :: z175 :: z176 :: z177 :: z178 :: z179 :: z180 :: z181 :: z182 :: z183 :: z184 :: z185 :: z186 :: z187 :: z188 :: z189 :: z190 :: z191 :: z192 :: z193 :: z194 :: z195 :: z196 :: z197 :: z198 :: z199 :: z200 :: z201 :: z202 :: z203 :: z204 :: z205 :: z206 :: z207 :: z208 :: z209 :: z210 :: z211 :: z212 :: z213 :: z214 :: z215 :: z216 :: z217 :: z218 :: z219 :: z220 :: z221 :: z222 :: z223 :: z224 :: z225 :: []), []⟩ W') :
    Code.wp Try.prog (Code.loop bodyA) Q0 ⟨List.toArray (c0 :: .slice A1 n1 k1 :: .slice A2 n2 k2 :: .slice A3 n3 k3 :: c4 :: c5 :: c6 :: c7 :: u8 :: c9 :: .int .i64 (kk : Int) :: .pointer (some ⟨dp, 0, none⟩) :: c12 :: .pointer (some ⟨p0, 0, none⟩) :: u14 :: .slice (some ⟨g0, 0, none⟩) 6 6 :: .int .i64 0 :: u17 :: u18 :: u19 :: u20 :: u21 :: u22 :: u23 :: u24 :: u25 :: u26 :: c27 :: c28 :: c29 :: c30 :: c31 :: c32 :: c33 :: c34 :: c35 :: c36 :: c37 :: c38 :: c39 :: c40 :: c41 :: c42 :: c43 :: c44 :: c45 :: c46 :: c47 :: c48 :: c49 :: c50 :: c51 :: c52 :: c53 :: c54 :: c55 :: c56 :: c57 :: c58 :: c59 :: c60 :: c61 :: c62 :: c63 :: u64 :: u65 :: u66 :: u67 :: u68 :: u69 :: u70 :: u71 :: u72 :: u73 :: u74 :: u75 :: u76 :: u77 :: u78 :: u79 :: u80 :: u81 :: u82 :: u83 :: u84 :: u85 :: u86 :: u87 :: u88 :: u89 :: u90 :: u91 :: u92 :: u93 :: u94 :: u95 :: u96 :: u97 :: u98 :: u99 :: u100 :: u101 :: u102 :: u103 :: u104 :: u105 :: u106 :: u107 :: u108 :: u109 :: u110 :: u111 :: u112 :: u113 :: u114 :: u115 :: u116 :: u117 :: u118 :: u119 :: u120 :: u121 :: u122 :: u123 :: u124 :: u125 :: u126 :: u127 :: u128 :: u129 :: u130 :: u131 :: u132 :: u133 :: u134 :: u135 :: u136 :: u137 :: u138 :: u139 :: u140 :: u141 :: u142 :: u143 :: u144 :: u145 :: u146 :: u147 :: u148 :: u149 :: u150 :: u151 :: u152 :: u153 :: u154 :: u155 :: u156 :: u157 :: u158 :: u159 :: u160 :: u161 :: u162 :: u163 :: u164 :: u165 :: u166 :: u167 :: u168 :: u169 :: u170 :: u171 :: u172 :: u173 :: u174 :: u175 :: u176 :: u177 :: u178 :: u179 :: u180 :: u181 :: u182 :: u183 :: u184 :: u185 :: u186 :: u187 :: u188 :: u189 :: u190 :: u191 :: u192 :: u193 :: u194 :: u195 :: u196 :: u197 :: u198 :: u199 :: u200 :: u201 :: u202 :: u203 :: u204 :: u205 :: u206 :: u207 :: u208 :: u209 :: u210 :: u211 :: u212 :: u213 :: u214 :: u215 :: u216 :: u217 :: u218 :: u219 :: u220 :: u221 :: u222 :: u223 :: u224 :: u225 :: []), []⟩ W := by
  have H1 := Lib.hid h1
  have H2 := Lib.hid h2
  have H3 := Lib.hid h3
  have N1 : Hid (ls.length = n1) := h1.len
  have N3 : Hid (pk.length = n3) := h3.len
  have HK8 := Lib.hid hk8
  have HK19 := Lib.hid hk19
  have HG0 := Lib.hid hg
  have HX0 := Lib.hid hx
  have HBB := Lib.hid hbb
  have HRET := Lib.hid hret
  have HEXIT := Lib.hid hexit
  clear h1 h2 h3 hk8 hk19 hg hx hbb hret hexit
  conv => arg 2; arg 1; whnf
  go_loopw [13, 15, 16] (fun jv sv i wr => ∃ k p g1 : Nat, k ≤ n1 ∧ i = .int .i64 k ∧ jv = .pointer (some ⟨p, 0, none⟩) ∧ sv = .slice (some ⟨g1, 0, none⟩) 6 6 ∧ ∃ S D j d s t c f1, Hid (SG w wr p dp kk k S D j d s t c) ∧ Hid (SX w wr S D g1 f1) ∧ Hid (∀ i, i < 6 → j.B i = f1 i)) (fun _ _ i _ => n1 - (intOf i).toNat)
  case atStart => exact ⟨0, p0, g0, by omega, rfl, rfl, rfl, S3, D3, j3, _, 0, 0, [], _, HG0.out, HX0.out, HBB.out⟩
  case round =>
    obtain ⟨k, p, g1, hk, rfl, rfl, rfl, S, D, j, d, s, t, c, f1, HG, HX1, HB⟩ := hrel
    rename World => W0
    by_cases hlt : k < n1
    · have hkl : k < ls.length := by rw [N1.out]; exact hlt
      have hkp : k < pk.length := by rw [N3.out]; omega
      have hk2 : k < n2 := by omega
      have hk3 : k < n3 := by omega
      have hki : (k : Int) < (n1 : Int) := by omega
      have hk2i : (k : Int) < (n2 : Int) := by omega
      have hk3i : (k : Int) < (n3 : Int) := by omega
      have hk12 : k < 12 := by omega
      obtain ⟨bc, oc, ⟨xa, xn, xc⟩, rfl, hw, hx⟩ := ci_held H1.out k hlt hkl
      change WI w xa xn ls[k] at hw
      change ∀ W, Below w.heap.size w W → W.cell? ⟨bc, oc + k, none⟩ = some (.slice xa xn xc) at hx
      have HW := Lib.hid hw
      have HX := Lib.hid hx
      have NL : Hid (ls[k].length = xn) := hw.ws.1
      have hxn : xn ≤ 9223372036854775807 := hw.few
      clear hw hx
      obtain ⟨bp, op, ⟨pa, pn, pc⟩, rfl, hpb, hpm, hpx⟩ := pi_held H3.out k hk3 hkp
      change BS w pa pn pk[k] at hpb
      change ∀ W, Below w.heap.size w W → W.cell? ⟨bp, op + k, none⟩ = some (.slice pa pn pc) at hpx
      have HPB := Lib.hid hpb
      have HPM := Lib.hid hpm
      have HPX := Lib.hid hpx
      clear hpb hpm hpx
      obtain ⟨b2, o2, rfl, hcq⟩ := H2.out.2 (by omega)
      have hk2l : k < st.length := by rw [H2.out.1]; exact hk2
      have HSG : Hid (∀ W, Below w.heap.size w W → W.cell? ⟨b2, o2 + k, none⟩ = some (.int .u8 (st[k].toNat : Int))) := fun W hb => by
        obtain ⟨b3, o3, e3, hc3⟩ := (H2.out.below hb).2 (by omega)
        cases e3
        exact hc3 k hk2l
      clear hcq
      generalize (st[k].toNat : Int) = sk at *
      have hcx := HX.out W0 HG.out.bel
      have hcp := HPX.out W0 HG.out.bel
      go_wp2_with fail
      refine (few_any W0 _ xa xn xc ls[k] (below_ws HG.out.bel HW.out.ws) hxn (fun y hy => HW.out.len y hy)).mono ?_
      rintro e w5 ⟨rfl, rfl⟩
      cases hf : fewB ls[k] with
      | false =>
        go_wp2
        exact HRET.out _ _ _ _ _ _ _ _ _ _ _ _ _ _ _ _ _ _ _ _ _ _ _ _ _ _ _ _ _ _ _ _ _ _ _ _ _ _ _ _ _ _ _ _ _ _ _ _ _ _ _ _ _ _ _ _ _ _ _ _ _ _ _ _ _ _ _ _ _ _ _ _ _ _ _ _ _ _ _ _ _ _ _ _ _ _ _ _ _ _ _ _ _ _ _ _ _ _ _ _ _ _ _ _ _ _ _ _ _ _ _ _ _ _ _ _ _ _ _ _ _ _ _ _ _ _ _ _ _ _ _ _ _ _ _ _ _ _ _ _ _ _ _ _ _ _ _ _ _ _ _ _ _ _ _ _ _ _ _ _ _ _ _ _ _ _ _ _ _ _ _ _ _ _ _ _ _ _ _ _ _ _ _ _ _ _ _ _ _ _ _ _ _ _ _ _ _ _ _ _ _ _ _ _ _ _ _ _ _ _ _ _ _ _ _ _ _ _ _ _ _ _ _ _ _ _ HG.out.bel
      | true =>
      have hn20 : xn ≤ 20 := by rw [← NL.out]; exact (fewB_true hf).1
      clear hf
      by_cases hp20 : 20 < pn
      · have hp20' : (20 : Int) < (pn : Int) := by omega
        go_wp2
        exact HRET.out _ _ _ _ _ _ _ _ _ _ _ _ _ _ _ _ _ _ _ _ _ _ _ _ _ _ _ _ _ _ _ _ _ _ _ _ _ _ _ _ _ _ _ _ _ _ _ _ _ _ _ _ _ _ _ _ _ _ _ _ _ _ _ _ _ _ _ _ _ _ _ _ _ _ _ _ _ _ _ _ _ _ _ _ _ _ _ _ _ _ _ _ _ _ _ _ _ _ _ _ _ _ _ _ _ _ _ _ _ _ _ _ _ _ _ _ _ _ _ _ _ _ _ _ _ _ _ _ _ _ _ _ _ _ _ _ _ _ _ _ _ _ _ _ _ _ _ _ _ _ _ _ _ _ _ _ _ _ _ _ _ _ _ _ _ _ _ _ _ _ _ _ _ _ _ _ _ _ _ _ _ _ _ _ _ _ _ _ _ _ _ _ _ _ _ _ _ _ _ _ _ _ _ _ _ _ _ _ _ _ _ _ _ _ _ _ _ _ _ _ _ _ _ _ _ _ HG.out.bel
      have hp20' : ¬ (20 : Int) < (pn : Int) := by omega
      go_wp2_with (refine wpList_make_cells rfl 33 9 (.string (txt [])) 16 _ _ rfl Try.underlying33 infos_str rfl (by omega) 6 rfl rfl (by omega) W0.heap.size rfl ?_
                   intro w6 hrow6 hb6
                   have HR6 := Lib.hid (And.intro (HG.out.below hb6) (And.intro (HX1.out.below hb6) (SX.fresh HG.out (f := fun _ => []) hrow6)))
                   clear hrow6 hb6)
      have HNE : Hid (g1 ≠ W0.heap.size) := by have := HX1.out.row.lt; show ¬ _; omega
      generalize W0.heap.size = g2 at *
      refine sure_loop2 w _ p dp kk k S D j d s t c g1 g2 f1 (fun _ => []) HNE.out _ _ _ _ _ _ _ _ _ _ _ _ _ _ _ _ _ _ _ _ _ _ _ _ _ _ _ _ _ _ _ _ _ _ _ _ _ _ _ _ _ _ _ _ _ _ _ _ _ _ _ _ _ _ _ _ _ _ _ _ _ _ _ _ _ _ _ _ _ _ _ _ _ _ _ _ _ _ _ _ _ _ _ _ _ _ _ _ _ _ _ _ _ _ _ _ _ _ _ _ _ _ _ _ _ _ _ _ _ _ _ _ _ _ _ _ _ _ _ _ _ _ _ _ _ _ _ _ _ _ _ _ _ _ _ _ _ _ _ _ _ _ _ _ _ _ _ _ _ _ _ _ _ _ _ _ _ _ _ _ _ _ _ _ _ _ _ _ _ _ _ _ _ _ _ _ _ _ _ _ _ _ _ _ _ _ _ _ _ _ _ _ _ _ _ _ _ _ _ _ _ _ _ _ _ _ _ _ _ _ _ _ _ _ _ _ _ _ _ _ _ _ _ _ HR6.out.1 HR6.out.2.1 HR6.out.2.2 ?_
      intro F0 v86 v87 v88 v89 v90 v91 v92 v93 v94 v95 v96 wr0 HGM0 HXM0 HFM0 HEM0
      have HGM1 := Lib.hid HGM0
      have HXM1 := Lib.hid HXM0
      have HFM1 := Lib.hid HFM0
      have HEM1 := Lib.hid HEM0
      clear HGM0 HXM0 HFM0 HEM0 HR6 HG HX1 hcx hcp
      go_wp2_with fail
      refine sure_loop3 w _ p dp kk k n1 k1 bc oc xa xn xc ls[k] S D j d s t c g1 g2 f1 F0 HNE.out hlt HW.out HX.out hxn _ _ _ _ _ _ _ _ _ _ _ _ _ _ _ _ _ _ _ _ _ _ _ _ _ _ _ _ _ _ _ _ _ _ _ _ _ _ _ _ _ _ _ _ _ _ _ _ _ _ _ _ _ _ _ _ _ _ _ _ _ _ _ _ _ _ _ _ _ _ _ _ _ _ _ _ _ _ _ _ _ _ _ _ _ _ _ _ _ _ _ _ _ _ _ _ _ _ _ _ _ _ _ _ _ _ _ _ _ _ _ _ _ _ _ _ _ _ _ _ _ _ _ _ _ _ _ _ _ _ _ _ _ _ _ _ _ _ _ _ _ _ _ _ _ _ _ _ _ _ _ _ _ _ _ _ _ _ _ _ _ _ _ _ _ _ _ _ _ _ _ _ _ _ _ _ _ _ _ _ _ _ _ _ _ _ _ _ _ _ _ _ _ _ _ _ _ _ _ _ _ _ _ _ _ _ _ _ _ _ _ _ _ _ _ _ _ _ _ _ _ _ _ HGM1.out HXM1.out HFM1.out HEM1.out ?_
      intro F v21 v97 v98 v99 v100 v101 v102 v103 v104 v105 v106 v107 v108 v109 v110 v111 v112 v113 v114 v115 v116 v117 v118 v119 v120 v121 v122 v123 v124 v125 v126 v127 wr HGM0 HXM0 HFM0 HOK0
      have HGM := Lib.hid HGM0
      have HXM := Lib.hid HXM0
      have HFM := Lib.hid HFM0
      have HOKA := Lib.hid HOK0
      clear HGM0 HXM0 HFM0 HOK0 HGM1 HXM1 HFM1 HEM1
      have hcx := HX.out wr HGM.out.bel
      have hc2 := HSG.out wr HGM.out.bel
      go_upto_if 133 with (fail)
      clear hcx
      go_cut [] from 64 to 225 (fun W => ∃ (D7 : Nat → Prop) (d7 : DS), Hid (SG w W p dp kk k S D7 j d7 s t c ∧ SX w W S D7 g1 f1 ∧ SX w W S D7 g2 F))
      case first =>
        as_aux_lemma =>
          by_cases hb : bits BinOp.and IntKind.u8 sk 16 = 16
          · go_wp2_with fail
            refine (HGM.out.stop (wrap64 (bits BinOp.and IntKind.u8 sk 15)) (wrap64_rng _).1 (wrap64_rng _).2).mono ?_
            rintro e w7 ⟨⟨v7, rfl⟩, D7, h7, hm7⟩
            have H7 : Hid (SG w w7 p dp kk k S D7 j _ s t c ∧ SX w w7 S D7 g1 f1 ∧ SX w w7 S D7 g2 F) := ⟨h7, hm7 _ _ HXM.out, hm7 _ _ HFM.out⟩
            clear h7 hm7
            go_wp2_with fail
            go_meet
            case rel => exact ⟨D7, _, H7.out⟩
          · go_wp2_with fail
            go_meet
            case rel => exact ⟨D, d, HGM.out, HXM.out, HFM.out⟩
      case rest =>
        as_aux_lemma =>
          obtain ⟨D7, d7, H7⟩ := hcut
          clear hc2
          have hcx := HX.out _ H7.out.1.bel
          go_wp2_with fail
          refine (H7.out.1.commit HK8.out HK19.out (by omega) xa xn xc HW.out.ws hn20).mono ?_
          rintro e w8 ⟨r, S8, D8, j8, d8, rfl, hc8, hm8⟩
          have HC8 := Lib.hid hc8
          have HX8 : Hid (SX w w8 S8 D8 g1 f1 ∧ SX w w8 S8 D8 g2 F) := ⟨hm8 _ _ H7.out.2.1, hm8 _ _ H7.out.2.2⟩
          clear hc8 hm8 hcx
          go_upto_region 32 with (fail)
          go_cut [153] from 64 to 225 (fun v W => w8 = W ∧ v = .bool (decide (r = 1 ∨ r = 21)))
          case first =>
            as_aux_lemma =>
              rcases HC8.out.told with hr | hr | hr | hr
              all_goals
                subst hr
                go_wp2_with fail
                go_meet
                case rel => exact ⟨rfl, rfl⟩
          case rest =>
            as_aux_lemma =>
              obtain ⟨rfl, rfl⟩ := hcut
              go_upto_if 153 with (fail)
              go_cut [18] from 64 to 225 (fun sv W => w8 = W ∧ ∃ g5 f5, sv = .slice (some ⟨g5, 0, none⟩) 6 6 ∧ Hid (SX w W S8 D8 g5 f5) ∧ Hid ((r = 1 ∨ r = 21) ∧ f5 = f1 ∨ (r = 0 ∨ r = 20) ∧ f5 = F))
              case first =>
                as_aux_lemma =>
                  by_cases hr : r = 1 ∨ r = 21
                  · have e : decide (r = 1 ∨ r = 21) = true := decide_eq_true hr
                    have HR := Lib.hid hr
                    clear hr
                    rw [e]
                    clear e
                    go_wp2_with fail
                    go_meet
                    case rel => exact ⟨rfl, g1, f1, rfl, HX8.out.1, .inl ⟨HR.out, rfl⟩⟩
                  · have e : decide (r = 1 ∨ r = 21) = false := decide_eq_false hr
                    have HR : Hid (r = 0 ∨ r = 20) := by have := HC8.out.told; show _ ∨ _; omega
                    clear hr
                    rw [e]
                    clear e
                    go_wp2_with fail
                    go_meet
                    case rel => exact ⟨rfl, g2, F, rfl, HX8.out.2, .inr ⟨HR.out, rfl⟩⟩
              case rest =>
                as_aux_lemma =>
                  obtain ⟨rfl, g5, f5, rfl, HX5, HE5⟩ := hcut
                  go_upto_if 156 with (fail)
                  go_cut [15] from 64 to 225 (fun sv W => w8 = W ∧ ∃ g4 f4, sv = .slice (some ⟨g4, 0, none⟩) 6 6 ∧ Hid (SX w W S8 D8 g4 f4) ∧ Hid (r = 0 ∧ f4 = f5 ∨ r ≠ 0 ∧ f4 = f1))
                  case first =>
                    as_aux_lemma =>
                      by_cases hr : r = 0
                      · have HR := Lib.hid hr
                        go_wp2_with fail
                        go_meet
                        case rel => exact ⟨rfl, g5, f5, rfl, HX5.out, .inl ⟨HR.out, rfl⟩⟩
                      · have HR := Lib.hid hr
                        go_wp2_with fail
                        go_meet
                        case rel => exact ⟨rfl, g1, f1, rfl, HX8.out.1, .inr ⟨HR.out, rfl⟩⟩
                  case rest =>
                    as_aux_lemma =>
                      obtain ⟨rfl, g4, f4, rfl, HX4, HE4⟩ := hcut
                      have HTL := Lib.hid (tells_of HB.out HOKA.out HE5.out HE4.out)
                      have hc2 := HSG.out w8 HC8.out.bel
                      go_upto_region 36 with (fail)
                      go_cut [167] from 64 to 225 (fun v W => w8 = W ∧ ∃ bb : Bool, v = .bool bb ∧ Hid (bb = false → r ≠ 20))
                      case first =>
                        as_aux_lemma =>
                          by_cases hr : r = 20
                          · go_wp2_with fail
                            go_meet
                            case rel => exact ⟨rfl, true, rfl, fun h => by cases h⟩
                          · have HR := Lib.hid hr
                            by_cases hb : bits BinOp.and IntKind.u8 sk 32 = 32
                            · go_wp2_with fail
                              go_meet
                              case rel => exact ⟨rfl, true, rfl, fun h => by cases h⟩
                            · go_wp2_with fail
                              go_meet
                              case rel => exact ⟨rfl, false, by simp [HR.out, hb], fun _ => HR.out⟩
                      case rest =>
                        as_aux_lemma =>
                          obtain ⟨rfl, bb, rfl, HBB9⟩ := hcut
                          clear hc2
                          have hcp := HPX.out w8 HC8.out.bel
                          go_upto_if 167 with (fail)
                          go_cut [13] from 64 to 225 (fun jv W => ∃ (q : Nat) (S9 D9 : Nat → Prop) (j9 : J.JS) (d9 : DS) (s9 t9 : Nat) (c9 : List J.Chg) (B : Nat → List UInt8), jv = .pointer (some ⟨q, 0, none⟩) ∧ Hid (SG w W q dp kk (k + 1) S9 D9 j9 d9 s9 t9 c9) ∧ Hid (Fin' r ls[k] j.B B ∧ ∀ i, i < 6 → j9.B i = B i) ∧ Hid (SX w W S9 D9 g4 f4 ∧ SX w W S9 D9 g5 f5))
                          case first =>
                            as_aux_lemma =>
                              cases bb with
                              | true =>
                                go_wp2_with fail
                                refine (HC8.out.crash (by omega) HPB.out HPM.out).mono ?_
                                rintro e w9 ⟨⟨v9, rfl⟩, D9, d9, hk9, hm9⟩
                                have HK9 := Lib.hid hk9
                                have HX9 : Hid (SX w w9 (fun _ => False) D9 g4 f4 ∧ SX w w9 (fun _ => False) D9 g5 f5) := ⟨hm9 _ _ HX4.out, hm9 _ _ HX5.out⟩
                                clear hk9 hm9 hcp
                                go_wp2_with fail
                                refine (HK9.out.open HK8.out HK19.out (by omega)).mono ?_
                                rintro e w10 ⟨q, S10, D10, j10, d10, s10, t10, c10, B, rfl, hg10, hf10, hb10, hm10⟩
                                have H10 : Hid (SG w w10 q dp kk (k + 1) S10 D10 j10 d10 s10 t10 c10 ∧ (Fin' r ls[k] j.B B ∧ ∀ i, i < 6 → j10.B i = B i) ∧ SX w w10 S10 D10 g4 f4 ∧ SX w w10 S10 D10 g5 f5) := ⟨hg10, ⟨hf10, hb10⟩, hm10 _ _ HX9.out.1, hm10 _ _ HX9.out.2⟩
                                clear hg10 hf10 hb10 hm10
                                go_wp2_with fail
                                go_meet
                                case rel => exact ⟨q, S10, D10, j10, d10, s10, t10, c10, B, rfl, H10.out.1, H10.out.2.1, H10.out.2.2⟩
                              | false =>
                                clear hcp
                                obtain ⟨s9, t9, c9, hg9, hf9⟩ := HC8.out.keep (HBB9.out rfl)
                                have H9 := Lib.hid (And.intro hg9 hf9)
                                clear hg9 hf9
                                go_wp2_with fail
                                go_meet
                                case rel => exact ⟨p, S8, D8, j8, d8, s9, t9, c9, _, rfl, H9.out.1, ⟨H9.out.2, fun _ _ => rfl⟩, HX4.out, HX5.out⟩
                          case rest =>
                            as_aux_lemma =>
                              obtain ⟨q, S9, D9, j9, d9, s9, t9, c9, B, rfl, HG9, HF9, HX9⟩ := hcut
                              clear hcp
                              have HT9 : Hid (((∀ i, i < 6 → j9.B i = f4 i) ∨ ∀ i, i < 6 → j9.B i = f5 i) ∧ (r = 0 → ∀ i, i < 6 → j9.B i = f5 i)) := by
                                obtain ⟨h1, h2⟩ := HTL.out B HF9.out.1
                                exact ⟨h1.imp (fun h i hi => (HF9.out.2 i hi).trans (h i hi)) (fun h i hi => (HF9.out.2 i hi).trans (h i hi)), fun h i hi => (HF9.out.2 i hi).trans (h2 h i hi)⟩
                              go_wp2_with fail
                              refine sure_loop4 w _ q dp kk (k + 1) S9 D9 j9 d9 s9 t9 c9 g4 g5 f4 f5 _ _ _ _ _ _ _ _ _ _ _ _ _ _ _ _ _ _ _ _ _ _ _ _ _ _ _ _ _ _ _ _ _ _ _ _ _ _ _ _ _ _ _ _ _ _ _ _ _ _ _ _ _ _ _ _ _ _ _ _ _ _ _ _ _ _ _ _ _ _ _ _ _ _ _ _ _ _ _ _ _ _ _ _ _ _ _ _ _ _ _ _ _ _ _ _ _ _ _ _ _ _ _ _ _ _ _ _ _ _ _ _ _ _ _ _ _ _ _ _ _ _ _ _ _ _ _ _ _ _ _ _ _ _ _ _ _ _ _ _ _ _ _ _ _ _ _ _ _ _ _ _ _ _ _ _ _ _ _ _ _ _ _ _ _ _ _ _ _ _ _ _ _ _ _ _ _ _ _ _ _ _ _ _ _ _ _ _ _ _ _ _ _ _ _ _ _ _ _ _ _ _ _ _ _ _ _ _ _ _ _ _ _ _ _ _ _ _ _ _ _ HG9.out HX9.out ?_
                              intro o y v26 v182 v183 v184 v185 v186 v187 v188 v189 v190 v191 v192 v193 v194 v195 v196 v197 v198 v199 v200 v201 v202 v203 v204 v205 v206 v207 wr HO0 HY0 HGR0 HX40 HX50
                              have HO := Lib.hid HO0
                              have HY := Lib.hid HY0
                              have HGR := Lib.hid HGR0
                              have HXR := Lib.hid (And.intro HX40 HX50)
                              clear HO0 HY0 HGR0 HX40 HX50
                              cases y with
                              | true =>
                                have hB5 := HY.out.1 rfl
                                have HB5 : Hid (∀ i, i < 6 → j9.B i = f5 i) := hB5
                                clear hB5
                                by_cases hr : r = 0
                                · cases o
                                  all_goals
                                    go_wp2_with fail
                                    refine (HGR.out.stop (-1) (by omega) (by omega)).mono ?_
                                    rintro e w12 ⟨⟨v12, rfl⟩, D12, h12, hm12⟩
                                    have H12 : Hid (SG w w12 q dp kk (k + 1) S9 D12 j9 _ s9 t9 c9 ∧ SX w w12 S9 D12 g5 f5) := ⟨h12, hm12 _ _ HXR.out.2⟩
                                    clear h12 hm12
                                    go_wp2
                                    go_roundw
                                    case rel => exact ⟨k + 1, q, g5, by omega, by go_num, rfl, rfl, S9, D12, j9, _, s9, t9, c9, f5, H12.out.1, H12.out.2, HB5.out⟩
                                    case measure => simp [intOf]; omega
                                · cases o
                                  all_goals
                                    go_wp2_with fail
                                    refine (HGR.out.stop (-1) (by omega) (by omega)).mono ?_
                                    rintro e w12 ⟨⟨v12, rfl⟩, D12, h12, hm12⟩
                                    have H12 : Hid (SG w w12 q dp kk (k + 1) S9 D12 j9 _ s9 t9 c9 ∧ SX w w12 S9 D12 g5 f5) := ⟨h12, hm12 _ _ HXR.out.2⟩
                                    clear h12 hm12
                                    go_wp2
                                    go_roundw
                                    case rel => exact ⟨k + 1, q, g5, by omega, by go_num, rfl, rfl, S9, D12, j9, _, s9, t9, c9, f5, H12.out.1, H12.out.2, HB5.out⟩
                                    case measure => simp [intOf]; omega
                              | false =>
                                have hn5 : ¬ ∀ i, i < 6 → j9.B i = f5 i := fun h => by have := HY.out.2 h; cases this
                                have hr : ¬ r = 0 := fun h => hn5 (HT9.out.2 h)
                                have HB4 : Hid (∀ i, i < 6 → j9.B i = f4 i) := HT9.out.1.elim id fun h => absurd h hn5
                                obtain rfl : o = true := HO.out.2 HB4.out
                                clear hn5
                                go_wp2_with fail
                                refine (HGR.out.stop (-1) (by omega) (by omega)).mono ?_
                                rintro e w12 ⟨⟨v12, rfl⟩, D12, h12, hm12⟩
                                have H12 : Hid (SG w w12 q dp kk (k + 1) S9 D12 j9 _ s9 t9 c9 ∧ SX w w12 S9 D12 g4 f4) := ⟨h12, hm12 _ _ HXR.out.1⟩
                                clear h12 hm12
                                go_wp2
                                go_roundw
                                case rel => exact ⟨k + 1, q, g4, by omega, by go_num, rfl, rfl, S9, D12, j9, _, s9, t9, c9, f4, H12.out.1, H12.out.2, HB4.out⟩
                                case measure => simp [intOf]; omega
    · go_wp2
      exact HEXIT.out _ _ _ _ _ _ _ _ _ _ _ _ _ _ _ _ _ _ _ _ _ _ _ _ _ _ _ _ _ _ _ _ _ _ _ _ _ _ _ _ _ _ _ _ _ _ _ _ _ _ _ _ _ _ _ _ _ _ _ _ _ _ _ _ _ _ _ _ _ _ _ _ _ _ _ _ _ _ _ _ _ _ _ _ _ _ _ _ _ _ _ _ _ _ _ _ _ _ _ _ _ _ _ _ _ _ _ _ _ _ _ _ _ _ _ _ _ _ _ _ _ _ _ _ _ _ _ _ _ _ _ _ _ _ _ _ _ _ _ _ _ _ _ _ _ _ _ _ _ _ _ _ _ _ _ _ _ _ _ _ _ _ _ _ _ _ _ _ _ _ _ _ _ _ _ _ _ _ _ _ _ _ _ _ _ _ _ _ _ _ _ _ _ _ _ _ _ _ _ _ _ _ _ _ _ _ _ _ _ _ _ _ _ _ _ _ _ _ _ _ _ _ _ _ _ _ _ HG.out.bel
end Go.Proofs.Ytcieahfhpanogaa
