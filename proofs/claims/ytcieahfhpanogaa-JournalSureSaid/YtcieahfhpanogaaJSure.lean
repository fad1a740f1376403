/-
  The law of crashes.
-/
import Derived.Test.YtcieahfhpanogaaJSureR
namespace Go.Proofs.Ytcieahfhpanogaa
open Go.RowKit

set_option maxRecDepth 1000000 in
set_option maxHeartbeats 40000000 in
theorem sure_any (w : World) (lg : Nat) (A1 A2 A3 : Option Addr) (n1 n2 n3 c1 c2 c3 : Nat) (ls : List (List (Int × List UInt8))) (st : List UInt8) (pk : List (List UInt8)) (h1 : CI w A1 n1 ls) (h2 : BS w A2 n2 st) (m2 : n2 ≤ maxLen) (h3 : PI w A3 n3 pk) :
    Calls Try.prog 3 #[.int .u8 (lg : Int), .slice A1 n1 c1, .slice A2 n2 c2, .slice A3 n3 c3] w fun e w' => e = .returned (.bool true) ∧ Below w.heap.size w w' := by
  have H1 := Lib.hid h1
  have H2 := Lib.hid h2
  have H3 := Lib.hid h3
  have N1 : Hid (ls.length = n1) := h1.len
  have N3 : Hid (pk.length = n3) := h3.len
  have hn1 : n1 ≤ maxLen := h1.few
  have hn3 : n3 ≤ maxLen := h3.few
  clear h1 h2 h3
  unfold maxLen at hn1 hn3 m2
  have r0 : ((lg : Int).tmod 12) = ((lg % 12 : Nat) : Int) := rfl
  have r1 : lg % 12 < 12 := Nat.mod_lt _ (by omega)
  go_enter Try.func3, Try.ntmps3
  go_wp2_with fail
  refine (awake_any w).mono ?_
  rintro e w1 ⟨rfl, hb1⟩
  have HB1 := Lib.hid hb1
  clear hb1
  by_cases a0 : 12 < n1
  · have a0' : (12 : Int) < (n1 : Int) := by omega
    go_wp2
    go_ret
    exact ⟨rfl, HB1.out⟩
  have b0 : ¬ (12 : Int) < (n1 : Int) := by omega
  by_cases a1 : n2 < n1
  · go_wp2
    go_ret
    exact ⟨rfl, HB1.out⟩
  by_cases a2 : n3 < n1
  · go_wp2
    go_ret
    exact ⟨rfl, HB1.out⟩
  generalize lg % 12 = m12 at *
  go_wp2_with fail
  refine (new_any 40 w1 (by omega) (by omega)).mono ?_
  rintro e w2 ⟨dp, D2, rfl, hd2, hb2, hD2⟩
  have HD2 := Lib.hid hd2
  have HB2 := Lib.hid (HB1.out.trans (hb2.mono HB1.out.size))
  have HN2 : Hid (∀ k, D2 k → w.heap.size ≤ k) := fun k hk => Nat.le_trans HB1.out.size (hD2 k hk)
  clear hd2 hb2 hD2
  generalize w1.heap.size = db at HD2
  go_wp2_with fail
  obtain ⟨kk, HK, HK8, HK19⟩ : ∃ kk : Nat, Hid ((kk : Int) = (m12 : Int) + 8) ∧ Hid (8 ≤ kk) ∧ Hid (kk ≤ 19) := ⟨m12 + 8, by show ((m12 + 8 : Nat) : Int) = _; omega, by show 8 ≤ _; omega, by show _ ≤ 19; omega⟩
  rw [← HK.out]
  refine (open_live HD2.out (by show (0 : Nat) ≤ _; omega) kk 6 (by have := HK8.out; omega) (by have := HK19.out; omega) (by omega) (by omega) (by have := HK19.out; show 1 + kk + 6 ≤ 40; omega) (DS.new_calm _ _) (J.fresh_inv 40 db kk 6) (by show (0 : Nat) + 0 + 1 < _; omega)).mono ?_
  rintro e w3 ⟨p0, S3, D3, j3, d3, rfl, hl3, hc3, hn3, hlog3, hnb3, hB3, hp3, hf3, hS3, hD3⟩
  have HG3 : Hid (SG w w3 p0 dp kk 0 S3 D3 j3 d3 0 0 []) := by
    refine ⟨hl3.jd, hl3.inv, .inl hl3.err, hn3, hlog3, hnb3, by rw [hl3.seq]; exact Nat.le_refl _, ?_, HB2.out.trans (hf3.below HB2.out.size HN2.out), fun k hk => hk.elim (fun h => Nat.le_trans HB2.out.size (hS3 k h)) fun h => (hD3 k h).elim (HN2.out k) fun h => Nat.le_trans HB2.out.size h⟩
    have : d3.pend.length ≤ 0 + 6 := hp3
    omega
  have HBB : Hid (∀ i, i < 6 → j3.B i = []) := hB3
  clear hl3 hc3 hn3 hlog3 hnb3 hB3 hp3 hf3 hS3 hD3 HD2 HB2 HN2 r0 r1 HK
  go_wp2_with (refine wpList_make_cells rfl 33 9 (.string (txt [])) 16 _ _ rfl Try.underlying33 infos_str rfl (by omega) 6 rfl rfl (by omega) w3.heap.size rfl ?_
               intro w4 hrow4 hb4
               have HR4 := Lib.hid (And.intro (HG3.out.below hb4) (SX.fresh HG3.out (f := fun _ => []) hrow4))
               clear hrow4 hb4)
  generalize w3.heap.size = g0 at *
  refine sure_loop1 w _ A1 A2 A3 n1 n2 n3 c1 c2 c3 ls st pk H1.out H2.out H3.out a0 a1 a2 (by omega) kk HK8.out HK19.out dp p0 g0 S3 D3 j3 d3 HR4.out.1 HR4.out.2 HBB.out _ _ _ _ _ _ _ _ _ _ _ _ _ _ _ _ _ _ _ _ _ _ _ _ _ _ _ _ _ _ _ _ _ _ _ _ _ _ _ _ _ _ _ _ _ _ _ _ _ _ _ _ _ _ _ _ _ _ _ _ _ _ _ _ _ _ _ _ _ _ _ _ _ _ _ _ _ _ _ _ _ _ _ _ _ _ _ _ _ _ _ _ _ _ _ _ _ _ _ _ _ _ _ _ _ _ _ _ _ _ _ _ _ _ _ _ _ _ _ _ _ _ _ _ _ _ _ _ _ _ _ _ _ _ _ _ _ _ _ _ _ _ _ _ _ _ _ _ _ _ _ _ _ _ _ _ _ _ _ _ _ _ _ _ _ _ _ _ _ _ _ _ _ _ _ _ _ _ _ _ _ _ _ _ _ _ _ _ _ _ _ _ _ _ _ _ _ _ _ _ _ _ _ _ _ _ _ _ _ _ _ _ _ _ _ _ _ _ _ ?_ ?_
  · intro z0 z1 z2 z3 z4 z5 z6 z7 z9 z10 z11 z12 z13 z14 z15 z16 z17 z18 z19 z20 z21 z22 z23 z24 z25 z26 z27 z28 z29 z30 z31 z32 z33 z34 z35 z36 z37 z38 z39 z40 z41 z42 z43 z44 z45 z46 z47 z48 z49 z50 z51 z52 z53 z54 z55 z56 z57 z58 z59 z60 z61 z62 z63 z64 z65 z66 z67 z68 z69 z70 z71 z72 z73 z74 z75 z76 z77 z78 z79 z80 z81 z82 z83 z84 z85 z86 z87 z88 z89 z90 z91 z92 z93 z94 z95 z96 z97 z98 z99 z100 z101 z102 z103 z104 z105 z106 z107 z108 z109 z110 z111 z112 z113 z114 z115 z116 z117 z118 z119 z120 z121 z122 z123 z124 z125 z126 z127 z128 z129 z130 z131 z132 z133 z134 z135 z136 z137 z138 z139 z140 z141 z142 z143 z144 z145 z146 z147 z148 z149 z150 z151 z152 z153 z154 z155 z156 z157 z158 z159 z160 z161 z162 z163 z164 z165 z166 z167 z168 z169 z170 z171 z172 z173 z174 z175 z176 z177 z178 z179 z180 z181 z182 z183 z184 z185 z186 z187 z188 z189 z190 z191 z192 z193 z194 z195 z196 z197 z198 z199 z200 z201 z202 z203 z204 z205 z206 z207 z208 z209 z210 z211 z212 z213 z214 z215 z216 z217 z218 z219 z220 z221 z222 z223 z224 z225 W' hb
    go_wp2
    go_ret
    exact ⟨rfl, hb⟩
  · intro z0 z1 z2 z3 z4 z5 z6 z7 z8 z9 z10 z11 z12 z13 z14 z15 z16 z17 z18 z19 z20 z21 z22 z23 z24 z25 z26 z27 z28 z29 z30 z31 z32 z33 z34 z35 z36 z37 z38 z39 z40 z41 z42 z43 z44 z45 z46 z47 z48 z49 z50 z51 z52 z53 z54 z55 z56 z57 z58 z59 z60 z61 z62 z63 z64 z65 z66 z67 z68 z69 z70 z71 z72 z73 z74 z75 z76 z77 z78 z79 z80 z81 z82 z83 z84 z85 z86 z87 z88 z89 z90 z91 z92 z93 z94 z95 z96 z97 z98 z99 z100 z101 z102 z103 z104 z105 z106 z107 z108 z109 z110 z111 z112 z113 z114 z115 z116 z117 z118 z119 z120 z121 z122 z123 z124 z125 z126 z127 z128 z129 z130 z131 z132 z133 z134 z135 z136 z137 z138 z139 z140 z141 z142 z143 z144 z145 z146 z147 z148 z149 z150 z151 z152 z153 z154 z155 z156 z157 z158 z159 z160 z161 z162 z163 z164 z165 z166 z167 z168 z169 z170 z171 z172 z173 z174 z175 z176 z177 z178 z179 z180 z181 z182 z183 z184 z185 z186 z187 z188 z189 z190 z191 z192 z193 z194 z195 z196 z197 z198 z199 z200 z201 z202 z203 z204 z205 z206 z207 z208 z209 z210 z211 z212 z213 z214 z215 z216 z217 z218 z219 z220 z221 z222 z223 z224 z225 W' hb
    go_wp2
    go_ret
    exact ⟨rfl, hb⟩
end Go.Proofs.Ytcieahfhpanogaa
