/-
  The law VolKeeps (layer 12).
-/
import Derived.Test.YtnhokkdieijkhaaGreatDoorVKRound
namespace Go.Proofs.YtnhokkdieijkhaaGreatDoor
open Go.RowKit Go.Shelf
attribute [local go_sem] Oper.semAt_some

set_option maxRecDepth 100000 in
set_option maxHeartbeats 4000000 in
theorem keeps_walk (a : Nat) (A : Option Addr) (n cap : Nat) (ls : List (List Vl.Th)) (w : World) (ha : a < 256) (h : RI2 w A n ls) :
    Calls Tryz.prog 3 #[.int .u8 (a : Int), .slice A n cap] w fun e w' => e = .returned (.bool true) ∧ Below w.heap.size w w' := by
  have HX := Lib.hid h
  have hn := h.few
  unfold maxLen at hn
  clear h
  go_enter Tryz.func3, Tryz.ntmps3
  go_wp2_with fail
  refine (awake_any w).mono ?_
  rintro e w1 ⟨rfl, hw1⟩
  have HW1 := Lib.hid hw1
  clear hw1
  by_cases hn12 : n ≤ 12
  rotate_left
  · have hd : decide ((12 : Int) < (n : Int)) = true := by simp; omega
    have hd2 : decide (12 < n) = true := by simp; omega
    clear hn12
    go_wp2_with fail
    go_ret
    exact ⟨rfl, HW1.out⟩
  · have hd : decide ((12 : Int) < (n : Int)) = false := by simp; omega
    have hd2 : decide (12 < n) = false := by simp; omega
    go_upto_region 7 with fail
    obtain ⟨N, hN⟩ : ∃ N, a % 30 + 1 = N := ⟨_, rfl⟩
    rw [show (a : Int) % 30 + 1 = (N : Int) by omega]
    have hN1 : 1 ≤ N := by omega
    have hN2 : N ≤ 30 := by omega
    clear hN hd hd2
    have hmk : ∀ W : World, (Instr.makeSlice 26 (.int .i64 (35 + (N : Int))) (.int .i64 (35 + (N : Int)))).run Tryz.prog W = .ok (.slice (some ⟨W.heap.size, 0, none⟩) (35 + N) (35 + N)) (W.alloc (.cells (Array.replicate (35 + N) (.slice none 0 0)) 30)) := fun W => by
      have := run_make_rows W (35 + N) (by omega)
      rw [show ((35 + N : Nat) : Int) = 35 + (N : Int) by omega] at this
      exact this
    go_wp2_with fail
    refine (new_fresh (B := w.heap.size) (35 + N) _ (35 + N) _ (RI.made w1 (35 + N)) (by omega) (by omega) (by have := HW1.out.size; simp; omega)).mono ?_
    rintro e w2 ⟨p, m, g, rfl, hv, hw2, -⟩
    have HV2 : Hid (Vm w2 p (35 + N) w.heap.size Vl.bare 0) := hv.vm
    have HW2 : Hid (Below w.heap.size w w2) := HW1.out.trans ((((Below.refl _ _).alloc (Nat.le_refl _) _).trans (hw2.mono (by simp))).mono HW1.out.size)
    clear hv hw2 HW1 hmk
    have hms := fun W : World => run_make_slots W
    go_upto_region 9 with fail
    have HK3 : Hid (KR (w2.alloc (.cells (kro (fun _ => Sl.zero) (fun _ => ⟨none, 0, 0⟩) 24).toArray 32)) w2.heap.size (fun i => if i < 0 then Vl.bare i else Sl.zero) (fun _ => ⟨none, 0, 0⟩)) := (KR.made w2).congr fun i _ => by simp
    have hb3 : Below w2.heap.size w2 (w2.alloc (.cells (kro (fun _ => Sl.zero) (fun _ => ⟨none, 0, 0⟩) 24).toArray 32)) := (Below.refl _ _).alloc (Nat.le_refl _) _
    generalize w2.alloc (.cells (kro (fun _ => Sl.zero) (fun _ => ⟨none, 0, 0⟩) 24).toArray 32) = w3 at *
    have HB3 := Lib.hid hb3
    clear hms hb3
    go_wp2_with fail
    go_loopw [9] (fun b wr => ∃ m : Nat, m ≤ 24 ∧ b = .int .i64 m ∧ ∃ sl', Hid (KR wr w2.heap.size (fun i => if i < m then Vl.bare i else Sl.zero) sl') ∧ Hid (Below w2.heap.size w2 wr)) (fun b _ => 24 - (intOf b).toNat)
    case atStart => exact ⟨0, by omega, rfl, _, HK3, HB3⟩
    case round =>
      clear HK3 HB3
      obtain ⟨m, hm, rfl, sl', HR, HB⟩ := hrel
      by_cases hlm : m < 24
      · have hmi : (m : Int) < 24 := by omega
        have HFIT : Hid (m * 9 + (sc (Vl.bare m) (.slice none 0 0)).length ≤ (kro (fun i => if i < m then Vl.bare i else Sl.zero) sl' 24).length) := by
          show _ ≤ _
          rw [kro_len]
          simp only [sc, List.length_cons, List.length_nil]
          omega
        have HUP : Hid (Vl.upd (fun i => if i < m then Vl.bare i else Sl.zero) m (Vl.bare m) = fun i => if i < m + 1 then Vl.bare i else Sl.zero) := Vl.upd_if Vl.bare (fun _ => Sl.zero) m
        go_wp2_with (refine wpList_store_part rfl 32 (.tmp 48) (.tmp 47) rfl w2.heap.size (m * 9) (sc (Vl.bare m) (.slice none 0 0)) rfl rfl 32 _ HR.out.row size_Sl HFIT.out (sc_row _ _ _ _) ?_
                     intro w5 hb5 hs5 hk5
                     have HN5 : Hid (KR w5 w2.heap.size (fun i => if i < m + 1 then Vl.bare i else Sl.zero) (Vl.upd sl' m ⟨none, 0, 0⟩)) := by
                       show KR _ _ _ _
                       rw [← HUP.out]
                       exact HR.out.put (s := ⟨none, 0, 0⟩) hlm hb5 hk5 BS.nil (Nat.le_refl _)
                     have HB5 : Hid (Below w2.heap.size w2 w5) := HB.out.trans (hk5.below2 (fun k hk => by omega))
                     clear hb5 hs5 hk5)
        go_roundw
        case rel => exact ⟨m + 1, by omega, by go_num, _, HN5, HB5⟩
        case measure => simp [intOf]; omega
      · obtain rfl : m = 24 := by omega
        have HI : Hid (KI w wr p N w2.heap.size Vl.bare sl') := ⟨HV2.out.below HB.out, HW2.out.trans (HB.out.mono HW2.out.size), by rw [Vl.tot_none]; omega, HR.out.congr fun i hi => by rw [if_pos hi]⟩
        clear HR HB HV2 HW2
        go_wp2_with fail
        refine keep_loop2 w wr A n cap ls p N w2.heap.size sl' HX.out hn12 hN1 hN2 HI.out _ _ _ _ _ _ _ _ _ _ _ _ _ _ _ _ _ _ _ _ _ _ _ _ _ _ _ _ _ _ _ _ _ _ _ _ _ _ _ _ _ _ _ _ _ _ _ _ _ _ _ _ _ _ _ _ _ _ _ _ _ _ _ _ _ _ _ _ _ _ _ _ _ _ _ _ _ _ _ _ _ _ _ _ _ _ _ _ _ _ _ _ _ _ _ _ _ _ _ _ _ _ _ _ _ _ _ _ _ _ _ _ _ _ _ _ _ _ _ _ _ _ _ _ _ _ _ _ _ _ _ _ _ _ _ _ _ _ _ _ _ _ _ _ _ _ _ _ _ _ _ _ _ _ _ _ _ _ _ _ _ _ _ _ _ _ _ _ _ _ _ _ _ _ _ _ _ _ _ _ _ _ _ _ _ _ _ _ _ _ _ _ _ _ _ _ _ _ _ _ _ _ _ _ _ _ _ _ _ _ _ ?_ ?_
        · intro z0 z1 z2 z3 z5 z6 z7 z8 z9 z10 z11 z12 z13 z14 z15 z16 z17 z18 z19 z20 z21 z22 z23 z24 z25 z26 z27 z28 z29 z30 z31 z32 z33 z34 z35 z36 z37 z38 z39 z40 z41 z42 z43 z44 z45 z46 z47 z48 z49 z50 z51 z52 z53 z54 z55 z56 z57 z58 z59 z60 z61 z62 z63 z64 z65 z66 z67 z68 z69 z70 z71 z72 z73 z74 z75 z76 z77 z78 z79 z80 z81 z82 z83 z84 z85 z86 z87 z88 z89 z90 z91 z92 z93 z94 z95 z96 z97 z98 z99 z100 z101 z102 z103 z104 z105 z106 z107 z108 z109 z110 z111 z112 z113 z114 z115 z116 z117 z118 z119 z120 z121 z122 z123 z124 z125 z126 z127 z128 z129 z130 z131 z132 z133 z134 z135 z136 z137 z138 z139 z140 z141 z142 z143 z144 z145 z146 z147 z148 z149 z150 z151 z152 z153 z154 z155 z156 z157 z158 z159 z160 z161 z162 z163 z164 z165 z166 z167 z168 z169 z170 z171 z172 z173 z174 z175 z176 z177 z178 z179 z180 z181 z182 z183 z184 z185 z186 z187 z188 z189 z190 z191 z192 z193 z194 z195 z196 z197 z198 z199 z200 z201 z202 z203 z204 z205 z206 z207 z208 z209 z210 z211 z212 z213 z214 w9 hb9
          go_wp2
          go_ret
          exact ⟨rfl, hb9⟩
        · intro z0 z1 z2 z3 z4 z5 z6 z7 z8 z9 z10 z11 z12 z13 z14 z15 z16 z17 z18 z19 z20 z21 z22 z23 z24 z25 z26 z27 z28 z29 z30 z31 z32 z33 z34 z35 z36 z37 z38 z39 z40 z41 z42 z43 z44 z45 z46 z47 z48 z49 z50 z51 z52 z53 z54 z55 z56 z57 z58 z59 z60 z61 z62 z63 z64 z65 z66 z67 z68 z69 z70 z71 z72 z73 z74 z75 z76 z77 z78 z79 z80 z81 z82 z83 z84 z85 z86 z87 z88 z89 z90 z91 z92 z93 z94 z95 z96 z97 z98 z99 z100 z101 z102 z103 z104 z105 z106 z107 z108 z109 z110 z111 z112 z113 z114 z115 z116 z117 z118 z119 z120 z121 z122 z123 z124 z125 z126 z127 z128 z129 z130 z131 z132 z133 z134 z135 z136 z137 z138 z139 z140 z141 z142 z143 z144 z145 z146 z147 z148 z149 z150 z151 z152 z153 z154 z155 z156 z157 z158 z159 z160 z161 z162 z163 z164 z165 z166 z167 z168 z169 z170 z171 z172 z173 z174 z175 z176 z177 z178 z179 z180 z181 z182 z183 z184 z185 z186 z187 z188 z189 z190 z191 z192 z193 z194 z195 z196 z197 z198 z199 z200 z201 z202 z203 z204 z205 z206 z207 z208 z209 z210 z211 z212 z213 z214 w9 hb9
          go_wp2
          go_ret
          exact ⟨rfl, hb9⟩
end Go.Proofs.YtnhokkdieijkhaaGreatDoor
