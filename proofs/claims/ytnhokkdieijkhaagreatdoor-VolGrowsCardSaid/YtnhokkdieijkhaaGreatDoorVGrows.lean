/-
  The law VolGrows (layer 12).
-/
import Derived.Test.YtnhokkdieijkhaaGreatDoorVLaw
namespace Go.Proofs.YtnhokkdieijkhaaGreatDoor
open Go.RowKit Go.Shelf
attribute [local go_sem] Oper.semAt_some

theorem run_make_plus (o : Nat) (ho : o < 256) {k : Nat} (h : o + 1 = k) {Z : List UInt8} (hZ : Z = List.replicate k 0) (W : World) : (Instr.makeSlice 30 (.int .i64 ((o : Int) + 1)) (.int .i64 ((o : Int) + 1))).run Tryz.prog W = .ok (.slice (some ⟨W.heap.size, 0, none⟩) k k) (W.alloc (.cells (bc Z).toArray 5)) := by
  rw [show (o : Int) + 1 = (k : Int) by omega, hZ]
  exact run_make_bytes W k (by omega)
theorem bc_set (L : List UInt8) (k : Nat) (v : UInt8) : (bc L).set k (.int .u8 (v.toNat : Int)) = bc (L.set k v) := by simp [bc]
theorem BS.of_bw {w : World} {g : Nat} {l : List UInt8} {t : TypeId} (h : Bw w g (bc l) t) : BS w (some ⟨g, 0, none⟩) l.length l := by
  refine ⟨rfl, fun _ => ⟨g, 0, rfl, fun j hj => ?_⟩⟩
  rw [Nat.zero_add, cell_of_row _ _ _ _ _ _ h]
  simp [bc, hj]
/-- What the volume holds between two rounds. -/
structure GrI (w : World) (p o mo : Nat) (Sv : Nat → Vl.Th) (W : World) : Prop where
  vm : Vm W p 55 w.heap.size Sv 0
  bel : Below w.heap.size w W
  nine : (Sv 9).dt.length = o + 1
  two : (Sv 2).dt.length ≤ 768
  tot : Vl.tot Sv = mo + need (Sv 2).dt.length
theorem GrI.below {w W W' : World} {p o mo : Nat} {Sv : Nat → Vl.Th} (h : GrI w p o mo Sv W) (hb : Below W.heap.size W W') : GrI w p o mo Sv W' := ⟨h.vm.below hb, h.bel.trans (hb.mono h.bel.size), h.nine, h.two, h.tot⟩
set_option maxRecDepth 100000 in
set_option maxHeartbeats 1500000 in
theorem grows_walk (A : Option Addr) (n cap : Nat) (xs : List Nat) (o : Nat) (w : World) (hx : NS .u16 w A n xs) (hb : ∀ y ∈ xs, y < 65536) (ho : o < 256) :
    Calls Tryz.prog 5 #[.slice A n cap, .int .u8 (o : Int)] w fun e w' => e = .returned (.bool true) ∧ Below w.heap.size w w' := by
  have hmk : ∀ W : World, (Instr.makeSlice 26 (.int .i64 55) (.int .i64 55)).run Tryz.prog W = .ok (.slice (some ⟨W.heap.size, 0, none⟩) 55 55) (W.alloc (.cells (Array.replicate 55 (.slice none 0 0)) 30)) := fun W => run_make_rows W 55 (by omega)
  have HX := Lib.hid hx
  have HXB := Lib.hid hb
  clear hx hb
  go_enter Tryz.func5, Tryz.ntmps5
  go_wp2_with fail
  refine (awake_any w).mono ?_
  rintro e w1 ⟨rfl, hw1⟩
  have HW1 := Lib.hid hw1
  clear hw1
  by_cases hn : n ≤ 20
  rotate_left
  · have hd : decide ((20 : Int) < (n : Int)) = true := by simp; omega
    have hd2 : decide (20 < n) = true := by simp; omega
    clear hn
    go_wp2_with fail
    go_ret
    exact ⟨rfl, HW1.out⟩
  · have hd : decide ((20 : Int) < (n : Int)) = false := by simp; omega
    have hd2 : decide (20 < n) = false := by simp; omega
    go_wp2_with fail
    refine (new_fresh (B := w.heap.size) 55 _ 55 _ (RI.made w1 55) (by omega) (by omega) (by have := HW1.out.size; simp; omega)).mono ?_
    rintro e w2 ⟨p, m, g, rfl, hv, hw2, -⟩
    have HV2 := Lib.hid hv.vm
    have HW2 : Hid (Below w.heap.size w w2) := HW1.out.trans ((((Below.refl _ _).alloc (Nat.le_refl _) _).trans (hw2.mono (by simp))).mono HW1.out.size)
    clear hv hw2 hd hd2 HW1 hmk
    obtain ⟨no, hno⟩ : ∃ no, o + 1 = no := ⟨_, rfl⟩
    obtain ⟨Z, hz⟩ : ∃ Z, Z = List.replicate no (0 : UInt8) := ⟨_, rfl⟩
    have hmo := run_make_plus o ho hno hz
    have HZ := Lib.hid hz
    have hlo : no ≤ 256 := by omega
    clear hz
    have hzb := BS.made' HZ.out w2
    have hbl : Below w2.heap.size w2 (w2.alloc (.cells (bc Z).toArray 5)) := (Below.refl _ _).alloc (Nat.le_refl _) _
    have hzl : Z.length = no := by rw [HZ.out]; simp
    obtain ⟨S1, hS1⟩ : ∃ S, S = Vl.upd Vl.bare (Vl.one 9 0 Z).ino (Vl.one 9 0 Z) := ⟨_, rfl⟩
    have HT1 : Hid (Vl.tot S1 = need no) := by
      have h1 := Vl.tot_upd Vl.bare (Vl.one 9 0 Z) (by show 9 < 24; omega)
      rw [Vl.tot_none, show need (Vl.one 9 0 Z).dt.length = need no from (by show need Z.length = _; rw [hzl]), Vl.need_bare, ← hS1] at h1
      show _ = _
      omega
    have HS19 : Hid ((S1 9).dt.length = o + 1) := by
      show _ = _
      rw [hS1, show Vl.upd Vl.bare (Vl.one 9 0 Z).ino (Vl.one 9 0 Z) 9 = Vl.one 9 0 Z from Vl.upd_same Vl.bare 9 _, hno]
      exact hzl
    have HS12 : Hid ((S1 2).dt.length = 0) := by
      show _ = _
      rw [hS1, Vl.upd_other Vl.bare (Vl.one 9 0 Z) (show (2 : Nat) ≠ (Vl.one 9 0 Z).ino by show (2 : Nat) ≠ 9; decide)]
      rfl
    have HS1 := Lib.hid hS1
    clear hS1
    have hno3 : need no ≤ 3 := by unfold need; omega
    have HV3 := Lib.hid (HV2.out.below hbl)
    have HW3 := Lib.hid (HW2.out.trans (hbl.mono HW2.out.size))
    have HB3 : Hid (BS (w2.alloc (.cells (bc Z).toArray 5)) (some ⟨w2.heap.size, 0, none⟩) no (Vl.one 9 0 Z).dt) := hzb
    clear hbl hzb HV2 HW2
    have HSV := Lib.hid (HV3.out.saveOne (Vl.one 9 0 Z) (some ⟨w2.heap.size, 0, none⟩) no no (Vl.one_ok (by omega) (by rw [hzl]; omega)) (Vl.one_fits (by omega) (by omega)) HB3.out (Nat.le_refl _) 20 (need no) rfl S1 HS1.out HT1.out _ rfl)
    rw [World.size_alloc] at HSV
    go_wp2_with fail
    refine HSV.out.mono ?_
    rintro e w4 (⟨-, rfl, hv4, hc4⟩ | ⟨h1, -⟩)
    rotate_left
    · exact absurd (show need no ≤ 20 by omega) h1
    have hbl4 := (Below.refl (w2.alloc (.cells (bc Z).toArray 5)).heap.size (w2.alloc (.cells (bc Z).toArray 5))).alloc (Nat.le_refl _) (.cells (sc (Vl.one 9 0 Z) (.slice (some ⟨w2.heap.size, 0, none⟩) no no)).toArray 32)
    have HW4 : Hid (Below w.heap.size w w4) := (HW3.out.trans (hbl4.mono HW3.out.size)).trans (hc4.bel (HV3.out.below hbl4))
    have HG4 : Hid (GrI w p o (need no) S1 w4) := ⟨hv4, HW4.out, HS19.out, by rw [HS12.out]; omega, by rw [HT1.out, HS12.out, show need 0 = 0 by decide]; rfl⟩
    have hfree := hv4.free
    rw [HT1.out] at hfree
    have HFR : Hid (Calls Tryz.prog 17 #[.pointer (some ⟨p, 0, none⟩)] w4 fun e w' => e = .returned (.int .i64 ((20 - need no : Nat) : Int)) ∧ Below w4.heap.size w4 w') := hfree
    clear hv4 hc4 hbl4 HV3 HW3 HB3 HSV hmo HT1 HS19 HS12 HS1 hfree
    go_wp2_with fail
    refine HFR.out.mono ?_
    rintro e w5 ⟨rfl, hw5⟩
    have HG5 : Hid (∃ S, GrI w p o (need no) S w5) := ⟨S1, HG4.out.below hw5⟩
    clear hw5 HG4 HW4 HFR
    clear S1
    generalize need no = mo at *
    obtain ⟨kp, hkp⟩ : ∃ kp, 20 - mo = kp := ⟨_, rfl⟩
    rw [hkp]
    go_wp2_with fail
    go_loopw [8] (fun i wr => ∃ k : Nat, k ≤ n ∧ i = .int .i64 k ∧ Hid (∃ S, GrI w p o mo S wr)) (fun i _ => n - (intOf i).toNat)
    case atStart => exact ⟨0, by omega, rfl, HG5⟩
    case round =>
      clear HG5
      obtain ⟨k, hk, rfl, HG⟩ := hrel
      obtain ⟨Sv, hgr⟩ := HG.out
      have HGR := Lib.hid hgr
      obtain ⟨wo, rfl⟩ : ∃ wo, wo = wr := ⟨wr, rfl⟩
      clear HG
      by_cases hlt : k < n
      · have hns := HX.out.below hgr.bel
        have hxl := hns.1
        obtain ⟨b, ob, hA, hcell⟩ := hns.2 (by omega)
        have hkl : k < xs.length := by omega
        have kx : wo.cell? ⟨b, ob + k, none⟩ = some (.int .u16 (xs[k] : Int)) := hcell k hkl
        have hv16 := HXB.out _ (List.getElem_mem hkl)
        generalize xs[k] = x at *
        subst hA
        clear hcell hns hxl hgr
        obtain ⟨nk, hnk⟩ : ∃ nk, x % 769 = nk := ⟨_, rfl⟩
        obtain ⟨Zk, hzk⟩ : ∃ Z, Z = List.replicate nk (0 : UInt8) := ⟨_, rfl⟩
        have hlk : nk ≤ 768 := by omega
        have hmx : ∀ W : World, (Instr.makeSlice 30 (.int .i64 (nk : Int)) (.int .i64 (nk : Int))).run Tryz.prog W = .ok (.slice (some ⟨W.heap.size, 0, none⟩) nk nk) (W.alloc (.cells (bc Zk).toArray 5)) := fun W => by rw [hzk]; exact run_make_bytes W nk (by omega)
        have hxk : (x : Int) % 769 = (nk : Int) := by omega
        have hBw : Bw (wo.alloc (.cells (bc Zk).toArray 5)) wo.heap.size (bc Zk) 5 := heap_alloc_new wo _
        have HIN0 : Hid (∃ L : List UInt8, L.length = nk ∧ Bw (wo.alloc (.cells (bc Zk).toArray 5)) wo.heap.size (bc L) 5 ∧ Below wo.heap.size wo (wo.alloc (.cells (bc Zk).toArray 5))) := ⟨Zk, by rw [hzk]; simp, hBw, (Below.refl _ _).alloc (Nat.le_refl _) _⟩
        clear hzk hBw
        go_wp2_with fail
        clear kx hmx hnk hv16
        generalize (wo.alloc (.cells (bc Zk).toArray 5)) = wm at *
        go_loopw [11] (fun i wr => ∃ j : Nat, j ≤ nk ∧ i = .int .i64 j ∧ Hid (∃ L : List UInt8, L.length = nk ∧ Bw wr wo.heap.size (bc L) 5 ∧ Below wo.heap.size wo wr)) (fun i _ => nk - (intOf i).toNat)
        case atStart => exact ⟨0, by omega, rfl, HIN0⟩
        case round =>
          clear HIN0
          obtain ⟨j, hj, rfl, HIN⟩ := hrel
          by_cases hjl : j < nk
          · obtain ⟨L, hL, hB, hbe⟩ := HIN.out
            have hjL : j < L.length := by omega
            have kj := hB.cell j _ (by simp [bc, hjL] : (bc L)[j]? = some (.int .u8 (L[j].toNat : Int)))
            have fj := hB.froz j
            have HIN2 : Hid (∀ v : UInt8, ∃ L' : List UInt8, L'.length = nk ∧ Bw (wr.setCell ⟨wo.heap.size, j, none⟩ (.int .u8 (v.toNat : Int))) wo.heap.size (bc L') 5 ∧ Below wo.heap.size wo (wr.setCell ⟨wo.heap.size, j, none⟩ (.int .u8 (v.toNat : Int)))) := fun v => ⟨L.set j v, by simp [hL], by rw [← bc_set]; exact hB.set j _, hbe.setCell (p := ⟨wo.heap.size, j, none⟩) (Nat.le_refl _) _⟩
            have hv8 : ((UInt8.ofNat ((j + k) % 256)).toNat : Int) = ((j : Int) + (k : Int)) % 256 := by
              rw [UInt8.toNat_ofNat', Nat.mod_mod]
              omega
            clear HIN hbe hB
            go_wp2_with fail
            go_roundw
            case rel => exact ⟨j + 1, by omega, by go_num, by have := HIN2.out (UInt8.ofNat ((j + k) % 256)); rw [hv8] at this; exact this⟩
            case measure => simp [intOf]; omega
          · obtain rfl : j = nk := by omega
            obtain ⟨L, hL, hB, hbe⟩ := HIN.out
            have HVR := Lib.hid (HGR.out.below hbe)
            have hLb : BS wr (some ⟨wo.heap.size, 0, none⟩) j L := by rw [← hL]; exact BS.of_bw hB
            have HLB : Hid (BS wr (some ⟨wo.heap.size, 0, none⟩) j (Vl.one 2 k L).dt) := hLb
            obtain ⟨S2, hS2⟩ : ∃ S, S = Vl.upd Sv (Vl.one 2 k L).ino (Vl.one 2 k L) := ⟨_, rfl⟩
            have HT2 : Hid (Vl.tot S2 = mo + need j) := by
              have h1 := Vl.tot_upd Sv (Vl.one 2 k L) (by show 2 < 24; omega)
              rw [show need (Vl.one 2 k L).dt.length = need j from (by show need L.length = _; rw [hL]), ← hS2, HGR.out.tot] at h1
              have h2 : need (Sv (Vl.one 2 k L).ino).dt.length = need (Sv 2).dt.length := rfl
              show _ = _
              omega
            have HS22 : Hid (S2 2 = Vl.one 2 k L) := by
              show _ = _
              rw [hS2]
              exact Vl.upd_same Sv 2 _
            have HS29 : Hid (S2 9 = Sv 9) := by
              show _ = _
              rw [hS2]
              exact Vl.upd_other Sv (Vl.one 2 k L) (show (9 : Nat) ≠ (Vl.one 2 k L).ino by show (9 : Nat) ≠ 2; decide)
            have HS2 := Lib.hid hS2
            have hn8 : need j ≤ 8 := by unfold need; omega
            have HFE : Hid (((20 - (mo + need j) : Nat) : Int) = (kp : Int) - ((j : Int) + 95) / 96) := by show _ = _; unfold need at *; omega
            have HSV := Lib.hid (HVR.out.vm.saveOne (Vl.one 2 k L) (some ⟨wo.heap.size, 0, none⟩) j j (Vl.one_ok (by omega) (by omega)) (Vl.one_fits (by omega) (by omega)) HLB.out (Nat.le_refl _) 20 (mo + need j) rfl S2 HS2.out HT2.out _ rfl)
            have hbl := (Below.refl wr.heap.size wr).alloc (Nat.le_refl _) (.cells (sc (Vl.one 2 k L) (.slice (some ⟨wo.heap.size, 0, none⟩) j j)).toArray 32)
            have HBL := Lib.hid hbl
            clear hS2 hLb hB hbe HIN hbl
            go_wp2_with fail
            refine HSV.out.mono ?_
            rintro e w6 (⟨-, rfl, hv6, hc6⟩ | ⟨h1, -⟩)
            rotate_left
            · exact absurd (show mo + need j ≤ 20 by omega) h1
            have HL6 : Hid (BS w6 (some ⟨wo.heap.size, 0, none⟩) j L) := (HLB.out.below HBL.out).ch hc6
            have HW6 : Hid (Below w.heap.size w w6) := (HVR.out.bel.trans (HBL.out.mono HVR.out.bel.size)).trans (hc6.bel (HVR.out.vm.below HBL.out))
            have HG6 : Hid (GrI w p o mo S2 w6) := ⟨hv6, HW6.out, by rw [HS29.out]; exact HGR.out.nine, by rw [HS22.out]; show L.length ≤ 768; omega, by rw [HT2.out, HS22.out]; show _ = mo + need L.length; rw [hL]⟩
            clear hv6 hc6 HBL HVR HLB HSV HW6
            go_wp2_with fail
            have hld := HG6.out.vm.load 2 (by omega)
            rw [HS22.out] at hld
            refine hld.mono ?_
            rintro e w7 ⟨A7, k7, d7, rfl, hb7, -, hw7, -⟩
            have hk7 : k7 = j := by have := hb7.1; rw [← this]; exact hL
            subst hk7
            have HB7 : Hid (BS w7 A7 k7 L) := hb7
            have HL7 := Lib.hid (HL6.out.below hw7)
            have HG7 := Lib.hid (HG6.out.below hw7)
            clear hld hb7 hw7 HL6 HG6
            go_upto_region 21 with (first
              | (refine wpList_alloc_any rfl 32 rfl _ zero_Sl ?_; intro w8 hb8 hs8 hw8)
              | (refine wpList_store_part rfl 32 (.tmp 13) (.tmp 72) rfl _ 0 (sc (Vl.one 2 k L) (.slice A7 k7 d7)) rfl rfl 32 (sc Sl.zero (.slice none 0 0)) hb8 size_Sl (by simp [sc]) (sc_row _ _ _ _) ?_
                 intro w9 hb9 hs9 hk9))
            have HS9 : Hid (Bw w9 w7.heap.size (sc (Vl.one 2 k L) (.slice A7 k7 d7)) 32) := hb9
            have hbw : Below w7.heap.size w7 w9 := hw8.trans (hk9.below2 (fun k hk => by omega))
            have HB9 := Lib.hid (HB7.out.below hbw)
            have HL9 := Lib.hid (HL7.out.below hbw)
            have HG9 := Lib.hid (HG7.out.below hbw)
            clear hb8 hs8 hw8 hb9 hs9 hk9 hbw HB7 HL7 HG7
            go_wp2_with fail
            have hld := HG9.out.vm.load 9 (by omega)
            have h9l := HG9.out.nine
            generalize S2 9 = s9 at hld h9l
            refine hld.mono ?_
            rintro e wa ⟨Aa, ka, da, rfl, hba, -, hwa, -⟩
            have HKA : Hid ((ka : Int) = (o : Int) + 1) := by have := hba.1; show _ = _; omega
            have HSa := Lib.hid (HS9.out.below hwa)
            have HBa := Lib.hid (HB9.out.below hwa)
            have HLa := Lib.hid (HL9.out.below hwa)
            have HGa := Lib.hid (HG9.out.below hwa)
            clear hld hba hwa h9l HS9 HB9 HL9 HG9
            go_upto_region 22 with (first
              | (refine wpList_alloc_any rfl 32 rfl _ zero_Sl ?_; intro wb hbb hsb hwb)
              | (refine wpList_store_part rfl 32 (.tmp 15) (.tmp 77) rfl _ 0 (sc s9 (.slice Aa ka da)) rfl rfl 32 (sc Sl.zero (.slice none 0 0)) hbb size_Sl (by simp [sc]) (sc_row _ _ _ _) ?_
                 intro wc hbc hsc hkc))
            have HSc : Hid (Bw wc wa.heap.size (sc s9 (.slice Aa ka da)) 32) := hbc
            have hbw : Below wa.heap.size wa wc := hwb.trans (hkc.below2 (fun k hk => by omega))
            have HS2c := Lib.hid (HSa.out.below hbw)
            have hBc := HBa.out.below hbw
            have hLc := HLa.out.below hbw
            have HGc := Lib.hid (HGa.out.below hbw)
            have hcv1 := run_convert_bs wc A7 k7 d7 L hBc
            have hcv2 := run_convert_bs wc (some ⟨wo.heap.size, 0, none⟩) k7 k7 L hLc
            have q1 : wc.cell? ⟨w7.heap.size, 8, none⟩ = some (.slice A7 k7 d7) := HS2c.out.cell 8 _ rfl
            have q2 : wc.cell? ⟨wa.heap.size, 8, none⟩ = some (.slice Aa ka da) := HSc.out.cell 8 _ rfl
            have hfree := HGc.out.vm.free
            rw [HT2.out] at hfree
            have HFR : Hid (Calls Tryz.prog 17 #[.pointer (some ⟨p, 0, none⟩)] wc fun e w' => e = .returned (.int .i64 ((20 - (mo + need k7) : Nat) : Int)) ∧ Below wc.heap.size wc w') := hfree
            rw [HFE.out] at HFR
            have hka := HKA.out
            clear hbb hsb hwb hbc hsc hkc hbw hBc hLc HBa HLa HGa HSa hfree
            go_wp2_with fail
            refine HFR.out.mono ?_
            rintro e wd ⟨rfl, hwd⟩
            have HGd := Lib.hid (HGc.out.below hwd)
            clear hwd HGc HFR q1 q2 hcv1 hcv2
            go_wp2_with fail
            refine (HGd.out.vm.wrong (by omega)).mono ?_
            rintro e we ⟨rfl, hwe⟩
            have HGe : Hid (∃ S, GrI w p o mo S we) := ⟨S2, HGd.out.below hwe⟩
            clear hwe HGd
            go_wp2
            go_roundw
            case rel => exact ⟨k + 1, by omega, by go_num, HGe⟩
            case measure => simp [intOf]; omega
      · obtain rfl : k = n := by omega
        go_wp2
        go_ret
        exact ⟨rfl, HGR.out.bel⟩
end Go.Proofs.YtnhokkdieijkhaaGreatDoor
