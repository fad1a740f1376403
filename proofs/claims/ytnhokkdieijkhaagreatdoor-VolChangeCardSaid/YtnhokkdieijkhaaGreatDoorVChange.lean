/-
  The law VolChange (layer 12).
-/
import Derived.Test.YtnhokkdieijkhaaGreatDoorQ11
namespace Go.Proofs.YtnhokkdieijkhaaGreatDoor
open Go.RowKit Go.Shelf
attribute [local go_sem] Oper.semAt_some

set_option maxRecDepth 100000 in
set_option maxHeartbeats 2000000 in
theorem change_walk (A : Option Addr) (n cap : Nat) (xs : List Nat) (w : World) (hx : NS .u64 w A n xs) (hb : ∀ y ∈ xs, y < 18446744073709551616) :
    Calls Tryz.prog 4 #[.slice A n cap] w fun e w' => e = .returned (.bool true) ∧ Below w.heap.size w w' := by
  have hmk : ∀ W : World, (Instr.makeSlice 26 (.int .i64 40) (.int .i64 40)).run Tryz.prog W = .ok (.slice (some ⟨W.heap.size, 0, none⟩) 40 40) (W.alloc (.cells (Array.replicate 40 (.slice none 0 0)) 30)) := fun W => run_make_rows W 40 (by omega)
  have HX := Lib.hid hx
  have HXB := Lib.hid hb
  clear hx hb
  go_enter Tryz.func4, Tryz.ntmps4
  go_wp2_with fail
  refine (awake_any w).mono ?_
  rintro e w1 ⟨rfl, hw1⟩
  have HW1 := Lib.hid hw1
  clear hw1
  by_cases hn : n ≤ 20
  rotate_left
  · have hd : decide ((20 : Int) < (n : Int)) = true := by simp; omega
    have hd2 : decide (20 < n) = true := by simp; omega
    clear hn
    go_wp2_with fail
    go_ret
    exact ⟨rfl, HW1.out⟩
  · have hd : decide ((20 : Int) < (n : Int)) = false := by simp; omega
    have hd2 : decide (20 < n) = false := by simp; omega
    go_wp2_with fail
    refine (new_fresh (B := w.heap.size) 40 _ 40 _ (RI.made w1 40) (by omega) (by omega) (by have := HW1.out.size; simp; omega)).mono ?_
    rintro e w2 ⟨p, m, g, rfl, hv, hw2, -⟩
    have HV2 : Hid (∃ c, Vm w2 p 40 w.heap.size Vl.bare c) := ⟨0, hv.vm⟩
    have HW2 : Hid (Below w.heap.size w w2) := HW1.out.trans ((((Below.refl _ _).alloc (Nat.le_refl _) _).trans (hw2.mono (by simp))).mono HW1.out.size)
    clear hv hw2 hd hd2 HW1 hmk
    go_wp2_with fail
    go_loopw [5] (fun i wr => ∃ k : Nat, k ≤ n ∧ i = .int .i64 k ∧ Hid (Below w.heap.size w wr) ∧ Hid (∃ c, Vm wr p 40 w.heap.size Vl.bare c)) (fun i _ => n - (intOf i).toNat)
    case atStart => exact ⟨0, by omega, rfl, HW2, HV2⟩
    case round =>
      clear HW2 HV2
      obtain ⟨k, hk, rfl, HW, HV⟩ := hrel
      obtain ⟨c, hv⟩ := HV.out
      have HVC := Lib.hid hv
      clear hv HV
      by_cases hlt : k < n
      · have hns := HX.out.below HW.out
        have hxl := hns.1
        obtain ⟨b, o, hA, hcell⟩ := hns.2 (by omega)
        have hkl : k < xs.length := by omega
        have kx : wr.cell? ⟨b, o + k, none⟩ = some (.int .u64 (xs[k] : Int)) := hcell k hkl
        have hv64 := HXB.out _ (List.getElem_mem hkl)
        obtain ⟨v, hve⟩ : ∃ v, xs[k] = v := ⟨_, rfl⟩
        rw [hve] at kx hv64
        have HVE : Hid (v = xs[k]) := hve.symm
        clear hve
        subst hA
        clear hcell hns hxl
        go_wp2_with fail
        refine (HVC.out.setChange v hv64).mono ?_
        rintro e w3 ⟨rfl, hw3, hv3⟩
        have HW3 := Lib.hid (HW.out.trans hw3)
        have HV3 := Lib.hid hv3
        clear hw3 hv3 HVC HW kx
        go_wp2_with fail
        refine HV3.out.change.mono ?_
        rintro e w4 ⟨rfl, hw4⟩
        have HW4 := Lib.hid (HW3.out.trans (hw4.mono HW3.out.size))
        have HV4 := Lib.hid (HV3.out.below hw4)
        have kx : w4.cell? ⟨b, o + k, none⟩ = some (.int .u64 (v : Int)) := by
          rw [HVE.out]
          exact (HX.out.below HW4.out).2 (by omega) |>.elim fun b' h => h.elim fun o' h => by
            obtain ⟨e, h⟩ := h
            cases e
            exact h k hkl
        have hfree := HV4.out.free
        rw [Vl.tot_none] at hfree
        have HFR : Hid (Calls Tryz.prog 17 #[.pointer (some ⟨p, 0, none⟩)] w4 fun e w' => e = .returned (.int .i64 5) ∧ Below w4.heap.size w4 w') := hfree
        clear hw4 HV3 HW3 hfree
        go_wp2_with fail
        refine HFR.out.mono ?_
        rintro e w5 ⟨rfl, hw5⟩
        have HW5 := Lib.hid (HW4.out.trans (hw5.mono HW4.out.size))
        have HV5 := Lib.hid (HV4.out.below hw5)
        clear hw5 HV4 HW4 HFR kx
        go_wp2_with fail
        refine (HV5.out.wrong (by omega)).mono ?_
        rintro e w6 ⟨rfl, hw6⟩
        have HW6 := Lib.hid (HW5.out.trans (hw6.mono HW5.out.size))
        have HV6 : Hid (∃ c, Vm w6 p 40 w.heap.size Vl.bare c) := ⟨v, HV5.out.below hw6⟩
        clear hw6 HV5 HW5
        go_wp2
        go_roundw
        case rel => exact ⟨k + 1, by omega, by go_num, HW6, HV6⟩
        case measure => simp [intOf]; omega
      · obtain rfl : k = n := by omega
        go_wp2_with fail
        refine (new_any none 0 0 [] wr (RI.none wr) (by omega)).mono ?_
        rintro e w3 ⟨g2, m3, p3, rfl, ht, hw3, -, -⟩
        have HT3 := Lib.hid ht
        have HW3 := Lib.hid (HW.out.trans (hw3.mono HW.out.size))
        have HV3 := Lib.hid (HVC.out.below hw3)
        clear ht hw3 HW HVC
        go_wp2_with fail
        refine (change_few HT3.out (by show 0 < 36; omega)).mono ?_
        rintro e w' ⟨rfl, e'⟩
        rw [e']
        clear e' w'
        go_wp2_with fail
        refine (HV3.out.load24).mono ?_
        rintro e w4 ⟨rfl, hw4⟩
        have HW4 := Lib.hid (HW3.out.trans (hw4.mono HW3.out.size))
        clear hw4 HW3 HV3 HT3
        go_upto_region 17 with (first
          | (refine wpList_alloc_any rfl 32 rfl _ zero_Sl ?_; intro w5 hb5 hs5 hw5)
          | (refine wpList_store_part rfl 32 (.tmp 10) (.tmp 68) rfl _ 0 (sc Sl.zero (.slice none 0 0)) rfl rfl 32 (sc Sl.zero (.slice none 0 0)) hb5 size_Sl (by simp [sc]) (sc_row _ _ _ _) ?_
             intro w6 hb6 hs6 hk6))
        have HW6 : Hid (Below w.heap.size w w6) := (HW4.out.trans (hw5.mono HW4.out.size)).trans (hk6.below2 (fun k hk => by have := HW4.out.size; omega))
        clear hb5 hs5 hw5 hb6 hs6 hk6 HW4
        go_wp2_with fail
        refine (all_none w6).mono ?_
        rintro e w7 ⟨rfl, hw7⟩
        have HW7 := Lib.hid (HW6.out.trans (hw7.mono HW6.out.size))
        clear hw7 HW6
        go_wp2_with fail
        refine (vfree_nil w7).mono ?_
        rintro e w' ⟨rfl, e'⟩
        rw [e']
        clear e' w'
        go_wp2_with fail
        refine (setChange_nil 1 w7).mono ?_
        rintro e w' ⟨rfl, e'⟩
        rw [e']
        clear e' w'
        go_wp2_with fail
        refine (save_nil none 0 0 w7).mono ?_
        rintro e w' ⟨rfl, e'⟩
        rw [e']
        clear e' w'
        go_wp2_with fail
        refine (wrong_nil w7).mono ?_
        rintro e w8 ⟨sx, rfl, -, hsx, hw8⟩
        have HSE : Hid (sx.toList.isEmpty = false) := str_some (hsx rfl)
        have HW8 := Lib.hid (HW7.out.trans (hw8.mono HW7.out.size))
        clear hsx hw8
        go_wp2_with fail
        go_ret
        rw [HSE.out]
        exact ⟨rfl, HW8.out⟩
end Go.Proofs.YtnhokkdieijkhaaGreatDoor
