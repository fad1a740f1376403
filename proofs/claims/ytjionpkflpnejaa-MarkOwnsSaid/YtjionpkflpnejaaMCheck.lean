/-
  Contracts of package mark's ownerFits, nextFits and Check (layer 15).
-/
import Derived.Test.YtjionpkflpnejaaMMem
namespace Go.Proofs.Ytjionpkflpnejaa
open Go.RowKit Go.Shelf

set_option maxRecDepth 100000 in
set_option maxHeartbeats 400000 in
theorem ownerFits_any (s : Ms) (w : World) : Calls Try.prog 30 #[.agg (mc s).toArray] w fun e w' => e = .returned (.bool (Mk.phB s)) ∧ Below w.heap.size w w' := by
  have hcase : s.ph = 0 ∨ s.ph = 1 ∨ s.ph = 2 ∨ s.ph = 3 ∨ s.ph = 4 ∨ s.ph = 5 ∨ 5 < s.ph := by omega
  rcases hcase with h | h | h | h | h | h | h
  · have HP : Hid (Mk.phB s = true) := by show _ = _; unfold Mk.phB; simp [h]
    have k1 : (s.ph : Int) = 0 := by omega
    rw [HP.out]
    clear h
    go_enter Try.func30, Try.ntmps30
    go_upto_region 1 with fail
    have HB0 : Hid (Bw (w.alloc (.cells (mc s).toArray 25)) w.heap.size (mc s) 25) := heap_alloc_new w _
    have HW0 : Hid (Below w.heap.size w (w.alloc (.cells (mc s).toArray 25))) := (Below.refl _ w).alloc (Nat.le_refl _) _
    generalize w.alloc (.cells (mc s).toArray 25) = w0 at *
    have e0 := HB0.out.cell 0 _ rfl
    have e1 := HB0.out.cell 1 _ rfl
    go_wp2_with fail
    go_ret
    exact ⟨rfl, HW0.out⟩
  · have HP : Hid (Mk.phB s = s.ow) := by show _ = _; unfold Mk.phB; simp [h]
    have k1 : (s.ph : Int) = 1 := by omega
    rw [HP.out]
    clear h
    go_enter Try.func30, Try.ntmps30
    go_upto_region 1 with fail
    have HB0 : Hid (Bw (w.alloc (.cells (mc s).toArray 25)) w.heap.size (mc s) 25) := heap_alloc_new w _
    have HW0 : Hid (Below w.heap.size w (w.alloc (.cells (mc s).toArray 25))) := (Below.refl _ w).alloc (Nat.le_refl _) _
    generalize w.alloc (.cells (mc s).toArray 25) = w0 at *
    have e0 := HB0.out.cell 0 _ rfl
    have e1 := HB0.out.cell 1 _ rfl
    go_wp2_with fail
    go_ret
    exact ⟨rfl, HW0.out⟩
  · have HP : Hid (Mk.phB s = s.ow) := by show _ = _; unfold Mk.phB; simp [h]
    have k1 : (s.ph : Int) = 2 := by omega
    rw [HP.out]
    clear h
    go_enter Try.func30, Try.ntmps30
    go_upto_region 1 with fail
    have HB0 : Hid (Bw (w.alloc (.cells (mc s).toArray 25)) w.heap.size (mc s) 25) := heap_alloc_new w _
    have HW0 : Hid (Below w.heap.size w (w.alloc (.cells (mc s).toArray 25))) := (Below.refl _ w).alloc (Nat.le_refl _) _
    generalize w.alloc (.cells (mc s).toArray 25) = w0 at *
    have e0 := HB0.out.cell 0 _ rfl
    have e1 := HB0.out.cell 1 _ rfl
    go_wp2_with fail
    go_ret
    exact ⟨rfl, HW0.out⟩
  · have HP : Hid (Mk.phB s = (!s.ow)) := by show _ = _; unfold Mk.phB; simp [h]
    have k1 : (s.ph : Int) = 3 := by omega
    rw [HP.out]
    clear h
    go_enter Try.func30, Try.ntmps30
    go_upto_region 1 with fail
    have HB0 : Hid (Bw (w.alloc (.cells (mc s).toArray 25)) w.heap.size (mc s) 25) := heap_alloc_new w _
    have HW0 : Hid (Below w.heap.size w (w.alloc (.cells (mc s).toArray 25))) := (Below.refl _ w).alloc (Nat.le_refl _) _
    generalize w.alloc (.cells (mc s).toArray 25) = w0 at *
    have e0 := HB0.out.cell 0 _ rfl
    have e1 := HB0.out.cell 1 _ rfl
    go_wp2_with fail
    go_ret
    exact ⟨rfl, HW0.out⟩
  · have HP : Hid (Mk.phB s = (!s.ow)) := by show _ = _; unfold Mk.phB; simp [h]
    have k1 : (s.ph : Int) = 4 := by omega
    rw [HP.out]
    clear h
    go_enter Try.func30, Try.ntmps30
    go_upto_region 1 with fail
    have HB0 : Hid (Bw (w.alloc (.cells (mc s).toArray 25)) w.heap.size (mc s) 25) := heap_alloc_new w _
    have HW0 : Hid (Below w.heap.size w (w.alloc (.cells (mc s).toArray 25))) := (Below.refl _ w).alloc (Nat.le_refl _) _
    generalize w.alloc (.cells (mc s).toArray 25) = w0 at *
    have e0 := HB0.out.cell 0 _ rfl
    have e1 := HB0.out.cell 1 _ rfl
    go_wp2_with fail
    go_ret
    exact ⟨rfl, HW0.out⟩
  · have HP : Hid (Mk.phB s = (!s.ow)) := by show _ = _; unfold Mk.phB; simp [h]
    have k1 : (s.ph : Int) = 5 := by omega
    rw [HP.out]
    clear h
    go_enter Try.func30, Try.ntmps30
    go_upto_region 1 with fail
    have HB0 : Hid (Bw (w.alloc (.cells (mc s).toArray 25)) w.heap.size (mc s) 25) := heap_alloc_new w _
    have HW0 : Hid (Below w.heap.size w (w.alloc (.cells (mc s).toArray 25))) := (Below.refl _ w).alloc (Nat.le_refl _) _
    generalize w.alloc (.cells (mc s).toArray 25) = w0 at *
    have e0 := HB0.out.cell 0 _ rfl
    have e1 := HB0.out.cell 1 _ rfl
    go_wp2_with fail
    go_ret
    exact ⟨rfl, HW0.out⟩
  · have HP : Hid (Mk.phB s = false) := by show _ = _; unfold Mk.phB; rw [if_neg (by omega), if_neg (by omega), if_neg (by omega)]
    have g0 : ((s.ph : Int) == 0) = false := by simp; omega
    have g1 : ((s.ph : Int) == 1) = false := by simp; omega
    have g2 : ((s.ph : Int) == 2) = false := by simp; omega
    have g3 : ((s.ph : Int) == 3) = false := by simp; omega
    have g4 : ((s.ph : Int) == 4) = false := by simp; omega
    have g5 : ((s.ph : Int) == 5) = false := by simp; omega
    rw [HP.out]
    clear h
    go_enter Try.func30, Try.ntmps30
    go_upto_region 1 with fail
    have HB0 : Hid (Bw (w.alloc (.cells (mc s).toArray 25)) w.heap.size (mc s) 25) := heap_alloc_new w _
    have HW0 : Hid (Below w.heap.size w (w.alloc (.cells (mc s).toArray 25))) := (Below.refl _ w).alloc (Nat.le_refl _) _
    generalize w.alloc (.cells (mc s).toArray 25) = w0 at *
    have e0 := HB0.out.cell 0 _ rfl
    have e1 := HB0.out.cell 1 _ rfl
    go_wp2_with fail
    go_ret
    exact ⟨rfl, HW0.out⟩
set_option maxRecDepth 100000 in
set_option maxHeartbeats 400000 in
theorem nextFits_any (s : Ms) (w : World) : Calls Try.prog 31 #[.agg (mc s).toArray] w fun e w' => e = .returned (.bool (Mk.nxB s)) ∧ Below w.heap.size w w' := by
  have hcase : (s.ph = 3 ∧ s.nx = 33) ∨ (s.ph = 3 ∧ s.nx = 34) ∨ (s.ph = 3 ∧ s.nx ≠ 33 ∧ s.nx ≠ 34) ∨ (s.ph ≠ 3 ∧ s.nx < 33) ∨ (s.ph ≠ 3 ∧ ¬ s.nx < 33) := by omega
  rcases hcase with h | h | h | h | h
  · have HP : Hid (Mk.nxB s = true) := by show _ = _; unfold Mk.nxB; simp [h]
    have k1 : (s.ph : Int) = 3 := by omega
    have k2 : (s.nx : Int) = 33 := by omega
    rw [HP.out]
    clear h
    go_enter Try.func31, Try.ntmps31
    go_upto_region 1 with fail
    have HB0 : Hid (Bw (w.alloc (.cells (mc s).toArray 25)) w.heap.size (mc s) 25) := heap_alloc_new w _
    have HW0 : Hid (Below w.heap.size w (w.alloc (.cells (mc s).toArray 25))) := (Below.refl _ w).alloc (Nat.le_refl _) _
    generalize w.alloc (.cells (mc s).toArray 25) = w0 at *
    have e1 := HB0.out.cell 1 _ rfl
    have e7 := HB0.out.cell 7 _ rfl
    go_wp2_with fail
    go_ret
    exact ⟨rfl, HW0.out⟩
  · have HP : Hid (Mk.nxB s = true) := by show _ = _; unfold Mk.nxB; simp [h]
    have k1 : (s.ph : Int) = 3 := by omega
    have k2 : (s.nx : Int) = 34 := by omega
    rw [HP.out]
    clear h
    go_enter Try.func31, Try.ntmps31
    go_upto_region 1 with fail
    have HB0 : Hid (Bw (w.alloc (.cells (mc s).toArray 25)) w.heap.size (mc s) 25) := heap_alloc_new w _
    have HW0 : Hid (Below w.heap.size w (w.alloc (.cells (mc s).toArray 25))) := (Below.refl _ w).alloc (Nat.le_refl _) _
    generalize w.alloc (.cells (mc s).toArray 25) = w0 at *
    have e1 := HB0.out.cell 1 _ rfl
    have e7 := HB0.out.cell 7 _ rfl
    go_wp2_with fail
    go_ret
    exact ⟨rfl, HW0.out⟩
  · have HP : Hid (Mk.nxB s = false) := by show _ = _; unfold Mk.nxB; simp [h]
    have k1 : (s.ph : Int) = 3 := by omega
    have k2 : ((s.nx : Int) == 33) = false := by simp; omega
    have k3 : ((s.nx : Int) == 34) = false := by simp; omega
    rw [HP.out]
    clear h
    go_enter Try.func31, Try.ntmps31
    go_upto_region 1 with fail
    have HB0 : Hid (Bw (w.alloc (.cells (mc s).toArray 25)) w.heap.size (mc s) 25) := heap_alloc_new w _
    have HW0 : Hid (Below w.heap.size w (w.alloc (.cells (mc s).toArray 25))) := (Below.refl _ w).alloc (Nat.le_refl _) _
    generalize w.alloc (.cells (mc s).toArray 25) = w0 at *
    have e1 := HB0.out.cell 1 _ rfl
    have e7 := HB0.out.cell 7 _ rfl
    go_wp2_with fail
    go_ret
    exact ⟨rfl, HW0.out⟩
  · have HP : Hid (Mk.nxB s = true) := by show _ = _; unfold Mk.nxB; simp [h]
    have k1 : ((s.ph : Int) == 3) = false := by simp; omega
    have k2 : decide ((s.nx : Int) < 33) = true := by simp; omega
    rw [HP.out]
    clear h
    go_enter Try.func31, Try.ntmps31
    go_upto_region 1 with fail
    have HB0 : Hid (Bw (w.alloc (.cells (mc s).toArray 25)) w.heap.size (mc s) 25) := heap_alloc_new w _
    have HW0 : Hid (Below w.heap.size w (w.alloc (.cells (mc s).toArray 25))) := (Below.refl _ w).alloc (Nat.le_refl _) _
    generalize w.alloc (.cells (mc s).toArray 25) = w0 at *
    have e1 := HB0.out.cell 1 _ rfl
    have e7 := HB0.out.cell 7 _ rfl
    go_wp2_with fail
    go_ret
    exact ⟨rfl, HW0.out⟩
  · have HP : Hid (Mk.nxB s = false) := by show _ = _; unfold Mk.nxB; rw [if_neg h.1]; exact decide_eq_false h.2
    have k1 : ((s.ph : Int) == 3) = false := by simp; omega
    have k2 : decide ((s.nx : Int) < 33) = false := by simp; omega
    rw [HP.out]
    clear h
    go_enter Try.func31, Try.ntmps31
    go_upto_region 1 with fail
    have HB0 : Hid (Bw (w.alloc (.cells (mc s).toArray 25)) w.heap.size (mc s) 25) := heap_alloc_new w _
    have HW0 : Hid (Below w.heap.size w (w.alloc (.cells (mc s).toArray 25))) := (Below.refl _ w).alloc (Nat.le_refl _) _
    generalize w.alloc (.cells (mc s).toArray 25) = w0 at *
    have e1 := HB0.out.cell 1 _ rfl
    have e7 := HB0.out.cell 7 _ rfl
    go_wp2_with fail
    go_ret
    exact ⟨rfl, HW0.out⟩
set_option maxRecDepth 100000 in
set_option maxHeartbeats 1000000 in
theorem checkM_any (s : Ms) (w : World) : Calls Try.prog 14 #[.agg (mc s).toArray] w fun e w' => e = .returned (.int .i64 (Mk.chkM s)) ∧ Below w.heap.size w w' := by
  have HO : Hid (∀ W, Calls Try.prog 30 #[.agg (mc s).toArray] W fun e w' => e = .returned (.bool (Mk.phB s)) ∧ Below W.heap.size W w') := ownerFits_any s
  have HX : Hid (∀ W, Calls Try.prog 31 #[.agg (mc s).toArray] W fun e w' => e = .returned (.bool (Mk.nxB s)) ∧ Below W.heap.size W w') := nextFits_any s
  have HIF := Mk.okM_iff s
  have HC1 : Mk.okM s = true → Mk.chkM s = 0 := fun h => if_pos h
  have HC2 : ¬ Mk.okM s = true → Mk.chkM s = 1 := fun h => if_neg h
  generalize Mk.phB s = p at *
  generalize Mk.nxB s = q at *
  generalize Mk.chkM s = z at *
  by_cases h1 : s.pr < 16
  rotate_left
  · obtain rfl := HC2 (fun h => h1 (HIF.1 h).1)
    have g1 : decide ((16 : Int) ≤ (s.pr : Int)) = true := by simp; omega
    clear HIF HC1 HC2 h1
    go_enter Try.func14, Try.ntmps14
    go_upto_region 1 with fail
    have HB0 : Hid (Bw (w.alloc (.cells (mc s).toArray 25)) w.heap.size (mc s) 25) := heap_alloc_new w _
    have HW0 : Hid (Below w.heap.size w (w.alloc (.cells (mc s).toArray 25))) := (Below.refl _ w).alloc (Nat.le_refl _) _
    generalize w.alloc (.cells (mc s).toArray 25) = w0 at *
    have e0 := HB0.out.cell 0 _ rfl
    have e1 := HB0.out.cell 1 _ rfl
    have e2 := HB0.out.cell 2 _ rfl
    have e3 := HB0.out.cell 3 _ rfl
    have e4 := HB0.out.cell 4 _ rfl
    have e5 := HB0.out.cell 5 _ rfl
    have e6 := HB0.out.cell 6 _ rfl
    have e7 := HB0.out.cell 7 _ rfl
    have e8 := HB0.out.cell 8 _ rfl
    go_wp2_with fail
    go_ret
    exact ⟨rfl, HW0.out⟩
  by_cases h2 : s.fr ≤ s.gl
  rotate_left
  · obtain rfl := HC2 (fun h => h2 (HIF.1 h).2.1)
    have g1 : decide ((16 : Int) ≤ (s.pr : Int)) = false := by simp; omega
    have g2 : decide (s.gl < s.fr) = true := by simp; omega
    clear HIF HC1 HC2 h1 h2
    go_enter Try.func14, Try.ntmps14
    go_upto_region 1 with fail
    have HB0 : Hid (Bw (w.alloc (.cells (mc s).toArray 25)) w.heap.size (mc s) 25) := heap_alloc_new w _
    have HW0 : Hid (Below w.heap.size w (w.alloc (.cells (mc s).toArray 25))) := (Below.refl _ w).alloc (Nat.le_refl _) _
    generalize w.alloc (.cells (mc s).toArray 25) = w0 at *
    have e0 := HB0.out.cell 0 _ rfl
    have e1 := HB0.out.cell 1 _ rfl
    have e2 := HB0.out.cell 2 _ rfl
    have e3 := HB0.out.cell 3 _ rfl
    have e4 := HB0.out.cell 4 _ rfl
    have e5 := HB0.out.cell 5 _ rfl
    have e6 := HB0.out.cell 6 _ rfl
    have e7 := HB0.out.cell 7 _ rfl
    have e8 := HB0.out.cell 8 _ rfl
    go_wp2_with fail
    go_ret
    exact ⟨rfl, HW0.out⟩
  have g1 : decide ((16 : Int) ≤ (s.pr : Int)) = false := by simp; omega
  have g2 : decide (s.gl < s.fr) = false := by simp; omega
  cases p with
  | false =>
    obtain rfl := HC2 (fun h => by cases (HIF.1 h).2.2.1)
    clear HIF HC1 HC2 h1 h2
    go_enter Try.func14, Try.ntmps14
    go_upto_region 1 with fail
    have HB0 : Hid (Bw (w.alloc (.cells (mc s).toArray 25)) w.heap.size (mc s) 25) := heap_alloc_new w _
    have HW0 : Hid (Below w.heap.size w (w.alloc (.cells (mc s).toArray 25))) := (Below.refl _ w).alloc (Nat.le_refl _) _
    generalize w.alloc (.cells (mc s).toArray 25) = w0 at *
    have e0 := HB0.out.cell 0 _ rfl
    have e1 := HB0.out.cell 1 _ rfl
    have e2 := HB0.out.cell 2 _ rfl
    have e3 := HB0.out.cell 3 _ rfl
    have e4 := HB0.out.cell 4 _ rfl
    have e5 := HB0.out.cell 5 _ rfl
    have e6 := HB0.out.cell 6 _ rfl
    have e7 := HB0.out.cell 7 _ rfl
    have e8 := HB0.out.cell 8 _ rfl
    go_wp2_with fail
    refine (HO.out _).mono ?_
    rintro e w1 ⟨rfl, hb⟩
    go_wp2_with fail
    go_ret
    exact ⟨rfl, HW0.out.trans (hb.mono HW0.out.size)⟩
  | true =>
    cases q with
    | false =>
      obtain rfl := HC2 (fun h => by cases (HIF.1 h).2.2.2)
      clear HIF HC1 HC2 h1 h2
      go_enter Try.func14, Try.ntmps14
      go_upto_region 1 with fail
      have HB0 : Hid (Bw (w.alloc (.cells (mc s).toArray 25)) w.heap.size (mc s) 25) := heap_alloc_new w _
      have HW0 : Hid (Below w.heap.size w (w.alloc (.cells (mc s).toArray 25))) := (Below.refl _ w).alloc (Nat.le_refl _) _
      generalize w.alloc (.cells (mc s).toArray 25) = w0 at *
      have e0 := HB0.out.cell 0 _ rfl
      have e1 := HB0.out.cell 1 _ rfl
      have e2 := HB0.out.cell 2 _ rfl
      have e3 := HB0.out.cell 3 _ rfl
      have e4 := HB0.out.cell 4 _ rfl
      have e5 := HB0.out.cell 5 _ rfl
      have e6 := HB0.out.cell 6 _ rfl
      have e7 := HB0.out.cell 7 _ rfl
      have e8 := HB0.out.cell 8 _ rfl
      go_wp2_with fail
      refine (HO.out _).mono ?_
      rintro e w1 ⟨rfl, hb⟩
      have HB1 := Lib.hid (HB0.out.below hb)
      have HW1 := Lib.hid (HW0.out.trans (hb.mono HW0.out.size))
      clear hb HB0 HW0 e0 e1 e2 e3 e4 e5 e6 e7 e8
      have e0 := HB1.out.cell 0 _ rfl
      have e1 := HB1.out.cell 1 _ rfl
      have e2 := HB1.out.cell 2 _ rfl
      have e3 := HB1.out.cell 3 _ rfl
      have e4 := HB1.out.cell 4 _ rfl
      have e5 := HB1.out.cell 5 _ rfl
      have e6 := HB1.out.cell 6 _ rfl
      have e7 := HB1.out.cell 7 _ rfl
      have e8 := HB1.out.cell 8 _ rfl
      go_wp2_with fail
      refine (HX.out _).mono ?_
      rintro e w2 ⟨rfl, hb⟩
      go_wp2_with fail
      go_ret
      exact ⟨rfl, HW1.out.trans (hb.mono HW1.out.size)⟩
    | true =>
      obtain rfl := HC1 (HIF.2 ⟨h1, h2, rfl, rfl⟩)
      clear HIF HC1 HC2 h1 h2
      go_enter Try.func14, Try.ntmps14
      go_upto_region 1 with fail
      have HB0 : Hid (Bw (w.alloc (.cells (mc s).toArray 25)) w.heap.size (mc s) 25) := heap_alloc_new w _
      have HW0 : Hid (Below w.heap.size w (w.alloc (.cells (mc s).toArray 25))) := (Below.refl _ w).alloc (Nat.le_refl _) _
      generalize w.alloc (.cells (mc s).toArray 25) = w0 at *
      have e0 := HB0.out.cell 0 _ rfl
      have e1 := HB0.out.cell 1 _ rfl
      have e2 := HB0.out.cell 2 _ rfl
      have e3 := HB0.out.cell 3 _ rfl
      have e4 := HB0.out.cell 4 _ rfl
      have e5 := HB0.out.cell 5 _ rfl
      have e6 := HB0.out.cell 6 _ rfl
      have e7 := HB0.out.cell 7 _ rfl
      have e8 := HB0.out.cell 8 _ rfl
      go_wp2_with fail
      refine (HO.out _).mono ?_
      rintro e w1 ⟨rfl, hb⟩
      have HB1 := Lib.hid (HB0.out.below hb)
      have HW1 := Lib.hid (HW0.out.trans (hb.mono HW0.out.size))
      clear hb HB0 HW0 e0 e1 e2 e3 e4 e5 e6 e7 e8
      have e0 := HB1.out.cell 0 _ rfl
      have e1 := HB1.out.cell 1 _ rfl
      have e2 := HB1.out.cell 2 _ rfl
      have e3 := HB1.out.cell 3 _ rfl
      have e4 := HB1.out.cell 4 _ rfl
      have e5 := HB1.out.cell 5 _ rfl
      have e6 := HB1.out.cell 6 _ rfl
      have e7 := HB1.out.cell 7 _ rfl
      have e8 := HB1.out.cell 8 _ rfl
      go_wp2_with fail
      refine (HX.out _).mono ?_
      rintro e w2 ⟨rfl, hb⟩
      go_wp2_with fail
      go_ret
      exact ⟨rfl, HW1.out.trans (hb.mono HW1.out.size)⟩
end Go.Proofs.Ytjionpkflpnejaa
