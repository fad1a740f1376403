/-
  The document's Check, walked (layer 15).
  The document's Put, walked (layer 15).
  Contracts of package mark's ownerFits, nextFits and Check (layer 15).
  Contract of package mark's Put (layer 15).
-/
import Derived.Test.YtjionpkflpnejaaMQ3
import Derived.BigQuiet
import Derived.Deep.RegionHeld
namespace Go.Proofs.Ytjionpkflpnejaa
open Go.RowKit Go.Shelf

set_option maxRecDepth 100000 in
set_option maxHeartbeats 4000000 in
theorem refCheckM_any (s : Ms) (w : World) : Calls Try.prog 15 #[.agg (mc s).toArray] w fun e w' => e = .returned (.int .i64 (Mk.chkM s)) ∧ Below w.heap.size w w' := by
  have HIF := Mk.okM_iff s
  have HC1 : Mk.okM s = true → Mk.chkM s = 0 := fun h => if_pos h
  have HC2 : ¬ Mk.okM s = true → Mk.chkM s = 1 := fun h => if_neg h
  have HL1 := Mk.phB_le s
  have HL2 := Mk.nxB_le s
  by_cases a0 : s.ph ≤ 5
  rotate_left
  · rw [HC2 (fun h => a0 (HL1 (HIF.1 h).2.2.1))]
    have g0 : decide ((5 : Int) < (s.ph : Int)) = true := by simp; omega
    clear HIF HC1 HC2 HL1 HL2 a0
    go_enter Try.func15, Try.ntmps15
    go_upto_region 1 with fail
    have HB0 : Hid (Bw (w.alloc (.cells (mc s).toArray 33)) w.heap.size (mc s) 33) := heap_alloc_new w _
    have HW0 : Hid (Below w.heap.size w (w.alloc (.cells (mc s).toArray 33))) := (Below.refl _ w).alloc (Nat.le_refl _) _
    generalize w.alloc (.cells (mc s).toArray 33) = w0 at *
    have e0 := HB0.out.cell 0 _ rfl
    have e1 := HB0.out.cell 1 _ rfl
    have e2 := HB0.out.cell 2 _ rfl
    have e3 := HB0.out.cell 3 _ rfl
    have e4 := HB0.out.cell 4 _ rfl
    have e5 := HB0.out.cell 5 _ rfl
    have e6 := HB0.out.cell 6 _ rfl
    have e7 := HB0.out.cell 7 _ rfl
    have e8 := HB0.out.cell 8 _ rfl
    go_wp2_with fail
    go_ret
    exact ⟨rfl, HW0.out⟩
  by_cases a1 : s.nx ≤ 34
  rotate_left
  · rw [HC2 (fun h => a1 (HL2 (HIF.1 h).2.2.2))]
    have g0 : decide ((5 : Int) < (s.ph : Int)) = false := by simp; omega
    have g1 : decide ((34 : Int) < (s.nx : Int)) = true := by simp; omega
    clear HIF HC1 HC2 HL1 HL2 a0 a1
    go_enter Try.func15, Try.ntmps15
    go_upto_region 1 with fail
    have HB0 : Hid (Bw (w.alloc (.cells (mc s).toArray 33)) w.heap.size (mc s) 33) := heap_alloc_new w _
    have HW0 : Hid (Below w.heap.size w (w.alloc (.cells (mc s).toArray 33))) := (Below.refl _ w).alloc (Nat.le_refl _) _
    generalize w.alloc (.cells (mc s).toArray 33) = w0 at *
    have e0 := HB0.out.cell 0 _ rfl
    have e1 := HB0.out.cell 1 _ rfl
    have e2 := HB0.out.cell 2 _ rfl
    have e3 := HB0.out.cell 3 _ rfl
    have e4 := HB0.out.cell 4 _ rfl
    have e5 := HB0.out.cell 5 _ rfl
    have e6 := HB0.out.cell 6 _ rfl
    have e7 := HB0.out.cell 7 _ rfl
    have e8 := HB0.out.cell 8 _ rfl
    go_wp2_with fail
    go_ret
    exact ⟨rfl, HW0.out⟩
  by_cases a2 : s.pr < 16
  rotate_left
  · rw [HC2 (fun h => a2 (HIF.1 h).1)]
    have g0 : decide ((5 : Int) < (s.ph : Int)) = false := by simp; omega
    have g1 : decide ((34 : Int) < (s.nx : Int)) = false := by simp; omega
    have g2 : decide ((15 : Int) < (s.pr : Int)) = true := by simp; omega
    clear HIF HC1 HC2 HL1 HL2 a0 a1 a2
    go_enter Try.func15, Try.ntmps15
    go_upto_region 1 with fail
    have HB0 : Hid (Bw (w.alloc (.cells (mc s).toArray 33)) w.heap.size (mc s) 33) := heap_alloc_new w _
    have HW0 : Hid (Below w.heap.size w (w.alloc (.cells (mc s).toArray 33))) := (Below.refl _ w).alloc (Nat.le_refl _) _
    generalize w.alloc (.cells (mc s).toArray 33) = w0 at *
    have e0 := HB0.out.cell 0 _ rfl
    have e1 := HB0.out.cell 1 _ rfl
    have e2 := HB0.out.cell 2 _ rfl
    have e3 := HB0.out.cell 3 _ rfl
    have e4 := HB0.out.cell 4 _ rfl
    have e5 := HB0.out.cell 5 _ rfl
    have e6 := HB0.out.cell 6 _ rfl
    have e7 := HB0.out.cell 7 _ rfl
    have e8 := HB0.out.cell 8 _ rfl
    go_wp2_with fail
    go_ret
    exact ⟨rfl, HW0.out⟩
  by_cases a3 : s.fr ≤ s.gl
  rotate_left
  · rw [HC2 (fun h => a3 (HIF.1 h).2.1)]
    have g0 : decide ((5 : Int) < (s.ph : Int)) = false := by simp; omega
    have g1 : decide ((34 : Int) < (s.nx : Int)) = false := by simp; omega
    have g2 : decide ((15 : Int) < (s.pr : Int)) = false := by simp; omega
    have g3 : decide (s.gl < s.fr) = true := by simp; omega
    clear HIF HC1 HC2 HL1 HL2 a0 a1 a2 a3
    go_enter Try.func15, Try.ntmps15
    go_upto_region 1 with fail
    have HB0 : Hid (Bw (w.alloc (.cells (mc s).toArray 33)) w.heap.size (mc s) 33) := heap_alloc_new w _
    have HW0 : Hid (Below w.heap.size w (w.alloc (.cells (mc s).toArray 33))) := (Below.refl _ w).alloc (Nat.le_refl _) _
    generalize w.alloc (.cells (mc s).toArray 33) = w0 at *
    have e0 := HB0.out.cell 0 _ rfl
    have e1 := HB0.out.cell 1 _ rfl
    have e2 := HB0.out.cell 2 _ rfl
    have e3 := HB0.out.cell 3 _ rfl
    have e4 := HB0.out.cell 4 _ rfl
    have e5 := HB0.out.cell 5 _ rfl
    have e6 := HB0.out.cell 6 _ rfl
    have e7 := HB0.out.cell 7 _ rfl
    have e8 := HB0.out.cell 8 _ rfl
    go_wp2_with fail
    go_ret
    exact ⟨rfl, HW0.out⟩
  have HP := (rfl : Mk.phB s = Mk.phB s)
  have HN := (rfl : Mk.nxB s = Mk.nxB s)
  conv at HP => rhs; unfold Mk.phB
  conv at HN => rhs; unfold Mk.nxB
  obtain ⟨ow, how⟩ : ∃ b, s.ow = b := ⟨_, rfl⟩
  have hcase : s.ph = 0 ∨ s.ph = 1 ∨ s.ph = 2 ∨ s.ph = 3 ∨ s.ph = 4 ∨ s.ph = 5 := by omega
  rcases hcase with h | h | h | h | h | h
  · have k1 : (s.ph : Int) = 0 := by omega
    by_cases b : s.nx < 33
    · cases ow with
      | false =>
        have hp : Mk.phB s = true := by rw [HP]; simp [h]
        have hn : Mk.nxB s = true := by rw [HN]; simp only [h]; simp; omega
        rw [HC1 (HIF.2 ⟨a2, a3, hp, hn⟩)]
        clear hp hn
        have g0 : decide ((5 : Int) < (s.ph : Int)) = false := by simp; omega
        have g1 : decide ((34 : Int) < (s.nx : Int)) = false := by simp; omega
        have g2 : decide ((15 : Int) < (s.pr : Int)) = false := by simp; omega
        have g3 : decide (s.gl < s.fr) = false := by simp; omega
        have g4 : decide ((s.nx : Int) < 33) = true := by simp; omega
        have g5 : decide ((33 : Int) ≤ (s.nx : Int)) = false := by simp; omega
        clear HIF HC1 HC2 HL1 HL2 HP HN a0 a1 a2 a3 h b
        go_enter Try.func15, Try.ntmps15
        go_upto_region 1 with fail
        have HB0 : Hid (Bw (w.alloc (.cells (mc s).toArray 33)) w.heap.size (mc s) 33) := heap_alloc_new w _
        have HW0 : Hid (Below w.heap.size w (w.alloc (.cells (mc s).toArray 33))) := (Below.refl _ w).alloc (Nat.le_refl _) _
        generalize w.alloc (.cells (mc s).toArray 33) = w0 at *
        have e0 := HB0.out.cell 0 _ rfl
        have e1 := HB0.out.cell 1 _ rfl
        have e2 := HB0.out.cell 2 _ rfl
        have e3 := HB0.out.cell 3 _ rfl
        have e4 := HB0.out.cell 4 _ rfl
        have e5 := HB0.out.cell 5 _ rfl
        have e6 := HB0.out.cell 6 _ rfl
        have e7 := HB0.out.cell 7 _ rfl
        have e8 := HB0.out.cell 8 _ rfl
        go_wp2_with fail
        go_ret
        exact ⟨rfl, HW0.out⟩
      | true =>
        have hp : Mk.phB s = true := by rw [HP]; simp [h]
        have hn : Mk.nxB s = true := by rw [HN]; simp only [h]; simp; omega
        rw [HC1 (HIF.2 ⟨a2, a3, hp, hn⟩)]
        clear hp hn
        have g0 : decide ((5 : Int) < (s.ph : Int)) = false := by simp; omega
        have g1 : decide ((34 : Int) < (s.nx : Int)) = false := by simp; omega
        have g2 : decide ((15 : Int) < (s.pr : Int)) = false := by simp; omega
        have g3 : decide (s.gl < s.fr) = false := by simp; omega
        have g4 : decide ((s.nx : Int) < 33) = true := by simp; omega
        have g5 : decide ((33 : Int) ≤ (s.nx : Int)) = false := by simp; omega
        clear HIF HC1 HC2 HL1 HL2 HP HN a0 a1 a2 a3 h b
        go_enter Try.func15, Try.ntmps15
        go_upto_region 1 with fail
        have HB0 : Hid (Bw (w.alloc (.cells (mc s).toArray 33)) w.heap.size (mc s) 33) := heap_alloc_new w _
        have HW0 : Hid (Below w.heap.size w (w.alloc (.cells (mc s).toArray 33))) := (Below.refl _ w).alloc (Nat.le_refl _) _
        generalize w.alloc (.cells (mc s).toArray 33) = w0 at *
        have e0 := HB0.out.cell 0 _ rfl
        have e1 := HB0.out.cell 1 _ rfl
        have e2 := HB0.out.cell 2 _ rfl
        have e3 := HB0.out.cell 3 _ rfl
        have e4 := HB0.out.cell 4 _ rfl
        have e5 := HB0.out.cell 5 _ rfl
        have e6 := HB0.out.cell 6 _ rfl
        have e7 := HB0.out.cell 7 _ rfl
        have e8 := HB0.out.cell 8 _ rfl
        go_wp2_with fail
        go_ret
        exact ⟨rfl, HW0.out⟩
    · cases ow with
      | false =>
        have hn : Mk.nxB s = false := by rw [HN]; simp only [h]; simp; omega
        rw [HC2 (fun h => by rw [(HIF.1 h).2.2.2] at hn; cases hn)]
        clear hn
        have g0 : decide ((5 : Int) < (s.ph : Int)) = false := by simp; omega
        have g1 : decide ((34 : Int) < (s.nx : Int)) = false := by simp; omega
        have g2 : decide ((15 : Int) < (s.pr : Int)) = false := by simp; omega
        have g3 : decide (s.gl < s.fr) = false := by simp; omega
        have g4 : decide ((s.nx : Int) < 33) = false := by simp; omega
        have g5 : decide ((33 : Int) ≤ (s.nx : Int)) = true := by simp; omega
        clear HIF HC1 HC2 HL1 HL2 HP HN a0 a1 a2 a3 h b
        go_enter Try.func15, Try.ntmps15
        go_upto_region 1 with fail
        have HB0 : Hid (Bw (w.alloc (.cells (mc s).toArray 33)) w.heap.size (mc s) 33) := heap_alloc_new w _
        have HW0 : Hid (Below w.heap.size w (w.alloc (.cells (mc s).toArray 33))) := (Below.refl _ w).alloc (Nat.le_refl _) _
        generalize w.alloc (.cells (mc s).toArray 33) = w0 at *
        have e0 := HB0.out.cell 0 _ rfl
        have e1 := HB0.out.cell 1 _ rfl
        have e2 := HB0.out.cell 2 _ rfl
        have e3 := HB0.out.cell 3 _ rfl
        have e4 := HB0.out.cell 4 _ rfl
        have e5 := HB0.out.cell 5 _ rfl
        have e6 := HB0.out.cell 6 _ rfl
        have e7 := HB0.out.cell 7 _ rfl
        have e8 := HB0.out.cell 8 _ rfl
        go_wp2_with fail
        go_ret
        exact ⟨rfl, HW0.out⟩
      | true =>
        have hn : Mk.nxB s = false := by rw [HN]; simp only [h]; simp; omega
        rw [HC2 (fun h => by rw [(HIF.1 h).2.2.2] at hn; cases hn)]
        clear hn
        have g0 : decide ((5 : Int) < (s.ph : Int)) = false := by simp; omega
        have g1 : decide ((34 : Int) < (s.nx : Int)) = false := by simp; omega
        have g2 : decide ((15 : Int) < (s.pr : Int)) = false := by simp; omega
        have g3 : decide (s.gl < s.fr) = false := by simp; omega
        have g4 : decide ((s.nx : Int) < 33) = false := by simp; omega
        have g5 : decide ((33 : Int) ≤ (s.nx : Int)) = true := by simp; omega
        clear HIF HC1 HC2 HL1 HL2 HP HN a0 a1 a2 a3 h b
        go_enter Try.func15, Try.ntmps15
        go_upto_region 1 with fail
        have HB0 : Hid (Bw (w.alloc (.cells (mc s).toArray 33)) w.heap.size (mc s) 33) := heap_alloc_new w _
        have HW0 : Hid (Below w.heap.size w (w.alloc (.cells (mc s).toArray 33))) := (Below.refl _ w).alloc (Nat.le_refl _) _
        generalize w.alloc (.cells (mc s).toArray 33) = w0 at *
        have e0 := HB0.out.cell 0 _ rfl
        have e1 := HB0.out.cell 1 _ rfl
        have e2 := HB0.out.cell 2 _ rfl
        have e3 := HB0.out.cell 3 _ rfl
        have e4 := HB0.out.cell 4 _ rfl
        have e5 := HB0.out.cell 5 _ rfl
        have e6 := HB0.out.cell 6 _ rfl
        have e7 := HB0.out.cell 7 _ rfl
        have e8 := HB0.out.cell 8 _ rfl
        go_wp2_with fail
        go_ret
        exact ⟨rfl, HW0.out⟩
  · have k1 : (s.ph : Int) = 1 := by omega
    by_cases b : s.nx < 33
    · cases ow with
      | false =>
        have hp : Mk.phB s = false := by rw [HP]; simp [h, how]
        rw [HC2 (fun h => by rw [(HIF.1 h).2.2.1] at hp; cases hp)]
        clear hp
        have g0 : decide ((5 : Int) < (s.ph : Int)) = false := by simp; omega
        have g1 : decide ((34 : Int) < (s.nx : Int)) = false := by simp; omega
        have g2 : decide ((15 : Int) < (s.pr : Int)) = false := by simp; omega
        have g3 : decide (s.gl < s.fr) = false := by simp; omega
        have g4 : decide ((s.nx : Int) < 33) = true := by simp; omega
        have g5 : decide ((33 : Int) ≤ (s.nx : Int)) = false := by simp; omega
        clear HIF HC1 HC2 HL1 HL2 HP HN a0 a1 a2 a3 h b
        go_enter Try.func15, Try.ntmps15
        go_upto_region 1 with fail
        have HB0 : Hid (Bw (w.alloc (.cells (mc s).toArray 33)) w.heap.size (mc s) 33) := heap_alloc_new w _
        have HW0 : Hid (Below w.heap.size w (w.alloc (.cells (mc s).toArray 33))) := (Below.refl _ w).alloc (Nat.le_refl _) _
        generalize w.alloc (.cells (mc s).toArray 33) = w0 at *
        have e0 := HB0.out.cell 0 _ rfl
        have e1 := HB0.out.cell 1 _ rfl
        have e2 := HB0.out.cell 2 _ rfl
        have e3 := HB0.out.cell 3 _ rfl
        have e4 := HB0.out.cell 4 _ rfl
        have e5 := HB0.out.cell 5 _ rfl
        have e6 := HB0.out.cell 6 _ rfl
        have e7 := HB0.out.cell 7 _ rfl
        have e8 := HB0.out.cell 8 _ rfl
        go_wp2_with fail
        go_ret
        exact ⟨rfl, HW0.out⟩
      | true =>
        have hp : Mk.phB s = true := by rw [HP]; simp [h, how]
        have hn : Mk.nxB s = true := by rw [HN]; simp only [h]; simp; omega
        rw [HC1 (HIF.2 ⟨a2, a3, hp, hn⟩)]
        clear hp hn
        have g0 : decide ((5 : Int) < (s.ph : Int)) = false := by simp; omega
        have g1 : decide ((34 : Int) < (s.nx : Int)) = false := by simp; omega
        have g2 : decide ((15 : Int) < (s.pr : Int)) = false := by simp; omega
        have g3 : decide (s.gl < s.fr) = false := by simp; omega
        have g4 : decide ((s.nx : Int) < 33) = true := by simp; omega
        have g5 : decide ((33 : Int) ≤ (s.nx : Int)) = false := by simp; omega
        clear HIF HC1 HC2 HL1 HL2 HP HN a0 a1 a2 a3 h b
        go_enter Try.func15, Try.ntmps15
        go_upto_region 1 with fail
        have HB0 : Hid (Bw (w.alloc (.cells (mc s).toArray 33)) w.heap.size (mc s) 33) := heap_alloc_new w _
        have HW0 : Hid (Below w.heap.size w (w.alloc (.cells (mc s).toArray 33))) := (Below.refl _ w).alloc (Nat.le_refl _) _
        generalize w.alloc (.cells (mc s).toArray 33) = w0 at *
        have e0 := HB0.out.cell 0 _ rfl
        have e1 := HB0.out.cell 1 _ rfl
        have e2 := HB0.out.cell 2 _ rfl
        have e3 := HB0.out.cell 3 _ rfl
        have e4 := HB0.out.cell 4 _ rfl
        have e5 := HB0.out.cell 5 _ rfl
        have e6 := HB0.out.cell 6 _ rfl
        have e7 := HB0.out.cell 7 _ rfl
        have e8 := HB0.out.cell 8 _ rfl
        go_wp2_with fail
        go_ret
        exact ⟨rfl, HW0.out⟩
    · cases ow with
      | false =>
        have hp : Mk.phB s = false := by rw [HP]; simp [h, how]
        rw [HC2 (fun h => by rw [(HIF.1 h).2.2.1] at hp; cases hp)]
        clear hp
        have g0 : decide ((5 : Int) < (s.ph : Int)) = false := by simp; omega
        have g1 : decide ((34 : Int) < (s.nx : Int)) = false := by simp; omega
        have g2 : decide ((15 : Int) < (s.pr : Int)) = false := by simp; omega
        have g3 : decide (s.gl < s.fr) = false := by simp; omega
        have g4 : decide ((s.nx : Int) < 33) = false := by simp; omega
        have g5 : decide ((33 : Int) ≤ (s.nx : Int)) = true := by simp; omega
        clear HIF HC1 HC2 HL1 HL2 HP HN a0 a1 a2 a3 h b
        go_enter Try.func15, Try.ntmps15
        go_upto_region 1 with fail
        have HB0 : Hid (Bw (w.alloc (.cells (mc s).toArray 33)) w.heap.size (mc s) 33) := heap_alloc_new w _
        have HW0 : Hid (Below w.heap.size w (w.alloc (.cells (mc s).toArray 33))) := (Below.refl _ w).alloc (Nat.le_refl _) _
        generalize w.alloc (.cells (mc s).toArray 33) = w0 at *
        have e0 := HB0.out.cell 0 _ rfl
        have e1 := HB0.out.cell 1 _ rfl
        have e2 := HB0.out.cell 2 _ rfl
        have e3 := HB0.out.cell 3 _ rfl
        have e4 := HB0.out.cell 4 _ rfl
        have e5 := HB0.out.cell 5 _ rfl
        have e6 := HB0.out.cell 6 _ rfl
        have e7 := HB0.out.cell 7 _ rfl
        have e8 := HB0.out.cell 8 _ rfl
        go_wp2_with fail
        go_ret
        exact ⟨rfl, HW0.out⟩
      | true =>
        have hn : Mk.nxB s = false := by rw [HN]; simp only [h]; simp; omega
        rw [HC2 (fun h => by rw [(HIF.1 h).2.2.2] at hn; cases hn)]
        clear hn
        have g0 : decide ((5 : Int) < (s.ph : Int)) = false := by simp; omega
        have g1 : decide ((34 : Int) < (s.nx : Int)) = false := by simp; omega
        have g2 : decide ((15 : Int) < (s.pr : Int)) = false := by simp; omega
        have g3 : decide (s.gl < s.fr) = false := by simp; omega
        have g4 : decide ((s.nx : Int) < 33) = false := by simp; omega
        have g5 : decide ((33 : Int) ≤ (s.nx : Int)) = true := by simp; omega
        clear HIF HC1 HC2 HL1 HL2 HP HN a0 a1 a2 a3 h b
        go_enter Try.func15, Try.ntmps15
        go_upto_region 1 with fail
        have HB0 : Hid (Bw (w.alloc (.cells (mc s).toArray 33)) w.heap.size (mc s) 33) := heap_alloc_new w _
        have HW0 : Hid (Below w.heap.size w (w.alloc (.cells (mc s).toArray 33))) := (Below.refl _ w).alloc (Nat.le_refl _) _
        generalize w.alloc (.cells (mc s).toArray 33) = w0 at *
        have e0 := HB0.out.cell 0 _ rfl
        have e1 := HB0.out.cell 1 _ rfl
        have e2 := HB0.out.cell 2 _ rfl
        have e3 := HB0.out.cell 3 _ rfl
        have e4 := HB0.out.cell 4 _ rfl
        have e5 := HB0.out.cell 5 _ rfl
        have e6 := HB0.out.cell 6 _ rfl
        have e7 := HB0.out.cell 7 _ rfl
        have e8 := HB0.out.cell 8 _ rfl
        go_wp2_with fail
        go_ret
        exact ⟨rfl, HW0.out⟩
  · have k1 : (s.ph : Int) = 2 := by omega
    by_cases b : s.nx < 33
    · cases ow with
      | false =>
        have hp : Mk.phB s = false := by rw [HP]; simp [h, how]
        rw [HC2 (fun h => by rw [(HIF.1 h).2.2.1] at hp; cases hp)]
        clear hp
        have g0 : decide ((5 : Int) < (s.ph : Int)) = false := by simp; omega
        have g1 : decide ((34 : Int) < (s.nx : Int)) = false := by simp; omega
        have g2 : decide ((15 : Int) < (s.pr : Int)) = false := by simp; omega
        have g3 : decide (s.gl < s.fr) = false := by simp; omega
        have g4 : decide ((s.nx : Int) < 33) = true := by simp; omega
        have g5 : decide ((33 : Int) ≤ (s.nx : Int)) = false := by simp; omega
        clear HIF HC1 HC2 HL1 HL2 HP HN a0 a1 a2 a3 h b
        go_enter Try.func15, Try.ntmps15
        go_upto_region 1 with fail
        have HB0 : Hid (Bw (w.alloc (.cells (mc s).toArray 33)) w.heap.size (mc s) 33) := heap_alloc_new w _
        have HW0 : Hid (Below w.heap.size w (w.alloc (.cells (mc s).toArray 33))) := (Below.refl _ w).alloc (Nat.le_refl _) _
        generalize w.alloc (.cells (mc s).toArray 33) = w0 at *
        have e0 := HB0.out.cell 0 _ rfl
        have e1 := HB0.out.cell 1 _ rfl
        have e2 := HB0.out.cell 2 _ rfl
        have e3 := HB0.out.cell 3 _ rfl
        have e4 := HB0.out.cell 4 _ rfl
        have e5 := HB0.out.cell 5 _ rfl
        have e6 := HB0.out.cell 6 _ rfl
        have e7 := HB0.out.cell 7 _ rfl
        have e8 := HB0.out.cell 8 _ rfl
        go_wp2_with fail
        go_ret
        exact ⟨rfl, HW0.out⟩
      | true =>
        have hp : Mk.phB s = true := by rw [HP]; simp [h, how]
        have hn : Mk.nxB s = true := by rw [HN]; simp only [h]; simp; omega
        rw [HC1 (HIF.2 ⟨a2, a3, hp, hn⟩)]
        clear hp hn
        have g0 : decide ((5 : Int) < (s.ph : Int)) = false := by simp; omega
        have g1 : decide ((34 : Int) < (s.nx : Int)) = false := by simp; omega
        have g2 : decide ((15 : Int) < (s.pr : Int)) = false := by simp; omega
        have g3 : decide (s.gl < s.fr) = false := by simp; omega
        have g4 : decide ((s.nx : Int) < 33) = true := by simp; omega
        have g5 : decide ((33 : Int) ≤ (s.nx : Int)) = false := by simp; omega
        clear HIF HC1 HC2 HL1 HL2 HP HN a0 a1 a2 a3 h b
        go_enter Try.func15, Try.ntmps15
        go_upto_region 1 with fail
        have HB0 : Hid (Bw (w.alloc (.cells (mc s).toArray 33)) w.heap.size (mc s) 33) := heap_alloc_new w _
        have HW0 : Hid (Below w.heap.size w (w.alloc (.cells (mc s).toArray 33))) := (Below.refl _ w).alloc (Nat.le_refl _) _
        generalize w.alloc (.cells (mc s).toArray 33) = w0 at *
        have e0 := HB0.out.cell 0 _ rfl
        have e1 := HB0.out.cell 1 _ rfl
        have e2 := HB0.out.cell 2 _ rfl
        have e3 := HB0.out.cell 3 _ rfl
        have e4 := HB0.out.cell 4 _ rfl
        have e5 := HB0.out.cell 5 _ rfl
        have e6 := HB0.out.cell 6 _ rfl
        have e7 := HB0.out.cell 7 _ rfl
        have e8 := HB0.out.cell 8 _ rfl
        go_wp2_with fail
        go_ret
        exact ⟨rfl, HW0.out⟩
    · cases ow with
      | false =>
        have hp : Mk.phB s = false := by rw [HP]; simp [h, how]
        rw [HC2 (fun h => by rw [(HIF.1 h).2.2.1] at hp; cases hp)]
        clear hp
        have g0 : decide ((5 : Int) < (s.ph : Int)) = false := by simp; omega
        have g1 : decide ((34 : Int) < (s.nx : Int)) = false := by simp; omega
        have g2 : decide ((15 : Int) < (s.pr : Int)) = false := by simp; omega
        have g3 : decide (s.gl < s.fr) = false := by simp; omega
        have g4 : decide ((s.nx : Int) < 33) = false := by simp; omega
        have g5 : decide ((33 : Int) ≤ (s.nx : Int)) = true := by simp; omega
        clear HIF HC1 HC2 HL1 HL2 HP HN a0 a1 a2 a3 h b
        go_enter Try.func15, Try.ntmps15
        go_upto_region 1 with fail
        have HB0 : Hid (Bw (w.alloc (.cells (mc s).toArray 33)) w.heap.size (mc s) 33) := heap_alloc_new w _
        have HW0 : Hid (Below w.heap.size w (w.alloc (.cells (mc s).toArray 33))) := (Below.refl _ w).alloc (Nat.le_refl _) _
        generalize w.alloc (.cells (mc s).toArray 33) = w0 at *
        have e0 := HB0.out.cell 0 _ rfl
        have e1 := HB0.out.cell 1 _ rfl
        have e2 := HB0.out.cell 2 _ rfl
        have e3 := HB0.out.cell 3 _ rfl
        have e4 := HB0.out.cell 4 _ rfl
        have e5 := HB0.out.cell 5 _ rfl
        have e6 := HB0.out.cell 6 _ rfl
        have e7 := HB0.out.cell 7 _ rfl
        have e8 := HB0.out.cell 8 _ rfl
        go_wp2_with fail
        go_ret
        exact ⟨rfl, HW0.out⟩
      | true =>
        have hn : Mk.nxB s = false := by rw [HN]; simp only [h]; simp; omega
        rw [HC2 (fun h => by rw [(HIF.1 h).2.2.2] at hn; cases hn)]
        clear hn
        have g0 : decide ((5 : Int) < (s.ph : Int)) = false := by simp; omega
        have g1 : decide ((34 : Int) < (s.nx : Int)) = false := by simp; omega
        have g2 : decide ((15 : Int) < (s.pr : Int)) = false := by simp; omega
        have g3 : decide (s.gl < s.fr) = false := by simp; omega
        have g4 : decide ((s.nx : Int) < 33) = false := by simp; omega
        have g5 : decide ((33 : Int) ≤ (s.nx : Int)) = true := by simp; omega
        clear HIF HC1 HC2 HL1 HL2 HP HN a0 a1 a2 a3 h b
        go_enter Try.func15, Try.ntmps15
        go_upto_region 1 with fail
        have HB0 : Hid (Bw (w.alloc (.cells (mc s).toArray 33)) w.heap.size (mc s) 33) := heap_alloc_new w _
        have HW0 : Hid (Below w.heap.size w (w.alloc (.cells (mc s).toArray 33))) := (Below.refl _ w).alloc (Nat.le_refl _) _
        generalize w.alloc (.cells (mc s).toArray 33) = w0 at *
        have e0 := HB0.out.cell 0 _ rfl
        have e1 := HB0.out.cell 1 _ rfl
        have e2 := HB0.out.cell 2 _ rfl
        have e3 := HB0.out.cell 3 _ rfl
        have e4 := HB0.out.cell 4 _ rfl
        have e5 := HB0.out.cell 5 _ rfl
        have e6 := HB0.out.cell 6 _ rfl
        have e7 := HB0.out.cell 7 _ rfl
        have e8 := HB0.out.cell 8 _ rfl
        go_wp2_with fail
        go_ret
        exact ⟨rfl, HW0.out⟩
  · have k1 : (s.ph : Int) = 3 := by omega
    by_cases b : s.nx < 33
    · cases ow with
      | false =>
        have hn : Mk.nxB s = false := by rw [HN]; simp only [h]; simp; omega
        rw [HC2 (fun h => by rw [(HIF.1 h).2.2.2] at hn; cases hn)]
        clear hn
        have g0 : decide ((5 : Int) < (s.ph : Int)) = false := by simp; omega
        have g1 : decide ((34 : Int) < (s.nx : Int)) = false := by simp; omega
        have g2 : decide ((15 : Int) < (s.pr : Int)) = false := by simp; omega
        have g3 : decide (s.gl < s.fr) = false := by simp; omega
        have g4 : decide ((s.nx : Int) < 33) = true := by simp; omega
        have g5 : decide ((33 : Int) ≤ (s.nx : Int)) = false := by simp; omega
        clear HIF HC1 HC2 HL1 HL2 HP HN a0 a1 a2 a3 h b
        go_enter Try.func15, Try.ntmps15
        go_upto_region 1 with fail
        have HB0 : Hid (Bw (w.alloc (.cells (mc s).toArray 33)) w.heap.size (mc s) 33) := heap_alloc_new w _
        have HW0 : Hid (Below w.heap.size w (w.alloc (.cells (mc s).toArray 33))) := (Below.refl _ w).alloc (Nat.le_refl _) _
        generalize w.alloc (.cells (mc s).toArray 33) = w0 at *
        have e0 := HB0.out.cell 0 _ rfl
        have e1 := HB0.out.cell 1 _ rfl
        have e2 := HB0.out.cell 2 _ rfl
        have e3 := HB0.out.cell 3 _ rfl
        have e4 := HB0.out.cell 4 _ rfl
        have e5 := HB0.out.cell 5 _ rfl
        have e6 := HB0.out.cell 6 _ rfl
        have e7 := HB0.out.cell 7 _ rfl
        have e8 := HB0.out.cell 8 _ rfl
        go_wp2_with fail
        go_ret
        exact ⟨rfl, HW0.out⟩
      | true =>
        have hp : Mk.phB s = false := by rw [HP]; simp [h, how]
        rw [HC2 (fun h => by rw [(HIF.1 h).2.2.1] at hp; cases hp)]
        clear hp
        have g0 : decide ((5 : Int) < (s.ph : Int)) = false := by simp; omega
        have g1 : decide ((34 : Int) < (s.nx : Int)) = false := by simp; omega
        have g2 : decide ((15 : Int) < (s.pr : Int)) = false := by simp; omega
        have g3 : decide (s.gl < s.fr) = false := by simp; omega
        have g4 : decide ((s.nx : Int) < 33) = true := by simp; omega
        have g5 : decide ((33 : Int) ≤ (s.nx : Int)) = false := by simp; omega
        clear HIF HC1 HC2 HL1 HL2 HP HN a0 a1 a2 a3 h b
        go_enter Try.func15, Try.ntmps15
        go_upto_region 1 with fail
        have HB0 : Hid (Bw (w.alloc (.cells (mc s).toArray 33)) w.heap.size (mc s) 33) := heap_alloc_new w _
        have HW0 : Hid (Below w.heap.size w (w.alloc (.cells (mc s).toArray 33))) := (Below.refl _ w).alloc (Nat.le_refl _) _
        generalize w.alloc (.cells (mc s).toArray 33) = w0 at *
        have e0 := HB0.out.cell 0 _ rfl
        have e1 := HB0.out.cell 1 _ rfl
        have e2 := HB0.out.cell 2 _ rfl
        have e3 := HB0.out.cell 3 _ rfl
        have e4 := HB0.out.cell 4 _ rfl
        have e5 := HB0.out.cell 5 _ rfl
        have e6 := HB0.out.cell 6 _ rfl
        have e7 := HB0.out.cell 7 _ rfl
        have e8 := HB0.out.cell 8 _ rfl
        go_wp2_with fail
        go_ret
        exact ⟨rfl, HW0.out⟩
    · cases ow with
      | false =>
        have hp : Mk.phB s = true := by rw [HP]; simp [h, how]
        have hn : Mk.nxB s = true := by rw [HN]; simp only [h]; simp; omega
        rw [HC1 (HIF.2 ⟨a2, a3, hp, hn⟩)]
        clear hp hn
        have g0 : decide ((5 : Int) < (s.ph : Int)) = false := by simp; omega
        have g1 : decide ((34 : Int) < (s.nx : Int)) = false := by simp; omega
        have g2 : decide ((15 : Int) < (s.pr : Int)) = false := by simp; omega
        have g3 : decide (s.gl < s.fr) = false := by simp; omega
        have g4 : decide ((s.nx : Int) < 33) = false := by simp; omega
        have g5 : decide ((33 : Int) ≤ (s.nx : Int)) = true := by simp; omega
        clear HIF HC1 HC2 HL1 HL2 HP HN a0 a1 a2 a3 h b
        go_enter Try.func15, Try.ntmps15
        go_upto_region 1 with fail
        have HB0 : Hid (Bw (w.alloc (.cells (mc s).toArray 33)) w.heap.size (mc s) 33) := heap_alloc_new w _
        have HW0 : Hid (Below w.heap.size w (w.alloc (.cells (mc s).toArray 33))) := (Below.refl _ w).alloc (Nat.le_refl _) _
        generalize w.alloc (.cells (mc s).toArray 33) = w0 at *
        have e0 := HB0.out.cell 0 _ rfl
        have e1 := HB0.out.cell 1 _ rfl
        have e2 := HB0.out.cell 2 _ rfl
        have e3 := HB0.out.cell 3 _ rfl
        have e4 := HB0.out.cell 4 _ rfl
        have e5 := HB0.out.cell 5 _ rfl
        have e6 := HB0.out.cell 6 _ rfl
        have e7 := HB0.out.cell 7 _ rfl
        have e8 := HB0.out.cell 8 _ rfl
        go_wp2_with fail
        go_ret
        exact ⟨rfl, HW0.out⟩
      | true =>
        have hp : Mk.phB s = false := by rw [HP]; simp [h, how]
        rw [HC2 (fun h => by rw [(HIF.1 h).2.2.1] at hp; cases hp)]
        clear hp
        have g0 : decide ((5 : Int) < (s.ph : Int)) = false := by simp; omega
        have g1 : decide ((34 : Int) < (s.nx : Int)) = false := by simp; omega
        have g2 : decide ((15 : Int) < (s.pr : Int)) = false := by simp; omega
        have g3 : decide (s.gl < s.fr) = false := by simp; omega
        have g4 : decide ((s.nx : Int) < 33) = false := by simp; omega
        have g5 : decide ((33 : Int) ≤ (s.nx : Int)) = true := by simp; omega
        clear HIF HC1 HC2 HL1 HL2 HP HN a0 a1 a2 a3 h b
        go_enter Try.func15, Try.ntmps15
        go_upto_region 1 with fail
        have HB0 : Hid (Bw (w.alloc (.cells (mc s).toArray 33)) w.heap.size (mc s) 33) := heap_alloc_new w _
        have HW0 : Hid (Below w.heap.size w (w.alloc (.cells (mc s).toArray 33))) := (Below.refl _ w).alloc (Nat.le_refl _) _
        generalize w.alloc (.cells (mc s).toArray 33) = w0 at *
        have e0 := HB0.out.cell 0 _ rfl
        have e1 := HB0.out.cell 1 _ rfl
        have e2 := HB0.out.cell 2 _ rfl
        have e3 := HB0.out.cell 3 _ rfl
        have e4 := HB0.out.cell 4 _ rfl
        have e5 := HB0.out.cell 5 _ rfl
        have e6 := HB0.out.cell 6 _ rfl
        have e7 := HB0.out.cell 7 _ rfl
        have e8 := HB0.out.cell 8 _ rfl
        go_wp2_with fail
        go_ret
        exact ⟨rfl, HW0.out⟩
  · have k1 : (s.ph : Int) = 4 := by omega
    by_cases b : s.nx < 33
    · cases ow with
      | false =>
        have hp : Mk.phB s = true := by rw [HP]; simp [h, how]
        have hn : Mk.nxB s = true := by rw [HN]; simp only [h]; simp; omega
        rw [HC1 (HIF.2 ⟨a2, a3, hp, hn⟩)]
        clear hp hn
        have g0 : decide ((5 : Int) < (s.ph : Int)) = false := by simp; omega
        have g1 : decide ((34 : Int) < (s.nx : Int)) = false := by simp; omega
        have g2 : decide ((15 : Int) < (s.pr : Int)) = false := by simp; omega
        have g3 : decide (s.gl < s.fr) = false := by simp; omega
        have g4 : decide ((s.nx : Int) < 33) = true := by simp; omega
        have g5 : decide ((33 : Int) ≤ (s.nx : Int)) = false := by simp; omega
        clear HIF HC1 HC2 HL1 HL2 HP HN a0 a1 a2 a3 h b
        go_enter Try.func15, Try.ntmps15
        go_upto_region 1 with fail
        have HB0 : Hid (Bw (w.alloc (.cells (mc s).toArray 33)) w.heap.size (mc s) 33) := heap_alloc_new w _
        have HW0 : Hid (Below w.heap.size w (w.alloc (.cells (mc s).toArray 33))) := (Below.refl _ w).alloc (Nat.le_refl _) _
        generalize w.alloc (.cells (mc s).toArray 33) = w0 at *
        have e0 := HB0.out.cell 0 _ rfl
        have e1 := HB0.out.cell 1 _ rfl
        have e2 := HB0.out.cell 2 _ rfl
        have e3 := HB0.out.cell 3 _ rfl
        have e4 := HB0.out.cell 4 _ rfl
        have e5 := HB0.out.cell 5 _ rfl
        have e6 := HB0.out.cell 6 _ rfl
        have e7 := HB0.out.cell 7 _ rfl
        have e8 := HB0.out.cell 8 _ rfl
        go_wp2_with fail
        go_ret
        exact ⟨rfl, HW0.out⟩
      | true =>
        have hp : Mk.phB s = false := by rw [HP]; simp [h, how]
        rw [HC2 (fun h => by rw [(HIF.1 h).2.2.1] at hp; cases hp)]
        clear hp
        have g0 : decide ((5 : Int) < (s.ph : Int)) = false := by simp; omega
        have g1 : decide ((34 : Int) < (s.nx : Int)) = false := by simp; omega
        have g2 : decide ((15 : Int) < (s.pr : Int)) = false := by simp; omega
        have g3 : decide (s.gl < s.fr) = false := by simp; omega
        have g4 : decide ((s.nx : Int) < 33) = true := by simp; omega
        have g5 : decide ((33 : Int) ≤ (s.nx : Int)) = false := by simp; omega
        clear HIF HC1 HC2 HL1 HL2 HP HN a0 a1 a2 a3 h b
        go_enter Try.func15, Try.ntmps15
        go_upto_region 1 with fail
        have HB0 : Hid (Bw (w.alloc (.cells (mc s).toArray 33)) w.heap.size (mc s) 33) := heap_alloc_new w _
        have HW0 : Hid (Below w.heap.size w (w.alloc (.cells (mc s).toArray 33))) := (Below.refl _ w).alloc (Nat.le_refl _) _
        generalize w.alloc (.cells (mc s).toArray 33) = w0 at *
        have e0 := HB0.out.cell 0 _ rfl
        have e1 := HB0.out.cell 1 _ rfl
        have e2 := HB0.out.cell 2 _ rfl
        have e3 := HB0.out.cell 3 _ rfl
        have e4 := HB0.out.cell 4 _ rfl
        have e5 := HB0.out.cell 5 _ rfl
        have e6 := HB0.out.cell 6 _ rfl
        have e7 := HB0.out.cell 7 _ rfl
        have e8 := HB0.out.cell 8 _ rfl
        go_wp2_with fail
        go_ret
        exact ⟨rfl, HW0.out⟩
    · cases ow with
      | false =>
        have hn : Mk.nxB s = false := by rw [HN]; simp only [h]; simp; omega
        rw [HC2 (fun h => by rw [(HIF.1 h).2.2.2] at hn; cases hn)]
        clear hn
        have g0 : decide ((5 : Int) < (s.ph : Int)) = false := by simp; omega
        have g1 : decide ((34 : Int) < (s.nx : Int)) = false := by simp; omega
        have g2 : decide ((15 : Int) < (s.pr : Int)) = false := by simp; omega
        have g3 : decide (s.gl < s.fr) = false := by simp; omega
        have g4 : decide ((s.nx : Int) < 33) = false := by simp; omega
        have g5 : decide ((33 : Int) ≤ (s.nx : Int)) = true := by simp; omega
        clear HIF HC1 HC2 HL1 HL2 HP HN a0 a1 a2 a3 h b
        go_enter Try.func15, Try.ntmps15
        go_upto_region 1 with fail
        have HB0 : Hid (Bw (w.alloc (.cells (mc s).toArray 33)) w.heap.size (mc s) 33) := heap_alloc_new w _
        have HW0 : Hid (Below w.heap.size w (w.alloc (.cells (mc s).toArray 33))) := (Below.refl _ w).alloc (Nat.le_refl _) _
        generalize w.alloc (.cells (mc s).toArray 33) = w0 at *
        have e0 := HB0.out.cell 0 _ rfl
        have e1 := HB0.out.cell 1 _ rfl
        have e2 := HB0.out.cell 2 _ rfl
        have e3 := HB0.out.cell 3 _ rfl
        have e4 := HB0.out.cell 4 _ rfl
        have e5 := HB0.out.cell 5 _ rfl
        have e6 := HB0.out.cell 6 _ rfl
        have e7 := HB0.out.cell 7 _ rfl
        have e8 := HB0.out.cell 8 _ rfl
        go_wp2_with fail
        go_ret
        exact ⟨rfl, HW0.out⟩
      | true =>
        have hp : Mk.phB s = false := by rw [HP]; simp [h, how]
        rw [HC2 (fun h => by rw [(HIF.1 h).2.2.1] at hp; cases hp)]
        clear hp
        have g0 : decide ((5 : Int) < (s.ph : Int)) = false := by simp; omega
        have g1 : decide ((34 : Int) < (s.nx : Int)) = false := by simp; omega
        have g2 : decide ((15 : Int) < (s.pr : Int)) = false := by simp; omega
        have g3 : decide (s.gl < s.fr) = false := by simp; omega
        have g4 : decide ((s.nx : Int) < 33) = false := by simp; omega
        have g5 : decide ((33 : Int) ≤ (s.nx : Int)) = true := by simp; omega
        clear HIF HC1 HC2 HL1 HL2 HP HN a0 a1 a2 a3 h b
        go_enter Try.func15, Try.ntmps15
        go_upto_region 1 with fail
        have HB0 : Hid (Bw (w.alloc (.cells (mc s).toArray 33)) w.heap.size (mc s) 33) := heap_alloc_new w _
        have HW0 : Hid (Below w.heap.size w (w.alloc (.cells (mc s).toArray 33))) := (Below.refl _ w).alloc (Nat.le_refl _) _
        generalize w.alloc (.cells (mc s).toArray 33) = w0 at *
        have e0 := HB0.out.cell 0 _ rfl
        have e1 := HB0.out.cell 1 _ rfl
        have e2 := HB0.out.cell 2 _ rfl
        have e3 := HB0.out.cell 3 _ rfl
        have e4 := HB0.out.cell 4 _ rfl
        have e5 := HB0.out.cell 5 _ rfl
        have e6 := HB0.out.cell 6 _ rfl
        have e7 := HB0.out.cell 7 _ rfl
        have e8 := HB0.out.cell 8 _ rfl
        go_wp2_with fail
        go_ret
        exact ⟨rfl, HW0.out⟩
  · have k1 : (s.ph : Int) = 5 := by omega
    by_cases b : s.nx < 33
    · cases ow with
      | false =>
        have hp : Mk.phB s = true := by rw [HP]; simp [h, how]
        have hn : Mk.nxB s = true := by rw [HN]; simp only [h]; simp; omega
        rw [HC1 (HIF.2 ⟨a2, a3, hp, hn⟩)]
        clear hp hn
        have g0 : decide ((5 : Int) < (s.ph : Int)) = false := by simp; omega
        have g1 : decide ((34 : Int) < (s.nx : Int)) = false := by simp; omega
        have g2 : decide ((15 : Int) < (s.pr : Int)) = false := by simp; omega
        have g3 : decide (s.gl < s.fr) = false := by simp; omega
        have g4 : decide ((s.nx : Int) < 33) = true := by simp; omega
        have g5 : decide ((33 : Int) ≤ (s.nx : Int)) = false := by simp; omega
        clear HIF HC1 HC2 HL1 HL2 HP HN a0 a1 a2 a3 h b
        go_enter Try.func15, Try.ntmps15
        go_upto_region 1 with fail
        have HB0 : Hid (Bw (w.alloc (.cells (mc s).toArray 33)) w.heap.size (mc s) 33) := heap_alloc_new w _
        have HW0 : Hid (Below w.heap.size w (w.alloc (.cells (mc s).toArray 33))) := (Below.refl _ w).alloc (Nat.le_refl _) _
        generalize w.alloc (.cells (mc s).toArray 33) = w0 at *
        have e0 := HB0.out.cell 0 _ rfl
        have e1 := HB0.out.cell 1 _ rfl
        have e2 := HB0.out.cell 2 _ rfl
        have e3 := HB0.out.cell 3 _ rfl
        have e4 := HB0.out.cell 4 _ rfl
        have e5 := HB0.out.cell 5 _ rfl
        have e6 := HB0.out.cell 6 _ rfl
        have e7 := HB0.out.cell 7 _ rfl
        have e8 := HB0.out.cell 8 _ rfl
        go_wp2_with fail
        go_ret
        exact ⟨rfl, HW0.out⟩
      | true =>
        have hp : Mk.phB s = false := by rw [HP]; simp [h, how]
        rw [HC2 (fun h => by rw [(HIF.1 h).2.2.1] at hp; cases hp)]
        clear hp
        have g0 : decide ((5 : Int) < (s.ph : Int)) = false := by simp; omega
        have g1 : decide ((34 : Int) < (s.nx : Int)) = false := by simp; omega
        have g2 : decide ((15 : Int) < (s.pr : Int)) = false := by simp; omega
        have g3 : decide (s.gl < s.fr) = false := by simp; omega
        have g4 : decide ((s.nx : Int) < 33) = true := by simp; omega
        have g5 : decide ((33 : Int) ≤ (s.nx : Int)) = false := by simp; omega
        clear HIF HC1 HC2 HL1 HL2 HP HN a0 a1 a2 a3 h b
        go_enter Try.func15, Try.ntmps15
        go_upto_region 1 with fail
        have HB0 : Hid (Bw (w.alloc (.cells (mc s).toArray 33)) w.heap.size (mc s) 33) := heap_alloc_new w _
        have HW0 : Hid (Below w.heap.size w (w.alloc (.cells (mc s).toArray 33))) := (Below.refl _ w).alloc (Nat.le_refl _) _
        generalize w.alloc (.cells (mc s).toArray 33) = w0 at *
        have e0 := HB0.out.cell 0 _ rfl
        have e1 := HB0.out.cell 1 _ rfl
        have e2 := HB0.out.cell 2 _ rfl
        have e3 := HB0.out.cell 3 _ rfl
        have e4 := HB0.out.cell 4 _ rfl
        have e5 := HB0.out.cell 5 _ rfl
        have e6 := HB0.out.cell 6 _ rfl
        have e7 := HB0.out.cell 7 _ rfl
        have e8 := HB0.out.cell 8 _ rfl
        go_wp2_with fail
        go_ret
        exact ⟨rfl, HW0.out⟩
    · cases ow with
      | false =>
        have hn : Mk.nxB s = false := by rw [HN]; simp only [h]; simp; omega
        rw [HC2 (fun h => by rw [(HIF.1 h).2.2.2] at hn; cases hn)]
        clear hn
        have g0 : decide ((5 : Int) < (s.ph : Int)) = false := by simp; omega
        have g1 : decide ((34 : Int) < (s.nx : Int)) = false := by simp; omega
        have g2 : decide ((15 : Int) < (s.pr : Int)) = false := by simp; omega
        have g3 : decide (s.gl < s.fr) = false := by simp; omega
        have g4 : decide ((s.nx : Int) < 33) = false := by simp; omega
        have g5 : decide ((33 : Int) ≤ (s.nx : Int)) = true := by simp; omega
        clear HIF HC1 HC2 HL1 HL2 HP HN a0 a1 a2 a3 h b
        go_enter Try.func15, Try.ntmps15
        go_upto_region 1 with fail
        have HB0 : Hid (Bw (w.alloc (.cells (mc s).toArray 33)) w.heap.size (mc s) 33) := heap_alloc_new w _
        have HW0 : Hid (Below w.heap.size w (w.alloc (.cells (mc s).toArray 33))) := (Below.refl _ w).alloc (Nat.le_refl _) _
        generalize w.alloc (.cells (mc s).toArray 33) = w0 at *
        have e0 := HB0.out.cell 0 _ rfl
        have e1 := HB0.out.cell 1 _ rfl
        have e2 := HB0.out.cell 2 _ rfl
        have e3 := HB0.out.cell 3 _ rfl
        have e4 := HB0.out.cell 4 _ rfl
        have e5 := HB0.out.cell 5 _ rfl
        have e6 := HB0.out.cell 6 _ rfl
        have e7 := HB0.out.cell 7 _ rfl
        have e8 := HB0.out.cell 8 _ rfl
        go_wp2_with fail
        go_ret
        exact ⟨rfl, HW0.out⟩
      | true =>
        have hp : Mk.phB s = false := by rw [HP]; simp [h, how]
        rw [HC2 (fun h => by rw [(HIF.1 h).2.2.1] at hp; cases hp)]
        clear hp
        have g0 : decide ((5 : Int) < (s.ph : Int)) = false := by simp; omega
        have g1 : decide ((34 : Int) < (s.nx : Int)) = false := by simp; omega
        have g2 : decide ((15 : Int) < (s.pr : Int)) = false := by simp; omega
        have g3 : decide (s.gl < s.fr) = false := by simp; omega
        have g4 : decide ((s.nx : Int) < 33) = false := by simp; omega
        have g5 : decide ((33 : Int) ≤ (s.nx : Int)) = true := by simp; omega
        clear HIF HC1 HC2 HL1 HL2 HP HN a0 a1 a2 a3 h b
        go_enter Try.func15, Try.ntmps15
        go_upto_region 1 with fail
        have HB0 : Hid (Bw (w.alloc (.cells (mc s).toArray 33)) w.heap.size (mc s) 33) := heap_alloc_new w _
        have HW0 : Hid (Below w.heap.size w (w.alloc (.cells (mc s).toArray 33))) := (Below.refl _ w).alloc (Nat.le_refl _) _
        generalize w.alloc (.cells (mc s).toArray 33) = w0 at *
        have e0 := HB0.out.cell 0 _ rfl
        have e1 := HB0.out.cell 1 _ rfl
        have e2 := HB0.out.cell 2 _ rfl
        have e3 := HB0.out.cell 3 _ rfl
        have e4 := HB0.out.cell 4 _ rfl
        have e5 := HB0.out.cell 5 _ rfl
        have e6 := HB0.out.cell 6 _ rfl
        have e7 := HB0.out.cell 7 _ rfl
        have e8 := HB0.out.cell 8 _ rfl
        go_wp2_with fail
        go_ret
        exact ⟨rfl, HW0.out⟩
end Go.Proofs.Ytjionpkflpnejaa

namespace Go.Proofs.Ytjionpkflpnejaa
open Go.RowKit Go.Shelf

set_option maxRecDepth 100000 in
set_option maxHeartbeats 8000000 in
theorem refPutM_any (s : Ms) (w : World) (hw : s.Wide) :
    Calls Try.prog 9 #[.agg (mc s).toArray] w fun e w' => e = .returned (.tuple #[.string (txt (Mk.put s)), .int .i64 (Mk.chkM s)]) ∧ Below w.heap.size w w' := by
  have HWD := Lib.hid hw
  clear hw
  go_enter Try.func9, Try.ntmps9
  go_upto_region 1 with fail
  have HB0 : Hid (Bw (w.alloc (.cells (mc s).toArray 33)) w.heap.size (mc s) 33) := heap_alloc_new w _
  have HW0 : Hid (Below w.heap.size w (w.alloc (.cells (mc s).toArray 33))) := (Below.refl _ w).alloc (Nat.le_refl _) _
  generalize w.alloc (.cells (mc s).toArray 33) = wa at *
  go_wp2_with (refine wpList_load_part rfl 33 (.tmp 1) rfl w.heap.size 0 rfl _ Try.underlying33 rfl (mc s) 33 _ HB0.out size_M15 (fun j u hu => by rw [Nat.zero_add]; exact hu) ?_)
  refine (refCheckM_any s wa).mono ?_
  rintro e w1 ⟨rfl, hb⟩
  have HB1 := Lib.hid (HB0.out.below hb)
  have HW1 := Lib.hid (HW0.out.trans (hb.mono HW0.out.size))
  clear hb HB0 HW0
  by_cases hok : Mk.okM s = true
  rotate_left
  · have hz : Mk.chkM s = 1 := if_neg hok
    have HP : Hid (Mk.put s = []) := if_neg (fun h => hok h.1)
    have HE := Lib.hid hz
    rw [hz]
    clear hz hok
    go_wp2_with fail
    go_ret2
    exact ⟨by rw [HP.out, HE.out]; rfl, HW1.out⟩
  have hz : Mk.chkM s = 0 := if_pos hok
  have HE := Lib.hid hz
  have heq : ∀ W : World, (binOp .eql 33 (.agg (mc s).toArray) (.agg #[.bool false, .int .u32 0, .int .u32 0, .int .u64 0, .int .u64 0, .int .u64 0, .int .u64 0, .int .u32 0, .int .u32 0])).run Try.prog W = .ok (.bool (decide (s = Mk.zero))) W := rEq s Mk.zero
  by_cases hzr : s = Mk.zero
  · have HP : Hid (Mk.put s = []) := if_neg (fun h => h.2 hzr)
    rw [decide_eq_true hzr] at heq
    rw [hz]
    clear hz hok hzr
    go_wp2_with (first
      | (refine wpList_load_part rfl 33 (.tmp 1) rfl _ 0 rfl _ Try.underlying33 rfl (mc s) 33 _ HB1.out size_M15 (fun j u hu => by rw [Nat.zero_add]; exact hu) ?_)
      | (refine Did.list rfl (did_build 33 #[] rfl (mc Mk.zero).toArray (by exact built_M15z)) ?_))
    go_ret2
    exact ⟨by rw [HP.out, HE.out]; rfl, HW1.out⟩
  have HP : Hid (Mk.put s = Mk.enc s) := if_pos ⟨hok, hzr⟩
  rw [decide_eq_false hzr] at heq
  rw [hz]
  clear hz hok hzr
  go_upto_region 6 with (first
      | (refine wpList_load_part rfl 33 (.tmp 1) rfl _ 0 rfl _ Try.underlying33 rfl (mc s) 33 _ HB1.out size_M15 (fun j u hu => by rw [Nat.zero_add]; exact hu) ?_)
      | (refine Did.list rfl (did_build 33 #[] rfl (mc Mk.zero).toArray (by exact built_M15z)) ?_))
  clear heq
  have HSa0 : Hid ((fun W : World => Bw W w.heap.size (mc s) 33) w1.drew) := HB1.out
  have HGa0 : Hid (Below w.heap.size w w1.drew) := HW1.out.drew
  clear HB1 HW1
  refine wp_region_held_drew (S := fun W : World => Bw W w.heap.size (mc s) 33) (by kernel_rfl) HSa0.out (fun _ => ?_)
  change wpAnyH _ _ _ _ _ 12 (Array.replicate 12 false) _ _
  refine takeH (i := 0) 14 (.pointer (some ⟨w.heap.size, 0, none⟩)) rfl rfl (by kernel_rfl) (by kernel_rfl) (by kernel_rfl) (fun _ _ _ h => h) (.inl ⟨by rfl, fun W hW => by go_simp⟩) HSa0.out ?_
  simp only [Act.put, List.setIfInBounds_toArray, List.set_cons_zero, List.set_cons_succ]
  refine takeH (i := 1) 15 (.bool s.ow) rfl rfl (by kernel_rfl) (by kernel_rfl) (by kernel_rfl) (fun _ _ _ h => h) (.inl ⟨by rfl, fun W hW => by (have hz := hW.cell 0 _ rfl; go_simp)⟩) HSa0.out ?_
  simp only [Act.put, List.setIfInBounds_toArray, List.set_cons_zero, List.set_cons_succ]
  refine takeH (i := 3) 17 (.pointer (some ⟨w.heap.size, 1, none⟩)) rfl rfl (by kernel_rfl) (by kernel_rfl) (by kernel_rfl) (fun _ _ _ h => h) (.inl ⟨by rfl, fun W hW => by go_simp⟩) HSa0.out ?_
  simp only [Act.put, List.setIfInBounds_toArray, List.set_cons_zero, List.set_cons_succ]
  refine takeH (i := 4) 18 (.int .u32 (s.ph : Int)) rfl rfl (by kernel_rfl) (by kernel_rfl) (by kernel_rfl) (fun _ _ _ h => h) (.inl ⟨by rfl, fun W hW => by (have hz := hW.cell 1 _ rfl; go_simp)⟩) HSa0.out ?_
  simp only [Act.put, List.setIfInBounds_toArray, List.set_cons_zero, List.set_cons_succ]
  refine takeH (i := 7) 21 (.pointer (some ⟨w.heap.size, 2, none⟩)) rfl rfl (by kernel_rfl) (by kernel_rfl) (by kernel_rfl) (fun _ _ _ h => h) (.inl ⟨by rfl, fun W hW => by go_simp⟩) HSa0.out ?_
  simp only [Act.put, List.setIfInBounds_toArray, List.set_cons_zero, List.set_cons_succ]
  refine takeH (i := 8) 22 (.int .u32 (s.pr : Int)) rfl rfl (by kernel_rfl) (by kernel_rfl) (by kernel_rfl) (fun _ _ _ h => h) (.inl ⟨by rfl, fun W hW => by (have hz := hW.cell 2 _ rfl; go_simp)⟩) HSa0.out ?_
  simp only [Act.put, List.setIfInBounds_toArray, List.set_cons_zero, List.set_cons_succ]
  refine wpAnyH_ready (rs := [2]) (by kernel_rfl) (by simp) ?_
  refine AllReadyH.cons rfl (fun K hK => ?_) AllReadyH.nil
  go_simp
  refine (refBool s.ow _).mono ?_
  rintro e wa1 ⟨rfl, hba1⟩
  have HGa1 := Lib.hid (HGa0.out.trans (hba1.mono HGa0.out.size))
  have HSa1 : Hid ((fun W : World => Bw W w.heap.size (mc s) 33) wa1) := HSa0.out.below hba1
  refine hK.out _ _ HSa1.out fun _ => ?_
  clear hK K hba1 HSa0 HGa0
  refine wpAnyH_ready (rs := [5]) (by kernel_rfl) (by simp) ?_
  refine AllReadyH.cons rfl (fun K hK => ?_) AllReadyH.nil
  go_simp
  refine ((refU32 (s.ph : Int) _ (by have := HWD.out.hph; omega) (by have := HWD.out.hph; omega))).mono ?_
  rintro e wa2 ⟨rfl, hba2⟩
  rw [Int.toNat_natCast]
  have HGa2 := Lib.hid (HGa1.out.trans (hba2.mono HGa1.out.size))
  have HSa2 : Hid ((fun W : World => Bw W w.heap.size (mc s) 33) wa2) := HSa1.out.below hba2
  refine hK.out _ _ HSa2.out fun _ => ?_
  clear hK K hba2 HSa1 HGa1
  obtain ⟨q1, hq⟩ : ∃ q, be 4 (b01 s.ow) ++ be 4 s.ph = q := ⟨_, rfl⟩
  have HLq1 : Hid (q1.length ≤ 8) := by show _ ≤ _; rw [← hq, List.length_append, be_length, be_length]; omega
  have y : ¬ 9223372036854775807 < (txt (be 4 (b01 s.ow))).size + (txt (be 4 s.ph)).size := by have h9 := HLq1.out; rw [← hq, List.length_append] at h9; rw [txt_size, txt_size]; omega
  have z : txt (be 4 (b01 s.ow)) ++ txt (be 4 s.ph) = txt q1 := by rw [txt_append, hq]
  have HQq1 := Lib.hid hq
  clear hq
  refine takeH (i := 6) 20 (.string (txt q1)) rfl rfl (by kernel_rfl) (by kernel_rfl) (by kernel_rfl) (fun _ _ _ h => h) (.inl ⟨by rfl, fun W hW => by go_simp⟩) HSa2.out ?_
  simp only [Act.put, List.setIfInBounds_toArray, List.set_cons_zero, List.set_cons_succ]
  clear y z
  refine wpAnyH_ready (rs := [9]) (by kernel_rfl) (by simp) ?_
  refine AllReadyH.cons rfl (fun K hK => ?_) AllReadyH.nil
  go_simp
  refine ((refU32 (s.pr : Int) _ (by have := HWD.out.hpr; omega) (by have := HWD.out.hpr; omega))).mono ?_
  rintro e wa3 ⟨rfl, hba3⟩
  rw [Int.toNat_natCast]
  have HGa3 := Lib.hid (HGa2.out.trans (hba3.mono HGa2.out.size))
  have HSa3 : Hid ((fun W : World => Bw W w.heap.size (mc s) 33) wa3) := HSa2.out.below hba3
  refine hK.out _ _ HSa3.out fun _ => ?_
  clear hK K hba3 HSa2 HGa2
  obtain ⟨q2, hq⟩ : ∃ q, q1 ++ be 4 s.pr = q := ⟨_, rfl⟩
  have HLq2 : Hid (q2.length ≤ 12) := by show _ ≤ _; rw [← hq, List.length_append, be_length]; have := HLq1.out; omega
  have y : ¬ 9223372036854775807 < (txt (q1)).size + (txt (be 4 s.pr)).size := by have h9 := HLq2.out; rw [← hq, List.length_append] at h9; rw [txt_size, txt_size]; omega
  have z : txt (q1) ++ txt (be 4 s.pr) = txt q2 := by rw [txt_append, hq]
  have HQq2 := Lib.hid hq
  clear hq
  refine takeH (i := 10) 24 (.string (txt q2)) rfl rfl (by kernel_rfl) (by kernel_rfl) (by kernel_rfl) (fun _ _ _ h => h) (.inl ⟨by rfl, fun W hW => by go_simp⟩) HSa3.out ?_
  simp only [Act.put, List.setIfInBounds_toArray, List.set_cons_zero, List.set_cons_succ]
  clear y z
  refine takeH (i := 11) 5 (.string (txt q2)) rfl rfl (by kernel_rfl) (by kernel_rfl) (by kernel_rfl) (fun _ _ _ h => h) (.inl ⟨by rfl, fun W hW => by go_simp⟩) HSa3.out ?_
  simp only [Act.put, List.setIfInBounds_toArray, List.set_cons_zero, List.set_cons_succ]
  refine wpAnyH_done (by kernel_rfl) ?_ _
  go_upto_region 7 with fail
  have HSb0 : Hid ((fun W : World => Bw W w.heap.size (mc s) 33) wa3.drew) := HSa3.out
  have HGb0 : Hid (Below w.heap.size w wa3.drew) := HGa3.out.drew
  clear HSa3 HGa3
  refine wp_region_held_drew (S := fun W : World => Bw W w.heap.size (mc s) 33) (by kernel_rfl) HSb0.out (fun _ => ?_)
  change wpAnyH _ _ _ _ _ 18 (Array.replicate 18 false) _ _
  refine takeH (i := 0) 25 (.string (txt q2)) rfl rfl (by kernel_rfl) (by kernel_rfl) (by kernel_rfl) (fun _ _ _ h => h) (.inl ⟨by rfl, fun W hW => by go_simp⟩) HSb0.out ?_
  simp only [Act.put, List.setIfInBounds_toArray, List.set_cons_zero, List.set_cons_succ]
  refine takeH (i := 1) 26 (.pointer (some ⟨w.heap.size, 3, none⟩)) rfl rfl (by kernel_rfl) (by kernel_rfl) (by kernel_rfl) (fun _ _ _ h => h) (.inl ⟨by rfl, fun W hW => by go_simp⟩) HSb0.out ?_
  simp only [Act.put, List.setIfInBounds_toArray, List.set_cons_zero, List.set_cons_succ]
  refine takeH (i := 2) 27 (.int .u64 (s.ep : Int)) rfl rfl (by kernel_rfl) (by kernel_rfl) (by kernel_rfl) (fun _ _ _ h => h) (.inl ⟨by rfl, fun W hW => by (have hz := hW.cell 3 _ rfl; go_simp)⟩) HSb0.out ?_
  simp only [Act.put, List.setIfInBounds_toArray, List.set_cons_zero, List.set_cons_succ]
  refine takeH (i := 4) 29 (.pointer (some ⟨w.heap.size, 4, none⟩)) rfl rfl (by kernel_rfl) (by kernel_rfl) (by kernel_rfl) (fun _ _ _ h => h) (.inl ⟨by rfl, fun W hW => by go_simp⟩) HSb0.out ?_
  simp only [Act.put, List.setIfInBounds_toArray, List.set_cons_zero, List.set_cons_succ]
  refine takeH (i := 5) 30 (.int .u64 (s.sq : Int)) rfl rfl (by kernel_rfl) (by kernel_rfl) (by kernel_rfl) (fun _ _ _ h => h) (.inl ⟨by rfl, fun W hW => by (have hz := hW.cell 4 _ rfl; go_simp)⟩) HSb0.out ?_
  simp only [Act.put, List.setIfInBounds_toArray, List.set_cons_zero, List.set_cons_succ]
  refine takeH (i := 8) 33 (.pointer (some ⟨w.heap.size, 5, none⟩)) rfl rfl (by kernel_rfl) (by kernel_rfl) (by kernel_rfl) (fun _ _ _ h => h) (.inl ⟨by rfl, fun W hW => by go_simp⟩) HSb0.out ?_
  simp only [Act.put, List.setIfInBounds_toArray, List.set_cons_zero, List.set_cons_succ]
  refine takeH (i := 9) 34 (.int .u64 (s.fr : Int)) rfl rfl (by kernel_rfl) (by kernel_rfl) (by kernel_rfl) (fun _ _ _ h => h) (.inl ⟨by rfl, fun W hW => by (have hz := hW.cell 5 _ rfl; go_simp)⟩) HSb0.out ?_
  simp only [Act.put, List.setIfInBounds_toArray, List.set_cons_zero, List.set_cons_succ]
  refine takeH (i := 12) 37 (.pointer (some ⟨w.heap.size, 6, none⟩)) rfl rfl (by kernel_rfl) (by kernel_rfl) (by kernel_rfl) (fun _ _ _ h => h) (.inl ⟨by rfl, fun W hW => by go_simp⟩) HSb0.out ?_
  simp only [Act.put, List.setIfInBounds_toArray, List.set_cons_zero, List.set_cons_succ]
  refine takeH (i := 13) 38 (.int .u64 (s.gl : Int)) rfl rfl (by kernel_rfl) (by kernel_rfl) (by kernel_rfl) (fun _ _ _ h => h) (.inl ⟨by rfl, fun W hW => by (have hz := hW.cell 6 _ rfl; go_simp)⟩) HSb0.out ?_
  simp only [Act.put, List.setIfInBounds_toArray, List.set_cons_zero, List.set_cons_succ]
  refine wpAnyH_ready (rs := [3]) (by kernel_rfl) (by simp) ?_
  refine AllReadyH.cons rfl (fun K hK => ?_) AllReadyH.nil
  go_simp
  refine (refU64 s.ep _ HWD.out.hep).mono ?_
  rintro e wb1 ⟨rfl, hbb1⟩
  have HGb1 := Lib.hid (HGb0.out.trans (hbb1.mono HGb0.out.size))
  have HSb1 : Hid ((fun W : World => Bw W w.heap.size (mc s) 33) wb1) := HSb0.out.below hbb1
  refine hK.out _ _ HSb1.out fun _ => ?_
  clear hK K hbb1 HSb0 HGb0
  refine wpAnyH_ready (rs := [6]) (by kernel_rfl) (by simp) ?_
  refine AllReadyH.cons rfl (fun K hK => ?_) AllReadyH.nil
  go_simp
  refine (refU64 s.sq _ HWD.out.hsq).mono ?_
  rintro e wb2 ⟨rfl, hbb2⟩
  have HGb2 := Lib.hid (HGb1.out.trans (hbb2.mono HGb1.out.size))
  have HSb2 : Hid ((fun W : World => Bw W w.heap.size (mc s) 33) wb2) := HSb1.out.below hbb2
  refine hK.out _ _ HSb2.out fun _ => ?_
  clear hK K hbb2 HSb1 HGb1
  obtain ⟨q3, hq⟩ : ∃ q, be 8 s.ep ++ be 8 s.sq = q := ⟨_, rfl⟩
  have HLq3 : Hid (q3.length ≤ 16) := by show _ ≤ _; rw [← hq, List.length_append, be_length, be_length]; omega
  have y : ¬ 9223372036854775807 < (txt (be 8 s.ep)).size + (txt (be 8 s.sq)).size := by have h9 := HLq3.out; rw [← hq, List.length_append] at h9; rw [txt_size, txt_size]; omega
  have z : txt (be 8 s.ep) ++ txt (be 8 s.sq) = txt q3 := by rw [txt_append, hq]
  have HQq3 := Lib.hid hq
  clear hq
  refine takeH (i := 7) 32 (.string (txt q3)) rfl rfl (by kernel_rfl) (by kernel_rfl) (by kernel_rfl) (fun _ _ _ h => h) (.inl ⟨by rfl, fun W hW => by go_simp⟩) HSb2.out ?_
  simp only [Act.put, List.setIfInBounds_toArray, List.set_cons_zero, List.set_cons_succ]
  clear y z
  refine wpAnyH_ready (rs := [10]) (by kernel_rfl) (by simp) ?_
  refine AllReadyH.cons rfl (fun K hK => ?_) AllReadyH.nil
  go_simp
  refine (refU64 s.fr _ HWD.out.hfr).mono ?_
  rintro e wb3 ⟨rfl, hbb3⟩
  have HGb3 := Lib.hid (HGb2.out.trans (hbb3.mono HGb2.out.size))
  have HSb3 : Hid ((fun W : World => Bw W w.heap.size (mc s) 33) wb3) := HSb2.out.below hbb3
  refine hK.out _ _ HSb3.out fun _ => ?_
  clear hK K hbb3 HSb2 HGb2
  obtain ⟨q4, hq⟩ : ∃ q, q3 ++ be 8 s.fr = q := ⟨_, rfl⟩
  have HLq4 : Hid (q4.length ≤ 24) := by show _ ≤ _; rw [← hq, List.length_append, be_length]; have := HLq3.out; omega
  have y : ¬ 9223372036854775807 < (txt (q3)).size + (txt (be 8 s.fr)).size := by have h9 := HLq4.out; rw [← hq, List.length_append] at h9; rw [txt_size, txt_size]; omega
  have z : txt (q3) ++ txt (be 8 s.fr) = txt q4 := by rw [txt_append, hq]
  have HQq4 := Lib.hid hq
  clear hq
  refine takeH (i := 11) 36 (.string (txt q4)) rfl rfl (by kernel_rfl) (by kernel_rfl) (by kernel_rfl) (fun _ _ _ h => h) (.inl ⟨by rfl, fun W hW => by go_simp⟩) HSb3.out ?_
  simp only [Act.put, List.setIfInBounds_toArray, List.set_cons_zero, List.set_cons_succ]
  clear y z
  refine wpAnyH_ready (rs := [14]) (by kernel_rfl) (by simp) ?_
  refine AllReadyH.cons rfl (fun K hK => ?_) AllReadyH.nil
  go_simp
  refine (refU64 s.gl _ HWD.out.hgl).mono ?_
  rintro e wb4 ⟨rfl, hbb4⟩
  have HGb4 := Lib.hid (HGb3.out.trans (hbb4.mono HGb3.out.size))
  have HSb4 : Hid ((fun W : World => Bw W w.heap.size (mc s) 33) wb4) := HSb3.out.below hbb4
  refine hK.out _ _ HSb4.out fun _ => ?_
  clear hK K hbb4 HSb3 HGb3
  obtain ⟨q5, hq⟩ : ∃ q, q4 ++ be 8 s.gl = q := ⟨_, rfl⟩
  have HLq5 : Hid (q5.length ≤ 32) := by show _ ≤ _; rw [← hq, List.length_append, be_length]; have := HLq4.out; omega
  have y : ¬ 9223372036854775807 < (txt (q4)).size + (txt (be 8 s.gl)).size := by have h9 := HLq5.out; rw [← hq, List.length_append] at h9; rw [txt_size, txt_size]; omega
  have z : txt (q4) ++ txt (be 8 s.gl) = txt q5 := by rw [txt_append, hq]
  have HQq5 := Lib.hid hq
  clear hq
  refine takeH (i := 15) 40 (.string (txt q5)) rfl rfl (by kernel_rfl) (by kernel_rfl) (by kernel_rfl) (fun _ _ _ h => h) (.inl ⟨by rfl, fun W hW => by go_simp⟩) HSb4.out ?_
  simp only [Act.put, List.setIfInBounds_toArray, List.set_cons_zero, List.set_cons_succ]
  clear y z
  obtain ⟨q6, hq⟩ : ∃ q, q2 ++ q5 = q := ⟨_, rfl⟩
  have HLq6 : Hid (q6.length ≤ 44) := by show _ ≤ _; rw [← hq, List.length_append]; have := HLq2.out; have := HLq5.out; omega
  have y : ¬ 9223372036854775807 < (txt (q2)).size + (txt (q5)).size := by have h9 := HLq6.out; rw [← hq, List.length_append] at h9; rw [txt_size, txt_size]; omega
  have z : txt (q2) ++ txt (q5) = txt q6 := by rw [txt_append, hq]
  have HQq6 := Lib.hid hq
  clear hq
  refine takeH (i := 16) 41 (.string (txt q6)) rfl rfl (by kernel_rfl) (by kernel_rfl) (by kernel_rfl) (fun _ _ _ h => h) (.inl ⟨by rfl, fun W hW => by go_simp⟩) HSb4.out ?_
  simp only [Act.put, List.setIfInBounds_toArray, List.set_cons_zero, List.set_cons_succ]
  clear y z
  refine takeH (i := 17) 5 (.string (txt q6)) rfl rfl (by kernel_rfl) (by kernel_rfl) (by kernel_rfl) (fun _ _ _ h => h) (.inl ⟨by rfl, fun W hW => by go_simp⟩) HSb4.out ?_
  simp only [Act.put, List.setIfInBounds_toArray, List.set_cons_zero, List.set_cons_succ]
  refine wpAnyH_done (by kernel_rfl) ?_ _
  go_upto_region 8 with fail
  have HSc0 : Hid ((fun W : World => Bw W w.heap.size (mc s) 33) wb4.drew) := HSb4.out
  have HGc0 : Hid (Below w.heap.size w wb4.drew) := HGb4.out.drew
  clear HSb4 HGb4
  refine wp_region_held_drew (S := fun W : World => Bw W w.heap.size (mc s) 33) (by kernel_rfl) HSc0.out (fun _ => ?_)
  change wpAnyH _ _ _ _ _ 11 (Array.replicate 11 false) _ _
  refine takeH (i := 0) 42 (.string (txt q6)) rfl rfl (by kernel_rfl) (by kernel_rfl) (by kernel_rfl) (fun _ _ _ h => h) (.inl ⟨by rfl, fun W hW => by go_simp⟩) HSc0.out ?_
  simp only [Act.put, List.setIfInBounds_toArray, List.set_cons_zero, List.set_cons_succ]
  refine takeH (i := 1) 43 (.pointer (some ⟨w.heap.size, 7, none⟩)) rfl rfl (by kernel_rfl) (by kernel_rfl) (by kernel_rfl) (fun _ _ _ h => h) (.inl ⟨by rfl, fun W hW => by go_simp⟩) HSc0.out ?_
  simp only [Act.put, List.setIfInBounds_toArray, List.set_cons_zero, List.set_cons_succ]
  refine takeH (i := 2) 44 (.int .u32 (s.nx : Int)) rfl rfl (by kernel_rfl) (by kernel_rfl) (by kernel_rfl) (fun _ _ _ h => h) (.inl ⟨by rfl, fun W hW => by (have hz := hW.cell 7 _ rfl; go_simp)⟩) HSc0.out ?_
  simp only [Act.put, List.setIfInBounds_toArray, List.set_cons_zero, List.set_cons_succ]
  refine takeH (i := 5) 47 (.pointer (some ⟨w.heap.size, 8, none⟩)) rfl rfl (by kernel_rfl) (by kernel_rfl) (by kernel_rfl) (fun _ _ _ h => h) (.inl ⟨by rfl, fun W hW => by go_simp⟩) HSc0.out ?_
  simp only [Act.put, List.setIfInBounds_toArray, List.set_cons_zero, List.set_cons_succ]
  refine takeH (i := 6) 48 (.int .u32 (s.rn : Int)) rfl rfl (by kernel_rfl) (by kernel_rfl) (by kernel_rfl) (fun _ _ _ h => h) (.inl ⟨by rfl, fun W hW => by (have hz := hW.cell 8 _ rfl; go_simp)⟩) HSc0.out ?_
  simp only [Act.put, List.setIfInBounds_toArray, List.set_cons_zero, List.set_cons_succ]
  refine wpAnyH_ready (rs := [3]) (by kernel_rfl) (by simp) ?_
  refine AllReadyH.cons rfl (fun K hK => ?_) AllReadyH.nil
  go_simp
  refine ((refU32 (s.nx : Int) _ (by have := HWD.out.hnx; omega) (by have := HWD.out.hnx; omega))).mono ?_
  rintro e wc1 ⟨rfl, hbc1⟩
  rw [Int.toNat_natCast]
  have HGc1 := Lib.hid (HGc0.out.trans (hbc1.mono HGc0.out.size))
  have HSc1 : Hid ((fun W : World => Bw W w.heap.size (mc s) 33) wc1) := HSc0.out.below hbc1
  refine hK.out _ _ HSc1.out fun _ => ?_
  clear hK K hbc1 HSc0 HGc0
  obtain ⟨q7, hq⟩ : ∃ q, q6 ++ be 4 s.nx = q := ⟨_, rfl⟩
  have HLq7 : Hid (q7.length ≤ 48) := by show _ ≤ _; rw [← hq, List.length_append, be_length]; have := HLq6.out; omega
  have y : ¬ 9223372036854775807 < (txt (q6)).size + (txt (be 4 s.nx)).size := by have h9 := HLq7.out; rw [← hq, List.length_append] at h9; rw [txt_size, txt_size]; omega
  have z : txt (q6) ++ txt (be 4 s.nx) = txt q7 := by rw [txt_append, hq]
  have HQq7 := Lib.hid hq
  clear hq
  refine takeH (i := 4) 46 (.string (txt q7)) rfl rfl (by kernel_rfl) (by kernel_rfl) (by kernel_rfl) (fun _ _ _ h => h) (.inl ⟨by rfl, fun W hW => by go_simp⟩) HSc1.out ?_
  simp only [Act.put, List.setIfInBounds_toArray, List.set_cons_zero, List.set_cons_succ]
  clear y z
  refine wpAnyH_ready (rs := [7]) (by kernel_rfl) (by simp) ?_
  refine AllReadyH.cons rfl (fun K hK => ?_) AllReadyH.nil
  go_simp
  refine ((refU32 (s.rn : Int) _ (by have := HWD.out.hrn; omega) (by have := HWD.out.hrn; omega))).mono ?_
  rintro e wc2 ⟨rfl, hbc2⟩
  rw [Int.toNat_natCast]
  have HGc2 := Lib.hid (HGc1.out.trans (hbc2.mono HGc1.out.size))
  have HSc2 : Hid ((fun W : World => Bw W w.heap.size (mc s) 33) wc2) := HSc1.out.below hbc2
  refine hK.out _ _ HSc2.out fun _ => ?_
  clear hK K hbc2 HSc1 HGc1
  obtain ⟨q8, hq⟩ : ∃ q, q7 ++ be 4 s.rn = q := ⟨_, rfl⟩
  have HLq8 : Hid (q8.length ≤ 52) := by show _ ≤ _; rw [← hq, List.length_append, be_length]; have := HLq7.out; omega
  have y : ¬ 9223372036854775807 < (txt (q7)).size + (txt (be 4 s.rn)).size := by have h9 := HLq8.out; rw [← hq, List.length_append] at h9; rw [txt_size, txt_size]; omega
  have z : txt (q7) ++ txt (be 4 s.rn) = txt q8 := by rw [txt_append, hq]
  have HQq8 := Lib.hid hq
  clear hq
  refine takeH (i := 8) 50 (.string (txt q8)) rfl rfl (by kernel_rfl) (by kernel_rfl) (by kernel_rfl) (fun _ _ _ h => h) (.inl ⟨by rfl, fun W hW => by go_simp⟩) HSc2.out ?_
  simp only [Act.put, List.setIfInBounds_toArray, List.set_cons_zero, List.set_cons_succ]
  clear y z
  refine takeH (i := 9) 2 (.string (txt q8)) rfl rfl (by kernel_rfl) (by kernel_rfl) (by kernel_rfl) (fun _ _ _ h => h) (.inl ⟨by rfl, fun W hW => by go_simp⟩) HSc2.out ?_
  simp only [Act.put, List.setIfInBounds_toArray, List.set_cons_zero, List.set_cons_succ]
  refine takeH (i := 10) 3 (.int .i64 0) rfl rfl (by kernel_rfl) (by kernel_rfl) (by kernel_rfl) (fun _ _ _ h => h) (.inl ⟨by rfl, fun W hW => by go_simp⟩) HSc2.out ?_
  simp only [Act.put, List.setIfInBounds_toArray, List.set_cons_zero, List.set_cons_succ]
  refine wpAnyH_done (by kernel_rfl) ?_ _
  have HT : Hid (q8 = Mk.enc s) := by
    show _ = _
    rw [Mk.enc_eq, ← HQq8.out, ← HQq7.out, ← HQq6.out, ← HQq5.out, ← HQq4.out, ← HQq3.out, ← HQq2.out, ← HQq1.out]
    simp only [List.append_assoc]
  rw [HT.out]
  go_wp2_with fail
  go_ret2
  exact ⟨by rw [HP.out, HE.out]; rfl, HGc2.out⟩
end Go.Proofs.Ytjionpkflpnejaa

namespace Go.Proofs.Ytjionpkflpnejaa
open Go.RowKit Go.Shelf

set_option maxRecDepth 100000 in
set_option maxHeartbeats 400000 in
theorem ownerFits_any (s : Ms) (w : World) : Calls Try.prog 30 #[.agg (mc s).toArray] w fun e w' => e = .returned (.bool (Mk.phB s)) ∧ Below w.heap.size w w' := by
  have hcase : s.ph = 0 ∨ s.ph = 1 ∨ s.ph = 2 ∨ s.ph = 3 ∨ s.ph = 4 ∨ s.ph = 5 ∨ 5 < s.ph := by omega
  rcases hcase with h | h | h | h | h | h | h
  · have HP : Hid (Mk.phB s = true) := by show _ = _; unfold Mk.phB; simp [h]
    have k1 : (s.ph : Int) = 0 := by omega
    rw [HP.out]
    clear h
    go_enter Try.func30, Try.ntmps30
    go_upto_region 1 with fail
    have HB0 : Hid (Bw (w.alloc (.cells (mc s).toArray 25)) w.heap.size (mc s) 25) := heap_alloc_new w _
    have HW0 : Hid (Below w.heap.size w (w.alloc (.cells (mc s).toArray 25))) := (Below.refl _ w).alloc (Nat.le_refl _) _
    generalize w.alloc (.cells (mc s).toArray 25) = w0 at *
    have e0 := HB0.out.cell 0 _ rfl
    have e1 := HB0.out.cell 1 _ rfl
    go_wp2_with fail
    go_ret
    exact ⟨rfl, HW0.out⟩
  · have HP : Hid (Mk.phB s = s.ow) := by show _ = _; unfold Mk.phB; simp [h]
    have k1 : (s.ph : Int) = 1 := by omega
    rw [HP.out]
    clear h
    go_enter Try.func30, Try.ntmps30
    go_upto_region 1 with fail
    have HB0 : Hid (Bw (w.alloc (.cells (mc s).toArray 25)) w.heap.size (mc s) 25) := heap_alloc_new w _
    have HW0 : Hid (Below w.heap.size w (w.alloc (.cells (mc s).toArray 25))) := (Below.refl _ w).alloc (Nat.le_refl _) _
    generalize w.alloc (.cells (mc s).toArray 25) = w0 at *
    have e0 := HB0.out.cell 0 _ rfl
    have e1 := HB0.out.cell 1 _ rfl
    go_wp2_with fail
    go_ret
    exact ⟨rfl, HW0.out⟩
  · have HP : Hid (Mk.phB s = s.ow) := by show _ = _; unfold Mk.phB; simp [h]
    have k1 : (s.ph : Int) = 2 := by omega
    rw [HP.out]
    clear h
    go_enter Try.func30, Try.ntmps30
    go_upto_region 1 with fail
    have HB0 : Hid (Bw (w.alloc (.cells (mc s).toArray 25)) w.heap.size (mc s) 25) := heap_alloc_new w _
    have HW0 : Hid (Below w.heap.size w (w.alloc (.cells (mc s).toArray 25))) := (Below.refl _ w).alloc (Nat.le_refl _) _
    generalize w.alloc (.cells (mc s).toArray 25) = w0 at *
    have e0 := HB0.out.cell 0 _ rfl
    have e1 := HB0.out.cell 1 _ rfl
    go_wp2_with fail
    go_ret
    exact ⟨rfl, HW0.out⟩
  · have HP : Hid (Mk.phB s = (!s.ow)) := by show _ = _; unfold Mk.phB; simp [h]
    have k1 : (s.ph : Int) = 3 := by omega
    rw [HP.out]
    clear h
    go_enter Try.func30, Try.ntmps30
    go_upto_region 1 with fail
    have HB0 : Hid (Bw (w.alloc (.cells (mc s).toArray 25)) w.heap.size (mc s) 25) := heap_alloc_new w _
    have HW0 : Hid (Below w.heap.size w (w.alloc (.cells (mc s).toArray 25))) := (Below.refl _ w).alloc (Nat.le_refl _) _
    generalize w.alloc (.cells (mc s).toArray 25) = w0 at *
    have e0 := HB0.out.cell 0 _ rfl
    have e1 := HB0.out.cell 1 _ rfl
    go_wp2_with fail
    go_ret
    exact ⟨rfl, HW0.out⟩
  · have HP : Hid (Mk.phB s = (!s.ow)) := by show _ = _; unfold Mk.phB; simp [h]
    have k1 : (s.ph : Int) = 4 := by omega
    rw [HP.out]
    clear h
    go_enter Try.func30, Try.ntmps30
    go_upto_region 1 with fail
    have HB0 : Hid (Bw (w.alloc (.cells (mc s).toArray 25)) w.heap.size (mc s) 25) := heap_alloc_new w _
    have HW0 : Hid (Below w.heap.size w (w.alloc (.cells (mc s).toArray 25))) := (Below.refl _ w).alloc (Nat.le_refl _) _
    generalize w.alloc (.cells (mc s).toArray 25) = w0 at *
    have e0 := HB0.out.cell 0 _ rfl
    have e1 := HB0.out.cell 1 _ rfl
    go_wp2_with fail
    go_ret
    exact ⟨rfl, HW0.out⟩
  · have HP : Hid (Mk.phB s = (!s.ow)) := by show _ = _; unfold Mk.phB; simp [h]
    have k1 : (s.ph : Int) = 5 := by omega
    rw [HP.out]
    clear h
    go_enter Try.func30, Try.ntmps30
    go_upto_region 1 with fail
    have HB0 : Hid (Bw (w.alloc (.cells (mc s).toArray 25)) w.heap.size (mc s) 25) := heap_alloc_new w _
    have HW0 : Hid (Below w.heap.size w (w.alloc (.cells (mc s).toArray 25))) := (Below.refl _ w).alloc (Nat.le_refl _) _
    generalize w.alloc (.cells (mc s).toArray 25) = w0 at *
    have e0 := HB0.out.cell 0 _ rfl
    have e1 := HB0.out.cell 1 _ rfl
    go_wp2_with fail
    go_ret
    exact ⟨rfl, HW0.out⟩
  · have HP : Hid (Mk.phB s = false) := by show _ = _; unfold Mk.phB; rw [if_neg (by omega), if_neg (by omega), if_neg (by omega)]
    have g0 : ((s.ph : Int) == 0) = false := by simp; omega
    have g1 : ((s.ph : Int) == 1) = false := by simp; omega
    have g2 : ((s.ph : Int) == 2) = false := by simp; omega
    have g3 : ((s.ph : Int) == 3) = false := by simp; omega
    have g4 : ((s.ph : Int) == 4) = false := by simp; omega
    have g5 : ((s.ph : Int) == 5) = false := by simp; omega
    rw [HP.out]
    clear h
    go_enter Try.func30, Try.ntmps30
    go_upto_region 1 with fail
    have HB0 : Hid (Bw (w.alloc (.cells (mc s).toArray 25)) w.heap.size (mc s) 25) := heap_alloc_new w _
    have HW0 : Hid (Below w.heap.size w (w.alloc (.cells (mc s).toArray 25))) := (Below.refl _ w).alloc (Nat.le_refl _) _
    generalize w.alloc (.cells (mc s).toArray 25) = w0 at *
    have e0 := HB0.out.cell 0 _ rfl
    have e1 := HB0.out.cell 1 _ rfl
    go_wp2_with fail
    go_ret
    exact ⟨rfl, HW0.out⟩
set_option maxRecDepth 100000 in
set_option maxHeartbeats 400000 in
theorem nextFits_any (s : Ms) (w : World) : Calls Try.prog 31 #[.agg (mc s).toArray] w fun e w' => e = .returned (.bool (Mk.nxB s)) ∧ Below w.heap.size w w' := by
  have hcase : (s.ph = 3 ∧ s.nx = 33) ∨ (s.ph = 3 ∧ s.nx = 34) ∨ (s.ph = 3 ∧ s.nx ≠ 33 ∧ s.nx ≠ 34) ∨ (s.ph ≠ 3 ∧ s.nx < 33) ∨ (s.ph ≠ 3 ∧ ¬ s.nx < 33) := by omega
  rcases hcase with h | h | h | h | h
  · have HP : Hid (Mk.nxB s = true) := by show _ = _; unfold Mk.nxB; simp [h]
    have k1 : (s.ph : Int) = 3 := by omega
    have k2 : (s.nx : Int) = 33 := by omega
    rw [HP.out]
    clear h
    go_enter Try.func31, Try.ntmps31
    go_upto_region 1 with fail
    have HB0 : Hid (Bw (w.alloc (.cells (mc s).toArray 25)) w.heap.size (mc s) 25) := heap_alloc_new w _
    have HW0 : Hid (Below w.heap.size w (w.alloc (.cells (mc s).toArray 25))) := (Below.refl _ w).alloc (Nat.le_refl _) _
    generalize w.alloc (.cells (mc s).toArray 25) = w0 at *
    have e1 := HB0.out.cell 1 _ rfl
    have e7 := HB0.out.cell 7 _ rfl
    go_wp2_with fail
    go_ret
    exact ⟨rfl, HW0.out⟩
  · have HP : Hid (Mk.nxB s = true) := by show _ = _; unfold Mk.nxB; simp [h]
    have k1 : (s.ph : Int) = 3 := by omega
    have k2 : (s.nx : Int) = 34 := by omega
    rw [HP.out]
    clear h
    go_enter Try.func31, Try.ntmps31
    go_upto_region 1 with fail
    have HB0 : Hid (Bw (w.alloc (.cells (mc s).toArray 25)) w.heap.size (mc s) 25) := heap_alloc_new w _
    have HW0 : Hid (Below w.heap.size w (w.alloc (.cells (mc s).toArray 25))) := (Below.refl _ w).alloc (Nat.le_refl _) _
    generalize w.alloc (.cells (mc s).toArray 25) = w0 at *
    have e1 := HB0.out.cell 1 _ rfl
    have e7 := HB0.out.cell 7 _ rfl
    go_wp2_with fail
    go_ret
    exact ⟨rfl, HW0.out⟩
  · have HP : Hid (Mk.nxB s = false) := by show _ = _; unfold Mk.nxB; simp [h]
    have k1 : (s.ph : Int) = 3 := by omega
    have k2 : ((s.nx : Int) == 33) = false := by simp; omega
    have k3 : ((s.nx : Int) == 34) = false := by simp; omega
    rw [HP.out]
    clear h
    go_enter Try.func31, Try.ntmps31
    go_upto_region 1 with fail
    have HB0 : Hid (Bw (w.alloc (.cells (mc s).toArray 25)) w.heap.size (mc s) 25) := heap_alloc_new w _
    have HW0 : Hid (Below w.heap.size w (w.alloc (.cells (mc s).toArray 25))) := (Below.refl _ w).alloc (Nat.le_refl _) _
    generalize w.alloc (.cells (mc s).toArray 25) = w0 at *
    have e1 := HB0.out.cell 1 _ rfl
    have e7 := HB0.out.cell 7 _ rfl
    go_wp2_with fail
    go_ret
    exact ⟨rfl, HW0.out⟩
  · have HP : Hid (Mk.nxB s = true) := by show _ = _; unfold Mk.nxB; simp [h]
    have k1 : ((s.ph : Int) == 3) = false := by simp; omega
    have k2 : decide ((s.nx : Int) < 33) = true := by simp; omega
    rw [HP.out]
    clear h
    go_enter Try.func31, Try.ntmps31
    go_upto_region 1 with fail
    have HB0 : Hid (Bw (w.alloc (.cells (mc s).toArray 25)) w.heap.size (mc s) 25) := heap_alloc_new w _
    have HW0 : Hid (Below w.heap.size w (w.alloc (.cells (mc s).toArray 25))) := (Below.refl _ w).alloc (Nat.le_refl _) _
    generalize w.alloc (.cells (mc s).toArray 25) = w0 at *
    have e1 := HB0.out.cell 1 _ rfl
    have e7 := HB0.out.cell 7 _ rfl
    go_wp2_with fail
    go_ret
    exact ⟨rfl, HW0.out⟩
  · have HP : Hid (Mk.nxB s = false) := by show _ = _; unfold Mk.nxB; rw [if_neg h.1]; exact decide_eq_false h.2
    have k1 : ((s.ph : Int) == 3) = false := by simp; omega
    have k2 : decide ((s.nx : Int) < 33) = false := by simp; omega
    rw [HP.out]
    clear h
    go_enter Try.func31, Try.ntmps31
    go_upto_region 1 with fail
    have HB0 : Hid (Bw (w.alloc (.cells (mc s).toArray 25)) w.heap.size (mc s) 25) := heap_alloc_new w _
    have HW0 : Hid (Below w.heap.size w (w.alloc (.cells (mc s).toArray 25))) := (Below.refl _ w).alloc (Nat.le_refl _) _
    generalize w.alloc (.cells (mc s).toArray 25) = w0 at *
    have e1 := HB0.out.cell 1 _ rfl
    have e7 := HB0.out.cell 7 _ rfl
    go_wp2_with fail
    go_ret
    exact ⟨rfl, HW0.out⟩
set_option maxRecDepth 100000 in
set_option maxHeartbeats 1000000 in
theorem checkM_any (s : Ms) (w : World) : Calls Try.prog 14 #[.agg (mc s).toArray] w fun e w' => e = .returned (.int .i64 (Mk.chkM s)) ∧ Below w.heap.size w w' := by
  have HO : Hid (∀ W, Calls Try.prog 30 #[.agg (mc s).toArray] W fun e w' => e = .returned (.bool (Mk.phB s)) ∧ Below W.heap.size W w') := ownerFits_any s
  have HX : Hid (∀ W, Calls Try.prog 31 #[.agg (mc s).toArray] W fun e w' => e = .returned (.bool (Mk.nxB s)) ∧ Below W.heap.size W w') := nextFits_any s
  have HIF := Mk.okM_iff s
  have HC1 : Mk.okM s = true → Mk.chkM s = 0 := fun h => if_pos h
  have HC2 : ¬ Mk.okM s = true → Mk.chkM s = 1 := fun h => if_neg h
  generalize Mk.phB s = p at *
  generalize Mk.nxB s = q at *
  generalize Mk.chkM s = z at *
  by_cases h1 : s.pr < 16
  rotate_left
  · obtain rfl := HC2 (fun h => h1 (HIF.1 h).1)
    have g1 : decide ((16 : Int) ≤ (s.pr : Int)) = true := by simp; omega
    clear HIF HC1 HC2 h1
    go_enter Try.func14, Try.ntmps14
    go_upto_region 1 with fail
    have HB0 : Hid (Bw (w.alloc (.cells (mc s).toArray 25)) w.heap.size (mc s) 25) := heap_alloc_new w _
    have HW0 : Hid (Below w.heap.size w (w.alloc (.cells (mc s).toArray 25))) := (Below.refl _ w).alloc (Nat.le_refl _) _
    generalize w.alloc (.cells (mc s).toArray 25) = w0 at *
    have e0 := HB0.out.cell 0 _ rfl
    have e1 := HB0.out.cell 1 _ rfl
    have e2 := HB0.out.cell 2 _ rfl
    have e3 := HB0.out.cell 3 _ rfl
    have e4 := HB0.out.cell 4 _ rfl
    have e5 := HB0.out.cell 5 _ rfl
    have e6 := HB0.out.cell 6 _ rfl
    have e7 := HB0.out.cell 7 _ rfl
    have e8 := HB0.out.cell 8 _ rfl
    go_wp2_with fail
    go_ret
    exact ⟨rfl, HW0.out⟩
  by_cases h2 : s.fr ≤ s.gl
  rotate_left
  · obtain rfl := HC2 (fun h => h2 (HIF.1 h).2.1)
    have g1 : decide ((16 : Int) ≤ (s.pr : Int)) = false := by simp; omega
    have g2 : decide (s.gl < s.fr) = true := by simp; omega
    clear HIF HC1 HC2 h1 h2
    go_enter Try.func14, Try.ntmps14
    go_upto_region 1 with fail
    have HB0 : Hid (Bw (w.alloc (.cells (mc s).toArray 25)) w.heap.size (mc s) 25) := heap_alloc_new w _
    have HW0 : Hid (Below w.heap.size w (w.alloc (.cells (mc s).toArray 25))) := (Below.refl _ w).alloc (Nat.le_refl _) _
    generalize w.alloc (.cells (mc s).toArray 25) = w0 at *
    have e0 := HB0.out.cell 0 _ rfl
    have e1 := HB0.out.cell 1 _ rfl
    have e2 := HB0.out.cell 2 _ rfl
    have e3 := HB0.out.cell 3 _ rfl
    have e4 := HB0.out.cell 4 _ rfl
    have e5 := HB0.out.cell 5 _ rfl
    have e6 := HB0.out.cell 6 _ rfl
    have e7 := HB0.out.cell 7 _ rfl
    have e8 := HB0.out.cell 8 _ rfl
    go_wp2_with fail
    go_ret
    exact ⟨rfl, HW0.out⟩
  have g1 : decide ((16 : Int) ≤ (s.pr : Int)) = false := by simp; omega
  have g2 : decide (s.gl < s.fr) = false := by simp; omega
  cases p with
  | false =>
    obtain rfl := HC2 (fun h => by cases (HIF.1 h).2.2.1)
    clear HIF HC1 HC2 h1 h2
    go_enter Try.func14, Try.ntmps14
    go_upto_region 1 with fail
    have HB0 : Hid (Bw (w.alloc (.cells (mc s).toArray 25)) w.heap.size (mc s) 25) := heap_alloc_new w _
    have HW0 : Hid (Below w.heap.size w (w.alloc (.cells (mc s).toArray 25))) := (Below.refl _ w).alloc (Nat.le_refl _) _
    generalize w.alloc (.cells (mc s).toArray 25) = w0 at *
    have e0 := HB0.out.cell 0 _ rfl
    have e1 := HB0.out.cell 1 _ rfl
    have e2 := HB0.out.cell 2 _ rfl
    have e3 := HB0.out.cell 3 _ rfl
    have e4 := HB0.out.cell 4 _ rfl
    have e5 := HB0.out.cell 5 _ rfl
    have e6 := HB0.out.cell 6 _ rfl
    have e7 := HB0.out.cell 7 _ rfl
    have e8 := HB0.out.cell 8 _ rfl
    go_wp2_with fail
    refine (HO.out _).mono ?_
    rintro e w1 ⟨rfl, hb⟩
    go_wp2_with fail
    go_ret
    exact ⟨rfl, HW0.out.trans (hb.mono HW0.out.size)⟩
  | true =>
    cases q with
    | false =>
      obtain rfl := HC2 (fun h => by cases (HIF.1 h).2.2.2)
      clear HIF HC1 HC2 h1 h2
      go_enter Try.func14, Try.ntmps14
      go_upto_region 1 with fail
      have HB0 : Hid (Bw (w.alloc (.cells (mc s).toArray 25)) w.heap.size (mc s) 25) := heap_alloc_new w _
      have HW0 : Hid (Below w.heap.size w (w.alloc (.cells (mc s).toArray 25))) := (Below.refl _ w).alloc (Nat.le_refl _) _
      generalize w.alloc (.cells (mc s).toArray 25) = w0 at *
      have e0 := HB0.out.cell 0 _ rfl
      have e1 := HB0.out.cell 1 _ rfl
      have e2 := HB0.out.cell 2 _ rfl
      have e3 := HB0.out.cell 3 _ rfl
      have e4 := HB0.out.cell 4 _ rfl
      have e5 := HB0.out.cell 5 _ rfl
      have e6 := HB0.out.cell 6 _ rfl
      have e7 := HB0.out.cell 7 _ rfl
      have e8 := HB0.out.cell 8 _ rfl
      go_wp2_with fail
      refine (HO.out _).mono ?_
      rintro e w1 ⟨rfl, hb⟩
      have HB1 := Lib.hid (HB0.out.below hb)
      have HW1 := Lib.hid (HW0.out.trans (hb.mono HW0.out.size))
      clear hb HB0 HW0 e0 e1 e2 e3 e4 e5 e6 e7 e8
      have e0 := HB1.out.cell 0 _ rfl
      have e1 := HB1.out.cell 1 _ rfl
      have e2 := HB1.out.cell 2 _ rfl
      have e3 := HB1.out.cell 3 _ rfl
      have e4 := HB1.out.cell 4 _ rfl
      have e5 := HB1.out.cell 5 _ rfl
      have e6 := HB1.out.cell 6 _ rfl
      have e7 := HB1.out.cell 7 _ rfl
      have e8 := HB1.out.cell 8 _ rfl
      go_wp2_with fail
      refine (HX.out _).mono ?_
      rintro e w2 ⟨rfl, hb⟩
      go_wp2_with fail
      go_ret
      exact ⟨rfl, HW1.out.trans (hb.mono HW1.out.size)⟩
    | true =>
      obtain rfl := HC1 (HIF.2 ⟨h1, h2, rfl, rfl⟩)
      clear HIF HC1 HC2 h1 h2
      go_enter Try.func14, Try.ntmps14
      go_upto_region 1 with fail
      have HB0 : Hid (Bw (w.alloc (.cells (mc s).toArray 25)) w.heap.size (mc s) 25) := heap_alloc_new w _
      have HW0 : Hid (Below w.heap.size w (w.alloc (.cells (mc s).toArray 25))) := (Below.refl _ w).alloc (Nat.le_refl _) _
      generalize w.alloc (.cells (mc s).toArray 25) = w0 at *
      have e0 := HB0.out.cell 0 _ rfl
      have e1 := HB0.out.cell 1 _ rfl
      have e2 := HB0.out.cell 2 _ rfl
      have e3 := HB0.out.cell 3 _ rfl
      have e4 := HB0.out.cell 4 _ rfl
      have e5 := HB0.out.cell 5 _ rfl
      have e6 := HB0.out.cell 6 _ rfl
      have e7 := HB0.out.cell 7 _ rfl
      have e8 := HB0.out.cell 8 _ rfl
      go_wp2_with fail
      refine (HO.out _).mono ?_
      rintro e w1 ⟨rfl, hb⟩
      have HB1 := Lib.hid (HB0.out.below hb)
      have HW1 := Lib.hid (HW0.out.trans (hb.mono HW0.out.size))
      clear hb HB0 HW0 e0 e1 e2 e3 e4 e5 e6 e7 e8
      have e0 := HB1.out.cell 0 _ rfl
      have e1 := HB1.out.cell 1 _ rfl
      have e2 := HB1.out.cell 2 _ rfl
      have e3 := HB1.out.cell 3 _ rfl
      have e4 := HB1.out.cell 4 _ rfl
      have e5 := HB1.out.cell 5 _ rfl
      have e6 := HB1.out.cell 6 _ rfl
      have e7 := HB1.out.cell 7 _ rfl
      have e8 := HB1.out.cell 8 _ rfl
      go_wp2_with fail
      refine (HX.out _).mono ?_
      rintro e w2 ⟨rfl, hb⟩
      go_wp2_with fail
      go_ret
      exact ⟨rfl, HW1.out.trans (hb.mono HW1.out.size)⟩
end Go.Proofs.Ytjionpkflpnejaa

namespace Go.Proofs.Ytjionpkflpnejaa
open Go.RowKit Go.Shelf

set_option maxRecDepth 100000 in
set_option maxHeartbeats 4000000 in
theorem putM_any (s : Ms) (w : World) (hw : s.Wide) : Calls Try.prog 8 #[.agg (mc s).toArray] w (PutQ (Mk.put s) (Mk.chkM s) w) := by
  have HWD := Lib.hid hw
  clear hw
  go_enter Try.func8, Try.ntmps8
  go_upto_region 1 with fail
  have HB0 : Hid (Bw (w.alloc (.cells (mc s).toArray 25)) w.heap.size (mc s) 25) := heap_alloc_new w _
  have HW0 : Hid (Below w.heap.size w (w.alloc (.cells (mc s).toArray 25))) := (Below.refl _ w).alloc (Nat.le_refl _) _
  have HZ0 : Hid (w.heap.size + 1 ≤ (w.alloc (.cells (mc s).toArray 25)).heap.size) := by show _ ≤ _; simp
  generalize w.alloc (.cells (mc s).toArray 25) = wa at *
  go_wp2_with (refine wpList_load_part rfl 25 (.tmp 1) rfl _ 0 rfl _ Try.underlying25 rfl (mc s) 25 _ HB0.out size_Mk (fun j u hu => by rw [Nat.zero_add]; exact hu) ?_)
  refine (checkM_any s wa).mono ?_
  rintro e w0 ⟨rfl, hb⟩
  have HBa := Lib.hid (HB0.out.below hb)
  have HWa := Lib.hid (HW0.out.trans (hb.mono HW0.out.size))
  have HZa : Hid (w.heap.size + 1 ≤ w0.heap.size) := Nat.le_trans HZ0.out hb.size
  clear hb HB0 HW0 HZ0
  by_cases hok : Mk.okM s = true
  rotate_left
  · have hz : Mk.chkM s = 1 := if_neg hok
    have HP : Hid (Mk.put s = []) := if_neg (fun h => hok h.1)
    have HE := Lib.hid hz
    rw [hz]
    clear hz hok
    go_wp2_with fail
    go_ret2
    rw [HP.out, HE.out]
    exact PutQ.no HWa.out
  have hz : Mk.chkM s = 0 := if_pos hok
  have HE := Lib.hid hz
  have heq : ∀ W : World, (binOp .eql 25 (.agg (mc s).toArray) (.agg #[.bool false, .int .u32 0, .int .u32 0, .int .u64 0, .int .u64 0, .int .u64 0, .int .u64 0, .int .u32 0, .int .u32 0])).run Try.prog W = .ok (.bool (decide (s = Mk.zero))) W := mEq s Mk.zero
  by_cases hzr : s = Mk.zero
  · have HP : Hid (Mk.put s = []) := if_neg (fun h => h.2 hzr)
    rw [decide_eq_true hzr] at heq
    rw [hz]
    clear hz hok hzr
    go_wp2_with (first
      | (refine wpList_load_part rfl 25 (.tmp 1) rfl _ 0 rfl _ Try.underlying25 rfl (mc s) 25 _ HBa.out size_Mk (fun j u hu => by rw [Nat.zero_add]; exact hu) ?_)
      | (refine Did.list rfl (did_build 25 #[] rfl (mc Mk.zero).toArray (by exact built_Mkz)) ?_))
    go_ret2
    rw [HP.out, HE.out]
    exact PutQ.no HWa.out
  have HP : Hid (Mk.put s = Mk.enc s) := if_pos ⟨hok, hzr⟩
  rw [decide_eq_false hzr] at heq
  rw [hz]
  clear hz hok hzr
  go_upto_region 6 with (first
      | (refine wpList_load_part rfl 25 (.tmp 1) rfl _ 0 rfl _ Try.underlying25 rfl (mc s) 25 _ HBa.out size_Mk (fun j u hu => by rw [Nat.zero_add]; exact hu) ?_)
      | (refine Did.list rfl (did_build 25 #[] rfl (mc Mk.zero).toArray (by exact built_Mkz)) ?_))
  clear heq
  have hf1 := HWD.out.hph
  have hf2 := HWD.out.hpr
  have hf3 := HWD.out.hep
  have hf4 := HWD.out.hsq
  have hf5 := HWD.out.hfr
  have hf6 := HWD.out.hgl
  have hf7 := HWD.out.hnx
  have hf8 := HWD.out.hrn
  have hn0 := newWriter_wr w0 (fun k => k < w.heap.size ∨ k = w.heap.size) (fun k hk => by have := HZa.out; omega)
  go_wp2_with fail
  refine (newWriter_any w0).mono ?_
  rintro e w1 ⟨rfl, hw1⟩
  have HR1 : Hid (Wr (fun k => k < w.heap.size ∨ k = w.heap.size) w1 w0.heap.size []) := by rw [← hw1]; exact hn0
  have hb1 : Below w0.heap.size w0 w1 := by rw [← hw1]; exact (Below.refl _ w0).alloc (Nat.le_refl _) _
  have HB1 := Lib.hid (HBa.out.below hb1)
  have HN1 := Lib.hid (HWa.out.trans (hb1.mono HWa.out.size))
  clear hn0 hw1 hb1 HBa HWa HZa
  generalize w0.heap.size = p at *
  have c1 := HB1.out.cell 0 _ rfl
  go_wp2_with fail
  refine (boolw _ _ p _ _ HR1.out (by simp)).mono ?_
  rintro e w2 ⟨rfl, hwr, hkp⟩
  have HR2 := Lib.hid hwr
  have HB2 := Lib.hid (HB1.out.keep hkp (.inr rfl))
  have HN2 := Lib.hid (HN1.out.trans (hkp.below2 (fun k hk => .inl hk)))
  clear hwr hkp HR1 HB1 HN1 c1
  have c2 := HB2.out.cell 1 _ rfl
  go_wp2_with fail
  refine (u32w _ _ p _ _ (by omega) HR2.out (by simp only [List.length_append, be_length, List.length_nil]; omega)).mono ?_
  rintro e w3 ⟨rfl, hwr, hkp⟩
  have HR3 := Lib.hid hwr
  have HB3 := Lib.hid (HB2.out.keep hkp (.inr rfl))
  have HN3 := Lib.hid (HN2.out.trans (hkp.below2 (fun k hk => .inl hk)))
  clear hwr hkp HR2 HB2 HN2 c2
  have c3 := HB3.out.cell 2 _ rfl
  go_wp2_with fail
  refine (u32w _ _ p _ _ (by omega) HR3.out (by simp only [List.length_append, be_length, List.length_nil]; omega)).mono ?_
  rintro e w4 ⟨rfl, hwr, hkp⟩
  have HR4 := Lib.hid hwr
  have HB4 := Lib.hid (HB3.out.keep hkp (.inr rfl))
  have HN4 := Lib.hid (HN3.out.trans (hkp.below2 (fun k hk => .inl hk)))
  clear hwr hkp HR3 HB3 HN3 c3
  have c4 := HB4.out.cell 3 _ rfl
  go_wp2_with fail
  refine (u64w _ _ p _ _ (by omega) HR4.out (by simp only [List.length_append, be_length, List.length_nil]; omega)).mono ?_
  rintro e w5 ⟨rfl, hwr, hkp⟩
  have HR5 := Lib.hid hwr
  have HB5 := Lib.hid (HB4.out.keep hkp (.inr rfl))
  have HN5 := Lib.hid (HN4.out.trans (hkp.below2 (fun k hk => .inl hk)))
  clear hwr hkp HR4 HB4 HN4 c4
  have c5 := HB5.out.cell 4 _ rfl
  go_wp2_with fail
  refine (u64w _ _ p _ _ (by omega) HR5.out (by simp only [List.length_append, be_length, List.length_nil]; omega)).mono ?_
  rintro e w6 ⟨rfl, hwr, hkp⟩
  have HR6 := Lib.hid hwr
  have HB6 := Lib.hid (HB5.out.keep hkp (.inr rfl))
  have HN6 := Lib.hid (HN5.out.trans (hkp.below2 (fun k hk => .inl hk)))
  clear hwr hkp HR5 HB5 HN5 c5
  have c6 := HB6.out.cell 5 _ rfl
  go_wp2_with fail
  refine (u64w _ _ p _ _ (by omega) HR6.out (by simp only [List.length_append, be_length, List.length_nil]; omega)).mono ?_
  rintro e w7 ⟨rfl, hwr, hkp⟩
  have HR7 := Lib.hid hwr
  have HB7 := Lib.hid (HB6.out.keep hkp (.inr rfl))
  have HN7 := Lib.hid (HN6.out.trans (hkp.below2 (fun k hk => .inl hk)))
  clear hwr hkp HR6 HB6 HN6 c6
  have c7 := HB7.out.cell 6 _ rfl
  go_wp2_with fail
  refine (u64w _ _ p _ _ (by omega) HR7.out (by simp only [List.length_append, be_length, List.length_nil]; omega)).mono ?_
  rintro e w8 ⟨rfl, hwr, hkp⟩
  have HR8 := Lib.hid hwr
  have HB8 := Lib.hid (HB7.out.keep hkp (.inr rfl))
  have HN8 := Lib.hid (HN7.out.trans (hkp.below2 (fun k hk => .inl hk)))
  clear hwr hkp HR7 HB7 HN7 c7
  have c8 := HB8.out.cell 7 _ rfl
  go_wp2_with fail
  refine (u32w _ _ p _ _ (by omega) HR8.out (by simp only [List.length_append, be_length, List.length_nil]; omega)).mono ?_
  rintro e w9 ⟨rfl, hwr, hkp⟩
  have HR9 := Lib.hid hwr
  have HB9 := Lib.hid (HB8.out.keep hkp (.inr rfl))
  have HN9 := Lib.hid (HN8.out.trans (hkp.below2 (fun k hk => .inl hk)))
  clear hwr hkp HR8 HB8 HN8 c8
  have c9 := HB9.out.cell 8 _ rfl
  go_wp2_with fail
  refine (u32w _ _ p _ _ (by omega) HR9.out (by simp only [List.length_append, be_length, List.length_nil]; omega)).mono ?_
  rintro e w10 ⟨rfl, hwr, hkp⟩
  have HR10 := Lib.hid hwr
  have HN10 := Lib.hid (HN9.out.trans (hkp.below2 (fun k hk => .inl hk)))
  clear hwr hkp HR9 HB9 HN9 c9
  have HT : Hid ([] ++ be 4 (b01 s.ow) ++ be 4 (s.ph : Int).toNat ++ be 4 (s.pr : Int).toNat ++ be 8 (s.ep : Int).toNat ++ be 8 (s.sq : Int).toNat ++ be 8 (s.fr : Int).toNat ++ be 8 (s.gl : Int).toNat ++ be 4 (s.nx : Int).toNat ++ be 4 (s.rn : Int).toNat = Mk.enc s) := by
    show _ = _
    rw [Mk.enc_eq]
    simp only [List.nil_append, List.append_assoc, Int.toNat_natCast]
  have hr := HR10.out
  rw [HT.out] at hr
  have HRZ := Lib.hid hr
  clear hr HR10
  go_wp2_with fail
  refine (out_any _ _ p _ HRZ.out (by rw [Mk.enc_length]; omega)).mono ?_
  rintro e w11 ⟨A3, c3, rfl, hown⟩
  have HO := Lib.hid hown
  clear hown
  go_wp2_with fail
  go_ret2
  rw [HP.out, HE.out]
  exact ⟨A3, (Mk.enc s).length, c3, rfl, own_base HO.out.1 HN10.out.size, HN10.out.trans (HO.out.2.mono HN10.out.size)⟩
end Go.Proofs.Ytjionpkflpnejaa
