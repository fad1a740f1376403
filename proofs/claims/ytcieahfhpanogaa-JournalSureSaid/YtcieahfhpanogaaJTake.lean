/-
  Contracts of a journal's isData, isEnd, places and permits.
-/
import Derived.Test.YtcieahfhpanogaaJLoad
namespace Go.Proofs.Ytcieahfhpanogaa
open Go.RowKit

section
variable {w : World} {p dp : Nat} {S D : Nat → Prop} {j : J.JS} {d : DS}
/-- A frame of a change's block. -/
def isDat (nb : Nat) (f : Fm) : Bool := decide ((f.k.toNat : Int) = 2) && decide ((f.a : Int) < (nb : Int)) && decide ((f.b.length : Int) ≤ 96)
set_option maxRecDepth 100000 in
set_option maxHeartbeats 1000000 in
theorem isData_any (h : JD w p dp S D j d) (hnb : j.nb ≤ 400) (f : Fm) (A : Option Addr) (n c : Nat) (hn : f.b.length = n) : Calls Try.prog 51 #[.pointer (some ⟨p, 0, none⟩), .agg (fv f A n c)] w fun e w' => e = .returned (.bool (isDat j.nb f)) ∧ Below w.heap.size w w' := by
  have HN := Lib.hid hn
  have HJ := Lib.hid h
  obtain ⟨⟨q, bl, hq⟩, _, _⟩ := h
  have h2 : w.cell? ⟨p, 2, none⟩ = some (.slice (some ⟨q, 0, none⟩) j.nb j.nb) := hq.cell 2 _ rfl
  have HLT := Lib.hid hq.plt
  have HC2 := Lib.hid h2
  clear hq h2 hn
  go_enter Try.func51, Try.ntmps51
  go_upto_region 1 with (fail)
  have HW1 : Hid (Below w.heap.size w (w.alloc (.cells (fv f A n c) 76))) := (Below.refl _ _).alloc (Nat.le_refl _) _
  have HB1 : Hid ((w.alloc (.cells (fv f A n c) 76)).heap[w.heap.size]? = some (.cells (fv f A n c) 76 (0, 0))) := heap_alloc_new w _
  generalize w.alloc (.cells (fv f A n c) 76) = w1 at *
  have g0 : w1.cell? ⟨w.heap.size, 0, none⟩ = some (.int .i64 (f.k.toNat : Int)) := by rw [cell_of_row _ _ _ _ _ _ HB1.out]; rfl
  have g4 : w1.cell? ⟨w.heap.size, 4, none⟩ = some (.int .u32 (f.a : Int)) := by rw [cell_of_row _ _ _ _ _ _ HB1.out]; rfl
  have g5 : w1.cell? ⟨w.heap.size, 5, none⟩ = some (.slice A n c) := by rw [cell_of_row _ _ _ _ _ _ HB1.out]; rfl
  have h2 : w1.cell? ⟨p, 2, none⟩ = some (.slice (some ⟨q, 0, none⟩) j.nb j.nb) := (HW1.out.cell (p := ⟨p, 2, none⟩) HLT.out).trans HC2.out
  have hcv : IntKind.u32.wrap (j.nb : Int) = (j.nb : Int) := by rw [IntKind.wrap_u32]; omega
  by_cases c1 : (f.k.toNat : Int) = 2
  · by_cases c2 : (f.a : Int) < (j.nb : Int)
    · have hd2 : decide ((f.a : Int) < (j.nb : Int)) = true := by simpa using c2
      by_cases c3 : (n : Int) ≤ 96
      · have HE : Hid (isDat j.nb f = true) := by show _ = _; simp [isDat, c1, c2, HN.out]; omega
        have hd3 : decide ((n : Int) ≤ 96) = true := by simpa using c3
        go_wp2_with fail
        go_quiet (fail)
        go_wp2
        go_ret
        rw [HE.out]
        exact ⟨rfl, ((Keep.of_below HW1.out).drewN _).below⟩
      · have HE : Hid (isDat j.nb f = false) := by show _ = _; simp [isDat, c1, c2, HN.out]; omega
        have hd3 : decide ((n : Int) ≤ 96) = false := by simpa using c3
        go_wp2_with fail
        go_quiet (fail)
        go_wp2
        go_ret
        rw [HE.out]
        exact ⟨rfl, ((Keep.of_below HW1.out).drewN _).below⟩
    · have HE : Hid (isDat j.nb f = false) := by show _ = _; simp [isDat, c2]
      have hd2 : decide (f.a < j.nb) = false := by simp; omega
      clear c2
      go_wp2_with fail
      go_quiet (fail)
      go_wp2
      go_ret
      rw [HE.out]
      exact ⟨rfl, ((Keep.of_below HW1.out).drewN _).below⟩
  · have HE : Hid (isDat j.nb f = false) := by show _ = _; simp [isDat, c1]
    have hd : ((f.k.toNat : Int) == 2) = false := by simpa using c1
    go_wp2_with fail
    go_quiet (fail)
    go_wp2
    go_ret
    rw [HE.out]
    exact ⟨rfl, ((Keep.of_below HW1.out).drewN _).below⟩

/-- A frame of a change's end. -/
def isEn (f : Fm) : Bool := decide ((f.k.toNat : Int) = 3) && decide ((f.a : Int) = 0) && decide ((f.b.length : Int) = 0)
set_option maxRecDepth 100000 in
set_option maxHeartbeats 1000000 in
theorem isEnd_any (w : World) (f : Fm) (A : Option Addr) (n c : Nat) (hn : f.b.length = n) : Calls Try.prog 52 #[.agg (fv f A n c)] w fun e w' => e = .returned (.bool (isEn f)) ∧ Below w.heap.size w w' := by
  have HN := Lib.hid hn
  clear hn
  go_enter Try.func52, Try.ntmps52
  go_upto_region 1 with (fail)
  have HW1 : Hid (Below w.heap.size w (w.alloc (.cells (fv f A n c) 76))) := (Below.refl _ _).alloc (Nat.le_refl _) _
  have HB1 : Hid ((w.alloc (.cells (fv f A n c) 76)).heap[w.heap.size]? = some (.cells (fv f A n c) 76 (0, 0))) := heap_alloc_new w _
  generalize w.alloc (.cells (fv f A n c) 76) = w1 at *
  have g0 : w1.cell? ⟨w.heap.size, 0, none⟩ = some (.int .i64 (f.k.toNat : Int)) := by rw [cell_of_row _ _ _ _ _ _ HB1.out]; rfl
  have g4 : w1.cell? ⟨w.heap.size, 4, none⟩ = some (.int .u32 (f.a : Int)) := by rw [cell_of_row _ _ _ _ _ _ HB1.out]; rfl
  have g5 : w1.cell? ⟨w.heap.size, 5, none⟩ = some (.slice A n c) := by rw [cell_of_row _ _ _ _ _ _ HB1.out]; rfl
  by_cases c1 : (f.k.toNat : Int) = 3
  · by_cases c2 : (f.a : Int) = 0
    · have b2 : ((f.a : Int) == 0) = true := by simpa using c2
      by_cases c3 : (n : Int) = 0
      · have HE : Hid (isEn f = true) := by show _ = _; unfold isEn; rw [HN.out, decide_eq_true c1, decide_eq_true c2, decide_eq_true c3]; rfl
        have b3 : ((n : Int) == 0) = true := by simpa using c3
        go_wp2
        go_ret
        rw [HE.out]
        exact ⟨rfl, HW1.out⟩
      · have HE : Hid (isEn f = false) := by show _ = _; unfold isEn; rw [HN.out, decide_eq_false c3]; simp
        have b3 : ((n : Int) == 0) = false := by simpa using c3
        go_wp2
        go_ret
        rw [HE.out]
        exact ⟨rfl, HW1.out⟩
    · have HE : Hid (isEn f = false) := by show _ = _; unfold isEn; rw [decide_eq_false c2]; simp
      have b2 : ((f.a : Int) == 0) = false := by simpa using c2
      go_wp2
      go_ret
      rw [HE.out]
      exact ⟨rfl, HW1.out⟩
  · have HE : Hid (isEn f = false) := by show _ = _; simp [isEn, c1]
    go_wp2
    go_ret
    rw [HE.out]
    exact ⟨rfl, HW1.out⟩
end
end Go.Proofs.Ytcieahfhpanogaa
