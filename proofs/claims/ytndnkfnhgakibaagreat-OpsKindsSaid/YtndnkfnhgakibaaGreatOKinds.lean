/-
  What OpsKinds' walk wants, plain (layer 13). Nothing of the program is named here.
-/
import Derived.Test.YtndnkfnhgakibaaGreatONames
namespace Go.Proofs.YtndnkfnhgakibaaGreat
namespace Op
/-- A file, then a link whose text is l. -/
def kdT1 := (step (format 40) (cl 6 0 1 [102])).1
def kdR1 := (step (format 40) (cl 6 0 1 [102])).2
def kdC (l : List UInt8) : Cl := { cl 8 0 1 [115] with dt := l }
def kdU (l : List UInt8) : TT := set (set kdT1 2 ⟨2, 3, 1, 1, 0, 0, 0, 0, l⟩) 0 ⟨0, 2, 1, 1, 493, 2, 2, 0, putE [⟨1, 1, 1, [102]⟩, ⟨2, 2, 1, [115]⟩]⟩
def kdT (l : List UInt8) : TT := touch (kdU l) [2, 0]
def kdR (l : List UInt8) : Rp := told (kdT l) (rep0 (kdC l)) 2
theorem kd1 : kdR1.st = 0 ∧ kdR1.ati = 1 ∧ kdR1.atg = 1 := by decide +kernel
theorem kd_tot (l : List UInt8) (h : l.length ≤ 700) : Vl.tot (kdU l).s ≤ 40 := by
  have a1 := Vl.sum24_upd (fun _ => 0) (i := 0) 1 (by omega)
  have a2 := Vl.sum24_upd (Vl.upd (fun _ => 0) 0 1) (i := 2) (need l.length) (by omega)
  have e : Vl.tot (kdU l).s = Vl.sum24 (Vl.upd (Vl.upd (fun _ => 0) 0 1) 2 (need l.length)) := by
    refine Vl.sum24_congr fun i hi => ?_
    show need ((if i = 0 then _ else if i = 2 then _ else kdT1.s i : Vl.Th).dt.length) = if i = 2 then _ else if i = 0 then _ else 0
    by_cases e0 : i = 0
    · subst e0
      show need (putE [⟨1, 1, 1, [102]⟩, ⟨2, 2, 1, [115]⟩]).length = 1
      decide +kernel
    · rw [if_neg e0]
      by_cases e2 : i = 2
      · rw [if_pos e2, if_pos e2]
      · rw [if_neg e2, if_neg e2, if_neg e0]
        have : ∀ i, i < 24 → i ≠ 0 → need (kdT1.s i).dt.length = 0 := by decide +kernel
        exact this i hi e0
  have z : Vl.sum24 (fun _ => 0) = 0 := by decide
  have z1 : Vl.upd (fun _ => 0) 0 1 2 = 0 := rfl
  have n0 : need l.length ≤ 9 := by show (_ + 95) / 96 ≤ _; omega
  rw [z] at a1
  rw [z1] at a2
  omega
theorem runK_8 {t : TT} {c : Cl} (h : c.op = 8) : runK t c = symlink t c := by
  unfold runK
  rw [h]
  rfl
theorem kd_step (l : List UInt8) (h0 : l ≠ []) (h : l.length ≤ 700) : step kdT1 (kdC l) = (kdT l, kdR l) := by
  refine step_ok ?_
  rw [runK_8 (t := kdT1) (c := kdC l) rfl]
  unfold symlink
  rw [show folderE kdT1 (kdC l).ati (kdC l).atg = 0 by kernel_rfl, if_neg (by decide), show nameOk (kdC l).nm = true by kernel_rfl, if_neg (by decide), show look kdT1 (kdC l).ati (kdC l).nm = none by kernel_rfl]
  simp only
  rw [show (kdC l).dt = l from rfl, if_neg (fun hh : l = [] ∨ 768 < l.length => hh.elim h0 (fun hh => by omega))]
  unfold fresh
  rw [show lowest kdT1 = some 2 by decide +kernel]
  simp only
  rw [show enter (set kdT1 2 ⟨2, 3, ((kdT1.s 2).gen + 1) % 4294967296, 1, (kdC l).md % 512, 0, 0, 0, l⟩) (kdC l).ati (kdC l).nm 2 (((kdT1.s 2).gen + 1) % 4294967296) = .ok (kdU l) by kernel_rfl]
  simp only
  exact fin_room (by rw [touch_tot]; have := kd_tot l h; show _ ≤ (40 : Int); omega)
theorem kd2 (l : List UInt8) : (kdR l).st = 0 ∧ (kdR l).ati = 2 ∧ (kdR l).atg = 1 := ⟨by kernel_rfl, by kernel_rfl, by kernel_rfl⟩
section
variable (l : List UInt8)
def kdA : Cl := cl 9 (kdR l).ati (kdR l).atg []
def kdB : Cl := cl 9 kdR1.ati kdR1.atg []
def kdCc : Cl := { cl 4 (kdR l).ati (kdR l).atg [] with cnt := 9 }
def kdD : Cl := { cl 4 0 1 [] with cnt := 9 }
def kdE : Cl := { cl 5 0 1 [] with dt := l }
def kdG : Cl := { cl 5 (kdR l).ati (kdR l).atg [] with dt := l }
def kdH : Cl := { cl 14 kdR1.ati kdR1.atg [] with cnt := 1 }
def kdI : Cl := cl 1 kdR1.ati kdR1.atg [97]
def kdJ : Cl := { cl 3 0 1 [] with off := 1, cnt := 5 }
def kdK : Cl := { cl 3 (kdR l).ati (kdR l).atg [] with off := 1, cnt := 5 }
def kdL : Cl := cl 6 0 1 [115]
theorem kd_a : (step (kdT l) (kdA l)).2.dt = l := by kernel_rfl
theorem kd_b : (step (kdT l) kdB).2.st = 64 := by kernel_rfl
theorem kd_c : (step (kdT l) (kdCc l)).2.st = 64 := by kernel_rfl
theorem kd_d : (step (kdT l) kdD).2.st = 63 := by kernel_rfl
theorem kd_e : (step (kdT l) (kdE l)).2.st = 63 := by kernel_rfl
theorem kd_g : (step (kdT l) (kdG l)).2.st = 64 := by kernel_rfl
theorem kd_h : (step (kdT l) kdH).2.st = 62 := by kernel_rfl
theorem kd_i : (step (kdT l) kdI).2.st = 62 := by kernel_rfl
theorem kd_j : (step (kdT l) kdJ).2.st = 63 := by kernel_rfl
theorem kd_k : (step (kdT l) (kdK l)).2.st = 64 := by kernel_rfl
theorem kd_l : (step (kdT l) kdL).2.st = 61 := by kernel_rfl
end
theorem kdC_wide (l : List UInt8) : (kdC l).Wide := by constructor <;> (refine of_decide_eq_true ?_; kernel_rfl)
theorem kdA_wide (l : List UInt8) : (kdA l).Wide := by constructor <;> (refine of_decide_eq_true ?_; kernel_rfl)
theorem kdB_wide : (kdB).Wide := by constructor <;> decide +kernel
theorem kdCc_wide (l : List UInt8) : (kdCc l).Wide := by constructor <;> (refine of_decide_eq_true ?_; kernel_rfl)
theorem kdD_wide : (kdD).Wide := by constructor <;> decide +kernel
theorem kdE_wide (l : List UInt8) : (kdE l).Wide := by constructor <;> (refine of_decide_eq_true ?_; kernel_rfl)
theorem kdG_wide (l : List UInt8) : (kdG l).Wide := by constructor <;> (refine of_decide_eq_true ?_; kernel_rfl)
theorem kdH_wide : (kdH).Wide := by constructor <;> decide +kernel
theorem kdI_wide : (kdI).Wide := by constructor <;> decide +kernel
theorem kdJ_wide : (kdJ).Wide := by constructor <;> decide +kernel
theorem kdK_wide (l : List UInt8) : (kdK l).Wide := by constructor <;> (refine of_decide_eq_true ?_; kernel_rfl)
theorem kdL_wide : (kdL).Wide := by constructor <;> decide +kernel
end Op
end Go.Proofs.YtndnkfnhgakibaaGreat
