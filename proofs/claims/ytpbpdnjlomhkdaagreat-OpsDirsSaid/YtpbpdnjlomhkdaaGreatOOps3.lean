/-
  Contracts of the operations: willDo, Create, Link (layer 13).
-/
import Derived.Test.YtpbpdnjlomhkdaaGreatOOps2
namespace Go.Proofs.YtpbpdnjlomhkdaaGreat
open Go.RowKit Go.Shelf

theorem built_Sl17 (a b : Int) : Tryz.prog.built 92 [(1, .int .u32 a), (7, .int .u64 b)] = some #[.int .u32 0, .int .u32 a, .int .u32 0, .int .u32 0, .int .u32 0, .int .u64 0, .int .u64 0, .int .u64 b, .slice none 0 0] := by kernel_rfl
section
variable {w0 w w' : World} {p g k : Nat} {t u : Op.TT} {sl : Nat → Sl} {c : Cl} {B : Option Addr} {n d : Nat} {r r' : Rp} {D D' : Option Addr} {m e m' e' : Nat} {E E' : Option Addr} {q f q' f' : Nat}
set_option maxRecDepth 100000 in
set_option maxHeartbeats 4000000 in
theorem willDo_any (h : RX w0 w p g k t sl c B n d r D m e E q f) {i : Nat} (hi : i < 24) :
    Calls Tryz.prog 114 #[.pointer (some ⟨p, 0, none⟩), .pointer (some ⟨g, i * 9, none⟩)] w fun e w' => e = .returned (.bool (decide ((t.s i).kind = 1 ∧ (c.cnt = 0 ∨ c.cnt = 1 ∧ c.vf ≠ 0 ∧ c.vf = (t.s i).verf)))) ∧ Below w.heap.size w w' := by
  have q13 := h.cellR 13 _ rfl
  have q14 := h.cellR 14 _ rfl
  have s1 := h.cellS hi 1 _ rfl
  have s7 := h.cellS hi 7 _ rfl
  have HB : Hid (Below w.heap.size w w) := Below.refl _ _
  clear h
  generalize (t.s i).kind = kd at *
  generalize (t.s i).verf = ve at *
  generalize c.cnt = cn at *
  generalize c.vf = vf at *
  by_cases g0 : cn = 1
  · skip
    by_cases g1 : vf = 0
    · skip
      by_cases g2 : kd = 1
      · skip
        have hd0 : ((cn : Int) == 1) = true := by simp; omega
        have hd1 : ((vf : Int) != 0) = false := by simp; omega
        have hd2 : ((kd : Int) == 1) = true := by simp; omega
        have hd3 : ((cn : Int) == 0) = false := by simp; omega
        have HE : Hid (decide (kd = 1 ∧ (cn = 0 ∨ cn = 1 ∧ vf ≠ 0 ∧ vf = ve)) = false) := by show _ = _; simp; omega
        clear g0 g1 g2
        go_enter Tryz.func114, Tryz.ntmps114
        go_wp2_with fail
        go_quiet (fail)
        go_wp2_with fail
        go_ret
        exact ⟨by rw [HE.out]; simp, Below.drewM HB.out _⟩
      · skip
        have hd0 : ((cn : Int) == 1) = true := by simp; omega
        have hd1 : ((vf : Int) != 0) = false := by simp; omega
        have hd2 : ((kd : Int) == 1) = false := by simp; omega
        have HE : Hid (decide (kd = 1 ∧ (cn = 0 ∨ cn = 1 ∧ vf ≠ 0 ∧ vf = ve)) = false) := by show _ = _; simp; omega
        clear g0 g1 g2
        go_enter Tryz.func114, Tryz.ntmps114
        go_wp2_with fail
        go_quiet (fail)
        go_wp2_with fail
        go_ret
        exact ⟨by rw [HE.out]; simp, Below.drewM HB.out _⟩
    · skip
      by_cases g3 : vf = ve
      · skip
        by_cases g4 : kd = 1
        · skip
          have hd0 : ((cn : Int) == 1) = true := by simp; omega
          have hd1 : ((vf : Int) != 0) = true := by simp; omega
          have hd2 : ((vf : Int) == (ve : Int)) = true := by simp; omega
          have hd3 : ((kd : Int) == 1) = true := by simp; omega
          have hd4 : ((cn : Int) == 0) = false := by simp; omega
          have HE : Hid (decide (kd = 1 ∧ (cn = 0 ∨ cn = 1 ∧ vf ≠ 0 ∧ vf = ve)) = true) := by show _ = _; simp; omega
          clear g0 g1 g3 g4
          go_enter Tryz.func114, Tryz.ntmps114
          go_wp2_with fail
          go_quiet (fail)
          go_wp2_with fail
          go_ret
          exact ⟨by rw [HE.out]; simp, Below.drewM HB.out _⟩
        · skip
          have hd0 : ((cn : Int) == 1) = true := by simp; omega
          have hd1 : ((vf : Int) != 0) = true := by simp; omega
          have hd2 : ((vf : Int) == (ve : Int)) = true := by simp; omega
          have hd3 : ((kd : Int) == 1) = false := by simp; omega
          have HE : Hid (decide (kd = 1 ∧ (cn = 0 ∨ cn = 1 ∧ vf ≠ 0 ∧ vf = ve)) = false) := by show _ = _; simp; omega
          clear g0 g1 g3 g4
          go_enter Tryz.func114, Tryz.ntmps114
          go_wp2_with fail
          go_quiet (fail)
          go_wp2_with fail
          go_ret
          exact ⟨by rw [HE.out]; simp, Below.drewM HB.out _⟩
      · skip
        by_cases g5 : kd = 1
        · skip
          have hd0 : ((cn : Int) == 1) = true := by simp; omega
          have hd1 : ((vf : Int) != 0) = true := by simp; omega
          have hd2 : ((vf : Int) == (ve : Int)) = false := by simp; omega
          have hd3 : ((kd : Int) == 1) = true := by simp; omega
          have hd4 : ((cn : Int) == 0) = false := by simp; omega
          have HE : Hid (decide (kd = 1 ∧ (cn = 0 ∨ cn = 1 ∧ vf ≠ 0 ∧ vf = ve)) = false) := by show _ = _; simp; omega
          clear g0 g1 g3 g5
          go_enter Tryz.func114, Tryz.ntmps114
          go_wp2_with fail
          go_quiet (fail)
          go_wp2_with fail
          go_ret
          exact ⟨by rw [HE.out]; simp, Below.drewM HB.out _⟩
        · skip
          have hd0 : ((cn : Int) == 1) = true := by simp; omega
          have hd1 : ((vf : Int) != 0) = true := by simp; omega
          have hd2 : ((vf : Int) == (ve : Int)) = false := by simp; omega
          have hd3 : ((kd : Int) == 1) = false := by simp; omega
          have HE : Hid (decide (kd = 1 ∧ (cn = 0 ∨ cn = 1 ∧ vf ≠ 0 ∧ vf = ve)) = false) := by show _ = _; simp; omega
          clear g0 g1 g3 g5
          go_enter Tryz.func114, Tryz.ntmps114
          go_wp2_with fail
          go_quiet (fail)
          go_wp2_with fail
          go_ret
          exact ⟨by rw [HE.out]; simp, Below.drewM HB.out _⟩
  · skip
    by_cases g6 : kd = 1
    · skip
      by_cases g7 : cn = 0
      · skip
        have hd0 : ((cn : Int) == 1) = false := by simp; omega
        have hd1 : ((kd : Int) == 1) = true := by simp; omega
        have hd2 : ((cn : Int) == 0) = true := by simp; omega
        have HE : Hid (decide (kd = 1 ∧ (cn = 0 ∨ cn = 1 ∧ vf ≠ 0 ∧ vf = ve)) = true) := by show _ = _; simp; omega
        clear g0 g6 g7
        go_enter Tryz.func114, Tryz.ntmps114
        go_wp2_with fail
        go_quiet (fail)
        go_wp2_with fail
        go_ret
        exact ⟨by rw [HE.out]; simp, Below.drewM HB.out _⟩
      · skip
        have hd0 : ((cn : Int) == 1) = false := by simp; omega
        have hd1 : ((kd : Int) == 1) = true := by simp; omega
        have hd2 : ((cn : Int) == 0) = false := by simp; omega
        have HE : Hid (decide (kd = 1 ∧ (cn = 0 ∨ cn = 1 ∧ vf ≠ 0 ∧ vf = ve)) = false) := by show _ = _; simp; omega
        clear g0 g6 g7
        go_enter Tryz.func114, Tryz.ntmps114
        go_wp2_with fail
        go_quiet (fail)
        go_wp2_with fail
        go_ret
        exact ⟨by rw [HE.out]; simp, Below.drewM HB.out _⟩
    · skip
      have hd0 : ((cn : Int) == 1) = false := by simp; omega
      have hd1 : ((kd : Int) == 1) = false := by simp; omega
      have HE : Hid (decide (kd = 1 ∧ (cn = 0 ∨ cn = 1 ∧ vf ≠ 0 ∧ vf = ve)) = false) := by show _ = _; simp; omega
      clear g0 g6
      go_enter Tryz.func114, Tryz.ntmps114
      go_wp2_with fail
      go_quiet (fail)
      go_wp2_with fail
      go_ret
      exact ⟨by rw [HE.out]; simp, Below.drewM HB.out _⟩
end
end Go.Proofs.YtpbpdnjlomhkdaaGreat
