/-
  Two calls, two replies of the reference that are compared (layer 9).
-/
import Derived.Test.YtobhmjokoicpoaaDoorKOf
namespace Go.Proofs.YtobhmjokoicpoaaDoor
open Go.RowKit Go.Shelf

theorem cEqIn (x y : Cl) (w : World) : (Op.equalIn 10000 36 (.agg (cc x (.string (txt x.dt))).toArray) (.agg (cc y (.string (txt y.dt))).toArray)).run Tryd.prog w = .ok (decide (x = y)) w := by
  have hS : Tryd.prog.underlying 36 = some (.struct (Tryd.prog.fieldsOf 36)) := by kernel_rfl
  have hp : Tryd.prog.stoodInHeld 36 = false := by kernel_rfl
  have u := Tryd.underlying25
  have ia := Tryd.isAgg25
  have sz := Tryd.sizeOf25
  have u1 := Tryd.underlying9
  have ia1 := Tryd.isAgg9
  have sz1 := Tryd.sizeOf9
  have u3 := Tryd.underlying22
  have ia3 := Tryd.isAgg22
  have sz3 := Tryd.sizeOf22
  have ia2 := Tryd.isAgg24
  have sz2 := Tryd.sizeOf24
  rw [show (10000 : Nat) = 9997 + 1 + 1 + 1 from rfl, run_equalIn_agg w (9997 + 1 + 1) 36 _ _ hS hp]
  simp only [Program.fieldsOf, Tryd.underlying36]
  have hE := hEq 9997
  unfold cc
  go_simp
  simp only [txt_toList]
  by_cases h : x = y
  · subst h
    simp
  · rw [decide_eq_false h]
    obtain ⟨a0, a1, a2, a3, a4, a5, a6, a7, a8, a9, a10, a11, a12, a13⟩ := x
    obtain ⟨b0, b1, b2, b3, b4, b5, b6, b7, b8, b9, b10, b11, b12, b13⟩ := y
    dsimp only
    simp only [Int.ofNat_inj]
    by_cases g0 : a0 = b0
    rotate_left
    · rw [if_neg g0]
    subst g0
    rw [if_pos rfl]
    by_cases g1 : a1 = b1
    rotate_left
    · rw [if_neg g1]
    subst g1
    rw [if_pos rfl]
    by_cases g2 : a2 = b2
    rotate_left
    · rw [if_neg g2]
    subst g2
    rw [if_pos rfl]
    by_cases g3 : a3 = b3 ∧ a4 = b4
    rotate_left
    · rw [if_pos (fun e1 e2 => g3 ⟨e1, e2⟩)]
    obtain ⟨rfl, rfl⟩ := g3
    rw [if_neg (fun h => h rfl rfl)]
    by_cases g5 : a5 = b5
    rotate_left
    · rw [if_neg g5]
    subst g5
    rw [if_pos rfl]
    by_cases g6 : a6 = b6 ∧ a7 = b7
    rotate_left
    · rw [if_pos (fun e1 e2 => g6 ⟨e1, e2⟩)]
    obtain ⟨rfl, rfl⟩ := g6
    rw [if_neg (fun h => h rfl rfl)]
    by_cases g8 : a8 = b8
    rotate_left
    · rw [if_neg g8]
    subst g8
    rw [if_pos rfl]
    by_cases g9 : a9 = b9
    rotate_left
    · rw [if_neg g9]
    subst g9
    rw [if_pos rfl]
    by_cases g10 : a10 = b10
    rotate_left
    · rw [if_neg g10]
    subst g10
    rw [if_pos rfl]
    by_cases g11 : a11 = b11
    rotate_left
    · rw [if_neg g11]
    subst g11
    rw [if_pos rfl]
    by_cases g12 : a12 = b12
    rotate_left
    · rw [if_neg g12]
    subst g12
    rw [if_pos rfl]
    rw [if_neg (fun e => h (by rw [e]))]
theorem cEq (x y : Cl) (w : World) : (binOp .eql 36 (.agg (cc x (.string (txt x.dt))).toArray) (.agg (cc y (.string (txt y.dt))).toArray)).run Tryd.prog w = .ok (.bool (decide (x = y))) w := by
  rw [run_eql_struct, cEqIn, Result.andThen_ok]
theorem cNe (x y : Cl) (w : World) : (binOp .neq 36 (.agg (cc x (.string (txt x.dt))).toArray) (.agg (cc y (.string (txt y.dt))).toArray)).run Tryd.prog w = .ok (.bool (!decide (x = y))) w := by
  rw [run_neq_struct, cEqIn, Result.andThen_ok]
end Go.Proofs.YtobhmjokoicpoaaDoor
