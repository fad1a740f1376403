/-
  States of a move as they lie in memory, the program's and the document's; two compared (layer 15).
-/
import Derived.Test.YtjionpkflpnejaaLKit
import Derived.Test.YtjionpkflpnejaaMMath
import Derived.Laws.StructEq
namespace Go.Proofs.Ytjionpkflpnejaa
open Go.RowKit Go.Shelf

/-- The cells of a state. -/
def mc (s : Ms) : List Value := [.bool s.ow, .int .u32 (s.ph : Int), .int .u32 (s.pr : Int), .int .u64 (s.ep : Int), .int .u64 (s.sq : Int), .int .u64 (s.fr : Int), .int .u64 (s.gl : Int), .int .u32 (s.nx : Int), .int .u32 (s.rn : Int)]
theorem mc_one (s : Ms) : ∀ v ∈ mc s, v.oneCell' = true := by
  intro v hv
  simp only [mc, List.mem_cons, List.not_mem_nil, or_false] at hv
  rcases hv with rfl | rfl | rfl | rfl | rfl | rfl | rfl | rfl | rfl <;> rfl
theorem size_M15 : (Try.prog.info? 33).map (·.size) = some 9 := by kernel_rfl
theorem zero_M15 : (Try.prog.info? 33).bind (·.zero) = some (.agg (mc Mk.zero).toArray) := by kernel_rfl
theorem built_M15z : Try.prog.built 33 [] = some (mc Mk.zero).toArray := by kernel_rfl
theorem built_M15 (o : Bool) (a b : Int) (c d e f : Int) (g h : Int) : Try.prog.built 33 [(0, .bool o), (1, .int .u32 a), (2, .int .u32 b), (3, .int .u64 c), (4, .int .u64 d), (5, .int .u64 e), (6, .int .u64 f), (7, .int .u32 g), (8, .int .u32 h)] =
    some #[.bool o, .int .u32 a, .int .u32 b, .int .u64 c, .int .u64 d, .int .u64 e, .int .u64 f, .int .u32 g, .int .u32 h] := by kernel_rfl
theorem size_Mk : (Try.prog.info? 25).map (·.size) = some 9 := by kernel_rfl
theorem zero_Mk : (Try.prog.info? 25).bind (·.zero) = some (.agg (mc Mk.zero).toArray) := by kernel_rfl
theorem built_Mkz : Try.prog.built 25 [] = some (mc Mk.zero).toArray := by kernel_rfl
theorem built_Mk (o : Bool) (a b : Int) (c d e f : Int) (g h : Int) : Try.prog.built 25 [(0, .bool o), (1, .int .u32 a), (2, .int .u32 b), (3, .int .u64 c), (4, .int .u64 d), (5, .int .u64 e), (6, .int .u64 f), (7, .int .u32 g), (8, .int .u32 h)] =
    some #[.bool o, .int .u32 a, .int .u32 b, .int .u64 c, .int .u64 d, .int .u64 e, .int .u64 f, .int .u32 g, .int .u32 h] := by kernel_rfl

theorem mEqIn (x y : Ms) (w : World) : (Op.equalIn 10000 25 (.agg (mc x).toArray) (.agg (mc y).toArray)).run Try.prog w = .ok (decide (x = y)) w := by
  have hS : Try.prog.underlying 25 = some (.struct (Try.prog.fieldsOf 25)) := by kernel_rfl
  have hp : Try.prog.stoodInHeld 25 = false := by kernel_rfl
  have u := Try.underlying23
  have ia := Try.isAgg23
  have sz := Try.sizeOf23
  have u1 := Try.underlying4
  have ia1 := Try.isAgg4
  have sz1 := Try.sizeOf4
  have u3 := Try.underlying22
  have ia3 := Try.isAgg22
  have sz3 := Try.sizeOf22
  rw [show (10000 : Nat) = 9997 + 1 + 1 + 1 from rfl, run_equalIn_agg w (9997 + 1 + 1) 25 _ _ hS hp]
  simp only [Program.fieldsOf, Try.underlying25]
  unfold mc
  go_simp
  by_cases h : x = y
  · subst h
    simp
  · rw [decide_eq_false h]
    obtain ⟨a0, a1, a2, a3, a4, a5, a6, a7, a8⟩ := x
    obtain ⟨b0, b1, b2, b3, b4, b5, b6, b7, b8⟩ := y
    dsimp only
    simp only [Int.ofNat_inj]
    by_cases g0 : a0 = b0
    rotate_left
    · rw [if_neg g0]
    subst g0
    rw [if_pos rfl]
    by_cases g1 : a1 = b1
    rotate_left
    · rw [if_neg g1]
    subst g1
    rw [if_pos rfl]
    by_cases g2 : a2 = b2
    rotate_left
    · rw [if_neg g2]
    subst g2
    rw [if_pos rfl]
    by_cases g3 : a3 = b3
    rotate_left
    · rw [if_neg g3]
    subst g3
    rw [if_pos rfl]
    by_cases g4 : a4 = b4
    rotate_left
    · rw [if_neg g4]
    subst g4
    rw [if_pos rfl]
    by_cases g5 : a5 = b5
    rotate_left
    · rw [if_neg g5]
    subst g5
    rw [if_pos rfl]
    by_cases g6 : a6 = b6
    rotate_left
    · rw [if_neg g6]
    subst g6
    rw [if_pos rfl]
    by_cases g7 : a7 = b7
    rotate_left
    · rw [if_neg g7]
    subst g7
    rw [if_pos rfl]
    rw [if_neg (fun e => h (by rw [e]))]
theorem mEq (x y : Ms) (w : World) : (binOp .eql 25 (.agg (mc x).toArray) (.agg (mc y).toArray)).run Try.prog w = .ok (.bool (decide (x = y))) w := by
  rw [run_eql_struct, mEqIn, Result.andThen_ok]
theorem mNe (x y : Ms) (w : World) : (binOp .neq 25 (.agg (mc x).toArray) (.agg (mc y).toArray)).run Try.prog w = .ok (.bool (!decide (x = y))) w := by
  rw [run_neq_struct, mEqIn, Result.andThen_ok]
theorem rEqIn (x y : Ms) (w : World) : (Op.equalIn 10000 33 (.agg (mc x).toArray) (.agg (mc y).toArray)).run Try.prog w = .ok (decide (x = y)) w := by
  have hS : Try.prog.underlying 33 = some (.struct (Try.prog.fieldsOf 33)) := by kernel_rfl
  have hp : Try.prog.stoodInHeld 33 = false := by kernel_rfl
  have u := Try.underlying23
  have ia := Try.isAgg23
  have sz := Try.sizeOf23
  have u1 := Try.underlying4
  have ia1 := Try.isAgg4
  have sz1 := Try.sizeOf4
  have u3 := Try.underlying22
  have ia3 := Try.isAgg22
  have sz3 := Try.sizeOf22
  rw [show (10000 : Nat) = 9997 + 1 + 1 + 1 from rfl, run_equalIn_agg w (9997 + 1 + 1) 33 _ _ hS hp]
  simp only [Program.fieldsOf, Try.underlying33]
  unfold mc
  go_simp
  by_cases h : x = y
  · subst h
    simp
  · rw [decide_eq_false h]
    obtain ⟨a0, a1, a2, a3, a4, a5, a6, a7, a8⟩ := x
    obtain ⟨b0, b1, b2, b3, b4, b5, b6, b7, b8⟩ := y
    dsimp only
    simp only [Int.ofNat_inj]
    by_cases g0 : a0 = b0
    rotate_left
    · rw [if_neg g0]
    subst g0
    rw [if_pos rfl]
    by_cases g1 : a1 = b1
    rotate_left
    · rw [if_neg g1]
    subst g1
    rw [if_pos rfl]
    by_cases g2 : a2 = b2
    rotate_left
    · rw [if_neg g2]
    subst g2
    rw [if_pos rfl]
    by_cases g3 : a3 = b3
    rotate_left
    · rw [if_neg g3]
    subst g3
    rw [if_pos rfl]
    by_cases g4 : a4 = b4
    rotate_left
    · rw [if_neg g4]
    subst g4
    rw [if_pos rfl]
    by_cases g5 : a5 = b5
    rotate_left
    · rw [if_neg g5]
    subst g5
    rw [if_pos rfl]
    by_cases g6 : a6 = b6
    rotate_left
    · rw [if_neg g6]
    subst g6
    rw [if_pos rfl]
    by_cases g7 : a7 = b7
    rotate_left
    · rw [if_neg g7]
    subst g7
    rw [if_pos rfl]
    rw [if_neg (fun e => h (by rw [e]))]
theorem rEq (x y : Ms) (w : World) : (binOp .eql 33 (.agg (mc x).toArray) (.agg (mc y).toArray)).run Try.prog w = .ok (.bool (decide (x = y))) w := by
  rw [run_eql_struct, rEqIn, Result.andThen_ok]
theorem rNe (x y : Ms) (w : World) : (binOp .neq 33 (.agg (mc x).toArray) (.agg (mc y).toArray)).run Try.prog w = .ok (.bool (!decide (x = y))) w := by
  rw [run_neq_struct, rEqIn, Result.andThen_ok]
end Go.Proofs.Ytjionpkflpnejaa
