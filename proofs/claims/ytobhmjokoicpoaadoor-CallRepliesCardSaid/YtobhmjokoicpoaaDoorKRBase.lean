/-
  Replies of the reference as they lie in memory (layer 9).
-/
import Derived.Test.YtobhmjokoicpoaaDoorKOf
namespace Go.Proofs.YtobhmjokoicpoaaDoor
open Go.RowKit Go.Shelf

theorem size_R9 : (Tryd.prog.info? 54).map (·.size) = some 15 := by kernel_rfl
theorem zero_R9 : (Tryd.prog.info? 54).bind (·.zero) = some (.agg (rc Rp.zero (.string (txt [])) (.slice none 0 0)).toArray) := by kernel_rfl
theorem built_A9 (a b c d e : Int) : Tryd.prog.built 51 [(0, .int .u32 a), (1, .int .u32 b), (2, .int .u32 c), (3, .int .u32 d), (4, .int .u64 e)] = some #[.int .u32 a, .int .u32 b, .int .u32 c, .int .u32 d, .int .u64 e] := by kernel_rfl
theorem built_R9 (a0 a1 a2 a3 a4 a5 a6 a7 a8 a9 b3 b4 : Int) (s : ByteArray) (t : Bool) : Tryd.prog.built 54 [(0, .int .u32 a0), (1, .int .u32 a1), (2, .int .i64 a2), (3, .agg #[.int .u32 a3, .int .u32 a4]), (4, .agg #[.int .u32 a5, .int .u32 a6, .int .u32 a7, .int .u32 a8, .int .u64 a9]), (5, .string s), (7, .bool t), (8, .int .u64 b3), (9, .int .u32 b4)] =
    some #[.int .u32 a0, .int .u32 a1, .int .i64 a2, .int .u32 a3, .int .u32 a4, .int .u32 a5, .int .u32 a6, .int .u32 a7, .int .u32 a8, .int .u64 a9, .string s, .slice none 0 0, .bool t, .int .u64 b3, .int .u32 b4] := by kernel_rfl
theorem rc_ones (r : Rp) (s : ByteArray) (B : Option Addr) (m cq : Nat) : ∀ v ∈ rc r (.string s) (.slice B m cq), v.oneCell' = true := by
  intro v hv
  simp only [rc, List.mem_cons, List.not_mem_nil, or_false] at hv
  rcases hv with rfl | rfl | rfl | rfl | rfl | rfl | rfl | rfl | rfl | rfl | rfl | rfl | rfl | rfl | rfl <;> rfl
end Go.Proofs.YtobhmjokoicpoaaDoor
