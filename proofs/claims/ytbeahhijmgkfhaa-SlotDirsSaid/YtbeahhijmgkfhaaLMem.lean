/-
  Complete files as they lie in memory, the program's and the document's (layer 11).
-/
import Derived.Test.YtbeahhijmgkfhaaLKit
import Derived.Test.YtbeahhijmgkfhaaLMath
namespace Go.Proofs.Ytbeahhijmgkfhaa
open Go.RowKit Go.Shelf

/-- The cells of one whose data is v. -/
def sc (s : Vl.Th) (v : Value) : List Value := [.int .u32 (s.ino : Int), .int .u32 (s.kind : Int), .int .u32 (s.gen : Int), .int .u32 (s.links : Int), .int .u32 (s.mode : Int), .int .u64 (s.change : Int), .int .u64 (s.cookie : Int), .int .u64 (s.verf : Int), v]
theorem sc_str (s : Vl.Th) (b : ByteArray) : ∀ v ∈ sc s (.string b), v.oneCell' = true := by
  intro v hv
  simp only [sc, List.mem_cons, List.not_mem_nil, or_false] at hv
  rcases hv with rfl | rfl | rfl | rfl | rfl | rfl | rfl | rfl | rfl <;> rfl
theorem sc_row (s : Vl.Th) (A : Option Addr) (n c : Nat) : ∀ v ∈ sc s (.slice A n c), v.oneCell' = true := by
  intro v hv
  simp only [sc, List.mem_cons, List.not_mem_nil, or_false] at hv
  rcases hv with rfl | rfl | rfl | rfl | rfl | rfl | rfl | rfl | rfl <;> rfl
theorem size_S11 : (Try.prog.info? 34).map (·.size) = some 9 := by kernel_rfl
theorem zero_S11 : (Try.prog.info? 34).bind (·.zero) = some (.agg (sc Sl.zero (.string (txt []))).toArray) := by kernel_rfl
theorem built_S11z : Try.prog.built 34 [] = some (sc Sl.zero (.string (txt []))).toArray := by kernel_rfl
theorem built_S11 (a b c d e f g h : Int) (s : ByteArray) : Try.prog.built 34 [(0, .int .u32 a), (1, .int .u32 b), (2, .int .u32 c), (3, .int .u32 d), (4, .int .u32 e), (5, .int .u64 f), (6, .int .u64 g), (7, .int .u64 h), (8, .string s)] =
    some #[.int .u32 a, .int .u32 b, .int .u32 c, .int .u32 d, .int .u32 e, .int .u64 f, .int .u64 g, .int .u64 h, .string s] := by kernel_rfl
theorem size_Sl : (Try.prog.info? 26).map (·.size) = some 9 := by kernel_rfl
theorem zero_Sl : (Try.prog.info? 26).bind (·.zero) = some (.agg (sc Sl.zero (.slice none 0 0)).toArray) := by kernel_rfl
theorem built_Slz : Try.prog.built 26 [] = some (sc Sl.zero (.slice none 0 0)).toArray := by kernel_rfl
/-- What Get hands back. -/
def GetSQ (s : Vl.Th) (z : Int) (w : World) (e : Ending) (w' : World) : Prop := ∃ A n cp, e = .returned (.tuple #[.agg (sc s (.slice A n cp)).toArray, .int .i64 z]) ∧ BS w' A n s.dt ∧ Below w.heap.size w w'
/-- The numbers fit their fields. -/
structure Fits (s : Vl.Th) : Prop where
  ino : s.ino < 4294967296
  kind : s.kind < 4294967296
  wide : s.Wide
theorem Fits.of_ok {s : Vl.Th} (h : Sl.okS s = true) (hw : s.Wide) : Fits s := by
  obtain ⟨h1, h2, _⟩ := Vl.okB_facts h
  exact ⟨by omega, by omega, hw⟩
theorem Sl.opq_len (b : List UInt8) : (opq b).length ≤ 7 + b.length := by rw [opq_length]; unfold pad; omega
end Go.Proofs.Ytbeahhijmgkfhaa
