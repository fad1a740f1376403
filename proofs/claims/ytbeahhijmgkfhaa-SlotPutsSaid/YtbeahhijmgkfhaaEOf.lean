
/-
  Contracts of entriesOf and of the reference's Same (layer 8).
-/
import Derived.Test.YtbeahhijmgkfhaaEKit
import Derived.Deep.DeepCutAuto
namespace Go.Proofs.Ytbeahhijmgkfhaa
open Go.RowKit Go.Shelf

theorem built_F (c : Int) (i g : Int) (v : ByteArray) : Try.prog.built 69 [(0, .int .u64 c), (1, .agg #[.int .u32 i, .int .u32 g]), (2, .string v)] = some #[.int .u64 c, .int .u32 i, .int .u32 g, .string v] := by kernel_rfl

theorem zsize_F : (Try.prog.info? 69).map (fun i => (i.zero, i.size)) = some (some (.agg (ec ⟨0, 0, 0, []⟩).toArray), 4) := by kernel_rfl
theorem run_did_build {P : Program} {o : Oper} {a : Act} (t : TypeId) (parts : Array (Nat × Operand)) (ho : o.op = .build t parts) (cells : Array Value) (hf : P.built t (parts.map fun (i, x) => (i, a.eval x)).toList = some cells) (w : World) : (execOp a.eval o).run P w = .ok (.value (.agg cells)) w := by
  unfold execOp
  simp only [ho, Sem.run_bind, run_build w t _ cells hf, Result.andThen_ok]
  rfl
theorem step_wp {P : Program} {o : Oper} {a : Act} {w : World} {ops : Array Oper} {K : Act → World → Prop} {Q : Exit → Act → World → Prop} {E : Prop} (hg : o.guard = none) (h : o.wp P a w K Q) :
    if Region.wanted o (yielded ops a.tmps) = true then Oper.wp P o a w K Q else E := by
  have hw : Region.wanted o (yielded ops a.tmps) = true := by simp [Region.wanted, hg]
  rw [if_pos hw]
  exact h
/-- The cells of one entry. -/
structure E4 (b q : Nat) (e : En) (w : World) : Prop where
  c0 : w.cell? ⟨b, q, none⟩ = some (.int .u64 (e.ck : Int))
  c1 : w.cell? ⟨b, q + 1, none⟩ = some (.int .u32 (e.ino : Int))
  c2 : w.cell? ⟨b, q + 2, none⟩ = some (.int .u32 (e.gen : Int))
  c3 : w.cell? ⟨b, q + 3, none⟩ = some (.string (txt e.nm))
theorem E4.of {b q : Nat} {e : En} {w : World} (h : ∀ i v, (ec e)[i]? = some v → w.cell? ⟨b, q + i, none⟩ = some v) : E4 b q e w := ⟨h 0 _ rfl, h 1 _ rfl, h 2 _ rfl, h 3 _ rfl⟩
theorem E4.below {b q : Nat} {e : En} {w w' : World} (h : E4 b q e w) (hb : Below w.heap.size w w') : E4 b q e w' := by
  have hl : b < w.heap.size := World.block_lt_of_cell? w _ h.c0
  exact ⟨(hb.cell (p := ⟨b, _, none⟩) hl).trans h.c0, (hb.cell (p := ⟨b, _, none⟩) hl).trans h.c1, (hb.cell (p := ⟨b, _, none⟩) hl).trans h.c2, (hb.cell (p := ⟨b, _, none⟩) hl).trans h.c3⟩

end Go.Proofs.Ytbeahhijmgkfhaa
