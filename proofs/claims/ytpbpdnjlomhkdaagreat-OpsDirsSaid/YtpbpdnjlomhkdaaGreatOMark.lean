/-
  A text's constant bytes made in a region that draws its order (layer 13): the row is made, and marked later on, whatever comes between.
-/
import Derived.Test.YtpbpdnjlomhkdaaGreatODraw
namespace Go.Proofs.YtpbpdnjlomhkdaaGreat
open Go.RowKit Go.Shelf

/-- A row of one byte is made. -/
theorem byte1_wp {w : World} {a : Act} {o : Oper} {K : Act → World → Prop} {Q : Exit → Act → World → Prop} (x : Operand) (ho : o.op = .buildSlice 38 1 #[(0, x)]) (b : UInt8) (hx : a.eval x = .int .u8 (b.toNat : Int))
    (h : ∀ w', w'.heap[w.heap.size]? = some (.cells (bc [b]).toArray 5 (0, 0)) → w'.heap.size = w.heap.size + 1 → Below w.heap.size w w' → K (a.put o.dst (.slice (some ⟨w.heap.size, 0, none⟩) 1 1)) w') : o.wp Tryz.prog a w K Q := by
  obtain ⟨i, hi, hz, hs, hb⟩ := info_parts info_u8
  have hr := run_buildSlice (P := Tryz.prog) w 38 5 1 #[(0, .int .u8 (b.toNat : Int))] #[.int .u8 (b.toNat : Int)] i _ Tryz.underlying38 hi hz (by rw [hs]; omega) (by rw [hs]; omega) (by rw [hs]; simp [Instr.fill, Value.cells, range1])
  have hd : Did Tryz.prog o a w (.slice (some ⟨w.heap.size, 0, none⟩) 1 1) (w.alloc (.cells #[.int .u8 (b.toNat : Int)] 5)) := .inl (by
    unfold execOp
    simp only [ho, Sem.run_bind]
    simp [hx, hr])
  exact hd.wp (h _ (heap_alloc_new w _) (by simp) ((Below.refl _ _).alloc (Nat.le_refl _) _))

/-- It is marked as a constant's: the place behind it is frozen. -/
theorem run_mark {W : World} {g : Nat} {C : Array Value} (n c : Nat) (hg : W.heap[g]? = some (.cells C 5 (0, 0))) :
    (convert 38 38 (.slice (some ⟨g, 0, none⟩) n c)).run Tryz.prog W = .ok (.slice (some ⟨g, 0, none⟩) n c) (W.freeze ⟨g, C.size, none⟩ 1) := by
  have hsh : W.shape? g = some (5, C.size) := by
    unfold World.shape?
    rw [hg]
  simp [convert, run_underlying Tryz.underlying38, run_underlying Tryz.underlying5, markStringish, hsh]
theorem freeze_block {W : World} {g : Nat} {C : Array Value} {e : TypeId} (hg : W.heap[g]? = some (.cells C e (0, 0))) (k : Nat) : (W.freeze ⟨g, k, none⟩ 1).heap[g]? = some (.cells C e (k, k + 1)) := by
  unfold World.freeze
  rw [if_neg (by decide)]
  show (W.heap.modify g _)[g]? = _
  rw [Array.getElem?_modify, if_pos rfl, hg]
  rfl
theorem freeze_keep (W : World) (g k : Nat) : Keep (· ≠ g) W (W.freeze ⟨g, k, none⟩ 1) := by
  unfold World.freeze
  rw [if_neg (by decide)]
  refine ⟨rfl, rfl, rfl, ?_, fun j hj => ?_⟩
  · show _ ≤ (W.heap.modify g _).size
    simp
  · show (W.heap.modify g _)[j]? = _
    rw [Array.getElem?_modify, if_neg (fun e => hj e.symm)]
theorem mark_wp {w : World} {a : Act} {o : Oper} {K : Act → World → Prop} {Q : Exit → Act → World → Prop} (x : Operand) (ho : o.op = .convert 38 38 x) (g n c : Nat) (C : Array Value) (hx : a.eval x = .slice (some ⟨g, 0, none⟩) n c) (hg : w.heap[g]? = some (.cells C 5 (0, 0)))
    (h : ∀ w', w'.heap[g]? = some (.cells C 5 (C.size, C.size + 1)) → Keep (· ≠ g) w w' → K (a.put o.dst (.slice (some ⟨g, 0, none⟩) n c)) w') : o.wp Tryz.prog a w K Q := by
  have hd : Did Tryz.prog o a w (.slice (some ⟨g, 0, none⟩) n c) (w.freeze ⟨g, C.size, none⟩ 1) := .inl (by
    unfold execOp
    simp only [ho, hx, Sem.run_bind, run_mark n c hg, Result.andThen_ok]
    rfl)
  exact hd.wp (h _ (freeze_block hg _) (freeze_keep w g _))
end Go.Proofs.YtpbpdnjlomhkdaaGreat
