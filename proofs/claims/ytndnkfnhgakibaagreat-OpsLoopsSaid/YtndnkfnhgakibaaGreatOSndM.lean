/-
  What the law's sound counts, plain, and a row of numbers of 32 bits (layer 13).
-/
import Derived.Test.YtndnkfnhgakibaaGreatOPB
import Derived.Test.YtndnkfnhgakibaaGreatQ5
namespace Go.Proofs.YtndnkfnhgakibaaGreat
open Go.RowKit Go.Shelf
namespace Op
/-- How many links are counted behind i things and k entries of the next one. -/
def lk (t : TT) (i k j : Nat) : Nat := (if j = 0 then 1 else 0) + ((List.range i).map (own t j)).sum + ((ents t i).take k).countP (fun e => e.ino == j)
theorem lk_zero (t : TT) (j : Nat) : lk t 0 0 j = if j = 0 then 1 else 0 := by simp [lk]
theorem lk_step (t : TT) (i : Nat) {k : Nat} (hk : k < (ents t i).length) (j : Nat) : lk t i (k + 1) j = lk t i k j + if (ents t i)[k].ino = j then 1 else 0 := by
  unfold lk
  rw [List.take_succ_eq_append_getElem hk, List.countP_append, List.countP_singleton]
  simp only [beq_iff_eq]
  omega
theorem lk_dir (t : TT) {i : Nat} (h : (t.s i).kind = 2) (j : Nat) : lk t i (ents t i).length j = lk t (i + 1) 0 j := by
  unfold lk
  rw [List.range_succ, List.map_append, List.sum_append, List.take_length]
  simp [own, h]
  omega
theorem lk_other (t : TT) {i : Nat} (h : (t.s i).kind ≠ 2) (j : Nat) : lk t i 0 j = lk t (i + 1) 0 j := by
  unfold lk
  rw [List.range_succ, List.map_append, List.sum_append]
  simp [own, h]
theorem lk_all (t : TT) (j : Nat) : lk t 24 0 j = refs t j := by
  unfold lk refs Vl.sum24
  simp
theorem lk_le {t : TT} (h : Sound t) {i k : Nat} (hi : i < 24) (hk : k = 0 ∨ (t.s i).kind = 2) (j : Nat) : lk t i k j ≤ 951 := by
  have hcap : ∀ a, a < 24 → own t j a ≤ 38 := fun a ha => by
    unfold own
    split
    · rename_i hk
      exact Nat.le_trans List.countP_le_length (ents_few (h.inv.may.ok a ha) hk)
    · omega
  have h1 : ∀ n, n ≤ 24 → ((List.range n).map (own t j)).sum ≤ n * 38 := by
    intro n
    induction n with
    | zero => intro _; exact Nat.le_refl _
    | succ m ih =>
      intro hm
      rw [List.range_succ, List.map_append, List.sum_append]
      have a1 := ih (by omega)
      have a2 := hcap m (by omega)
      simp only [List.map_cons, List.map_nil, List.sum_cons, List.sum_nil]
      omega
  have h2 := h1 i (by omega)
  have h3 : ((ents t i).take k).countP (fun e => e.ino == j) ≤ 38 := by
    rcases hk with rfl | hk2
    · simp
    · exact Nat.le_trans List.countP_le_length (by rw [List.length_take]; have := ents_few (h.inv.may.ok i hi) hk2; omega)
  unfold lk
  split <;> omega
end Op
/-- A row of 24 numbers of 32 bits in a block of its own. -/
def ucs (p : Nat → Nat) : List Value := (List.range 24).map fun i => Value.int .u32 (p i : Int)
def UB (w : World) (g : Nat) (p : Nat → Nat) : Prop := w.heap[g]? = some (.cells (ucs p).toArray 33 (0, 0))
section
variable {w w' : World} {g : Nat} {p : Nat → Nat}
theorem UB.cell (h : UB w g p) {k : Nat} (hk : k < 24) : w.cell? ⟨g, k, none⟩ = some (.int .u32 (p k : Int)) := by
  rw [cell_of_row _ _ _ _ _ _ h]
  simp [ucs, hk]
theorem UB.froz (h : UB w g p) (k : Nat) : w.frozen? ⟨g, k, none⟩ = false := by simp [World.frozen?, show w.heap[g]? = _ from h]
theorem UB.lt (h : UB w g p) : g < w.heap.size := (Array.getElem?_eq_some_iff.1 h).1
theorem UB.below (h : UB w g p) (hb : Below w.heap.size w w') : UB w' g p := (hb.block g h.lt).trans h
theorem UB.set (h : UB w g p) (k : Nat) (x : Nat) : UB (w.setCell ⟨g, k, none⟩ (.int .u32 (x : Int))) g (upd p k x) := by
  have := setRow_heap w g _ (((List.range 24).map (upd (fun i => Value.int .u32 (p i : Int)) k (.int .u32 (x : Int)))).toArray) _ _ h
  rw [← setIf_range] at this
  unfold UB
  rw [setCell_eq_setRow _ _ _ _ _ _ _ h]
  refine this.trans ?_
  rw [setIf_range]
  unfold ucs
  congr 3
  apply List.map_congr_left
  intro i _
  simp only [upd]
  split <;> rfl
theorem infoU32 : (Tryz.prog.info? 33).map (fun i => (i.zero, i.size, i.bytes)) = some (some (.int .u32 0), 1, 4) := by kernel_rfl
theorem UB.congr (h : UB w g p) {q : Nat → Nat} (e : ∀ j, j < 24 → p j = q j) : UB w g q := by
  have : ucs p = ucs q := List.map_congr_left fun j hj => by rw [e j (List.mem_range.1 hj)]
  unfold UB at *
  rw [← this]
  exact h
theorem UB.nobyte (h : UB w g p) (o : Nat) (z : Int) : w.cell? ⟨g, o, none⟩ ≠ some (.int .u8 z) := by
  rw [cell_of_row _ _ _ _ _ _ h]
  by_cases hk : o < 24
  · simp [ucs, hk]
  · simp [ucs, hk]
theorem UB.nostr (h : UB w g p) (o : Nat) (z : ByteArray) : w.cell? ⟨g, o, none⟩ ≠ some (.string z) := by
  rw [cell_of_row _ _ _ _ _ _ h]
  by_cases hk : o < 24
  · simp [ucs, hk]
  · simp [ucs, hk]
end
end Go.Proofs.YtndnkfnhgakibaaGreat
