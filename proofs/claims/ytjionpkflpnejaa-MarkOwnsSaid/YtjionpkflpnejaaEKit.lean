
/-
  Steps of this layer's statements: rows of bools and of numbers, one byte as a text (layer 8).
-/
import Derived.Test.YtjionpkflpnejaaENames
import Derived.Laws.MakeOwn
import Derived.Deep.RegionHeld
namespace Go.Proofs.Ytjionpkflpnejaa
open Go.RowKit Go.Shelf

section
variable {o : Oper} {a : Act} {w : World} {ops : Array Oper} {rest : List Oper} {Q : Exit → Act → World → Prop}
/-- The cells of bools, of numbers. -/
def bcs (n : Nat) (p : Nat → Bool) : List Value := (List.range n).map fun i => Value.bool (p i)
def ics (n : Nat) (p : Nat → Nat) : List Value := (List.range n).map fun i => Value.int .i64 (p i : Int)
def BB (w : World) (g n : Nat) (p : Nat → Bool) : Prop := w.heap[g]? = some (.cells (bcs n p).toArray 4 (0, 0))
def IB (w : World) (g n : Nat) (p : Nat → Nat) : Prop := w.heap[g]? = some (.cells (ics n p).toArray 3 (0, 0))
def upd {α : Type} (p : Nat → α) (k : Nat) (x : α) : Nat → α := fun i => if i = k then x else p i
theorem infoBool : (Try.prog.info? 4).map (fun i => (i.zero, i.size, i.bytes)) = some (some (.bool false), 1, 1) := by kernel_rfl
theorem infoInt : (Try.prog.info? 3).map (fun i => (i.zero, i.size, i.bytes)) = some (some (.int .i64 0), 1, 8) := by kernel_rfl
theorem made_cells (z : Value) (hz : z.cells = #[z]) (n : Nat) : madeCells z.cells (n * 1) = ((List.range n).map fun _ => z).toArray := by
  apply Array.ext'
  rw [hz]
  simp [madeCells, Nat.mod_one]
theorem wpList_make_row (hgd : o.guard = none) (t e : TypeId) (z : Value) (by_ : Nat) (l c : Operand) (ho : o.op = .makeSlice t l c) (ht : Try.prog.underlying t = some (.slice e))
    (hinf : (Try.prog.info? e).map (fun i => (i.zero, i.size, i.bytes)) = some (some z, 1, by_)) (hz1 : z.cells = #[z]) (hby : by_ ≤ 24) (n : Nat) (hl : a.eval l = .int .i64 (n : Int)) (hc : a.eval c = .int .i64 (n : Int)) (hn : n ≤ 1000000)
    (h : ∀ w', w'.heap[w.heap.size]? = some (.cells ((List.range n).map fun _ => z).toArray e (0, 0)) → w'.heap.size = w.heap.size + 1 → Below w.heap.size w w' → wpList Try.prog ops Q rest (a.put o.dst (.slice (some ⟨w.heap.size, 0, none⟩) n n)) w') : wpList Try.prog ops Q (o :: rest) a w := by
  obtain ⟨i, hi, hz, hs, hb⟩ := info_parts hinf
  have hr := run_makeSlice (P := Try.prog) w t e i z ht hi hz .i64 .i64 (n : Int) (n : Int) (by omega) (by omega) (by rw [hs]; simp; omega) (by rw [hb]; have h1 : by_ * n ≤ 24 * n := Nat.mul_le_mul_right _ hby; have h2 := Int.ofNat_le.2 h1; push_cast at h2; rw [Int.mul_comm] at h2; omega) (by omega)
  rw [hs, Int.toNat_natCast, made_cells z hz1] at hr
  refine Did.list hgd (v := .slice (some ⟨w.heap.size, 0, none⟩) n n) (w' := w.alloc (.cells ((List.range n).map fun _ => z).toArray e)) (.inl ?_) (h _ (heap_alloc_new w _) (by simp) ((Below.refl _ _).alloc (Nat.le_refl _) _))
  unfold execOp
  simp only [ho, hl, hc, Sem.run_bind, hr, Result.andThen_ok]
  rfl
theorem wpList_conv_bs (hgd : o.guard = none) (x : Operand) (ho : o.op = .convert 27 9 x) (A : Option Addr) (n c : Nat) (l : List UInt8) (hx : a.eval x = .slice A n c) (h : BS w A n l)
    (hk : wpList Try.prog ops Q rest (a.put o.dst (.string (txt l))) w) : wpList Try.prog ops Q (o :: rest) a w := by
  refine Did.list hgd (v := .string (txt l)) (w' := w) (.inl ?_) hk
  unfold execOp
  simp only [ho, hx, Sem.run_bind, run_convert_bs w A n c l h, Result.andThen_ok]
  rfl
theorem range1 : Array.range 1 = #[0] := by decide
theorem range2 : Array.range 2 = #[0, 1] := by decide
/-- A slice of one or two bytes, the world under a name of its own. -/
theorem wpList_byte1 (hgd : o.guard = none) (x : Operand) (ho : o.op = .buildSlice 27 1 #[(0, x)]) (b : UInt8) (hx : a.eval x = .int .u8 (b.toNat : Int))
    (h : ∀ w', BS w' (some ⟨w.heap.size, 0, none⟩) 1 [b] → Below w.heap.size w w' → wpList Try.prog ops Q rest (a.put o.dst (.slice (some ⟨w.heap.size, 0, none⟩) 1 1)) w') : wpList Try.prog ops Q (o :: rest) a w := by
  obtain ⟨i, hi, hz, hs, hb⟩ := info_parts info_u8
  have hr := run_buildSlice (P := Try.prog) w 27 5 1 #[(0, .int .u8 (b.toNat : Int))] #[.int .u8 (b.toNat : Int)] i _ Try.underlying27 hi hz (by rw [hs]; omega) (by rw [hs]; omega) (by rw [hs]; simp [Instr.fill, Value.cells, range1])
  refine Did.list hgd (v := .slice (some ⟨w.heap.size, 0, none⟩) 1 1) (w' := w.alloc (.cells #[.int .u8 (b.toNat : Int)] 5)) (.inl ?_) (h _ (BS.of_block (l := [b]) (heap_alloc_new w _)) ((Below.refl _ _).alloc (Nat.le_refl _) _))
  unfold execOp
  simp only [ho, Sem.run_bind]
  simp [hx, hr]
theorem wpList_byte2 (hgd : o.guard = none) (x y : Operand) (ho : o.op = .buildSlice 27 2 #[(0, x), (1, y)]) (b c : UInt8) (hx : a.eval x = .int .u8 (b.toNat : Int)) (hy : a.eval y = .int .u8 (c.toNat : Int))
    (h : ∀ w', BS w' (some ⟨w.heap.size, 0, none⟩) 2 [b, c] → Below w.heap.size w w' → wpList Try.prog ops Q rest (a.put o.dst (.slice (some ⟨w.heap.size, 0, none⟩) 2 2)) w') : wpList Try.prog ops Q (o :: rest) a w := by
  obtain ⟨i, hi, hz, hs, hb⟩ := info_parts info_u8
  have hr := run_buildSlice (P := Try.prog) w 27 5 2 #[(0, .int .u8 (b.toNat : Int)), (1, .int .u8 (c.toNat : Int))] #[.int .u8 (b.toNat : Int), .int .u8 (c.toNat : Int)] i _ Try.underlying27 hi hz (by rw [hs]; omega) (by rw [hs]; omega) (by rw [hs]; simp [Instr.fill, Value.cells, range2])
  refine Did.list hgd (v := .slice (some ⟨w.heap.size, 0, none⟩) 2 2) (w' := w.alloc (.cells #[.int .u8 (b.toNat : Int), .int .u8 (c.toNat : Int)] 5)) (.inl ?_) (h _ (BS.of_block (l := [b, c]) (heap_alloc_new w _)) ((Below.refl _ _).alloc (Nat.le_refl _) _))
  unfold execOp
  simp only [ho, Sem.run_bind]
  simp [hx, hy, hr]
end
section
variable {w w' : World} {g n : Nat}
theorem BB.cell {p : Nat → Bool} (h : BB w g n p) {k : Nat} (hk : k < n) : w.cell? ⟨g, k, none⟩ = some (.bool (p k)) := by
  rw [cell_of_row _ _ _ _ _ _ h]
  simp [bcs, hk]
theorem IB.cell {p : Nat → Nat} (h : IB w g n p) {k : Nat} (hk : k < n) : w.cell? ⟨g, k, none⟩ = some (.int .i64 (p k : Int)) := by
  rw [cell_of_row _ _ _ _ _ _ h]
  simp [ics, hk]
theorem BB.froz {p : Nat → Bool} (h : BB w g n p) (k : Nat) : w.frozen? ⟨g, k, none⟩ = false := by simp [World.frozen?, show w.heap[g]? = _ from h]
theorem IB.froz {p : Nat → Nat} (h : IB w g n p) (k : Nat) : w.frozen? ⟨g, k, none⟩ = false := by simp [World.frozen?, show w.heap[g]? = _ from h]
theorem BB.lt {p : Nat → Bool} (h : BB w g n p) : g < w.heap.size := (Array.getElem?_eq_some_iff.1 h).1
theorem IB.lt {p : Nat → Nat} (h : IB w g n p) : g < w.heap.size := (Array.getElem?_eq_some_iff.1 h).1
theorem BB.below {p : Nat → Bool} (h : BB w g n p) (hb : Below w.heap.size w w') : BB w' g n p := (hb.block g h.lt).trans h
theorem IB.below {p : Nat → Nat} (h : IB w g n p) (hb : Below w.heap.size w w') : IB w' g n p := (hb.block g h.lt).trans h
theorem setIf_range {α : Type} (n : Nat) (f : Nat → α) (k : Nat) (x : α) : ((List.range n).map f).toArray.setIfInBounds k x = ((List.range n).map (upd f k x)).toArray := by
  apply Array.ext'
  rw [Array.toList_setIfInBounds]
  apply List.ext_getElem
  · simp
  · intro i h1 h2
    rw [List.getElem_set]
    by_cases e : k = i
    · rw [if_pos e]
      simp [upd, e]
    · rw [if_neg e]
      have e2 : ¬ i = k := fun h => e h.symm
      simp [upd, e2]
theorem BB.set {p : Nat → Bool} (h : BB w g n p) (k : Nat) (x : Bool) : BB (w.setCell ⟨g, k, none⟩ (.bool x)) g n (upd p k x) := by
  have := setRow_heap w g _ (((List.range n).map (upd (fun i => Value.bool (p i)) k (.bool x))).toArray) _ _ h
  rw [← setIf_range] at this
  unfold BB
  rw [setCell_eq_setRow _ _ _ _ _ _ _ h]
  refine this.trans ?_
  rw [setIf_range]
  unfold bcs
  congr 3
  apply List.map_congr_left
  intro i _
  simp only [upd]
  split <;> rfl
theorem IB.set {p : Nat → Nat} (h : IB w g n p) (k : Nat) (x : Nat) : IB (w.setCell ⟨g, k, none⟩ (.int .i64 (x : Int))) g n (upd p k x) := by
  have := setRow_heap w g _ (((List.range n).map (upd (fun i => Value.int .i64 (p i : Int)) k (.int .i64 (x : Int)))).toArray) _ _ h
  rw [← setIf_range] at this
  unfold IB
  rw [setCell_eq_setRow _ _ _ _ _ _ _ h]
  refine this.trans ?_
  rw [setIf_range]
  unfold ics
  congr 3
  apply List.map_congr_left
  intro i _
  simp only [upd]
  split <;> rfl
/-- A cell of another block is set. -/
theorem set_keep (w : World) (g k : Nat) (v : Value) : Keep (· ≠ g) w (w.setCell ⟨g, k, none⟩ v) := (Keep.refl _ _).setCell (p := ⟨g, k, none⟩) (fun h => h rfl) _
theorem BB.off {p : Nat → Bool} (h : BB w g n p) {g' k : Nat} (v : Value) (hne : g ≠ g') : BB (w.setCell ⟨g', k, none⟩ v) g n p := ((set_keep w g' k v).block g hne).trans h
theorem IB.off {p : Nat → Nat} (h : IB w g n p) {g' k : Nat} (v : Value) (hne : g ≠ g') : IB (w.setCell ⟨g', k, none⟩ v) g n p := ((set_keep w g' k v).block g hne).trans h
end
/-- Entries do not lie in a block that holds no string. -/
theorem ES.off {w w' : World} {A : Option Addr} {n : Nat} {es : List En} {g : Nat} (h : ES w A n es) (hq : ∀ o s, w.cell? ⟨g, o, none⟩ ≠ some (.string s)) (hk : Keep (· ≠ g) w w') : ES w' A n es := by
  refine ⟨h.1, fun hn => ?_⟩
  obtain ⟨b, o, e, hc⟩ := h.2 hn
  refine ⟨b, o, e, fun j hj i v hv => ?_⟩
  have hb : b ≠ g := by
    rintro rfl
    exact hq _ _ (hc j hj 3 _ rfl)
  exact (World.cell?_of_block (hk.block b hb)).trans (hc j hj i v hv)
theorem BB.nostr {w : World} {g n : Nat} {p : Nat → Bool} (h : BB w g n p) : ∀ o s, w.cell? ⟨g, o, none⟩ ≠ some (.string s) := by
  intro o s
  rw [cell_of_row _ _ _ _ _ _ h]
  by_cases hk : o < n
  · simp [bcs, hk]
  · simp [bcs, hk]
theorem IB.nostr {w : World} {g n : Nat} {p : Nat → Nat} (h : IB w g n p) : ∀ o s, w.cell? ⟨g, o, none⟩ ≠ some (.string s) := by
  intro o s
  rw [cell_of_row _ _ _ _ _ _ h]
  by_cases hk : o < n
  · simp [ics, hk]
  · simp [ics, hk]
/-- The letter at place g. -/
def nb (g : Nat) : UInt8 := UInt8.ofNat (97 + g)
theorem nb_int {g : Nat} (h : g < 100) : ((nb g).toNat : Int) = 97 + (g : Int) := by
  unfold nb
  rw [UInt8.toNat_ofNat']
  omega
theorem nb_inj {i j : Nat} (hi : i < 100) (hj : j < 100) (h : nb i = nb j) : i = j := by
  have h1 := nb_int hi
  have h2 := nb_int hj
  rw [h] at h1
  omega
theorem nb_ok {g : Nat} (h : g < 100) : nameOk [nb g] = true := by
  have h1 := nb_int h
  have e1 : nb g ≠ 46 := fun e => by rw [e] at h1; have : ((46 : UInt8).toNat : Int) = 46 := rfl; omega
  have e2 : nb g ≠ 0 := fun e => by rw [e] at h1; have : ((0 : UInt8).toNat : Int) = 0 := rfl; omega
  have e3 : nb g ≠ 47 := fun e => by rw [e] at h1; have : ((47 : UInt8).toNat : Int) = 47 := rfl; omega
  simp [nameOk, e1, e2, e3]
/-- An operation of a region that draws its order, taken first. -/
theorem takeH {P : Program} {md : Region.Mode} {ops : Array Oper} {S : World → Prop} {Q : Exit → Act → World → Prop} {i : Nat} {oi : Oper} (dst : Tmp) (v : Value) {fuel : Nat} {listed : Array Bool} {a : Act} {w : World} (hi : ops[i]? = some oi) (hd : oi.dst = some dst)
    (hs : Region.noSelect ops = true) (hf : Region.free md ops listed i = true) (hr : (Region.ready md ops listed).contains i = true) (hQ : ∀ c a w, Q (.panic c) (a.put (some dst) v) w → Q (.panic c) a w) (hy : YieldsIf P ops S oi v a) (hS : S w)
    (h : wpAnyH P md ops Q S fuel (listed.setIfInBounds i true) (a.put (some dst) v) w) : wpAnyH P md ops Q S (fuel + 1) listed a w := by
  rw [← hd] at hQ h
  exact wpAnyH_take hi hs hf hr hQ hy hS h
end Go.Proofs.Ytjionpkflpnejaa
