/-
  Steps of this layer's statements: rows of bools and of numbers, one byte as a text (layer 8).
  Entries that came in (layer 8).
  What package slot's texts share: blocks known whole, parts of them that are stored and loaded, cells that came in (layer 11; rows of call's texts that name no package).
  Complete files, plain: which may be, their bytes, what bytes are of them (layer 11). No program.
  Complete files as they lie in memory, the program's and the document's (layer 11).
  Contracts of package slot's unused, directory, Check, and of the conditions that Check asks (layer 11).
  Contract of package slot's Get (layer 11).
  Contracts of package slot's Handle and Same (layer 11).
  Contract of the reference's Same (layer 8).
  Contract of the law's slotOf, and two of the document's that are compared (layer 11).
  Slots in a row of the call's own, slices of slots (layer 12).
-/
import Derived.Test.YtpbpdnjlomhkdaaGreatQ4
import Derived.Laws.MakeOwn
import Derived.Deep.RegionHeld
import Derived.ProofKit
import Derived.OpenShut
import Derived.ShutString
import Derived.ChangeOld
import Derived.Deep.Slices
import Derived.Deep.Fields
import Derived.Laws.BitsAllLaws
import Derived.Test.YtpbpdnjlomhkdaaGreatShelf
import Derived.Laws.StructEq
import Derived.BigQuiet
namespace Go.Proofs.YtpbpdnjlomhkdaaGreat
open Go.RowKit Go.Shelf

section
variable {o : Oper} {a : Act} {w : World} {ops : Array Oper} {rest : List Oper} {Q : Exit → Act → World → Prop}
/-- The cells of bools, of numbers. -/
def bcs (n : Nat) (p : Nat → Bool) : List Value := (List.range n).map fun i => Value.bool (p i)
def ics (n : Nat) (p : Nat → Nat) : List Value := (List.range n).map fun i => Value.int .i64 (p i : Int)
def BB (w : World) (g n : Nat) (p : Nat → Bool) : Prop := w.heap[g]? = some (.cells (bcs n p).toArray 4 (0, 0))
def IB (w : World) (g n : Nat) (p : Nat → Nat) : Prop := w.heap[g]? = some (.cells (ics n p).toArray 3 (0, 0))
def upd {α : Type} (p : Nat → α) (k : Nat) (x : α) : Nat → α := fun i => if i = k then x else p i
theorem infoBool : (Tryz.prog.info? 4).map (fun i => (i.zero, i.size, i.bytes)) = some (some (.bool false), 1, 1) := by kernel_rfl
theorem infoInt : (Tryz.prog.info? 3).map (fun i => (i.zero, i.size, i.bytes)) = some (some (.int .i64 0), 1, 8) := by kernel_rfl
theorem made_cells (z : Value) (hz : z.cells = #[z]) (n : Nat) : madeCells z.cells (n * 1) = ((List.range n).map fun _ => z).toArray := by
  apply Array.ext'
  rw [hz]
  simp [madeCells, Nat.mod_one]
theorem wpList_make_row (hgd : o.guard = none) (t e : TypeId) (z : Value) (by_ : Nat) (l c : Operand) (ho : o.op = .makeSlice t l c) (ht : Tryz.prog.underlying t = some (.slice e))
    (hinf : (Tryz.prog.info? e).map (fun i => (i.zero, i.size, i.bytes)) = some (some z, 1, by_)) (hz1 : z.cells = #[z]) (hby : by_ ≤ 24) (n : Nat) (hl : a.eval l = .int .i64 (n : Int)) (hc : a.eval c = .int .i64 (n : Int)) (hn : n ≤ 1000000)
    (h : ∀ w', w'.heap[w.heap.size]? = some (.cells ((List.range n).map fun _ => z).toArray e (0, 0)) → w'.heap.size = w.heap.size + 1 → Below w.heap.size w w' → wpList Tryz.prog ops Q rest (a.put o.dst (.slice (some ⟨w.heap.size, 0, none⟩) n n)) w') : wpList Tryz.prog ops Q (o :: rest) a w := by
  obtain ⟨i, hi, hz, hs, hb⟩ := info_parts hinf
  have hr := run_makeSlice (P := Tryz.prog) w t e i z ht hi hz .i64 .i64 (n : Int) (n : Int) (by omega) (by omega) (by rw [hs]; simp; omega) (by rw [hb]; have h1 : by_ * n ≤ 24 * n := Nat.mul_le_mul_right _ hby; have h2 := Int.ofNat_le.2 h1; push_cast at h2; rw [Int.mul_comm] at h2; omega) (by omega)
  rw [hs, Int.toNat_natCast, made_cells z hz1] at hr
  refine Did.list hgd (v := .slice (some ⟨w.heap.size, 0, none⟩) n n) (w' := w.alloc (.cells ((List.range n).map fun _ => z).toArray e)) (.inl ?_) (h _ (heap_alloc_new w _) (by simp) ((Below.refl _ _).alloc (Nat.le_refl _) _))
  unfold execOp
  simp only [ho, hl, hc, Sem.run_bind, hr, Result.andThen_ok]
  rfl
theorem wpList_conv_bs (hgd : o.guard = none) (x : Operand) (ho : o.op = .convert 38 9 x) (A : Option Addr) (n c : Nat) (l : List UInt8) (hx : a.eval x = .slice A n c) (h : BS w A n l)
    (hk : wpList Tryz.prog ops Q rest (a.put o.dst (.string (txt l))) w) : wpList Tryz.prog ops Q (o :: rest) a w := by
  refine Did.list hgd (v := .string (txt l)) (w' := w) (.inl ?_) hk
  unfold execOp
  simp only [ho, hx, Sem.run_bind, run_convert_bs w A n c l h, Result.andThen_ok]
  rfl
theorem range1 : Array.range 1 = #[0] := by decide
theorem range2 : Array.range 2 = #[0, 1] := by decide
/-- A slice of one or two bytes, the world under a name of its own. -/
theorem wpList_byte1 (hgd : o.guard = none) (x : Operand) (ho : o.op = .buildSlice 38 1 #[(0, x)]) (b : UInt8) (hx : a.eval x = .int .u8 (b.toNat : Int))
    (h : ∀ w', BS w' (some ⟨w.heap.size, 0, none⟩) 1 [b] → Below w.heap.size w w' → wpList Tryz.prog ops Q rest (a.put o.dst (.slice (some ⟨w.heap.size, 0, none⟩) 1 1)) w') : wpList Tryz.prog ops Q (o :: rest) a w := by
  obtain ⟨i, hi, hz, hs, hb⟩ := info_parts info_u8
  have hr := run_buildSlice (P := Tryz.prog) w 38 5 1 #[(0, .int .u8 (b.toNat : Int))] #[.int .u8 (b.toNat : Int)] i _ Tryz.underlying38 hi hz (by rw [hs]; omega) (by rw [hs]; omega) (by rw [hs]; simp [Instr.fill, Value.cells, range1])
  refine Did.list hgd (v := .slice (some ⟨w.heap.size, 0, none⟩) 1 1) (w' := w.alloc (.cells #[.int .u8 (b.toNat : Int)] 5)) (.inl ?_) (h _ (BS.of_block (l := [b]) (heap_alloc_new w _)) ((Below.refl _ _).alloc (Nat.le_refl _) _))
  unfold execOp
  simp only [ho, Sem.run_bind]
  simp [hx, hr]
theorem wpList_byte2 (hgd : o.guard = none) (x y : Operand) (ho : o.op = .buildSlice 38 2 #[(0, x), (1, y)]) (b c : UInt8) (hx : a.eval x = .int .u8 (b.toNat : Int)) (hy : a.eval y = .int .u8 (c.toNat : Int))
    (h : ∀ w', BS w' (some ⟨w.heap.size, 0, none⟩) 2 [b, c] → Below w.heap.size w w' → wpList Tryz.prog ops Q rest (a.put o.dst (.slice (some ⟨w.heap.size, 0, none⟩) 2 2)) w') : wpList Tryz.prog ops Q (o :: rest) a w := by
  obtain ⟨i, hi, hz, hs, hb⟩ := info_parts info_u8
  have hr := run_buildSlice (P := Tryz.prog) w 38 5 2 #[(0, .int .u8 (b.toNat : Int)), (1, .int .u8 (c.toNat : Int))] #[.int .u8 (b.toNat : Int), .int .u8 (c.toNat : Int)] i _ Tryz.underlying38 hi hz (by rw [hs]; omega) (by rw [hs]; omega) (by rw [hs]; simp [Instr.fill, Value.cells, range2])
  refine Did.list hgd (v := .slice (some ⟨w.heap.size, 0, none⟩) 2 2) (w' := w.alloc (.cells #[.int .u8 (b.toNat : Int), .int .u8 (c.toNat : Int)] 5)) (.inl ?_) (h _ (BS.of_block (l := [b, c]) (heap_alloc_new w _)) ((Below.refl _ _).alloc (Nat.le_refl _) _))
  unfold execOp
  simp only [ho, Sem.run_bind]
  simp [hx, hy, hr]
end
section
variable {w w' : World} {g n : Nat}
theorem BB.cell {p : Nat → Bool} (h : BB w g n p) {k : Nat} (hk : k < n) : w.cell? ⟨g, k, none⟩ = some (.bool (p k)) := by
  rw [cell_of_row _ _ _ _ _ _ h]
  simp [bcs, hk]
theorem IB.cell {p : Nat → Nat} (h : IB w g n p) {k : Nat} (hk : k < n) : w.cell? ⟨g, k, none⟩ = some (.int .i64 (p k : Int)) := by
  rw [cell_of_row _ _ _ _ _ _ h]
  simp [ics, hk]
theorem BB.froz {p : Nat → Bool} (h : BB w g n p) (k : Nat) : w.frozen? ⟨g, k, none⟩ = false := by simp [World.frozen?, show w.heap[g]? = _ from h]
theorem IB.froz {p : Nat → Nat} (h : IB w g n p) (k : Nat) : w.frozen? ⟨g, k, none⟩ = false := by simp [World.frozen?, show w.heap[g]? = _ from h]
theorem BB.lt {p : Nat → Bool} (h : BB w g n p) : g < w.heap.size := (Array.getElem?_eq_some_iff.1 h).1
theorem IB.lt {p : Nat → Nat} (h : IB w g n p) : g < w.heap.size := (Array.getElem?_eq_some_iff.1 h).1
theorem BB.below {p : Nat → Bool} (h : BB w g n p) (hb : Below w.heap.size w w') : BB w' g n p := (hb.block g h.lt).trans h
theorem IB.below {p : Nat → Nat} (h : IB w g n p) (hb : Below w.heap.size w w') : IB w' g n p := (hb.block g h.lt).trans h
theorem setIf_range {α : Type} (n : Nat) (f : Nat → α) (k : Nat) (x : α) : ((List.range n).map f).toArray.setIfInBounds k x = ((List.range n).map (upd f k x)).toArray := by
  apply Array.ext'
  rw [Array.toList_setIfInBounds]
  apply List.ext_getElem
  · simp
  · intro i h1 h2
    rw [List.getElem_set]
    by_cases e : k = i
    · rw [if_pos e]
      simp [upd, e]
    · rw [if_neg e]
      have e2 : ¬ i = k := fun h => e h.symm
      simp [upd, e2]
theorem BB.set {p : Nat → Bool} (h : BB w g n p) (k : Nat) (x : Bool) : BB (w.setCell ⟨g, k, none⟩ (.bool x)) g n (upd p k x) := by
  have := setRow_heap w g _ (((List.range n).map (upd (fun i => Value.bool (p i)) k (.bool x))).toArray) _ _ h
  rw [← setIf_range] at this
  unfold BB
  rw [setCell_eq_setRow _ _ _ _ _ _ _ h]
  refine this.trans ?_
  rw [setIf_range]
  unfold bcs
  congr 3
  apply List.map_congr_left
  intro i _
  simp only [upd]
  split <;> rfl
theorem IB.set {p : Nat → Nat} (h : IB w g n p) (k : Nat) (x : Nat) : IB (w.setCell ⟨g, k, none⟩ (.int .i64 (x : Int))) g n (upd p k x) := by
  have := setRow_heap w g _ (((List.range n).map (upd (fun i => Value.int .i64 (p i : Int)) k (.int .i64 (x : Int)))).toArray) _ _ h
  rw [← setIf_range] at this
  unfold IB
  rw [setCell_eq_setRow _ _ _ _ _ _ _ h]
  refine this.trans ?_
  rw [setIf_range]
  unfold ics
  congr 3
  apply List.map_congr_left
  intro i _
  simp only [upd]
  split <;> rfl
/-- A cell of another block is set. -/
theorem set_keep (w : World) (g k : Nat) (v : Value) : Keep (· ≠ g) w (w.setCell ⟨g, k, none⟩ v) := (Keep.refl _ _).setCell (p := ⟨g, k, none⟩) (fun h => h rfl) _
theorem BB.off {p : Nat → Bool} (h : BB w g n p) {g' k : Nat} (v : Value) (hne : g ≠ g') : BB (w.setCell ⟨g', k, none⟩ v) g n p := ((set_keep w g' k v).block g hne).trans h
theorem IB.off {p : Nat → Nat} (h : IB w g n p) {g' k : Nat} (v : Value) (hne : g ≠ g') : IB (w.setCell ⟨g', k, none⟩ v) g n p := ((set_keep w g' k v).block g hne).trans h
end
/-- Entries do not lie in a block that holds no string. -/
theorem ES.off {w w' : World} {A : Option Addr} {n : Nat} {es : List En} {g : Nat} (h : ES w A n es) (hq : ∀ o s, w.cell? ⟨g, o, none⟩ ≠ some (.string s)) (hk : Keep (· ≠ g) w w') : ES w' A n es := by
  refine ⟨h.1, fun hn => ?_⟩
  obtain ⟨b, o, e, hc⟩ := h.2 hn
  refine ⟨b, o, e, fun j hj i v hv => ?_⟩
  have hb : b ≠ g := by
    rintro rfl
    exact hq _ _ (hc j hj 3 _ rfl)
  exact (World.cell?_of_block (hk.block b hb)).trans (hc j hj i v hv)
theorem BB.nostr {w : World} {g n : Nat} {p : Nat → Bool} (h : BB w g n p) : ∀ o s, w.cell? ⟨g, o, none⟩ ≠ some (.string s) := by
  intro o s
  rw [cell_of_row _ _ _ _ _ _ h]
  by_cases hk : o < n
  · simp [bcs, hk]
  · simp [bcs, hk]
theorem IB.nostr {w : World} {g n : Nat} {p : Nat → Nat} (h : IB w g n p) : ∀ o s, w.cell? ⟨g, o, none⟩ ≠ some (.string s) := by
  intro o s
  rw [cell_of_row _ _ _ _ _ _ h]
  by_cases hk : o < n
  · simp [ics, hk]
  · simp [ics, hk]
/-- The letter at place g. -/
def nb (g : Nat) : UInt8 := UInt8.ofNat (97 + g)
theorem nb_int {g : Nat} (h : g < 100) : ((nb g).toNat : Int) = 97 + (g : Int) := by
  unfold nb
  rw [UInt8.toNat_ofNat']
  omega
theorem nb_inj {i j : Nat} (hi : i < 100) (hj : j < 100) (h : nb i = nb j) : i = j := by
  have h1 := nb_int hi
  have h2 := nb_int hj
  rw [h] at h1
  omega
theorem nb_ok {g : Nat} (h : g < 100) : nameOk [nb g] = true := by
  have h1 := nb_int h
  have e1 : nb g ≠ 46 := fun e => by rw [e] at h1; have : ((46 : UInt8).toNat : Int) = 46 := rfl; omega
  have e2 : nb g ≠ 0 := fun e => by rw [e] at h1; have : ((0 : UInt8).toNat : Int) = 0 := rfl; omega
  have e3 : nb g ≠ 47 := fun e => by rw [e] at h1; have : ((47 : UInt8).toNat : Int) = 47 := rfl; omega
  simp [nameOk, e1, e2, e3]
/-- An operation of a region that draws its order, taken first. -/
theorem takeH {P : Program} {md : Region.Mode} {ops : Array Oper} {S : World → Prop} {Q : Exit → Act → World → Prop} {i : Nat} {oi : Oper} (dst : Tmp) (v : Value) {fuel : Nat} {listed : Array Bool} {a : Act} {w : World} (hi : ops[i]? = some oi) (hd : oi.dst = some dst)
    (hs : Region.noSelect ops = true) (hf : Region.free md ops listed i = true) (hr : (Region.ready md ops listed).contains i = true) (hQ : ∀ c a w, Q (.panic c) (a.put (some dst) v) w → Q (.panic c) a w) (hy : YieldsIf P ops S oi v a) (hS : S w)
    (h : wpAnyH P md ops Q S fuel (listed.setIfInBounds i true) (a.put (some dst) v) w) : wpAnyH P md ops Q S (fuel + 1) listed a w := by
  rw [← hd] at hQ h
  exact wpAnyH_take hi hs hf hr hQ hy hS h
end Go.Proofs.YtpbpdnjlomhkdaaGreat

namespace Go.Proofs.YtpbpdnjlomhkdaaGreat
open Go.ChangeShapes Go.WideShapes Go.ChangeAt Go.RowKit

theorem wf_u64 {n : Int} (h : (Lit.int .u64 n).wf = true) : 0 ≤ n ∧ n < 18446744073709551616 := by
  simp [Lit.wf, IntKind.min, IntKind.max, IntKind.bits, IntKind.signed] at h
  omega
theorem wf_u32 {n : Int} (h : (Lit.int .u32 n).wf = true) : 0 ≤ n ∧ n < 4294967296 := by
  simp [Lit.wf, IntKind.min, IntKind.max, IntKind.bits, IntKind.signed] at h
  omega
theorem wf_i64 {n : Int} (h : (Lit.int .i64 n).wf = true) : -9223372036854775808 ≤ n ∧ n ≤ 9223372036854775807 := by
  simp [Lit.wf, IntKind.min, IntKind.max, IntKind.bits, IntKind.signed] at h
  omega
theorem four_at {cs : List Value} (h : cs.length = 4) : ∃ a b c d, cs = [a, b, c, d] := by
  match cs, h with
  | [a, b, c, d], _ => exact ⟨a, b, c, d, rfl⟩
theorem list_of {α : Type} {P : Nat → α → Prop} : ∀ n : Nat, (∀ j, j < n → ∃ a, P j a) → ∃ l : List α, l.length = n ∧ ∀ j (hj : j < l.length), P j l[j]
  | 0, _ => ⟨[], rfl, fun j hj => absurd hj (Nat.not_lt_zero _)⟩
  | n + 1, h => by
    obtain ⟨l, h1, h2⟩ := list_of n fun j hj => h j (by omega)
    obtain ⟨a, ha⟩ := h n (by omega)
    refine ⟨l ++ [a], by simp [h1], fun j hj => ?_⟩
    simp only [List.length_append, List.length_cons, List.length_nil] at hj
    rcases Nat.lt_or_ge j l.length with h3 | h3
    · rw [List.getElem_append_left h3]; exact h2 j h3
    · obtain rfl : j = l.length := by omega
      rw [List.getElem_append_right (Nat.le_refl _)]
      simp only [Nat.sub_self, List.getElem_cons_zero]
      rw [h1]; exact ha
theorem txt_data (s : ByteArray) : txt s.data.toList = s := by
  obtain ⟨⟨l⟩⟩ := s
  rfl
set_option maxRecDepth 100000 in
/-- The cells of an entry, as they came in. -/
theorem entry_cs {H : Type} {enc : TypeId × Value → H} {W : World} {m : Nat} {v0 v1 v2 v3 : Value} {d : DataW H} {p : List MemPlace} (h : DataW.trod enc Tryz.prog W 0 (fun _ => true) true m 87 [v0, v1, v2, v3] = some (d, p)) :
    ∃ e : En, [v0, v1, v2, v3] = ec e ∧ e.Wide ∧ e.nm.length ≤ maxLen := by
  obtain ⟨ys, n', _, _, _, hyl, hg⟩ := DataW.trod_struct Tryz.underlying87 h
  have k0 : DataW.trod enc Tryz.prog W 0 (fun _ => true) true n' 25 [v0] = ys[0]? := hg 0 _ rfl
  have k1 : DataW.trod enc Tryz.prog W 0 (fun _ => true) true n' 35 [v1, v2] = ys[1]? := hg 1 _ rfl
  have k2 : DataW.trod enc Tryz.prog W 0 (fun _ => true) true n' 9 [v3] = ys[2]? := hg 2 _ rfl
  have hys : ys.length = 3 := hyl
  obtain ⟨y0, e0⟩ : ∃ y, ys[0]? = some y := ⟨_, List.getElem?_eq_getElem (by omega)⟩
  obtain ⟨⟨y1, q1⟩, e1⟩ : ∃ y, ys[1]? = some y := ⟨_, List.getElem?_eq_getElem (by omega)⟩
  obtain ⟨y2, e2⟩ : ∃ y, ys[2]? = some y := ⟨_, List.getElem?_eq_getElem (by omega)⟩
  obtain ⟨zs, n2, _, _, _, hzl, hg2⟩ := DataW.trod_struct Tryz.underlying35 (k1.trans e1)
  have j0 : DataW.trod enc Tryz.prog W 0 (fun _ => true) true n2 33 [v1] = zs[0]? := hg2 0 _ rfl
  have j1 : DataW.trod enc Tryz.prog W 0 (fun _ => true) true n2 33 [v2] = zs[1]? := hg2 1 _ rfl
  have hzs : zs.length = 2 := hzl
  obtain ⟨z0, f0⟩ : ∃ y, zs[0]? = some y := ⟨_, List.getElem?_eq_getElem (by omega)⟩
  obtain ⟨z1, f1⟩ : ∃ y, zs[1]? = some y := ⟨_, List.getElem?_eq_getElem (by omega)⟩
  obtain ⟨a0, h0, _, w0⟩ := DataW.trod_int Tryz.underlying25 (k0.trans e0)
  obtain ⟨a1, h1, _, w1⟩ := DataW.trod_int Tryz.underlying33 (j0.trans f0)
  obtain ⟨a2, h2, _, w2⟩ := DataW.trod_int Tryz.underlying33 (j1.trans f1)
  obtain ⟨s, h3, w3⟩ : ∃ s : ByteArray, v3 = .string s ∧ s.size ≤ maxLen := by
    obtain ⟨s, h3, _, w3⟩ := DataW.trod_string Tryz.underlying9 (k2.trans e2)
    simp only [List.cons.injEq, and_true] at h3
    exact ⟨s, h3, w3⟩
  simp only [List.cons.injEq, and_true] at h0 h1 h2
  subst h0 h1 h2 h3
  have b0 := wf_u64 w0
  have b1 := wf_u32 w1
  have b2 := wf_u32 w2
  obtain ⟨a0, rfl⟩ := Int.eq_ofNat_of_zero_le b0.1
  obtain ⟨a1, rfl⟩ := Int.eq_ofNat_of_zero_le b1.1
  obtain ⟨a2, rfl⟩ := Int.eq_ofNat_of_zero_le b2.1
  refine ⟨⟨a0, a1, a2, s.data.toList⟩, ?_, ⟨by simp only; omega, by simp only; omega, by simp only; omega⟩, ?_⟩
  · unfold ec
    rw [txt_data]
  · have := Lib.size_eq s
    simp only
    omega
/-- Entries, as they came in. -/
structure EI (W : World) (A : Option Addr) (n : Nat) (cap : Nat) (es : List En) : Prop where
  row : ES W A n es
  wide : ∀ e ∈ es, e.Wide
  names : ∀ e ∈ es, e.nm.length ≤ maxLen
  le : n ≤ cap
  few : cap ≤ maxLen
set_option maxRecDepth 100000 in
theorem entries_in {H : Type} {enc : TypeId × Value → H} {W : World} {A : Option Addr} {n cap : Nat} {d : DataW H} {p : List MemPlace} (h : DataW.Trod enc Tryz.prog W 0 (fun _ => true) true 47 (.slice A n cap) d p) : ∃ es, EI W A n cap es := by
  obtain ⟨fuel, hf⟩ := h
  rcases Go.Deep.open_slice (e := 87) Tryz.underlying47 hf with ⟨hcs, _⟩ | ⟨a, len, c, m, n', D, Pl, hcs, _, hl, hm, hmm, _, hi⟩
  · simp [Value.cells] at hcs
    obtain ⟨rfl, rfl, rfl⟩ := hcs
    exact ⟨[], ES.nil, (fun x hx => by cases hx), (fun x hx => by cases hx), Nat.le_refl _, Nat.zero_le _⟩
  · simp [Value.cells] at hcs
    obtain ⟨rfl, rfl, rfl⟩ := hcs
    simp only [if_true] at hmm
    subst hmm
    have h4 : Tryz.prog.cellsOf 87 = 4 := by kernel_rfl
    rw [h4] at hi
    have main : ∀ j, j < n → ∃ e : En, (∀ i v, (ec e)[i]? = some v → W.cell? (a.add (j * 4 + i)) = some v) ∧ e.Wide ∧ e.nm.length ≤ maxLen := fun j hj => by
      obtain ⟨cs', hc, ht⟩ := hi j (by omega)
      obtain ⟨_, hlen, hat⟩ := World.cells?_some hc
      obtain ⟨v0, v1, v2, v3, rfl⟩ := four_at hlen
      obtain ⟨e, he, hw, hn⟩ := entry_cs ht
      rw [he] at hat
      refine ⟨e, fun i v hv => ?_, hw, hn⟩
      have hlt := (List.getElem?_eq_some_iff.1 hv).1
      rw [ec_length] at hlt
      have := hat i (by omega)
      rw [Go.Deep.add_add] at this
      rw [this]
      exact hv
    obtain ⟨es, he1, he2⟩ := list_of n main
    refine ⟨es, ⟨he1, fun hn => ?_⟩, fun x hx => ?_, fun x hx => ?_, hl, hm⟩
    · obtain ⟨b, o, sp⟩ := a
      obtain ⟨e0, h0, _⟩ := main 0 hn
      have h00 := h0 0 _ rfl
      have hs : sp = none := by simpa [Addr.add] using World.cell?_spot h00
      subst hs
      refine ⟨b, o, rfl, fun j hj i v hv => ?_⟩
      have := (he2 j hj).1 i v hv
      rw [add_plain] at this
      rw [Nat.add_assoc]
      exact this
    · obtain ⟨i, hi', rfl⟩ := List.getElem_of_mem hx
      exact (he2 i hi').2.1
    · obtain ⟨i, hi', rfl⟩ := List.getElem_of_mem hx
      exact (he2 i hi').2.2
set_option maxRecDepth 100000 in
/-- An entry, as it came in. -/
theorem entry_in {H : Type} {enc : TypeId × Value → H} {W : World} {base : Nat} {v : Value} {d : DataW H} {p : List MemPlace} (hv : Value.okWide Tryz.prog W .any base 87 v)
    (h : DataW.Trod enc Tryz.prog W 0 (fun _ => true) true 87 v d p) : ∃ e : En, v = .agg (ec e).toArray ∧ e.Wide ∧ e.nm.length ≤ maxLen := by
  obtain ⟨cs, rfl, hsz⟩ := okWide_struct Tryz.underlying87 hv
  have h4 : Tryz.prog.cellsOf 87 = 4 := by kernel_rfl
  obtain ⟨cl⟩ := cs
  obtain ⟨v0, v1, v2, v3, rfl⟩ := four_at (cs := cl) (by simpa using hsz.trans h4)
  obtain ⟨fuel, ht⟩ := h
  obtain ⟨e, he, hw, hn⟩ := entry_cs (enc := enc) (W := W) (v0 := v0) (v1 := v1) (v2 := v2) (v3 := v3) ht
  exact ⟨e, by rw [he], hw, hn⟩
end Go.Proofs.YtpbpdnjlomhkdaaGreat

namespace Go.Proofs.YtpbpdnjlomhkdaaGreat
open Go.RowKit Go.Shelf

/-- A block known whole. -/
def Bw (w : World) (g : Nat) (cs : List Value) (t : TypeId) : Prop := w.heap[g]? = some (.cells cs.toArray t (0, 0))
section
variable {w w' : World} {g : Nat} {cs : List Value} {t : TypeId}
theorem Bw.lt (h : Bw w g cs t) : g < w.heap.size := (Array.getElem?_eq_some_iff.1 h).1
theorem Bw.froz (h : Bw w g cs t) (o : Nat) : w.frozen? ⟨g, o, none⟩ = false := by unfold Bw at h; simp [World.frozen?, h]
theorem Bw.grown {row : Option Nat} (h : Bw w g cs t) (hg : w.grownBy w' row) (hr : row ≠ some g) : Bw w' g cs t := (hg.block g h.lt (fun e => hr e.symm)).trans h
theorem Bw.below (h : Bw w g cs t) (hb : Below w.heap.size w w') : Bw w' g cs t := (hb.block g h.lt).trans h
theorem Bw.keep {K : Nat → Prop} (h : Bw w g cs t) (hb : Keep K w w') (hk : K g) : Bw w' g cs t := (hb.block g hk).trans h
theorem Bw.cell (h : Bw w g cs t) (o : Nat) (v : Value) (hv : cs[o]? = some v) : w.cell? ⟨g, o, none⟩ = some v := by
  rw [cell_of_row w g o _ _ (0, 0) h]
  simpa using hv
/-- Some cells of it, as a load asks for them. -/
theorem Bw.part (h : Bw w g cs t) (k : Nat) (l : List Value) (hl : ∀ j u, l[j]? = some u → cs[k + j]? = some u) : ∀ j u, l[j]? = some u → w.cell? ((⟨g, k, none⟩ : Addr).add j) = some u := fun j u hu => by
  rw [add_plain]
  exact h.cell _ _ (hl j u hu)
end
section
variable {P : Program} {o : Oper} {a : Act} {w : World} {ops : Array Oper} {rest : List Oper} {Q : Exit → Act → World → Prop}
theorem wpList_store_part (hgd : o.guard = none) (ty : TypeId) (x y : Operand) (ho : o.op = .store ty x y) (g k : Nat) (vs : List Value) (hx : a.eval x = .pointer (some ⟨g, k, none⟩)) (hy : a.eval y = .agg vs.toArray)
    (t : TypeId) (cs : List Value) (hg : Bw w g cs t) (hi : (P.info? ty).map (·.size) = some vs.length) (hfit : k + vs.length ≤ cs.length) (h1 : ∀ v ∈ vs, v.oneCell' = true)
    (h : ∀ w', Bw w' g (cs.take k ++ vs ++ cs.drop (k + vs.length)) t → w'.heap.size = w.heap.size → Keep (· ≠ g) w w' → wpList P ops Q rest (a.put o.dst undef) w') : wpList P ops Q (o :: rest) a w := by
  have hr := run_storeCells_at P g k t vs 0 cs.toArray w hg (by simpa using hfit) h1
  simp only [Nat.add_zero] at hr
  refine Did.list hgd (v := undef) (w' := w.setRow g (cs.take k ++ vs ++ cs.drop (k + vs.length)).toArray) (.inr ⟨?_, rfl⟩) (h _ (setRow_heap w g _ _ t _ hg) (by simp) (setRow_keep g _))
  cases hq : P.info? ty with
  | none => simp [hq] at hi
  | some i =>
    have hs : vs.length = i.size := by simp [hq] at hi; omega
    have hsv : (storeVar ty ⟨g, k, none⟩ (.agg vs.toArray)).run P w = .ok () (w.setRow g (cs.take k ++ vs ++ cs.drop (k + vs.length)).toArray) := by
      simp [storeVar, sizeOf, typeInfo, hq, Value.cells, hs.symm, hr]
    unfold execOp
    simp only [ho, hx, hy, Instr.storeAt, Instr.sureAddr, Sem.run_bind, Sem.run_pure, Result.andThen_ok, hsv]
theorem wpList_store_cell (hgd : o.guard = none) (ty : TypeId) (x y : Operand) (ho : o.op = .store ty x y) (g k : Nat) (v : Value) (hx : a.eval x = .pointer (some ⟨g, k, none⟩)) (hy : a.eval y = v)
    (t : TypeId) (cs : List Value) (hg : Bw w g cs t) (hi : (P.info? ty).map (·.size) = some 1) (hv : v.cells = #[v]) (hfit : k < cs.length) (h1 : v.oneCell' = true)
    (h : ∀ w', Bw w' g (cs.take k ++ [v] ++ cs.drop (k + 1)) t → w'.heap.size = w.heap.size → Keep (· ≠ g) w w' → wpList P ops Q rest (a.put o.dst undef) w') : wpList P ops Q (o :: rest) a w := by
  have hr := run_storeCells_at P g k t [v] 0 cs.toArray w hg (by simp; omega) (by simpa using h1)
  simp only [Nat.add_zero, List.length_singleton] at hr
  refine Did.list hgd (v := undef) (w' := w.setRow g (cs.take k ++ [v] ++ cs.drop (k + 1)).toArray) (.inr ⟨?_, rfl⟩) (h _ (setRow_heap w g _ _ t _ hg) (by simp) (setRow_keep g _))
  cases hq : P.info? ty with
  | none => simp [hq] at hi
  | some i =>
    have hs : 1 = i.size := by simp [hq] at hi; omega
    have hsv : (storeVar ty ⟨g, k, none⟩ v).run P w = .ok () (w.setRow g (cs.take k ++ [v] ++ cs.drop (k + 1)).toArray) := by
      simpa [storeVar, sizeOf, typeInfo, hq, hv, hs.symm] using hr
    unfold execOp
    simp only [ho, hx, hy, Instr.storeAt, Instr.sureAddr, Sem.run_bind, Sem.run_pure, Result.andThen_ok, hsv]
/-- A struct or an array out of a part of a block. -/
theorem wpList_load_part (hgd : o.guard = none) (ty : TypeId) (x : Operand) (ho : o.op = .load ty x) (g k : Nat) (hx : a.eval x = .pointer (some ⟨g, k, none⟩)) (d : TypeDesc) (hu : P.underlying ty = some d)
    (hd : (match d with | .struct _ | .array _ _ => true | _ => false) = true) (l : List Value) (t : TypeId) (cs : List Value) (hg : Bw w g cs t) (hi : (P.info? ty).map (·.size) = some l.length) (hl : ∀ j u, l[j]? = some u → cs[k + j]? = some u)
    (h : wpList P ops Q rest (a.put o.dst (.agg l.toArray)) w) : wpList P ops Q (o :: rest) a w :=
  Did.list hgd (did_load ty x ho ⟨g, k, none⟩ hx d hu hd l hi (hg.part k l hl)) h
end
/-- A change of one block, known whole before. -/
theorem grown_keep {w w' : World} {g : Nat} (h : Keep (· ≠ g) w w') : w.grownBy w' (some g) := ⟨h.os, h.tape, h.output, h.size, fun k _ hk => h.block k (fun e => hk (by rw [e]))⟩

/-- The result that lies in a block of its own, and a number. -/
theorem results_cell {t : TypeId} {fs : Array Field} {cs : List Value} {fn : Func} {p q : Tmp} (h : fn.results = #[.cell p t, .tmp q]) (tmps : Array Value) (w : World) (g : Nat) (v : Value) (hg : Bw w g cs t) (hi : (Tryz.prog.info? t).map (·.size) = some cs.length)
    (hp : tmps.getD p undef = .pointer (some ⟨g, 0, none⟩)) (hq : tmps.getD q undef = v) (hu : Tryz.prog.underlying t = some (.struct fs)) : (results fn tmps).run Tryz.prog w = .ok (.tuple #[.agg cs.toArray, v]) w := by
  have hp' : tmps[p]?.getD undef = .pointer (some ⟨g, 0, none⟩) := by simpa using hp
  have hq' : tmps[q]?.getD undef = v := by simpa using hq
  have hl := run_loadVar_row (P := Tryz.prog) w g t t cs.toArray (0, 0) _ hg hu rfl (by simpa using hi)
  simp [results, h, hp', hq', asAddr, hl]
/-- The result that lies in a block of its own, alone. -/
theorem results_one {t : TypeId} {fs : Array Field} {cs : List Value} {fn : Func} {p : Tmp} (h : fn.results = #[.cell p t]) (tmps : Array Value) (w : World) (g : Nat) (hg : Bw w g cs t) (hi : (Tryz.prog.info? t).map (·.size) = some cs.length)
    (hp : tmps.getD p undef = .pointer (some ⟨g, 0, none⟩)) (hu : Tryz.prog.underlying t = some (.struct fs)) : (results fn tmps).run Tryz.prog w = .ok (.agg cs.toArray) w := by
  have hp' : tmps[p]?.getD undef = .pointer (some ⟨g, 0, none⟩) := by simpa using hp
  have hl := run_loadVar_row (P := Tryz.prog) w g t t cs.toArray (0, 0) _ hg hu rfl (by simpa using hi)
  simp [results, h, hp', asAddr, hl]

/-- The cells of a handle, of attributes. -/
def hc (a b : Nat) : List Value := [.int .u32 (a : Int), .int .u32 (b : Int)]
theorem size_H : (Tryz.prog.info? 35).map (·.size) = some 2 := by kernel_rfl
theorem zero_H : (Tryz.prog.info? 35).bind (·.zero) = some (.agg (hc 0 0).toArray) := by kernel_rfl
theorem hc_one (a b : Nat) : ∀ v ∈ hc a b, v.oneCell' = true := by
  intro v hv
  simp only [hc, List.mem_cons, List.not_mem_nil, or_false] at hv
  rcases hv with rfl | rfl <;> rfl
theorem Bw.ne_rd {w : World} {q g : Nat} {l : List UInt8} {e : Int} {cs : List Value} {t : TypeId} (h : Bw w g cs t) (hr : Rd w q l e) (ht : t ≠ 187) : q ≠ g := by
  rintro rfl
  obtain ⟨A, c, h1, _⟩ := hr
  unfold Bw at h
  rw [h] at h1
  injection h1 with h1
  injection h1 with _ h1 _
  exact ht h1
/-- What a Put hands back: bytes of its own. -/
def PutQ (b : List UInt8) (z : Int) (w : World) (e : Ending) (w' : World) : Prop := ∃ A n cp, e = .returned (.tuple #[.slice A n cp, .int .i64 z]) ∧ Own w w' A n cp b
theorem PutQ.no {z : Int} {w w' : World} (h : Below w.heap.size w w') : PutQ [] z w (.returned (.tuple #[.slice none 0 0, .int .i64 z])) w' := ⟨none, 0, 0, rfl, World.ownsRow_nil _ _ _ _, h⟩
theorem own_base {w : World} {b b' : Nat} {t : TypeId} {k n : Nat} {v : Value} {xs : List Value} (h : w.ownsRow b t k v n xs) (hb : b' ≤ b) : w.ownsRow b' t k v n xs := by
  refine ⟨h.1, ?_⟩
  rcases h.2 with h1 | ⟨g, cap, cur, h1, h2, h3⟩
  · exact .inl h1
  · exact .inr ⟨g, cap, cur, h1, Nat.le_trans hb h2, h3⟩

/-- While a call or a reply is read: the result's block r, the variable's block g, the Reader q. -/
structure GG (w : World) (q r g : Nat) (t : TypeId) (z cs : List Value) (s : St) (W : World) : Prop where
  rd : Rd W q s.1 s.2
  res : Bw W r z t
  var : Bw W g cs t
  bel : Below w.heap.size w W
  lr : w.heap.size ≤ r
  lg : w.heap.size ≤ g
  lq : w.heap.size ≤ q
  rg : r ≠ g
  qr : q ≠ r
  qg : q ≠ g
  nt : t ≠ 5
section
variable {w W W' : World} {q r g : Nat} {t : TypeId} {z cs cs' : List Value} {s s' : St}
theorem GG.read (h : GG w q r g t z cs s W) (hr : Rd W' q s'.1 s'.2) (hg : W.grownBy W' (some q)) : GG w q r g t z cs s' W' :=
  ⟨hr, h.res.grown hg (fun e => h.qr (by injection e)), h.var.grown hg (fun e => h.qg (by injection e)),
    h.bel.trans ⟨hg.os, hg.tape, hg.output, hg.size, fun k hk => hg.block k (Nat.lt_of_lt_of_le hk h.bel.size) (fun e => by injection e with e; have := h.lq; omega)⟩, h.lr, h.lg, h.lq, h.rg, h.qr, h.qg, h.nt⟩
theorem GG.set (h : GG w q r g t z cs s W) (hb : Bw W' g cs' t) (hk : Keep (· ≠ g) W W') : GG w q r g t z cs' s W' := by
  have lg := h.lg
  exact ⟨h.rd.off h.var h.nt h.qg (fun k _ hn => hk.block k hn), h.res.keep hk h.rg, hb, h.bel.trans (hk.below2 (fun k hk => by omega)), h.lr, h.lg, h.lq, h.rg, h.qr, h.qg, h.nt⟩
theorem GG.below (h : GG w q r g t z cs s W) (hb : Below W.heap.size W W') : GG w q r g t z cs s W' :=
  ⟨h.rd.kept hb, h.res.below hb, h.var.below hb, h.bel.trans (hb.mono h.bel.size), h.lr, h.lg, h.lq, h.rg, h.qr, h.qg, h.nt⟩
theorem GG.start {w1 w2 w3 : World} {l : List UInt8} (h1 : w1.heap[w.heap.size]? = some (.cells z.toArray t (0, 0))) (s1 : w1.heap.size = w.heap.size + 1) (b1 : Below w.heap.size w w1)
    (h2 : w2.heap[w1.heap.size]? = some (.cells z.toArray t (0, 0))) (s2 : w2.heap.size = w1.heap.size + 1) (b2 : Below w1.heap.size w1 w2) (h : Rd w3 q l 0) (b3 : Below w2.heap.size w2 w3) (hq : w2.heap.size ≤ q) (hn : t ≠ 5) : GG w q w.heap.size w1.heap.size t z z (l, 0) w3 := by
  exact ⟨h, (b3.block _ (by omega)).trans ((b2.block _ (by omega)).trans h1), (b3.block _ (by omega)).trans h2, b1.trans ((b2.mono (by omega)).trans (b3.mono (by omega))), Nat.le_refl _, by omega, by omega, by omega, by omega, by omega, hn⟩
end

theorem seq_rd {α β : Type} (A : Cd α) (B : Cd β) (s : St) : (A.seq B).rd s = ((B.rd (A.rd s).1).1, ((A.rd s).2, (B.rd (A.rd s).1).2)) := rfl
/-- A struct out of a part of a block, as a region that draws its order asks for it. -/
theorem run_load_part {P : Program} {o : Oper} {a : Act} {w : World} (ty : TypeId) (x : Operand) (ho : o.op = .load ty x) (g k : Nat) (hx : a.eval x = .pointer (some ⟨g, k, none⟩)) (d : TypeDesc) (hu : P.underlying ty = some d)
    (hd : (match d with | .struct _ | .array _ _ => true | _ => false) = true) (l : List Value) (t : TypeId) (cs : List Value) (hg : Bw w g cs t) (hi : (P.info? ty).map (·.size) = some l.length) (hl : ∀ j u, l[j]? = some u → cs[k + j]? = some u) :
    (execOp a.eval o).run P w = .ok (.value (.agg l.toArray)) w := by
  have hl2 := run_loadCells_list (P := P) w ⟨g, k, none⟩ l (hg.part k l hl)
  cases hq : P.info? ty with
  | none => simp [hq] at hi
  | some i =>
    have hs : i.size = l.length := by simpa [hq] using hi
    have hagg : (isAgg ty).run P w = .ok true w := by
      unfold isAgg
      rw [Sem.run_bind, run_underlying hu w]
      cases d <;> simp_all
    unfold execOp
    simp [ho, hx, Instr.loadAt, Instr.sureAddr, loadVar, Sem.run_bind, hagg, sizeOf, typeInfo, hq, hs, hl2]

section
open Go.ChangeShapes Go.WideShapes Go.ChangeAt
section
variable {H : Type} {enc : TypeId × Value → H} {W : World} {m : Nat} {v : Value} {y : DataW H × List MemPlace}
theorem u32_cell {t : TypeId} (ht : Tryz.prog.underlying t = some (.int .u32)) (h : DataW.trod enc Tryz.prog W 0 (fun _ => true) true m t [v] = some y) : ∃ a : Nat, v = .int .u32 (a : Int) ∧ a < 4294967296 := by
  obtain ⟨a, h1, _, w1⟩ := DataW.trod_int ht h
  simp only [List.cons.injEq, and_true] at h1
  subst h1
  have b := wf_u32 w1
  obtain ⟨a, rfl⟩ := Int.eq_ofNat_of_zero_le b.1
  exact ⟨a, rfl, by omega⟩
theorem u64_cell {t : TypeId} (ht : Tryz.prog.underlying t = some (.int .u64)) (h : DataW.trod enc Tryz.prog W 0 (fun _ => true) true m t [v] = some y) : ∃ a : Nat, v = .int .u64 (a : Int) ∧ a < 18446744073709551616 := by
  obtain ⟨a, h1, _, w1⟩ := DataW.trod_int ht h
  simp only [List.cons.injEq, and_true] at h1
  subst h1
  have b := wf_u64 w1
  obtain ⟨a, rfl⟩ := Int.eq_ofNat_of_zero_le b.1
  exact ⟨a, rfl, by omega⟩
theorem i64_cell {t : TypeId} (ht : Tryz.prog.underlying t = some (.int .i64)) (h : DataW.trod enc Tryz.prog W 0 (fun _ => true) true m t [v] = some y) : ∃ a : Int, v = .int .i64 a ∧ -9223372036854775808 ≤ a ∧ a ≤ 9223372036854775807 := by
  obtain ⟨a, h1, _, w1⟩ := DataW.trod_int ht h
  simp only [List.cons.injEq, and_true] at h1
  subst h1
  exact ⟨a, rfl, wf_i64 w1⟩
theorem bool_cell {t : TypeId} (ht : Tryz.prog.underlying t = some .bool) (h : DataW.trod enc Tryz.prog W 0 (fun _ => true) true m t [v] = some y) : ∃ b : Bool, v = .bool b := by
  obtain ⟨a, h1, _⟩ := DataW.trod_bool ht h
  simp only [List.cons.injEq, and_true] at h1
  exact ⟨a, h1⟩
theorem str_cell {t : TypeId} (ht : Tryz.prog.underlying t = some .string) (h : DataW.trod enc Tryz.prog W 0 (fun _ => true) true m t [v] = some y) : ∃ l : List UInt8, v = .string (txt l) ∧ l.length ≤ maxLen := by
  obtain ⟨s, h1, _, w1⟩ := DataW.trod_string ht h
  simp only [List.cons.injEq, and_true] at h1
  subst h1
  refine ⟨s.data.toList, by rw [txt_data], ?_⟩
  have := Lib.size_eq s
  omega
theorem bytes_cell (h : DataW.trod enc Tryz.prog W 0 (fun _ => true) true m 38 [v] = some y) : ∃ (A : Option Addr) (n cp : Nat) (l : List UInt8), v = .slice A n cp ∧ BS W A n l ∧ n ≤ maxLen := by
  rcases open_ints Tryz.underlying38 Tryz.underlying5 (by kernel_rfl) h with ⟨hcs, _⟩ | ⟨x, l, cap, zs, hcs, _, hl, hm, hz, _, hcell, hwz⟩
  · simp only [List.cons.injEq, and_true] at hcs
    exact ⟨none, 0, 0, [], hcs, BS.nil, Nat.zero_le _⟩
  · simp only [List.cons.injEq, and_true] at hcs
    have hr : IsRow .u8 W (some x) l cap zs := .inr ⟨_, rfl, hl, hm, by simpa using hz, hcell, hwz⟩
    obtain ⟨xs, h1⟩ := hr.bs
    exact ⟨some x, l, cap, xs, hcs, h1, Nat.le_trans hl hm⟩
end
end
/-- The cells of the reference's reader. -/
def rv (s : St) : List Value := [.string (txt s.1), .int .i64 s.2]
theorem rv_one (s : St) : ∀ v ∈ rv s, v.oneCell' = true := by
  intro v hv
  simp only [rv, List.mem_cons, List.not_mem_nil, or_false] at hv
  rcases hv with rfl | rfl <;> rfl
/-- While the reference reads: the result's block r, the variable's block g, the reader's block k. -/
structure GH (w : World) (r g k : Nat) (t : TypeId) (z cs : List Value) (s : St) (W : World) : Prop where
  rd : Bw W k (rv s) 205
  res : Bw W r z t
  var : Bw W g cs t
  bel : Below w.heap.size w W
  lr : w.heap.size ≤ r
  lg : w.heap.size ≤ g
  lk : w.heap.size ≤ k
  rg : r ≠ g
  kr : k ≠ r
  kg : k ≠ g
section
variable {w W W' : World} {r g k : Nat} {t : TypeId} {z cs cs' : List Value} {s s' : St}
theorem GH.below (h : GH w r g k t z cs s W) (hb : Below W.heap.size W W') : GH w r g k t z cs s W' :=
  ⟨h.rd.below hb, h.res.below hb, h.var.below hb, h.bel.trans (hb.mono h.bel.size), h.lr, h.lg, h.lk, h.rg, h.kr, h.kg⟩
theorem GH.read (h : GH w r g k t z cs s W) (hb : Bw W' k (rv s') 205) (hk : Keep (· ≠ k) W W') : GH w r g k t z cs s' W' := by
  have lk := h.lk
  exact ⟨hb, h.res.keep hk (fun e => h.kr e.symm), h.var.keep hk (fun e => h.kg e.symm), h.bel.trans (hk.below2 (fun j hj => by omega)), h.lr, h.lg, h.lk, h.rg, h.kr, h.kg⟩
theorem GH.set (h : GH w r g k t z cs s W) (hb : Bw W' g cs' t) (hk : Keep (· ≠ g) W W') : GH w r g k t z cs' s W' := by
  have lg := h.lg
  exact ⟨h.rd.keep hk h.kg, h.res.keep hk h.rg, hb, h.bel.trans (hk.below2 (fun j hj => by omega)), h.lr, h.lg, h.lk, h.rg, h.kr, h.kg⟩
end
theorem built_R1 (s : ByteArray) : Tryz.prog.built 205 [(0, .string s)] = some #[.string s, .int .i64 0] := by kernel_rfl

end Go.Proofs.YtpbpdnjlomhkdaaGreat

namespace Go.Proofs.YtpbpdnjlomhkdaaGreat
namespace Sl
open Vl

/-- Bytes of a directory that may be, none of its entries above this cookie. -/
def dirB (dt : List UInt8) (ck : Nat) : Bool := decide (errE dt = 0) && (gotE dt).all fun e => decide (e.ck ≤ ck)
theorem dirB_iff (dt : List UInt8) (ck : Nat) : dirB dt ck = true ↔ errE dt = 0 ∧ ∀ e ∈ gotE dt, e.ck ≤ ck := by
  simp [dirB]
/-- May it be? -/
abbrev okS (s : Th) : Bool := s.okB dirB
def chkS (s : Th) : Int := if okS s then 0 else 1
theorem chkS_zero (s : Th) : chkS s = 0 ↔ okS s = true := by
  unfold chkS
  split
  · rename_i h; simp [h]
  · rename_i h; simp [h]
abbrev Ts := Nat × Nat × Nat × Nat × Nat × Nat × Nat × Nat × List UInt8
def slotC : Cd Ts := c4.seq (c4.seq (c4.seq (c4.seq (c4.seq (c8.seq (c8.seq (c8.seq (cO 768 (by decide)))))))))
def tup (s : Th) : Ts := (s.ino, s.kind, s.gen, s.links, s.mode, s.change, s.cookie, s.verf, s.dt)
def of (t : Ts) : Th := ⟨t.1, t.2.1, t.2.2.1, t.2.2.2.1, t.2.2.2.2.1, t.2.2.2.2.2.1, t.2.2.2.2.2.2.1, t.2.2.2.2.2.2.2.1, t.2.2.2.2.2.2.2.2⟩
theorem of_tup (s : Th) : of (tup s) = s := rfl
theorem tup_of (t : Ts) : tup (of t) = t := rfl
def zero : Th := ⟨0, 0, 0, 0, 0, 0, 0, 0, []⟩
theorem zero_ok : okS zero = true := rfl
def enc (s : Th) : List UInt8 := slotC.enc (tup s)
def put (s : Th) : List UInt8 := if okS s then enc s else []
def rd (l : List UInt8) : Th := of (slotC.rd (l, 0)).2
def err (l : List UInt8) : Int := if slotC.bad l ≠ 0 then slotC.bad l else if okS (rd l) then 0 else 11
def got (l : List UInt8) : Th := if err l = 0 then rd l else zero
theorem enc_eq (s : Th) : enc s = be 4 s.ino ++ (be 4 s.kind ++ (be 4 s.gen ++ (be 4 s.links ++ (be 4 s.mode ++ (be 8 s.change ++ (be 8 s.cookie ++ (be 8 s.verf ++ opq s.dt))))))) := rfl
theorem c_ok_iff (s : Th) : slotC.ok (tup s) ↔ s.ino < 4294967296 ∧ s.kind < 4294967296 ∧ s.Wide ∧ s.dt.length ≤ 768 := by
  constructor
  · rintro ⟨h1, h2, h3, h4, h5, h6, h7, h8, h9⟩
    exact ⟨h1, h2, ⟨h3, h4, h5, h6, h7, h8⟩, h9⟩
  · rintro ⟨h1, h2, ⟨h3, h4, h5, h6, h7, h8⟩, h9⟩
    exact ⟨h1, h2, h3, h4, h5, h6, h7, h8, h9⟩
theorem c_ok (s : Th) (hw : s.Wide) (h : okS s = true) : slotC.ok (tup s) := by
  obtain ⟨h1, h2, h3⟩ := okB_facts h
  exact (c_ok_iff s).2 ⟨by omega, by omega, hw, h3⟩
theorem rd_enc (s : Th) (hw : s.Wide) (h : okS s = true) : rd (enc s) = s := by
  obtain ⟨_, h2⟩ := slotC.bad_put (tup s) (c_ok s hw h)
  show of (slotC.rd (slotC.enc (tup s), 0)).2 = s
  rw [h2, of_tup]
/-- What was put is got as it was. -/
theorem got_put (s : Th) (hw : s.Wide) (h : okS s = true) : err (enc s) = 0 ∧ got (enc s) = s := by
  obtain ⟨h1, _⟩ := slotC.bad_put (tup s) (c_ok s hw h)
  have h3 := rd_enc s hw h
  have h4 : err (enc s) = 0 := by
    unfold err
    rw [show slotC.bad (enc s) = 0 from h1, if_neg (by simp), h3, if_pos h]
  exact ⟨h4, by unfold got; rw [if_pos h4, h3]⟩
theorem err_cases (l : List UInt8) (h : err l = 0) : slotC.bad l = 0 ∧ okS (rd l) = true ∧ got l = rd l := by
  have hg : got l = rd l := if_pos h
  unfold err at h
  split at h
  · rename_i h1; exact absurd h h1
  · rename_i h1
    split at h
    · rename_i h2; exact ⟨by simpa using h1, h2, hg⟩
    · cases h
/-- What was got is put as the same bytes. -/
theorem got_back (l : List UInt8) (h : err l = 0) : okS (got l) = true ∧ enc (got l) = l ∧ (got l).Wide := by
  obtain ⟨h1, h2, h3⟩ := err_cases l h
  obtain ⟨h4, h5⟩ := slotC.bad_back l h1
  rw [h3]
  exact ⟨h2, h4.symm, ((c_ok_iff (rd l)).1 h5).2.2.1⟩
theorem put_back (l : List UInt8) (h : err l = 0) : put (got l) = l := by
  obtain ⟨h1, h2, _⟩ := got_back l h
  exact (if_pos h1).trans h2
theorem got_no (l : List UInt8) (h : err l ≠ 0) : got l = zero := if_neg h
theorem err_more (s : Th) (t : List UInt8) (hw : s.Wide) (h : okS s = true) (ht : 0 < t.length) : err (enc s ++ t) = 12 := by
  have := slotC.bad_more (tup s) t (c_ok s hw h) ht
  unfold err
  rw [show slotC.bad (enc s ++ t) = 12 from this]
  rfl
theorem err_cut (s : Th) (j : Nat) (hw : s.Wide) (h : okS s = true) (hj : j < (enc s).length) : err ((enc s).take j) = 10 := by
  have := slotC.bad_cut (tup s) j (c_ok s hw h) hj
  unfold err
  rw [show slotC.bad ((enc s).take j) = 10 from this]
  rfl
theorem enc_inj (a b : Th) (ha : a.Wide) (hb : b.Wide) (h1 : okS a = true) (h2 : okS b = true) (h : enc a = enc b) : a = b := by
  have := (got_put a ha h1).2
  rw [h, (got_put b hb h2).2] at this
  exact this.symm
theorem enc_iff (a b : Th) (ha : a.Wide) (hb : b.Wide) (h1 : okS a = true) (h2 : okS b = true) : enc a = enc b ↔ a = b := ⟨enc_inj a b ha hb h1 h2, fun e => by rw [e]⟩
theorem enc_length (s : Th) : (enc s).length = 48 + s.dt.length + pad s.dt.length := by
  rw [enc_eq]
  simp only [List.length_append, be_length, opq_length]
  omega
theorem enc_mod (s : Th) : (enc s).length % 4 = 0 := by
  rw [enc_length]
  unfold pad
  omega
theorem enc_len (s : Th) (h : okS s = true) : 48 ≤ (enc s).length ∧ (enc s).length ≤ 816 := by
  obtain ⟨_, _, h3⟩ := okB_facts h
  rw [enc_length]
  unfold pad
  omega
/-- A directory: just entries that may be, none above its own cookie. -/
theorem dir_of (s : Th) (h : okS s = true) (hk : s.kind = 2) : errE s.dt = 0 ∧ (∀ e ∈ gotE s.dt, e.ck ≤ s.cookie) ∧ Go.Proofs.YtpbpdnjlomhkdaaGreat.okB (gotE s.dt) = true ∧ putE (gotE s.dt) = s.dt := by
  simp only [okS, Th.okB, Bool.and_eq_true] at h
  have h2 := h.2
  rw [if_neg (by omega), Bool.and_eq_true, if_pos hk] at h2
  obtain ⟨h3, h4⟩ := (dirB_iff _ _).1 h2.2
  obtain ⟨h5, h6⟩ := Go.Proofs.YtpbpdnjlomhkdaaGreat.got_back s.dt h3
  exact ⟨h3, h4, h5, h6⟩
/-- Entries that may be, put into a directory: it may be just if none is above its cookie. -/
theorem dir_put (es : List En) (hw : ∀ e ∈ es, e.Wide) (h : Go.Proofs.YtpbpdnjlomhkdaaGreat.okB es = true) (ck : Nat) : dirB (putE es) ck = es.all fun e => decide (e.ck ≤ ck) := by
  obtain ⟨h1, h2⟩ := Go.Proofs.YtpbpdnjlomhkdaaGreat.got_put es hw h
  unfold dirB
  rw [h1, h2]
  simp
/-- Entries rise: it is enough to look at the last one. -/
theorem all_last (es : List En) (h : Go.Proofs.YtpbpdnjlomhkdaaGreat.okB es = true) : ∀ k, k ≤ es.length → ∀ i, i < k → (es.getD i default).ck ≤ lastAt es k := by
  intro k
  induction k with
  | zero => intro _ i hi; omega
  | succ k ih =>
    intro hk i hi
    have e1 : lastAt es (k + 1) = (es.getD k default).ck := by simp [lastAt]
    rw [e1]
    by_cases hik : i = k
    · subst hik; exact Nat.le_refl _
    · have h1 := ih (by omega) i (by omega)
      have h2 := (okB_at es h k (by omega)).2
      rw [List.getD_eq_getElem?_getD (i := k), List.getElem?_eq_getElem (by omega)]
      exact Nat.le_of_lt (Nat.lt_of_le_of_lt h1 h2)
theorem all_iff_last (es : List En) (h : Go.Proofs.YtpbpdnjlomhkdaaGreat.okB es = true) (ck : Nat) : (∀ e ∈ es, e.ck ≤ ck) ↔ lastCk es ≤ ck := by
  constructor
  · intro h1
    unfold lastCk lastAt
    split
    · omega
    · rename_i hn
      rw [List.getD_eq_getElem?_getD, List.getElem?_eq_getElem (by omega)]
      exact h1 _ (List.getElem_mem _)
  · intro h1 e he
    obtain ⟨i, hi, rfl⟩ := List.getElem_of_mem he
    have := all_last es h es.length (Nat.le_refl _) i hi
    rw [List.getD_eq_getElem?_getD, List.getElem?_eq_getElem hi] at this
    exact Nat.le_trans this h1
/-- A free one has nothing but its number, its generation and its change. -/
theorem free_iff (s : Th) (hk : s.kind = 0) : okS s = true ↔ s.ino ≤ 23 ∧ s.links = 0 ∧ s.mode = 0 ∧ s.cookie = 0 ∧ s.verf = 0 ∧ s.dt = [] := by
  simp only [okS, Th.okB, Bool.and_eq_true, if_pos hk, decide_eq_true_eq, beq_iff_eq, List.length_eq_zero_iff]
  constructor
  · rintro ⟨⟨⟨h1, _⟩, _⟩, ⟨⟨⟨h2, h3⟩, h4⟩, h5⟩, h6⟩
    exact ⟨h1, h2, h3, h4, h5, h6⟩
  · rintro ⟨h1, h2, h3, h4, h5, h6⟩
    exact ⟨⟨⟨h1, by omega⟩, by rw [h6]; decide⟩, ⟨⟨⟨h2, h3⟩, h4⟩, h5⟩, h6⟩
/-- Another one has a link. -/
theorem used_iff (s : Th) (hk : s.kind ≠ 0) (h2 : s.kind ≠ 2) : okS s = true ↔ s.ino ≤ 23 ∧ s.kind ≤ 3 ∧ s.dt.length ≤ 768 ∧ 1 ≤ s.links := by
  simp only [okS, Th.okB, Bool.and_eq_true, if_neg hk, if_neg h2, decide_eq_true_eq, and_true, and_assoc]
  constructor
  · rintro ⟨h1, h2, h3, h4⟩; exact ⟨h1, h2, h3, by omega⟩
  · rintro ⟨h1, h2, h3, h4⟩; exact ⟨h1, h2, h3, by omega⟩
theorem dir_iff (s : Th) (hk : s.kind = 2) : okS s = true ↔ s.ino ≤ 23 ∧ s.dt.length ≤ 768 ∧ 1 ≤ s.links ∧ dirB s.dt s.cookie = true := by
  simp only [okS, Th.okB, Bool.and_eq_true, if_neg (show ¬ s.kind = 0 by omega), if_pos hk, decide_eq_true_eq, and_assoc]
  constructor
  · rintro ⟨h1, _, h3, h4, h5⟩; exact ⟨h1, h3, by omega, h5⟩
  · rintro ⟨h1, h3, h4, h5⟩; exact ⟨h1, by omega, h3, by omega, h5⟩
end Sl
end Go.Proofs.YtpbpdnjlomhkdaaGreat

namespace Go.Proofs.YtpbpdnjlomhkdaaGreat
open Go.RowKit Go.Shelf

/-- The cells of one whose data is v. -/
def sc (s : Vl.Th) (v : Value) : List Value := [.int .u32 (s.ino : Int), .int .u32 (s.kind : Int), .int .u32 (s.gen : Int), .int .u32 (s.links : Int), .int .u32 (s.mode : Int), .int .u64 (s.change : Int), .int .u64 (s.cookie : Int), .int .u64 (s.verf : Int), v]
theorem sc_str (s : Vl.Th) (b : ByteArray) : ∀ v ∈ sc s (.string b), v.oneCell' = true := by
  intro v hv
  simp only [sc, List.mem_cons, List.not_mem_nil, or_false] at hv
  rcases hv with rfl | rfl | rfl | rfl | rfl | rfl | rfl | rfl | rfl <;> rfl
theorem sc_row (s : Vl.Th) (A : Option Addr) (n c : Nat) : ∀ v ∈ sc s (.slice A n c), v.oneCell' = true := by
  intro v hv
  simp only [sc, List.mem_cons, List.not_mem_nil, or_false] at hv
  rcases hv with rfl | rfl | rfl | rfl | rfl | rfl | rfl | rfl | rfl <;> rfl
theorem size_S11 : (Tryz.prog.info? 94).map (·.size) = some 9 := by kernel_rfl
theorem zero_S11 : (Tryz.prog.info? 94).bind (·.zero) = some (.agg (sc Sl.zero (.string (txt []))).toArray) := by kernel_rfl
theorem built_S11z : Tryz.prog.built 94 [] = some (sc Sl.zero (.string (txt []))).toArray := by kernel_rfl
theorem built_S11 (a b c d e f g h : Int) (s : ByteArray) : Tryz.prog.built 94 [(0, .int .u32 a), (1, .int .u32 b), (2, .int .u32 c), (3, .int .u32 d), (4, .int .u32 e), (5, .int .u64 f), (6, .int .u64 g), (7, .int .u64 h), (8, .string s)] =
    some #[.int .u32 a, .int .u32 b, .int .u32 c, .int .u32 d, .int .u32 e, .int .u64 f, .int .u64 g, .int .u64 h, .string s] := by kernel_rfl
theorem size_Sl : (Tryz.prog.info? 92).map (·.size) = some 9 := by kernel_rfl
theorem zero_Sl : (Tryz.prog.info? 92).bind (·.zero) = some (.agg (sc Sl.zero (.slice none 0 0)).toArray) := by kernel_rfl
theorem built_Slz : Tryz.prog.built 92 [] = some (sc Sl.zero (.slice none 0 0)).toArray := by kernel_rfl
/-- What Get hands back. -/
def GetSQ (s : Vl.Th) (z : Int) (w : World) (e : Ending) (w' : World) : Prop := ∃ A n cp, e = .returned (.tuple #[.agg (sc s (.slice A n cp)).toArray, .int .i64 z]) ∧ BS w' A n s.dt ∧ Below w.heap.size w w'
/-- The numbers fit their fields. -/
structure Fits (s : Vl.Th) : Prop where
  ino : s.ino < 4294967296
  kind : s.kind < 4294967296
  wide : s.Wide
theorem Fits.of_ok {s : Vl.Th} (h : Sl.okS s = true) (hw : s.Wide) : Fits s := by
  obtain ⟨h1, h2, _⟩ := Vl.okB_facts h
  exact ⟨by omega, by omega, hw⟩
theorem Sl.opq_len (b : List UInt8) : (opq b).length ≤ 7 + b.length := by rw [opq_length]; unfold pad; omega
end Go.Proofs.YtpbpdnjlomhkdaaGreat

namespace Go.Proofs.YtpbpdnjlomhkdaaGreat
open Go.RowKit Go.Shelf

set_option maxRecDepth 100000 in
set_option maxHeartbeats 400000 in
theorem check1_any (s : Vl.Th) (v : Value) (B : Nat) (w : World) (h : Bw w B (sc s v) 92) :
    Calls Tryz.prog 90 #[.pointer (some ⟨B, 0, none⟩)] w fun e w' => e = .returned (.bool (decide (s.ino ≤ 23))) ∧ w = w' := by
  have e0 := h.cell 0 _ rfl
  clear h
  have hd : decide (s.ino < 24) = decide (s.ino ≤ 23) := by congr 1; apply propext; omega
  go_enter Tryz.func90, Tryz.ntmps90
  go_wp2
  go_ret
  exact ⟨by rw [← hd]; simp; omega, rfl⟩
set_option maxRecDepth 100000 in
set_option maxHeartbeats 400000 in
theorem check2_any (s : Vl.Th) (v : Value) (B : Nat) (w : World) (h : Bw w B (sc s v) 92) :
    Calls Tryz.prog 91 #[.pointer (some ⟨B, 0, none⟩)] w fun e w' => e = .returned (.bool (decide (s.kind ≤ 3))) ∧ w = w' := by
  have e0 := h.cell 1 _ rfl
  clear h
  go_enter Tryz.func91, Tryz.ntmps91
  go_wp2
  go_ret
  exact ⟨by simp; omega, rfl⟩
set_option maxRecDepth 100000 in
set_option maxHeartbeats 400000 in
theorem check3_any (s : Vl.Th) (A : Option Addr) (n cp : Nat) (B : Nat) (w : World) (h : Bw w B (sc s (.slice A n cp)) 92) (hn : s.dt.length = n) :
    Calls Tryz.prog 92 #[.pointer (some ⟨B, 0, none⟩)] w fun e w' => e = .returned (.bool (decide (s.dt.length ≤ 768))) ∧ w = w' := by
  have e0 := h.cell 8 _ rfl
  rw [hn]
  clear h hn
  go_enter Tryz.func92, Tryz.ntmps92
  go_wp2
  go_ret
  exact ⟨by simp; omega, rfl⟩
set_option maxRecDepth 100000 in
set_option maxHeartbeats 400000 in
theorem check5_any (s : Vl.Th) (v : Value) (B : Nat) (w : World) (h : Bw w B (sc s v) 92) :
    Calls Tryz.prog 95 #[.pointer (some ⟨B, 0, none⟩)] w fun e w' => e = .returned (.bool (decide (s.kind = 0) || decide (s.links ≠ 0))) ∧ w = w' := by
  have e1 := h.cell 1 _ rfl
  have e3 := h.cell 3 _ rfl
  clear h
  by_cases hk : s.kind = 0
  · have hz : ((s.kind : Int) == 0) = true := by simp [hk]
    go_enter Tryz.func95, Tryz.ntmps95
    go_wp2
    go_ret
    exact ⟨by simp [hk], rfl⟩
  · have hz : ((s.kind : Int) == 0) = false := by simp; omega
    go_enter Tryz.func95, Tryz.ntmps95
    go_wp2
    go_ret
    exact ⟨by simp [hk, Nat.pos_iff_ne_zero], rfl⟩

theorem or_zero {x y : Nat} : (x ||| y = 0) ↔ x = 0 ∧ y = 0 := by simp
theorem bits32_zero (a b : Nat) (ha : a < 4294967296) (hb : b < 4294967296) : (bits .or .u32 (a : Int) (b : Int) == 0) = (a == 0 && b == 0) := by
  rw [u32_or_nat _ _ ha hb, Bool.eq_iff_iff]
  have := @or_zero a b
  simp only [beq_iff_eq, Bool.and_eq_true]
  omega
theorem bits64_zero (a b : Nat) (ha : a < 18446744073709551616) (hb : b < 18446744073709551616) : (bits .or .u64 (a : Int) (b : Int) == 0) = (a == 0 && b == 0) := by
  rw [u64_or_nat _ _ ha hb, Bool.eq_iff_iff]
  have := @or_zero a b
  simp only [beq_iff_eq, Bool.and_eq_true]
  omega
set_option maxRecDepth 100000 in
set_option maxHeartbeats 400000 in
theorem unused_any (s : Vl.Th) (A : Option Addr) (n cp : Nat) (w : World) (hf : Fits s) (hn : s.dt.length = n) :
    Calls Tryz.prog 94 #[.agg (sc s (.slice A n cp)).toArray] w fun e w' => e = .returned (.bool (s.links == 0 && s.mode == 0 && s.cookie == 0 && s.verf == 0 && s.dt.length == 0)) ∧ Below w.heap.size w w' := by
  have h1 := bits32_zero s.links s.mode hf.wide.links hf.wide.mode
  have h2 := bits64_zero s.cookie s.verf hf.wide.cookie hf.wide.verf
  have HR : Hid ((s.links == 0 && s.mode == 0 && s.cookie == 0 && s.verf == 0 && s.dt.length == 0) = ((s.links == 0 && s.mode == 0) && (s.cookie == 0 && s.verf == 0) && decide (n = 0))) := by
    show _ = _
    rw [hn]
    simp only [Bool.and_assoc]
    rfl
  rw [HR.out]
  clear HR hn hf
  generalize (s.links == 0 && s.mode == 0) = x at *
  generalize (s.cookie == 0 && s.verf == 0) = y at *
  go_enter Tryz.func94, Tryz.ntmps94
  go_upto_region 1 with fail
  have HB0 : Hid (Bw (w.alloc (.cells (sc s (.slice A n cp)).toArray 92)) w.heap.size (sc s (.slice A n cp)) 92) := heap_alloc_new w _
  have HW0 : Hid (Below w.heap.size w (w.alloc (.cells (sc s (.slice A n cp)).toArray 92))) := (Below.refl _ w).alloc (Nat.le_refl _) _
  generalize w.alloc (.cells (sc s (.slice A n cp)).toArray 92) = w0 at *
  have e3 := HB0.out.cell 3 _ rfl
  have e4 := HB0.out.cell 4 _ rfl
  have e6 := HB0.out.cell 6 _ rfl
  have e7 := HB0.out.cell 7 _ rfl
  have e8 := HB0.out.cell 8 _ rfl
  cases x with
  | false =>
    go_wp2_with fail
    go_ret
    exact ⟨rfl, HW0.out⟩
  | true =>
    cases y with
    | false =>
      go_wp2_with fail
      go_ret
      exact ⟨rfl, HW0.out⟩
    | true =>
      go_wp2_with fail
      go_ret
      exact ⟨by simp; rw [Bool.eq_iff_iff]; simp, HW0.out⟩

set_option maxRecDepth 100000 in
set_option maxHeartbeats 400000 in
theorem check4_any (s : Vl.Th) (A : Option Addr) (n cp : Nat) (B : Nat) (w : World) (h : Bw w B (sc s (.slice A n cp)) 92) (hf : Fits s) (hn : s.dt.length = n) :
    Calls Tryz.prog 93 #[.pointer (some ⟨B, 0, none⟩)] w fun e w' => e = .returned (.bool (decide (s.kind ≠ 0) || (s.links == 0 && s.mode == 0 && s.cookie == 0 && s.verf == 0 && s.dt.length == 0))) ∧ Below w.heap.size w w' := by
  have e1 := h.cell 1 _ rfl
  have HB := Lib.hid h
  have HU := Lib.hid (unused_any s A n cp w hf hn)
  clear h hf hn
  generalize (s.links == 0 && s.mode == 0 && s.cookie == 0 && s.verf == 0 && s.dt.length == 0) = z at *
  by_cases hk : s.kind = 0
  · have hz : ((s.kind : Int) != 0) = false := by simp [hk]
    have HK : Hid (decide (s.kind ≠ 0) = false) := by simp [Hid, hk]
    rw [HK.out]
    clear hk HK
    go_enter Tryz.func93, Tryz.ntmps93
    have c0 := HB.out.cell 0 _ rfl
    have c2 := HB.out.cell 2 _ rfl
    have c3 := HB.out.cell 3 _ rfl
    have c4 := HB.out.cell 4 _ rfl
    have c5 := HB.out.cell 5 _ rfl
    have c6 := HB.out.cell 6 _ rfl
    have c7 := HB.out.cell 7 _ rfl
    have c8 := HB.out.cell 8 _ rfl
    go_wp2_with fail
    refine HU.out.mono ?_
    rintro e w1 ⟨rfl, hb⟩
    go_wp2_with fail
    go_ret
    exact ⟨by simp, hb⟩
  · have hz : ((s.kind : Int) != 0) = true := by simp; omega
    have HK : Hid (decide (s.kind ≠ 0) = true) := by simp [Hid, hk]
    rw [HK.out]
    clear hk HK
    go_enter Tryz.func93, Tryz.ntmps93
    go_wp2_with fail
    go_ret
    exact ⟨by simp, Below.refl _ _⟩

set_option maxRecDepth 100000 in
set_option maxHeartbeats 400000 in
theorem later_any (e : En) (B c : Nat) (w : World) (hc : w.cell? ⟨B, 6, none⟩ = some (.int .u64 (c : Int))) :
    Calls Tryz.prog 137 #[.agg (ec e).toArray, .pointer (some ⟨B, 0, none⟩)] w fun en w' => en = .returned (.bool (decide (c < e.ck))) ∧ Below w.heap.size w w' := by
  have c0 := (EB.new w 87 e).c0
  have cB : (w.alloc (.cells (ec e).toArray 87)).cell? ⟨B, 6, none⟩ = some (.int .u64 (c : Int)) := (World.cell?_alloc_lt _ _ _ (World.block_lt_of_cell? w _ hc)).trans hc
  clear hc
  go_enter Tryz.func137, Tryz.ntmps137
  go_wp2
  go_ret
  exact ⟨by simp, (Below.refl _ _).alloc (Nat.le_refl _) _⟩
theorem fndP_dec (p : En → Bool) (es : List En) : decide (0 ≤ fndP p es) = es.any p := by
  unfold fndP
  split
  · rename_i h
    have h1 : es.any p = true := by
      rw [List.any_eq_true]
      exact ⟨_, List.getElem_mem h, List.findIdx_getElem⟩
    rw [h1]
    simp
  · rename_i h
    have h1 : es.any p = false := by
      rw [List.any_eq_false]
      intro x hx hp
      exact h (List.findIdx_lt_length_of_exists ⟨x, hx, hp⟩)
    rw [h1]
    rfl
theorem dirB_any (dt : List UInt8) (ck : Nat) : Sl.dirB dt ck = (decide (errE dt = 0) && !((gotE dt).any fun e => decide (ck < e.ck))) := by
  unfold Sl.dirB
  congr 1
  rw [List.not_any_eq_all_not]
  congr 1
  funext e
  rw [← decide_not]
  congr 1
  apply propext
  omega
set_option maxRecDepth 100000 in
set_option maxHeartbeats 1000000 in
theorem containsE_any (A : Option Addr) (n cp : Nat) (es : List En) (w : World) (h : ES w A n es) (hn : n ≤ 100000000) (B c : Nat) (hc : w.cell? ⟨B, 6, none⟩ = some (.int .u64 (c : Int))) :
    Calls Tryz.prog 138 #[.slice A n cp, .func (.func 137) #[] #[.pointer (some ⟨B, 0, none⟩)]] w fun en w' => en = .returned (.bool (es.any fun e => decide (c < e.ck))) ∧ Below w.heap.size w w' := by
  have HC := Lib.hid (indexFunc_any A n cp es w h hn 137 (.pointer (some ⟨B, 0, none⟩)) (fun e => decide (c < e.ck)) (enters_of Tryz.func137 (by kernel_rfl) rfl)
    (fun W e hW => later_any e B c W ((hW.cell (World.block_lt_of_cell? w _ hc)).trans hc)))
  have hd := fndP_dec (fun e => decide (c < e.ck)) es
  rw [← hd]
  clear hd h hc
  generalize fndP (fun e => decide (c < e.ck)) es = z at *
  go_enter Tryz.func138, Tryz.ntmps138
  go_wp2_with fail
  refine HC.out.mono ?_
  rintro e w1 ⟨rfl, hb⟩
  go_wp2_with fail
  go_ret
  exact ⟨rfl, hb⟩
theorem gotE_len (l : List UInt8) : 20 * (gotE l).length ≤ l.length := by
  by_cases h : errE l = 0
  · obtain ⟨h1, h2⟩ := Go.Proofs.YtpbpdnjlomhkdaaGreat.got_back l h
    have h3 := encs_min (gotE l)
    rw [show putE (gotE l) = encs (gotE l) from if_pos h1] at h2
    rw [h2] at h3
    exact h3
  · rw [show gotE l = [] from if_neg h]
    exact Nat.zero_le _
set_option maxRecDepth 100000 in
set_option maxHeartbeats 1000000 in
theorem directory_any (s : Vl.Th) (A : Option Addr) (n cp : Nat) (w : World) (h : BS w A n s.dt) (hn : n ≤ 1000) :
    Calls Tryz.prog 97 #[.agg (sc s (.slice A n cp)).toArray] w fun e w' => e = .returned (.bool (Sl.dirB s.dt s.cookie)) ∧ Below w.heap.size w w' := by
  have HX := Lib.hid h
  have HL := gotE_len s.dt
  rw [h.1] at HL
  have HG : Hid (∀ W, BS W A n s.dt → Calls Tryz.prog 50 #[.slice A n cp] W (EsQ (gotE s.dt) (errE s.dt) W)) := fun W hW => get_any A n cp s.dt W hW (by omega)
  rw [dirB_any]
  clear h
  generalize gotE s.dt = es at *
  generalize errE s.dt = er at *
  go_enter Tryz.func97, Tryz.ntmps97
  go_upto_region 1 with fail
  have HB0 : Hid (Bw (w.alloc (.cells (sc s (.slice A n cp)).toArray 92)) w.heap.size (sc s (.slice A n cp)) 92) := heap_alloc_new w _
  have HW0 : Hid (Below w.heap.size w (w.alloc (.cells (sc s (.slice A n cp)).toArray 92))) := (Below.refl _ w).alloc (Nat.le_refl _) _
  generalize w.alloc (.cells (sc s (.slice A n cp)).toArray 92) = w0 at *
  have e8 := HB0.out.cell 8 _ rfl
  go_wp2_with fail
  refine (HG.out w0 (HX.out.below HW0.out)).mono ?_
  rintro e w1 ⟨A1, n1, c1, rfl, hes, _, hb1⟩
  have HB1 := Lib.hid (HB0.out.below hb1)
  have HW1 := Lib.hid (HW0.out.trans (hb1.mono HW0.out.size))
  have HES := Lib.hid hes
  have hn1 : n1 ≤ 100000000 := by
    have h2 := hes.1
    omega
  clear hb1 hes HB0 HW0 HX hn e8 HL HG
  by_cases he : er = 0
  · subst he
    go_wp2_with fail
    refine (containsE_any A1 n1 c1 es w1 HES.out hn1 w.heap.size s.cookie (HB1.out.cell 6 _ rfl)).mono ?_
    rintro e w2 ⟨rfl, hb2⟩
    go_wp2_with fail
    go_ret
    exact ⟨by simp, HW1.out.trans (hb2.mono HW1.out.size)⟩
  · have hz : (er == 0) = false := by simpa using he
    go_wp2_with fail
    go_ret
    exact ⟨by simp [he], HW1.out⟩

set_option maxRecDepth 100000 in
set_option maxHeartbeats 400000 in
theorem check6_any (s : Vl.Th) (A : Option Addr) (n cp : Nat) (B : Nat) (w : World) (h : Bw w B (sc s (.slice A n cp)) 92) (hx : BS w A n s.dt) (hn : n ≤ 1000) :
    Calls Tryz.prog 96 #[.pointer (some ⟨B, 0, none⟩)] w fun e w' => e = .returned (.bool (decide (s.kind ≠ 2) || Sl.dirB s.dt s.cookie)) ∧ Below w.heap.size w w' := by
  have e1 := h.cell 1 _ rfl
  have HB := Lib.hid h
  have HU := Lib.hid (directory_any s A n cp w hx hn)
  clear h hx hn
  generalize Sl.dirB s.dt s.cookie = z at *
  by_cases hk : s.kind = 2
  · have hz : ((s.kind : Int) != 2) = false := by simp [hk]
    have HK : Hid (decide (s.kind ≠ 2) = false) := by simp [Hid, hk]
    rw [HK.out]
    clear hk HK
    have c0 := HB.out.cell 0 _ rfl
    have c2 := HB.out.cell 2 _ rfl
    have c3 := HB.out.cell 3 _ rfl
    have c4 := HB.out.cell 4 _ rfl
    have c5 := HB.out.cell 5 _ rfl
    have c6 := HB.out.cell 6 _ rfl
    have c7 := HB.out.cell 7 _ rfl
    have c8 := HB.out.cell 8 _ rfl
    go_enter Tryz.func96, Tryz.ntmps96
    go_wp2_with fail
    refine HU.out.mono ?_
    rintro e w1 ⟨rfl, hb⟩
    go_wp2_with fail
    go_ret
    exact ⟨by simp, hb⟩
  · have hz : ((s.kind : Int) != 2) = true := by simp; omega
    have HK : Hid (decide (s.kind ≠ 2) = true) := by simp [Hid, hk]
    rw [HK.out]
    clear hk HK
    go_enter Tryz.func96, Tryz.ntmps96
    go_wp2_with fail
    go_ret
    exact ⟨by simp, Below.refl _ _⟩

def checkFs (B : Nat) : List (Nat × Array Value) := [(90, #[.pointer (some ⟨B, 0, none⟩)]), (91, #[.pointer (some ⟨B, 0, none⟩)]), (92, #[.pointer (some ⟨B, 0, none⟩)]), (93, #[.pointer (some ⟨B, 0, none⟩)]), (95, #[.pointer (some ⟨B, 0, none⟩)]), (96, #[.pointer (some ⟨B, 0, none⟩)])]
def checkBs (s : Vl.Th) : List Bool := [decide (s.ino ≤ 23), decide (s.kind ≤ 3), decide (s.dt.length ≤ 768), decide (s.kind ≠ 0) || (s.links == 0 && s.mode == 0 && s.cookie == 0 && s.verf == 0 && s.dt.length == 0),
    decide (s.kind = 0) || decide (s.links ≠ 0), decide (s.kind ≠ 2) || Sl.dirB s.dt s.cookie]
theorem okS_bools (s : Vl.Th) : (checkBs s).all id = Sl.okS s := by
  simp only [checkBs, Sl.okS, Vl.Th.okB, List.all_cons, List.all_nil, Bool.and_true, id_eq]
  by_cases h0 : s.kind = 0
  · simp [h0, Bool.and_assoc]
  · by_cases h2 : s.kind = 2
    · simp [h2, Bool.and_assoc]
    · simp [h0, h2, Bool.and_assoc]
theorem still_below {F : Nat} {args : Array Value} {W : World} {b : Bool} (h : Calls Tryz.prog F args W fun e w' => e = .returned (.bool b) ∧ W = w') : Calls Tryz.prog F args W fun e w' => e = .returned (.bool b) ∧ Below W.heap.size W w' :=
  h.mono fun e w' hh => by obtain ⟨rfl, rfl⟩ := hh; exact ⟨rfl, Below.refl _ _⟩
theorem check_asked (s : Vl.Th) (A : Option Addr) (n cp : Nat) (B : Nat) (w : World) (hB : Bw w B (sc s (.slice A n cp)) 92) (hf : Fits s) (h : BS w A n s.dt) (hn : n ≤ 1000) : Asked w (checkFs B) (checkBs s) := by
  refine ⟨rfl, fun j hj hb _ W hW => ?_⟩
  have hBW := hB.below hW
  have hXW := h.below hW
  rcases j with _ | _ | _ | _ | _ | _ | j
  · exact ⟨enters_of Tryz.func90 (by kernel_rfl) rfl, still_below (check1_any s _ B W hBW)⟩
  · exact ⟨enters_of Tryz.func91 (by kernel_rfl) rfl, still_below (check2_any s _ B W hBW)⟩
  · exact ⟨enters_of Tryz.func92 (by kernel_rfl) rfl, still_below (check3_any s A n cp B W hBW h.1)⟩
  · exact ⟨enters_of Tryz.func93 (by kernel_rfl) rfl, check4_any s A n cp B W hBW hf h.1⟩
  · exact ⟨enters_of Tryz.func95 (by kernel_rfl) rfl, still_below (check5_any s _ B W hBW)⟩
  · exact ⟨enters_of Tryz.func96 (by kernel_rfl) rfl, check6_any s A n cp B W hBW hXW hn⟩
  · exact absurd hj (by simp [checkFs])
/-- A new block of functions. -/
theorem FS.new (w : World) (fs : List (Nat × Array Value)) (cs : Array Value) (t : TypeId) (hc : cs = (fs.map fun f => fnV f.1 f.2).toArray) : FS (w.alloc (.cells cs t)) w.heap.size fs.length fs := by
  subst hc
  refine ⟨rfl, fun j hj => ?_⟩
  rw [cell_of_row _ _ _ _ _ _ (heap_alloc_new w _)]
  simp [hj]
set_option maxRecDepth 100000 in
set_option maxHeartbeats 1000000 in
theorem checkS_any (s : Vl.Th) (A : Option Addr) (n cp : Nat) (w : World) (hf : Fits s) (h : BS w A n s.dt) (hn : n ≤ 1000) :
    Calls Tryz.prog 49 #[.agg (sc s (.slice A n cp)).toArray] w fun e w' => e = .returned (.int .i64 (Sl.chkS s)) ∧ Below w.heap.size w w' := by
  have HX := Lib.hid h
  have HF := Lib.hid hf
  have HOK := Lib.hid (okS_bools s)
  obtain ⟨ok, hok⟩ : ∃ b, Sl.okS s = b := ⟨_, rfl⟩
  obtain ⟨z, hz⟩ : ∃ z, Sl.chkS s = z := ⟨_, rfl⟩
  have HCK : Hid ((ok = true → z = 0) ∧ (ok = false → z = 1)) := by
    constructor
    · rintro rfl; rw [← hz]; exact if_pos hok
    · rintro rfl; rw [← hz]; exact if_neg (by simp [hok])
  rw [hok] at HOK
  rw [hz]
  clear h hf hok hz
  have hmf : ∀ (fn : Fn) (first cap : Array Value) (w : World), (Instr.makeFunc fn first cap).run Tryz.prog w = .ok (.func fn first cap) w := fun _ _ _ _ => rfl
  go_enter Tryz.func49, Tryz.ntmps49
  go_upto_region 1 with fail
  have HB0 : Hid (Bw (w.alloc (.cells (sc s (.slice A n cp)).toArray 92)) w.heap.size (sc s (.slice A n cp)) 92) := heap_alloc_new w _
  have HW0 : Hid (Below w.heap.size w (w.alloc (.cells (sc s (.slice A n cp)).toArray 92))) := (Below.refl _ w).alloc (Nat.le_refl _) _
  generalize w.alloc (.cells (sc s (.slice A n cp)).toArray 92) = w0 at *
  go_wp2_with fail
  refine (all_any w0.heap.size 6 6 (checkFs w.heap.size) (checkBs s) _ (FS.new w0 (checkFs w.heap.size) _ _ rfl) (by omega) ?_).mono ?_
  · exact check_asked s A n cp w.heap.size _ (HB0.out.below ((Below.refl _ _).alloc (Nat.le_refl _) _)) HF.out ((HX.out.below HW0.out).alloc _) hn
  rintro e w1 ⟨rfl, hb1⟩
  have HW1 : Hid (Below w.heap.size w w1) := HW0.out.trans (((Below.refl w0.heap.size w0).alloc (Nat.le_refl _) _).trans (hb1.mono (by simp)) |>.mono HW0.out.size)
  clear hb1
  rw [HOK.out]
  clear HOK
  cases ok with
  | true =>
    obtain rfl := HCK.out.1 rfl
    clear HCK
    go_wp2_with fail
    go_ret
    exact ⟨rfl, HW1.out⟩
  | false =>
    obtain rfl := HCK.out.2 rfl
    clear HCK
    go_wp2_with fail
    go_ret
    exact ⟨rfl, HW1.out⟩
end Go.Proofs.YtpbpdnjlomhkdaaGreat

namespace Go.Proofs.YtpbpdnjlomhkdaaGreat
open Go.RowKit Go.Shelf

section
variable (l : List UInt8)
def Sl.p1 := rdN 4 (l, 0)
def Sl.p2 := rdN 4 (Sl.p1 l).1
def Sl.p3 := rdN 4 (Sl.p2 l).1
def Sl.p4 := rdN 4 (Sl.p3 l).1
def Sl.p5 := rdN 4 (Sl.p4 l).1
def Sl.p6 := rdN 8 (Sl.p5 l).1
def Sl.p7 := rdN 8 (Sl.p6 l).1
def Sl.p8 := rdN 8 (Sl.p7 l).1
def Sl.p9 := rdO 768 (Sl.p8 l).1
theorem Sl.all_p : Sl.slotC.rd (l, 0) = ((Sl.p9 l).1, Sl.tup ⟨(Sl.p1 l).2, (Sl.p2 l).2, (Sl.p3 l).2, (Sl.p4 l).2, (Sl.p5 l).2, (Sl.p6 l).2, (Sl.p7 l).2, (Sl.p8 l).2, (Sl.p9 l).2⟩) := by
  unfold Sl.slotC
  simp only [seq_rd]
  rfl
theorem Sl.bad_p : Sl.slotC.bad l = endOf (Sl.p9 l).1.1 (Sl.p9 l).1.2 := by
  unfold Cd.bad
  rw [Sl.all_p l]
theorem Sl.rd_p : Sl.rd l = ⟨(Sl.p1 l).2, (Sl.p2 l).2, (Sl.p3 l).2, (Sl.p4 l).2, (Sl.p5 l).2, (Sl.p6 l).2, (Sl.p7 l).2, (Sl.p8 l).2, (Sl.p9 l).2⟩ := by
  unfold Sl.rd
  rw [Sl.all_p l]
  rfl
end
theorem BS.keepS {K : Nat → Prop} {w w' : World} {A : Option Addr} {n : Nat} {l : List UInt8} (h : BS w A n l) (hk : Keep K w w') (hA : 0 < n → ∀ ad, A = some ad → K ad.block) : BS w' A n l := by
  refine ⟨h.1, fun hn => ?_⟩
  obtain ⟨b, o, rfl, hc⟩ := h.2 hn
  refine ⟨b, o, rfl, fun j hj => ?_⟩
  rw [← hc j hj]
  exact World.cell?_of_block (hk.block b (hA hn _ rfl))
theorem Sl.rd_wide (l : List UInt8) (h : Sl.slotC.bad l = 0) : Fits (Sl.rd l) := by
  obtain ⟨_, h5⟩ := Sl.slotC.bad_back l h
  obtain ⟨h1, h2, h3, _⟩ := (Sl.c_ok_iff (Sl.rd l)).1 h5
  exact ⟨h1, h2, h3⟩

end Go.Proofs.YtpbpdnjlomhkdaaGreat

namespace Go.Proofs.YtpbpdnjlomhkdaaGreat
open Go.RowKit Go.Shelf

theorem built_Hd (a b : Int) : Tryz.prog.built 35 [(0, .int .u32 a), (1, .int .u32 b)] = some #[.int .u32 a, .int .u32 b] := by kernel_rfl
set_option maxRecDepth 100000 in
set_option maxHeartbeats 1000000 in
theorem handleS_any (s : Vl.Th) (v : Value) (w : World) :
    Calls Tryz.prog 144 #[.agg (sc s v).toArray] w fun e w' => e = .returned (.agg (hc s.ino s.gen).toArray) ∧ Below w.heap.size w w' := by
  have HB0 : Hid (Bw (w.alloc (.cells (sc s v).toArray 92)) w.heap.size (sc s v) 92) := heap_alloc_new w _
  have HW0 : Hid (Below w.heap.size w (w.alloc (.cells (sc s v).toArray 92))) := (Below.refl _ w).alloc (Nat.le_refl _) _
  go_enter Tryz.func144, Tryz.ntmps144
  go_upto_region 1 with (refine wpList_alloc_any rfl 35 rfl _ zero_H ?_; intro w1 hb1 hs1 hw1)
  have HB1 := Lib.hid (HB0.out.below hw1)
  have HW1 := Lib.hid (HW0.out.trans (hw1.mono HW0.out.size))
  have HR1 : Hid (Bw w1 (w.alloc (.cells (sc s v).toArray 92)).heap.size (hc 0 0) 35) := hb1
  have HS0 : Hid (w.heap.size ≤ (w.alloc (.cells (sc s v).toArray 92)).heap.size) := HW0.out.size
  clear hb1 hs1 hw1 HB0 HW0
  generalize (w.alloc (.cells (sc s v).toArray 92)).heap.size = g at *
  have c0 := HB1.out.cell 0 _ rfl
  have c2 := HB1.out.cell 2 _ rfl
  clear HB1
  go_wp2_with (refine wpList_store_part rfl 35 (.tmp 2) (.tmp 7) rfl g 0 (hc s.ino s.gen) rfl rfl 35 _ HR1.out size_H (by simp [hc]) (hc_one _ _) ?_
               intro y hb _ hk
               have HB := Lib.hid hb
               have HK := Lib.hid hk
               clear hb hk)
  exact bodyPost_ret (results_one rfl _ y g HB.out size_H (by rfl) Tryz.underlying35) rfl ⟨rfl, HW1.out.trans (HK.out.below2 (fun k hk => by have := HS0.out; omega))⟩

/-- Two of them, in blocks. -/
structure SB (p q : Nat) (s t : Vl.Th) (v u : Value) (w W : World) : Prop where
  one : Bw W p (sc s v) 92
  two : Bw W q (sc t u) 92
  bel : Below w.heap.size w W
theorem SB.below {p q : Nat} {s t : Vl.Th} {v u : Value} {w W W' : World} (h : SB p q s t v u w W) (hb : Below W.heap.size W W') : SB p q s t v u w W' := ⟨h.one.below hb, h.two.below hb, h.bel.trans (hb.mono h.bel.size)⟩
theorem SB.drew {p q : Nat} {s t : Vl.Th} {v u : Value} {w W : World} (h : SB p q s t v u w W) : SB p q s t v u w W.drew := ⟨h.one, h.two, h.bel.drew⟩
theorem hEqS (a b c d : Nat) (w : World) : (binOp .eql 35 (.agg (hc a b).toArray) (.agg (hc c d).toArray)).run Tryz.prog w = .ok (.bool (decide (a = c) && decide (b = d))) w := by
  unfold hc
  by_cases h1 : a = c
  · subst h1
    by_cases h2 : b = d
    · subst h2
      go_simp
    · have hb : ((b : Int) == (d : Int)) = false := by simp; omega
      go_simp
  · have hb : ((a : Int) == (c : Int)) = false := by simp; omega
    go_simp
theorem run_hEq {o : Oper} {a : Act} {x y : Operand} (ho : o.op = .binOp .eql 35 x y 35) (A B C D : Nat) (hx : a.eval x = .agg (hc A B).toArray) (hy : a.eval y = .agg (hc C D).toArray) (w : World) :
    (execOp a.eval o).run Tryz.prog w = .ok (.value (.bool (decide (A = C) && decide (B = D)))) w := by
  unfold execOp
  simp [eqGuard, ho, hx, hy, hEqS]

def sameBs (s t : Vl.Th) : List Bool := [decide (s.ino = t.ino) && decide (s.gen = t.gen), decide (s.kind = t.kind) && decide (s.links = t.links) && decide (s.mode = t.mode), decide (s.change = t.change) && decide (s.cookie = t.cookie) && decide (s.verf = t.verf), decide (s.dt = t.dt)]
theorem same_bools (s t : Vl.Th) : (sameBs s t).all id = decide (s = t) := by
  obtain ⟨a0, a1, a2, a3, a4, a5, a6, a7, a8⟩ := s
  obtain ⟨b0, b1, b2, b3, b4, b5, b6, b7, b8⟩ := t
  rw [Bool.eq_iff_iff]
  simp only [sameBs, List.all_cons, List.all_nil, Bool.and_true, id_eq, Bool.and_eq_true, decide_eq_true_eq, Vl.Th.mk.injEq]
  constructor
  · rintro ⟨⟨h0, h2⟩, ⟨⟨h1, h3⟩, h4⟩, ⟨⟨h5, h6⟩, h7⟩, h8⟩
    exact ⟨h0, h1, h2, h3, h4, h5, h6, h7, h8⟩
  · rintro ⟨h0, h1, h2, h3, h4, h5, h6, h7, h8⟩
    exact ⟨⟨h0, h2⟩, ⟨⟨h1, h3⟩, h4⟩, ⟨⟨h5, h6⟩, h7⟩, h8⟩
end Go.Proofs.YtpbpdnjlomhkdaaGreat

namespace Go.Proofs.YtpbpdnjlomhkdaaGreat
open Go.RowKit Go.Shelf

theorem hEq (d : Nat) (a b c e : Int) (w : World) : (Op.equalIn (d + 1 + 1) 35 (.agg #[.int .u32 a, .int .u32 b]) (.agg #[.int .u32 c, .int .u32 e])).run Tryz.prog w = .ok (a == c && b == e) w := by
  have hS : Tryz.prog.underlying 35 = some (.struct (Tryz.prog.fieldsOf 35)) := by kernel_rfl
  have hp : Tryz.prog.stoodInHeld 35 = false := by kernel_rfl
  have u := Tryz.underlying33
  have ia := Tryz.isAgg33
  have sz := Tryz.sizeOf33
  rw [run_equalIn_agg w (d + 1) 35 _ _ hS hp]
  simp only [Program.fieldsOf, Tryz.underlying35]
  go_simp
  by_cases h1 : a = c <;> by_cases h2 : b = e <;> simp [h1, h2]
theorem eEq (x y : En) (w : World) : (binOp .neq 109 (.agg #[.int .u64 (x.ck : Int), .int .u32 (x.ino : Int), .int .u32 (x.gen : Int), .string (txt x.nm)]) (.agg #[.int .u64 (y.ck : Int), .int .u32 (y.ino : Int), .int .u32 (y.gen : Int), .string (txt y.nm)])).run Tryz.prog w = .ok (.bool (!decide (x = y))) w := by
  have hS : Tryz.prog.underlying 109 = some (.struct (Tryz.prog.fieldsOf 109)) := by kernel_rfl
  have hp : Tryz.prog.stoodInHeld 109 = false := by kernel_rfl
  have u := Tryz.underlying25
  have ia := Tryz.isAgg25
  have sz := Tryz.sizeOf25
  have u1 := Tryz.underlying9
  have ia1 := Tryz.isAgg9
  have sz1 := Tryz.sizeOf9
  have ia2 := Tryz.isAgg35
  have sz2 := Tryz.sizeOf35
  rw [run_neq_struct, show (10000 : Nat) = 9997 + 1 + 1 + 1 from rfl, run_equalIn_agg w (9997 + 1 + 1) 109 _ _ hS hp]
  simp only [Program.fieldsOf, Tryz.underlying109]
  have hE := hEq 9997
  go_simp
  by_cases h : x = y
  · subst h
    simp
  · have hd : decide (x = y) = false := decide_eq_false h
    rw [hd]
    obtain ⟨c, i, g, l⟩ := x
    obtain ⟨c2, i2, g2, l2⟩ := y
    dsimp only
    rw [txt_toList, txt_toList]
    by_cases h0 : c = c2
    · by_cases h1 : i = i2
      · by_cases h2 : g = g2
        · subst h0 h1 h2
          have h3 : l ≠ l2 := fun e => h (by rw [e])
          simp [h3]
        · simp [h0, h1, Int.ofNat_inj, h2]
      · simp [h0, Int.ofNat_inj, h1]
    · simp [Int.ofNat_inj, h0]

set_option maxRecDepth 100000 in
set_option maxHeartbeats 4000000 in
/-- Two rows that read the same are the same, others are not. -/
theorem same_any (A B : Option Addr) (n m c d : Nat) (xs ys : List En) (w : World) (h : ES w A n xs) (h2 : ES w B m ys) (hn : n ≤ 10000000) :
    Calls Tryz.prog 44 #[.slice A n c, .slice B m d] w fun e w' => e = .returned (.bool (decide (xs = ys))) ∧ Below w.heap.size w w' := by
  have HS := Lib.hid h
  have HT := Lib.hid h2
  have HN : Hid (xs.length = n) := h.1
  have HM : Hid (ys.length = m) := h2.1
  clear h h2
  by_cases hnm : n = m
  rotate_left
  · have hne : ¬ (n : Int) = (m : Int) := by omega
    have HD : Hid (decide (xs = ys) = false) := decide_eq_false fun e => hnm (by rw [← HN.out, ← HM.out, e])
    go_enter Tryz.func44, Tryz.ntmps44
    go_wp2_with fail
    go_ret
    exact ⟨by rw [HD.out]; rfl, Below.refl _ _⟩
  subst hnm
  go_enter Tryz.func44, Tryz.ntmps44
  go_wp2_with fail
  go_loopw [5] (fun i wr => ∃ k : Nat, k ≤ n ∧ i = .int .i64 k ∧ Hid (xs.take k = ys.take k) ∧ Hid (Below w.heap.size w wr)) (fun i _ => n - (intOf i).toNat)
  case atStart => exact ⟨0, by omega, rfl, rfl, Below.refl _ _⟩
  case round =>
    obtain ⟨k, hk, rfl, HE, HW⟩ := hrel
    by_cases hlt : k < n
    · have hlt' : (k : Int) < (n : Int) := by omega
      obtain ⟨b, o, rfl, hbl, hj, hc⟩ := (HS.out.below HW.out).at hlt
      obtain ⟨b2, o2, rfl, hbl2, hj2, hc2⟩ := (HT.out.below HW.out).at hlt
      have HTX : Hid (xs.take (k + 1) = xs.take k ++ [xs[k]]) := List.take_succ_eq_append_getElem hj
      have HTY : Hid (ys.take (k + 1) = ys.take k ++ [ys[k]]) := List.take_succ_eq_append_getElem hj2
      have HDF : Hid (xs = ys → xs[k] = ys[k]) := fun e => by subst e; rfl
      generalize xs[k] = x at *
      generalize ys[k] = y at *
      have k0 : wr.cell? ⟨b, o + k * 4, none⟩ = some (.int .u64 (x.ck : Int)) := hc 0 _ rfl
      have k1 : wr.cell? ⟨b, o + k * 4 + 1, none⟩ = some (.int .u32 (x.ino : Int)) := hc 1 _ rfl
      have k2 : wr.cell? ⟨b, o + k * 4 + 2, none⟩ = some (.int .u32 (x.gen : Int)) := hc 2 _ rfl
      have k3 : wr.cell? ⟨b, o + k * 4 + 3, none⟩ = some (.string (txt x.nm)) := hc 3 _ rfl
      have j0 : wr.cell? ⟨b2, o2 + k * 4, none⟩ = some (.int .u64 (y.ck : Int)) := hc2 0 _ rfl
      have j1 : wr.cell? ⟨b2, o2 + k * 4 + 1, none⟩ = some (.int .u32 (y.ino : Int)) := hc2 1 _ rfl
      have j2 : wr.cell? ⟨b2, o2 + k * 4 + 2, none⟩ = some (.int .u32 (y.gen : Int)) := hc2 2 _ rfl
      have j3 : wr.cell? ⟨b2, o2 + k * 4 + 3, none⟩ = some (.string (txt y.nm)) := hc2 3 _ rfl
      clear hc hc2
      have heq := eEq x y
      by_cases hxy : x = y
      · have hd : decide (x = y) = true := decide_eq_true hxy
        rw [hd] at heq
        subst hxy
        clear hd
        have HW1 : Hid (∀ k, Below w.heap.size w (wr.drewN k)) := fun k => ⟨HW.out.os, HW.out.tape, HW.out.output, HW.out.size, HW.out.block⟩
        go_wp2_with fail
        go_quiet (fail)
        go_wp2_with fail
        go_roundw
        case rel => exact ⟨k + 1, by omega, by go_num, by show _ = _; rw [HTX.out, HTY.out, HE.out], HW1.out _⟩
        case measure => simp [intOf]; omega
      · have hd : decide (x = y) = false := decide_eq_false hxy
        rw [hd] at heq
        have HD : Hid (decide (xs = ys) = false) := decide_eq_false fun e => hxy (HDF.out e)
        clear hd hxy
        have HW1 : Hid (∀ k, Below w.heap.size w (wr.drewN k)) := fun k => ⟨HW.out.os, HW.out.tape, HW.out.output, HW.out.size, HW.out.block⟩
        go_wp2_with fail
        go_quiet (fail)
        go_wp2_with fail
        go_ret
        exact ⟨by rw [HD.out]; rfl, HW1.out _⟩
    · obtain rfl : k = n := by omega
      have HD : Hid (decide (xs = ys) = true) := by
        refine decide_eq_true ?_
        have := HE.out
        rwa [List.take_of_length_le (by rw [HN.out]; exact Nat.le_refl _), List.take_of_length_le (by rw [HM.out]; exact Nat.le_refl _)] at this
      go_wp2_with fail
      go_ret
      exact ⟨by rw [HD.out]; rfl, HW.out⟩
end Go.Proofs.YtpbpdnjlomhkdaaGreat

namespace Go.Proofs.YtpbpdnjlomhkdaaGreat
open Go.RowKit Go.Shelf

theorem sEqIn (x y : Vl.Th) (w : World) : (Op.equalIn 10000 94 (.agg (sc x (.string (txt x.dt))).toArray) (.agg (sc y (.string (txt y.dt))).toArray)).run Tryz.prog w = .ok (decide (x = y)) w := by
  have hS : Tryz.prog.underlying 94 = some (.struct (Tryz.prog.fieldsOf 94)) := by kernel_rfl
  have hp : Tryz.prog.stoodInHeld 94 = false := by kernel_rfl
  have u := Tryz.underlying25
  have ia := Tryz.isAgg25
  have sz := Tryz.sizeOf25
  have u1 := Tryz.underlying9
  have ia1 := Tryz.isAgg9
  have sz1 := Tryz.sizeOf9
  have u3 := Tryz.underlying33
  have ia3 := Tryz.isAgg33
  have sz3 := Tryz.sizeOf33
  rw [show (10000 : Nat) = 9997 + 1 + 1 + 1 from rfl, run_equalIn_agg w (9997 + 1 + 1) 94 _ _ hS hp]
  simp only [Program.fieldsOf, Tryz.underlying94]
  unfold sc
  go_simp
  simp only [txt_toList]
  by_cases h : x = y
  · subst h
    simp
  · rw [decide_eq_false h]
    obtain ⟨a0, a1, a2, a3, a4, a5, a6, a7, a8⟩ := x
    obtain ⟨b0, b1, b2, b3, b4, b5, b6, b7, b8⟩ := y
    dsimp only
    simp only [Int.ofNat_inj]
    by_cases g0 : a0 = b0
    rotate_left
    · rw [if_neg g0]
    subst g0
    rw [if_pos rfl]
    by_cases g1 : a1 = b1
    rotate_left
    · rw [if_neg g1]
    subst g1
    rw [if_pos rfl]
    by_cases g2 : a2 = b2
    rotate_left
    · rw [if_neg g2]
    subst g2
    rw [if_pos rfl]
    by_cases g3 : a3 = b3
    rotate_left
    · rw [if_neg g3]
    subst g3
    rw [if_pos rfl]
    by_cases g4 : a4 = b4
    rotate_left
    · rw [if_neg g4]
    subst g4
    rw [if_pos rfl]
    by_cases g5 : a5 = b5
    rotate_left
    · rw [if_neg g5]
    subst g5
    rw [if_pos rfl]
    by_cases g6 : a6 = b6
    rotate_left
    · rw [if_neg g6]
    subst g6
    rw [if_pos rfl]
    by_cases g7 : a7 = b7
    rotate_left
    · rw [if_neg g7]
    subst g7
    rw [if_pos rfl]
    rw [if_neg (fun e => h (by rw [e]))]
theorem sEq (x y : Vl.Th) (w : World) : (binOp .eql 94 (.agg (sc x (.string (txt x.dt))).toArray) (.agg (sc y (.string (txt y.dt))).toArray)).run Tryz.prog w = .ok (.bool (decide (x = y))) w := by
  rw [run_eql_struct, sEqIn, Result.andThen_ok]
theorem sNe (x y : Vl.Th) (w : World) : (binOp .neq 94 (.agg (sc x (.string (txt x.dt))).toArray) (.agg (sc y (.string (txt y.dt))).toArray)).run Tryz.prog w = .ok (.bool (!decide (x = y))) w := by
  rw [run_neq_struct, sEqIn, Result.andThen_ok]
end Go.Proofs.YtpbpdnjlomhkdaaGreat

namespace Go.Proofs.YtpbpdnjlomhkdaaGreat
open Go.RowKit
theorem own_beneath {B : Nat} {e : TypeId} {k : Nat} {v : Value} {n : Nat} {xs : List Value} {w w' : World} (h : w.ownsRow B e k v n xs) (hb : Below w.heap.size w w') : w'.ownsRow B e k v n xs :=
  h.kept (row := none) ⟨hb.os, hb.tape, hb.output, hb.size, fun k hk _ => hb.block k hk⟩ (by cases v.ownBlock <;> simp)
theorem Bw.set {w : World} {g : Nat} {cs : List Value} {t : TypeId} (h : Bw w g cs t) (o : Nat) (v : Value) : Bw (w.setCell ⟨g, o, none⟩ v) g (cs.set o v) t := by
  unfold Bw at h ⊢
  rw [setCell_eq_setRow _ _ _ _ _ _ _ h, setRow_heap _ _ _ _ _ _ h]
  simp
theorem Bw.off {w : World} {g : Nat} {cs : List Value} {t : TypeId} (h : Bw w g cs t) {a : Addr} (ha : g ≠ a.block) (v : Value) : Bw (w.setCell a v) g cs t := by
  unfold Bw at h ⊢
  rw [Below.heap_setCell _ _ _ _ ha]
  exact h

/-- The cells of slots. -/
def scs : List Vl.Th → List Sl → List Value
  | x :: l, s :: r => sc x s.v ++ scs l r
  | _, _ => []
theorem sc_len (x : Vl.Th) (v : Value) : (sc x v).length = 9 := rfl
theorem scs_len : ∀ (l : List Vl.Th) (sl : List Sl), sl.length = l.length → (scs l sl).length = l.length * 9
  | [], _, _ => by simp [scs]
  | x :: l, [], h => by simp at h
  | x :: l, s :: r, h => by
    have := scs_len l r (by simpa using h)
    simp only [scs, List.length_append, this, List.length_cons, sc_len]
    omega
theorem scs_snoc : ∀ (l : List Vl.Th) (sl : List Sl) (x : Vl.Th) (s : Sl), sl.length = l.length → scs (l ++ [x]) (sl ++ [s]) = scs l sl ++ sc x s.v
  | [], [], x, s, _ => by simp [scs]
  | [], _ :: _, _, _, h => by simp at h
  | _ :: _, [], _, _, h => by simp at h
  | y :: l, t :: r, x, s, h => by
    simp only [List.cons_append, scs, scs_snoc l r x s (by simpa using h), List.append_assoc]
theorem scs_get : ∀ (l : List Vl.Th) (sl : List Sl) (h : sl.length = l.length) (k : Nat) (hk : k < l.length) (j : Nat), j < 9 → (scs l sl)[k * 9 + j]? = (sc l[k] (sl[k]'(by omega)).v)[j]?
  | [], _, _, k, hk, _, _ => by simp at hk
  | _ :: _, [], h, _, _, _, _ => by simp at h
  | x :: l, s :: r, h, k, hk, j, hj => by
    match k with
    | 0 =>
      simp only [scs, Nat.zero_mul, Nat.zero_add, List.getElem_cons_zero]
      rw [List.getElem?_append_left (by rw [sc_len]; exact hj)]
    | k + 1 =>
      have := scs_get l r (by simpa using h) k (by simpa using hk) j hj
      simp only [scs, List.getElem_cons_succ]
      rw [List.getElem?_append_right (by rw [sc_len]; omega), sc_len, show (k + 1) * 9 + j - 9 = k * 9 + j by omega]
      exact this
/-- A slice that reads as slots. -/
def SS (w : World) (A : Option Addr) (n : Nat) (l : List Vl.Th) : Prop :=
  l.length = n ∧ (0 < n → ∃ b o, A = some ⟨b, o, none⟩ ∧ ∀ k (h : k < l.length), ∃ y : Sl, (∀ j u, (sc l[k] (.slice y.a y.n y.c))[j]? = some u → w.cell? ⟨b, o + k * 9 + j, none⟩ = some u) ∧ BS w y.a y.n l[k].dt ∧ y.n ≤ y.c)
theorem SS.nil {w : World} {A : Option Addr} : SS w A 0 [] := ⟨rfl, fun h => absurd h (by omega)⟩
theorem SS.at {w : World} {A : Option Addr} {n : Nat} {l : List Vl.Th} (h : SS w A n l) {k : Nat} (hk : k < n) : ∃ b o, ∃ y : Sl, ∃ hl : k < l.length, A = some ⟨b, o, none⟩ ∧ (∀ j u, (sc l[k] (.slice y.a y.n y.c))[j]? = some u → w.cell? ⟨b, o + k * 9 + j, none⟩ = some u) ∧ BS w y.a y.n l[k].dt ∧ y.n ≤ y.c := by
  have hl : k < l.length := by rw [h.1]; exact hk
  obtain ⟨b, o, e, hc⟩ := h.2 (by omega)
  obtain ⟨y, h1, h2, h3⟩ := hc k hl
  exact ⟨b, o, y, hl, e, h1, h2, h3⟩
theorem SS.keep {w w' : World} {A : Option Addr} {n : Nat} {l : List Vl.Th} (h : SS w A n l) (hk : ∀ p : Addr, p.block < w.heap.size → w'.cell? p = w.cell? p) : SS w' A n l := by
  refine ⟨h.1, fun hn => ?_⟩
  obtain ⟨b, o, e, hc⟩ := h.2 hn
  refine ⟨b, o, e, fun k hl => ?_⟩
  obtain ⟨y, h1, h2, h3⟩ := hc k hl
  exact ⟨y, fun j u hu => (hk ⟨b, o + k * 9 + j, none⟩ (World.block_lt_of_cell? w _ (h1 j u hu))).trans (h1 j u hu), h2.keep fun p hp => hk p hp, h3⟩
theorem SS.below {w w' : World} {A : Option Addr} {n : Nat} {l : List Vl.Th} (h : SS w A n l) (hb : Below w.heap.size w w') : SS w' A n l := h.keep fun _ hp => hb.cell hp
/-- Slots in a row of the call's own. -/
structure SR (W : World) (base : Nat) (A : Option Addr) (c : Nat) (l : List Vl.Th) (sl : List Sl) : Prop where
  len : sl.length = l.length
  row : W.ownsRow base 92 9 (.slice A l.length c) l.length (scs l sl)
  bs : ∀ i (h : i < sl.length), BS W sl[i].a sl[i].n (l[i]'(by rw [← len]; exact h)).dt
  cap : ∀ i (h : i < sl.length), sl[i].n ≤ sl[i].c
  off : ∀ i (h : i < sl.length), 0 < sl[i].n → ∀ ad, sl[i].a = some ad → (Value.slice A l.length c).ownBlock ≠ some ad.block
theorem SR.nil (W : World) (base : Nat) : SR W base none 0 [] [] := ⟨rfl, World.ownsRow_nil _ _ _ _, fun i h => by simp at h, fun i h => by simp at h, fun i h => by simp at h⟩
theorem SR.ss {W : World} {base : Nat} {A : Option Addr} {c : Nat} {l : List Vl.Th} {sl : List Sl} (h : SR W base A c l sl) : SS W A l.length l := by
  refine ⟨rfl, fun hn => ?_⟩
  rcases h.row.2 with ⟨h1, h2⟩ | ⟨g, cap, cur, h1, h2, h3, h4, h5, h6, h7⟩
  · omega
  · injection h1 with h1 _ _
    refine ⟨g, 0, h1, fun k hk => ⟨sl[k]'(by rw [h.len]; exact hk), fun j u hu => ?_, h.bs k (by rw [h.len]; exact hk), h.cap k (by rw [h.len]; exact hk)⟩⟩
    have hj : j < 9 := by
      have := (List.getElem?_eq_some_iff.1 hu).1
      rwa [sc_len] at this
    have hg := scs_get l sl h.len k hk j hj
    rw [show sc l[k] (sl[k]'(by rw [h.len]; exact hk)).v = sc l[k] (.slice (sl[k]'(by rw [h.len]; exact hk)).a (sl[k]'(by rw [h.len]; exact hk)).n (sl[k]'(by rw [h.len]; exact hk)).c) from rfl, hu] at hg
    have := h.row.cells (g := g) (by rw [h1]; rfl) _ _ hg
    rw [add_plain] at this
    rw [show 0 + k * 9 + j = 0 + (k * 9 + j) by omega]
    exact this
theorem SR.below {W W' : World} {base : Nat} {A : Option Addr} {c : Nat} {l : List Vl.Th} {sl : List Sl} (h : SR W base A c l sl) (hb : Below W.heap.size W W') : SR W' base A c l sl :=
  ⟨h.len, own_beneath h.row hb, fun i hi => (h.bs i hi).below hb, h.cap, h.off⟩
theorem SR.place {W : World} {base : Nat} {A : Option Addr} {c : Nat} {sl : List Sl} {l : List Vl.Th} (h : SR W base A c l sl) (b : Nat) (e : (Value.slice A l.length c).ownBlock = some b) : base ≤ b ∧ b < W.heap.size := h.row.lt b e
theorem SR.append {w7 w8 : World} {base : Nat} {A A' : Option Addr} {c c' : Nat} {l : List Vl.Th} {sl : List Sl} {x : Vl.Th} {s : Sl} (h : SR w7 base A c l sl) (h8 : w8.ownsRow base 92 9 (.slice A' (l.length + 1) c') (l.length + 1) (scs l sl ++ sc x s.v)) (hg : w7.grownBy w8 (Value.slice A l.length c).ownBlock)
    (hat : (Value.slice A' (l.length + 1) c').ownBlock = (Value.slice A l.length c).ownBlock ∨ (Value.slice A' (l.length + 1) c').ownBlock = some w7.heap.size) (hb : BS w7 s.a s.n x.dt) (hc : s.n ≤ s.c) (hs : 0 < s.n → ∀ ad, s.a = some ad → (Value.slice A l.length c).ownBlock ≠ some ad.block) : SR w8 base A' c' (l ++ [x]) (sl ++ [s]) := by
  have keepB : ∀ (a : Option Addr) (n : Nat) (b : List UInt8), BS w7 a n b → (0 < n → ∀ ad, a = some ad → (Value.slice A l.length c).ownBlock ≠ some ad.block) → BS w8 a n b := fun a n b hB ho =>
    ⟨hB.1, fun hn => by
      obtain ⟨bb, o, e, hcell⟩ := hB.2 hn
      exact ⟨bb, o, e, fun j hj => (World.cell?_of_block (hg.block bb (World.block_lt_of_cell? w7 _ (hcell j hj)) (fun e' => ho hn _ e e'.symm))).trans (hcell j hj)⟩⟩
  have offB : ∀ (a : Option Addr) (n : Nat) (b : List UInt8), BS w7 a n b → (0 < n → ∀ ad, a = some ad → (Value.slice A l.length c).ownBlock ≠ some ad.block) → (0 < n → ∀ ad, a = some ad → (Value.slice A' (l.length + 1) c').ownBlock ≠ some ad.block) := fun a n b hB ho hn ad e => by
    rcases hat with h1 | h1
    · rw [h1]; exact ho hn ad e
    · rw [h1]
      have := hB.lt_block hn ad e
      simp
      omega
  have hlen : (sl ++ [s]).length = (l ++ [x]).length := by simp [h.len]
  refine ⟨hlen, ?_, fun i hi => ?_, fun i hi => ?_, fun i hi h0 ad e => ?_⟩
  · rw [List.length_append, scs_snoc _ _ _ _ h.len]; exact h8
  · by_cases hi' : i < sl.length
    · simp only [List.getElem_append_left hi', List.getElem_append_left (show i < l.length by rw [← h.len]; exact hi')]
      exact keepB _ _ _ (h.bs i hi') (h.off i hi')
    · obtain rfl : i = sl.length := by simp at hi; omega
      have e1 : (sl ++ [s])[sl.length]'hi = s := by simp
      have e2 : ∀ hh, (l ++ [x])[sl.length]'hh = x := by intro hh; simp [h.len]
      rw [e1, e2]
      exact keepB _ _ _ hb hs
  · by_cases hi' : i < sl.length
    · simp only [List.getElem_append_left hi']; exact h.cap i hi'
    · obtain rfl : i = sl.length := by simp at hi; omega
      have e1 : (sl ++ [s])[sl.length]'hi = s := by simp
      rw [e1]; exact hc
  · rw [List.length_append]
    show (Value.slice A' (l.length + 1) c').ownBlock ≠ _
    by_cases hi' : i < sl.length
    · simp only [List.getElem_append_left hi'] at h0 e; exact offB _ _ _ (h.bs i hi') (h.off i hi') h0 ad e
    · obtain rfl : i = sl.length := by simp at hi; omega
      have e1 : (sl ++ [s])[sl.length]'hi = s := by simp
      rw [e1] at h0 e; exact offB _ _ _ hb hs h0 ad e
theorem infos_Sl : (Tryz.prog.info? 92).map (fun i => (i.zero, i.size, i.bytes)) = some (some (.agg (sc Sl.zero (.slice none 0 0)).toArray), 9, 72) := by kernel_rfl
end Go.Proofs.YtpbpdnjlomhkdaaGreat
