/-
  Steps of this layer's statements: rows of bools and of numbers, one byte as a text (layer 8).
  Contracts of bits' height and Has (layer 6).
  Contract of bits' Count (layer 6).
  Contracts of bits' free and of the function that it returns (layer 6).
  Frames, slices as they lie in a cell, slices of writes: what layers 5 and above share (the texts of layer 5 hold the same: where they are laid, this one is not).
  Transactions, plain: blocks as they were, what was put, what changes (layer 10). Nothing of the program is named here.
  A transaction in memory (layer 10): its struct, its blocks' slices, its map; what leaves it as it is.
  Small contracts of layer 10: bytes.Clone, bytes.Equal, maps.Clone, a map of slices asked and written, Len, has.
  A map of slices asked and written; Len, has, Get, Put (layer 10).
  Contract of Put (layer 10).
  Contracts of Fork, Take and New (layer 10).
  Contracts of Take and New (layer 10).
  Contract of New (layer 10).
-/
import Derived.Test.YtnhokkdieijkhaaGreatDoorQ3
import Derived.Laws.MakeOwn
import Derived.Deep.RegionHeld
import Derived.Test.YtnhokkdieijkhaaGreatDoorProg
import Derived.Deep.RegionHeld3
import Derived.Deep.RegionLaw
import Derived.Deep.LoopGhost
import Derived.Deep.DeepMust
import Derived.KernelRfl
import Derived.Lib.SlBytesConst
import Derived.Lib.SlBytesRow
import Derived.Deep.RegionWith
import Derived.BigQuiet
import Derived.Deep.QuietTactic
import Derived.Deep.DeepCutAuto
import Derived.RangeFuncNested
import Derived.RangeFuncBound
import Derived.RangeFuncCalls
import Derived.RangeFuncLeaves
import Derived.RangeFuncWrites
import Derived.Shelf.Abstract
import Derived.Shelf.RegionOpen
import Derived.OwnWalkIn
import Derived.TacticsInMore
import Derived.LoopNIn
import Derived.LoopIn
import Derived.Test.YtnhokkdieijkhaaGreatDoorShelf
import Derived.Shelf.SlMaps.Clone
import Derived.IntWalk
namespace Go.Proofs.YtnhokkdieijkhaaGreatDoor
open Go.RowKit Go.Shelf

section
variable {o : Oper} {a : Act} {w : World} {ops : Array Oper} {rest : List Oper} {Q : Exit → Act → World → Prop}
/-- The cells of bools, of numbers. -/
def bcs (n : Nat) (p : Nat → Bool) : List Value := (List.range n).map fun i => Value.bool (p i)
def ics (n : Nat) (p : Nat → Nat) : List Value := (List.range n).map fun i => Value.int .i64 (p i : Int)
def BB (w : World) (g n : Nat) (p : Nat → Bool) : Prop := w.heap[g]? = some (.cells (bcs n p).toArray 4 (0, 0))
def IB (w : World) (g n : Nat) (p : Nat → Nat) : Prop := w.heap[g]? = some (.cells (ics n p).toArray 3 (0, 0))
def upd {α : Type} (p : Nat → α) (k : Nat) (x : α) : Nat → α := fun i => if i = k then x else p i
theorem infoBool : (Tryz.prog.info? 4).map (fun i => (i.zero, i.size, i.bytes)) = some (some (.bool false), 1, 1) := by kernel_rfl
theorem infoInt : (Tryz.prog.info? 3).map (fun i => (i.zero, i.size, i.bytes)) = some (some (.int .i64 0), 1, 8) := by kernel_rfl
theorem made_cells (z : Value) (hz : z.cells = #[z]) (n : Nat) : madeCells z.cells (n * 1) = ((List.range n).map fun _ => z).toArray := by
  apply Array.ext'
  rw [hz]
  simp [madeCells, Nat.mod_one]
theorem wpList_make_row (hgd : o.guard = none) (t e : TypeId) (z : Value) (by_ : Nat) (l c : Operand) (ho : o.op = .makeSlice t l c) (ht : Tryz.prog.underlying t = some (.slice e))
    (hinf : (Tryz.prog.info? e).map (fun i => (i.zero, i.size, i.bytes)) = some (some z, 1, by_)) (hz1 : z.cells = #[z]) (hby : by_ ≤ 24) (n : Nat) (hl : a.eval l = .int .i64 (n : Int)) (hc : a.eval c = .int .i64 (n : Int)) (hn : n ≤ 1000000)
    (h : ∀ w', w'.heap[w.heap.size]? = some (.cells ((List.range n).map fun _ => z).toArray e (0, 0)) → w'.heap.size = w.heap.size + 1 → Below w.heap.size w w' → wpList Tryz.prog ops Q rest (a.put o.dst (.slice (some ⟨w.heap.size, 0, none⟩) n n)) w') : wpList Tryz.prog ops Q (o :: rest) a w := by
  obtain ⟨i, hi, hz, hs, hb⟩ := info_parts hinf
  have hr := run_makeSlice (P := Tryz.prog) w t e i z ht hi hz .i64 .i64 (n : Int) (n : Int) (by omega) (by omega) (by rw [hs]; simp; omega) (by rw [hb]; have h1 : by_ * n ≤ 24 * n := Nat.mul_le_mul_right _ hby; have h2 := Int.ofNat_le.2 h1; push_cast at h2; rw [Int.mul_comm] at h2; omega) (by omega)
  rw [hs, Int.toNat_natCast, made_cells z hz1] at hr
  refine Did.list hgd (v := .slice (some ⟨w.heap.size, 0, none⟩) n n) (w' := w.alloc (.cells ((List.range n).map fun _ => z).toArray e)) (.inl ?_) (h _ (heap_alloc_new w _) (by simp) ((Below.refl _ _).alloc (Nat.le_refl _) _))
  unfold execOp
  simp only [ho, hl, hc, Sem.run_bind, hr, Result.andThen_ok]
  rfl
theorem wpList_conv_bs (hgd : o.guard = none) (x : Operand) (ho : o.op = .convert 30 9 x) (A : Option Addr) (n c : Nat) (l : List UInt8) (hx : a.eval x = .slice A n c) (h : BS w A n l)
    (hk : wpList Tryz.prog ops Q rest (a.put o.dst (.string (txt l))) w) : wpList Tryz.prog ops Q (o :: rest) a w := by
  refine Did.list hgd (v := .string (txt l)) (w' := w) (.inl ?_) hk
  unfold execOp
  simp only [ho, hx, Sem.run_bind, run_convert_bs w A n c l h, Result.andThen_ok]
  rfl
theorem range1 : Array.range 1 = #[0] := by decide
theorem range2 : Array.range 2 = #[0, 1] := by decide
/-- A slice of one or two bytes, the world under a name of its own. -/
theorem wpList_byte1 (hgd : o.guard = none) (x : Operand) (ho : o.op = .buildSlice 30 1 #[(0, x)]) (b : UInt8) (hx : a.eval x = .int .u8 (b.toNat : Int))
    (h : ∀ w', BS w' (some ⟨w.heap.size, 0, none⟩) 1 [b] → Below w.heap.size w w' → wpList Tryz.prog ops Q rest (a.put o.dst (.slice (some ⟨w.heap.size, 0, none⟩) 1 1)) w') : wpList Tryz.prog ops Q (o :: rest) a w := by
  obtain ⟨i, hi, hz, hs, hb⟩ := info_parts info_u8
  have hr := run_buildSlice (P := Tryz.prog) w 30 5 1 #[(0, .int .u8 (b.toNat : Int))] #[.int .u8 (b.toNat : Int)] i _ Tryz.underlying30 hi hz (by rw [hs]; omega) (by rw [hs]; omega) (by rw [hs]; simp [Instr.fill, Value.cells, range1])
  refine Did.list hgd (v := .slice (some ⟨w.heap.size, 0, none⟩) 1 1) (w' := w.alloc (.cells #[.int .u8 (b.toNat : Int)] 5)) (.inl ?_) (h _ (BS.of_block (l := [b]) (heap_alloc_new w _)) ((Below.refl _ _).alloc (Nat.le_refl _) _))
  unfold execOp
  simp only [ho, Sem.run_bind]
  simp [hx, hr]
theorem wpList_byte2 (hgd : o.guard = none) (x y : Operand) (ho : o.op = .buildSlice 30 2 #[(0, x), (1, y)]) (b c : UInt8) (hx : a.eval x = .int .u8 (b.toNat : Int)) (hy : a.eval y = .int .u8 (c.toNat : Int))
    (h : ∀ w', BS w' (some ⟨w.heap.size, 0, none⟩) 2 [b, c] → Below w.heap.size w w' → wpList Tryz.prog ops Q rest (a.put o.dst (.slice (some ⟨w.heap.size, 0, none⟩) 2 2)) w') : wpList Tryz.prog ops Q (o :: rest) a w := by
  obtain ⟨i, hi, hz, hs, hb⟩ := info_parts info_u8
  have hr := run_buildSlice (P := Tryz.prog) w 30 5 2 #[(0, .int .u8 (b.toNat : Int)), (1, .int .u8 (c.toNat : Int))] #[.int .u8 (b.toNat : Int), .int .u8 (c.toNat : Int)] i _ Tryz.underlying30 hi hz (by rw [hs]; omega) (by rw [hs]; omega) (by rw [hs]; simp [Instr.fill, Value.cells, range2])
  refine Did.list hgd (v := .slice (some ⟨w.heap.size, 0, none⟩) 2 2) (w' := w.alloc (.cells #[.int .u8 (b.toNat : Int), .int .u8 (c.toNat : Int)] 5)) (.inl ?_) (h _ (BS.of_block (l := [b, c]) (heap_alloc_new w _)) ((Below.refl _ _).alloc (Nat.le_refl _) _))
  unfold execOp
  simp only [ho, Sem.run_bind]
  simp [hx, hy, hr]
end
section
variable {w w' : World} {g n : Nat}
theorem BB.cell {p : Nat → Bool} (h : BB w g n p) {k : Nat} (hk : k < n) : w.cell? ⟨g, k, none⟩ = some (.bool (p k)) := by
  rw [cell_of_row _ _ _ _ _ _ h]
  simp [bcs, hk]
theorem IB.cell {p : Nat → Nat} (h : IB w g n p) {k : Nat} (hk : k < n) : w.cell? ⟨g, k, none⟩ = some (.int .i64 (p k : Int)) := by
  rw [cell_of_row _ _ _ _ _ _ h]
  simp [ics, hk]
theorem BB.froz {p : Nat → Bool} (h : BB w g n p) (k : Nat) : w.frozen? ⟨g, k, none⟩ = false := by simp [World.frozen?, show w.heap[g]? = _ from h]
theorem IB.froz {p : Nat → Nat} (h : IB w g n p) (k : Nat) : w.frozen? ⟨g, k, none⟩ = false := by simp [World.frozen?, show w.heap[g]? = _ from h]
theorem BB.lt {p : Nat → Bool} (h : BB w g n p) : g < w.heap.size := (Array.getElem?_eq_some_iff.1 h).1
theorem IB.lt {p : Nat → Nat} (h : IB w g n p) : g < w.heap.size := (Array.getElem?_eq_some_iff.1 h).1
theorem BB.below {p : Nat → Bool} (h : BB w g n p) (hb : Below w.heap.size w w') : BB w' g n p := (hb.block g h.lt).trans h
theorem IB.below {p : Nat → Nat} (h : IB w g n p) (hb : Below w.heap.size w w') : IB w' g n p := (hb.block g h.lt).trans h
theorem setIf_range {α : Type} (n : Nat) (f : Nat → α) (k : Nat) (x : α) : ((List.range n).map f).toArray.setIfInBounds k x = ((List.range n).map (upd f k x)).toArray := by
  apply Array.ext'
  rw [Array.toList_setIfInBounds]
  apply List.ext_getElem
  · simp
  · intro i h1 h2
    rw [List.getElem_set]
    by_cases e : k = i
    · rw [if_pos e]
      simp [upd, e]
    · rw [if_neg e]
      have e2 : ¬ i = k := fun h => e h.symm
      simp [upd, e2]
theorem BB.set {p : Nat → Bool} (h : BB w g n p) (k : Nat) (x : Bool) : BB (w.setCell ⟨g, k, none⟩ (.bool x)) g n (upd p k x) := by
  have := setRow_heap w g _ (((List.range n).map (upd (fun i => Value.bool (p i)) k (.bool x))).toArray) _ _ h
  rw [← setIf_range] at this
  unfold BB
  rw [setCell_eq_setRow _ _ _ _ _ _ _ h]
  refine this.trans ?_
  rw [setIf_range]
  unfold bcs
  congr 3
  apply List.map_congr_left
  intro i _
  simp only [upd]
  split <;> rfl
theorem IB.set {p : Nat → Nat} (h : IB w g n p) (k : Nat) (x : Nat) : IB (w.setCell ⟨g, k, none⟩ (.int .i64 (x : Int))) g n (upd p k x) := by
  have := setRow_heap w g _ (((List.range n).map (upd (fun i => Value.int .i64 (p i : Int)) k (.int .i64 (x : Int)))).toArray) _ _ h
  rw [← setIf_range] at this
  unfold IB
  rw [setCell_eq_setRow _ _ _ _ _ _ _ h]
  refine this.trans ?_
  rw [setIf_range]
  unfold ics
  congr 3
  apply List.map_congr_left
  intro i _
  simp only [upd]
  split <;> rfl
/-- A cell of another block is set. -/
theorem set_keep (w : World) (g k : Nat) (v : Value) : Keep (· ≠ g) w (w.setCell ⟨g, k, none⟩ v) := (Keep.refl _ _).setCell (p := ⟨g, k, none⟩) (fun h => h rfl) _
theorem BB.off {p : Nat → Bool} (h : BB w g n p) {g' k : Nat} (v : Value) (hne : g ≠ g') : BB (w.setCell ⟨g', k, none⟩ v) g n p := ((set_keep w g' k v).block g hne).trans h
theorem IB.off {p : Nat → Nat} (h : IB w g n p) {g' k : Nat} (v : Value) (hne : g ≠ g') : IB (w.setCell ⟨g', k, none⟩ v) g n p := ((set_keep w g' k v).block g hne).trans h
end
/-- Entries do not lie in a block that holds no string. -/
theorem ES.off {w w' : World} {A : Option Addr} {n : Nat} {es : List En} {g : Nat} (h : ES w A n es) (hq : ∀ o s, w.cell? ⟨g, o, none⟩ ≠ some (.string s)) (hk : Keep (· ≠ g) w w') : ES w' A n es := by
  refine ⟨h.1, fun hn => ?_⟩
  obtain ⟨b, o, e, hc⟩ := h.2 hn
  refine ⟨b, o, e, fun j hj i v hv => ?_⟩
  have hb : b ≠ g := by
    rintro rfl
    exact hq _ _ (hc j hj 3 _ rfl)
  exact (World.cell?_of_block (hk.block b hb)).trans (hc j hj i v hv)
theorem BB.nostr {w : World} {g n : Nat} {p : Nat → Bool} (h : BB w g n p) : ∀ o s, w.cell? ⟨g, o, none⟩ ≠ some (.string s) := by
  intro o s
  rw [cell_of_row _ _ _ _ _ _ h]
  by_cases hk : o < n
  · simp [bcs, hk]
  · simp [bcs, hk]
theorem IB.nostr {w : World} {g n : Nat} {p : Nat → Nat} (h : IB w g n p) : ∀ o s, w.cell? ⟨g, o, none⟩ ≠ some (.string s) := by
  intro o s
  rw [cell_of_row _ _ _ _ _ _ h]
  by_cases hk : o < n
  · simp [ics, hk]
  · simp [ics, hk]
/-- The letter at place g. -/
def nb (g : Nat) : UInt8 := UInt8.ofNat (97 + g)
theorem nb_int {g : Nat} (h : g < 100) : ((nb g).toNat : Int) = 97 + (g : Int) := by
  unfold nb
  rw [UInt8.toNat_ofNat']
  omega
theorem nb_inj {i j : Nat} (hi : i < 100) (hj : j < 100) (h : nb i = nb j) : i = j := by
  have h1 := nb_int hi
  have h2 := nb_int hj
  rw [h] at h1
  omega
theorem nb_ok {g : Nat} (h : g < 100) : nameOk [nb g] = true := by
  have h1 := nb_int h
  have e1 : nb g ≠ 46 := fun e => by rw [e] at h1; have : ((46 : UInt8).toNat : Int) = 46 := rfl; omega
  have e2 : nb g ≠ 0 := fun e => by rw [e] at h1; have : ((0 : UInt8).toNat : Int) = 0 := rfl; omega
  have e3 : nb g ≠ 47 := fun e => by rw [e] at h1; have : ((47 : UInt8).toNat : Int) = 47 := rfl; omega
  simp [nameOk, e1, e2, e3]
/-- An operation of a region that draws its order, taken first. -/
theorem takeH {P : Program} {md : Region.Mode} {ops : Array Oper} {S : World → Prop} {Q : Exit → Act → World → Prop} {i : Nat} {oi : Oper} (dst : Tmp) (v : Value) {fuel : Nat} {listed : Array Bool} {a : Act} {w : World} (hi : ops[i]? = some oi) (hd : oi.dst = some dst)
    (hs : Region.noSelect ops = true) (hf : Region.free md ops listed i = true) (hr : (Region.ready md ops listed).contains i = true) (hQ : ∀ c a w, Q (.panic c) (a.put (some dst) v) w → Q (.panic c) a w) (hy : YieldsIf P ops S oi v a) (hS : S w)
    (h : wpAnyH P md ops Q S fuel (listed.setIfInBounds i true) (a.put (some dst) v) w) : wpAnyH P md ops Q S (fuel + 1) listed a w := by
  rw [← hd] at hQ h
  exact wpAnyH_take hi hs hf hr hQ hy hS h
end Go.Proofs.YtnhokkdieijkhaaGreatDoor

namespace Go.Proofs.YtnhokkdieijkhaaGreatDoor
open Go.RowKit

set_option maxHeartbeats 400000 in
theorem height_any (i : Nat) (w : World) (hi : i ≤ 1000000000) : Calls Tryz.prog 96 #[.int .i64 (i : Int)] w fun e w' => e = .returned (.int .i64 ((7 - i % 8 : Nat) : Int)) ∧ w = w' := by
  have H : Hid ((7 : Int) - (i : Int) % 8 = ((7 - i % 8 : Nat) : Int)) := by show _ = _; omega
  go_enter Tryz.func96, Tryz.ntmps96
  go_wp2
  go_ret
  exact ⟨ret_int H.out, rfl⟩

theorem and_one_u8 : ∀ x : Fin 256, Go.bits BinOp.and IntKind.u8 (x.1 : Int) 1 = ((x.1 % 2 : Nat) : Int) := by decide +kernel
theorem bit_and (b : UInt8) (k : Nat) : (Go.bits BinOp.and IntKind.u8 ((b.toNat : Int) / 2 ^ k) 1 == 1) = b.toNat.testBit k := by
  have h : b.toNat / 2 ^ k < 256 := Nat.lt_of_le_of_lt (Nat.div_le_self _ _) b.toNat_lt
  have e : ((b.toNat : Int) / 2 ^ k) = ((b.toNat / 2 ^ k : Nat) : Int) := by simp
  rw [e, and_one_u8 ⟨b.toNat / 2 ^ k, h⟩, Nat.testBit_eq_decide_div_mod_eq]
  generalize b.toNat / 2 ^ k % 2 = y
  by_cases hy : y = 1
  · simp [hy]
  · have : ¬ ((y : Int) = 1) := by omega
    simp [hy, this]
theorem has_at {L : List UInt8} {k : Nat} (h : k / 8 < L.length) : (Go.bits BinOp.and IntKind.u8 ((L[k / 8].toNat : Int) / 2 ^ (7 - k % 8)) 1 == 1) = Bt.has L k := by
  rw [bit_and]
  simp [Bt.has, h]

theorem quiet_height (i : Nat) (w : World) (hi : i ≤ 1000000000) : Calls Tryz.prog 96 #[.int .i64 (i : Int)] w fun e w' => e = .returned (.int .i64 ((7 - i % 8 : Nat) : Int)) ∧ w' = w :=
  (height_any i w hi).mono fun _ _ ⟨h, e⟩ => ⟨h, e.symm⟩
set_option maxRecDepth 100000 in
set_option maxHeartbeats 1000000 in
theorem bhas_any (A : Option Addr) (n c : Nat) (l : List UInt8) (i : Int) (w : World) (h : BS w A n l) (hi : i ≤ 1000000000) (hn : n ≤ 1000000000) :
    Calls Tryz.prog 69 #[.slice A n c, .int .i64 i] w fun e w' => e = .returned (.bool (Bt.hasI l i)) ∧ ∃ k, w' = w.drewN k := by
  have HL := Lib.hid h
  have HLN : Hid (l.length = n) := h.1
  clear h
  by_cases h0 : 0 ≤ i
  · obtain ⟨k, rfl⟩ := Int.eq_ofNat_of_zero_le h0
    rw [Bt.hasI_nat]
    by_cases hk : k / 8 < n
    · obtain ⟨b, o, rfl, hj, hcell⟩ := HL.out.at hk
      have HX := Lib.hid (has_at hj)
      have hd : decide ((k : Int) / 8 < (n : Int)) = true := by simp; omega
      go_enter Tryz.func69, Tryz.ntmps69
      go_wp2_with fail
      go_quiet ((go_at_call 96; exact Calls.quiet_of_same (quiet_height k _ (by omega))))
      go_wp2
      rw [HX.out]
      go_ret
      exact ⟨rfl, _, rfl⟩
    · have HX : Hid (Bt.has l k = false) := Bt.has_out (by rw [HLN.out]; omega)
      have hd : decide ((k : Int) / 8 < (n : Int)) = false := by simp; omega
      go_enter Tryz.func69, Tryz.ntmps69
      go_wp2_with fail
      go_quiet (fail)
      go_wp2
      rw [HX.out]
      go_ret
      exact ⟨rfl, _, rfl⟩
  · have HX := Lib.hid (Bt.hasI_neg l (by omega : i < 0))
    have hd : decide (0 ≤ i) = false := by simp; omega
    go_enter Tryz.func69, Tryz.ntmps69
    go_wp2_with fail
    go_quiet (fail)
    go_wp2
    rw [HX.out]
    go_ret
    exact ⟨rfl, _, rfl⟩
end Go.Proofs.YtnhokkdieijkhaaGreatDoor

namespace Go.Proofs.YtnhokkdieijkhaaGreatDoor
open Go.RowKit

set_option maxRecDepth 100000 in
set_option maxHeartbeats 1000000 in
theorem count_any (A : Option Addr) (n c : Nat) (l : List UInt8) (N : Int) (w : World) (h : BS w A n l) (hN : N ≤ 1000000) (hn : n ≤ 1000000000) :
    Calls Tryz.prog 40 #[.slice A n c, .int .i64 N] w fun e w' => e = .returned (.int .i64 (Bt.cnt l N.toNat : Int)) ∧ ∃ k, w' = w.drewN k := by
  have HL := Lib.hid h
  have HLN : Hid (l.length = n) := h.1
  clear h
  go_enter Tryz.func40, Tryz.ntmps40
  go_wp2
  go_loopw [5, 8] (fun y i wr => ∃ k : Nat, k ≤ N.toNat ∧ i = .int .i64 k ∧ y = .int .i64 (Bt.cnt l k : Int) ∧ Hid (∃ d, wr = w.drewN d)) (fun _ i _ => N.toNat - (intOf i).toNat)
  case atStart => exact ⟨0, by omega, rfl, rfl, 0, rfl⟩
  case round =>
    obtain ⟨k, hk, rfl, rfl, HD⟩ := hrel
    by_cases hlt : k < N.toNat
    · have hlt' : (k : Int) < N := by omega
      have hle := Bt.cnt_le l k
      have HLr : Hid (BS wr A n l) := by obtain ⟨d, hd⟩ := HD.out; rw [hd]; exact HL.out
      by_cases hq : k / 8 < n
      · have hq' : (k : Int) / 8 < (n : Int) := by omega
        have HS := Lib.hid (Bt.cnt_succ l k)
        go_wp2_with fail
        refine (bhas_any A n c l k wr HLr.out (by omega) hn).mono ?_
        rintro e w2 ⟨rfl, k2, hw2⟩
        have HW2 : Hid (∃ d, w2 = w.drewN d) := by
          obtain ⟨d, hd⟩ := HD.out
          exact ⟨d + k2, by rw [hw2, hd, World.drewN_drewN]⟩
        clear hw2
        rw [Bt.hasI_nat]
        cases hb : Bt.has l k
        all_goals
          rw [hb] at HS
          go_wp2
          go_roundw
          case rel => exact ⟨k + 1, by omega, by go_num, by rw [HS.out]; simp, HW2⟩
          case measure => simp [intOf]; omega
      · have hq' : (n : Int) ≤ (k : Int) / 8 := by omega
        have HE : Hid (Bt.cnt l N.toNat = Bt.cnt l k) := by
          show _ = _
          have := Bt.cnt_out (k := k) (l := l) (by rw [HLN.out]; omega) (N.toNat - k)
          rwa [show k + (N.toNat - k) = N.toNat by omega] at this
        go_wp2
        go_ret
        exact ⟨ret_int (by rw [HE.out]), HD.out⟩
    · have hlt' : N ≤ (k : Int) := by omega
      have HE : Hid (k = N.toNat) := by show _ = _; omega
      go_wp2
      go_ret
      exact ⟨ret_int (by rw [HE.out]), HD.out⟩
end Go.Proofs.YtnhokkdieijkhaaGreatDoor

namespace Go.Proofs.YtnhokkdieijkhaaGreatDoor
open Go.RowKit Go.Shelf
attribute [local go_sem] Oper.semAt_some

set_option maxHeartbeats 400000 in
theorem free_any (A : Option Addr) (m c : Nat) (N : Int) (w : World) :
    Calls Tryz.prog 107 #[.slice A m c, .int .i64 N] w fun e w' =>
      e = .returned (.func (.func 118) #[] #[.pointer (some ⟨w.heap.size + 1, 0, none⟩), .pointer (some ⟨w.heap.size, 0, none⟩)]) ∧ w' = (w.alloc (.cells #[.slice A m c] 30)).alloc (.cells #[.int .i64 N] 3) := by
  go_enter Tryz.func107, Tryz.ntmps107
  go_wp2
  go_ret
  exact ⟨rfl, rfl⟩

theorem BS.keepK {K : Nat → Prop} {w w' : World} {A : Option Addr} {n : Nat} {l : List UInt8} (h : BS w A n l) (hk : Keep K w w') (hA : 0 < n → ∀ ad, A = some ad → K ad.block) : BS w' A n l :=
  ⟨h.1, fun hn => by
    obtain ⟨b, o, e, hc⟩ := h.2 hn
    exact ⟨b, o, e, fun j hj => (World.cell?_of_block (hk.block b (hA hn _ e))).trans (hc j hj)⟩⟩
theorem Bt.fr_len_le (l : List UInt8) (k : Nat) : (Bt.fr l k).length ≤ k := by have := Bt.fr_cnt l k; omega
theorem Bt.fr_pre (l : List UInt8) {k n : Nat} (h : k ≤ n) : ∃ r, Bt.fr l n = Bt.fr l k ++ r := by
  have := Bt.fr_mono l k (n - k)
  rwa [show k + (n - k) = n by omega] at this
theorem Bt.fr_yes {l : List UInt8} {k : Nat} (h : Bt.has l k = false) : Bt.fr l (k + 1) = Bt.fr l k ++ [k] := by rw [Bt.fr_succ, h]; rfl
theorem Bt.fr_no {l : List UInt8} {k : Nat} (h : Bt.has l k = true) : Bt.fr l (k + 1) = Bt.fr l k := by rw [Bt.fr_succ, h]; simp
theorem grownBy_drewN (w : World) (d : Nat) : w.grownBy (w.drewN d) none := ⟨rfl, rfl, rfl, Nat.le_refl _, fun _ _ _ => rfl⟩

set_option maxRecDepth 100000 in
set_option maxHeartbeats 2000000 in
theorem free1_in (n : Nat) (hn : 1 ≤ n) (l Bn Bp : Nat) (NI : Int) (N : Nat) (hNI : NI.toNat = N) (A : Option Addr) (m c : Nat) (L : List UInt8) (K : Nat → Prop) (J Jx : List Nat → World → Prop)
    (hY : ∀ pre (x : Nat) W, J pre W → pre.length < N → YieldAt Fence.wide (n - 1) Tryz.prog l #[.int .i64 (x : Int)] W fun e W' =>
      (e = .returned (.bool true) ∧ J (pre ++ [x]) W' ∧ Keep K W W') ∨ (e = .returned (.bool false) ∧ Jx (pre ++ [x]) W'))
    (W : World) (hJ : AbidesFrom W.heap.size J) (hBn : W.cell? ⟨Bn, 0, none⟩ = some (.int .i64 NI)) (hBp : W.cell? ⟨Bp, 0, none⟩ = some (.slice A m c)) (hL : BS W A m L) (hKp : K Bp) (hKA : 0 < m → ∀ ad, A = some ad → K ad.block) (hN : N ≤ 1000000) (hm : m ≤ 1000000) (h0 : J [] W) :
    CallsIn Fence.wide n Tryz.prog 118 #[.func (.yield l) #[] #[], .pointer (some ⟨Bn, 0, none⟩), .pointer (some ⟨Bp, 0, none⟩)] W fun e W' => (∃ v, e = .returned v) ∧
      ((∃ ys, ys = Bt.fr L N ∧ J ys W') ∨ (∃ pre, (∃ r, Bt.fr L N = pre ++ r) ∧ Jx pre W')) := by
  have HL := Lib.hid hL
  have HKA := Lib.hid hKA
  have HBp := Lib.hid hBp
  have HJD : Hid (∀ pre V d, J pre V → J pre (V.drewN d)) := fun pre V d h => hJ pre V _ none h (grownBy_drewN V d) (fun r e => by cases e)
  clear hL hKA hBp hJ
  refine callsIn_of_wp Tryz.func118 rfl trivial ?_ rfl
  simp only [Tryz.ntmps118, List.size_toArray, List.length_cons, List.length_nil, Nat.reduceAdd, Nat.reduceSub, Array.replicate_succ, Array.replicate_zero, List.push_toArray, List.append_toArray, List.nil_append, List.cons_append]
  gi_wp2
  gi_loopw [6] (fun i wr => ∃ k : Nat, k ≤ N ∧ i = .int .i64 k ∧ J (Bt.fr L k) wr ∧ Hid (Keep K W wr)) (fun i _ => N - (intOf i).toNat)
  case atStart => exact ⟨0, Nat.zero_le _, rfl, h0, Keep.refl _ _⟩
  case round =>
    clear hBn
    obtain ⟨k, hk, rfl, hJs, HK⟩ := hrel
    have HNI := Lib.hid hNI
    clear hNI
    by_cases hlt : k < N
    · have hlt' : (k : Int) < NI := by have := HNI.out; omega
      have hbp : wr.cell? ⟨Bp, 0, none⟩ = some (.slice A m c) := (World.cell?_of_block (a := ⟨Bp, 0, none⟩) (HK.out.block Bp hKp)).trans HBp.out
      have HLr : Hid (BS wr A m L) := HL.out.keepK HK.out HKA.out
      have HJs := Lib.hid hJs
      have HY := Lib.hid hY
      clear hJs hY h0
      gi_wp2_with (refine ⟨trivial, ?_⟩; gi_at_call 69)
      refine (callsIn_wide.2 (bhas_any A m c L k wr HLr.out (by omega) (by omega))).mono ?_
      rintro e w2 ⟨rfl, d, rfl⟩
      rw [Bt.hasI_nat]
      have HK2 : Hid (Keep K W (wr.drewN d)) := HK.out.drewN d
      cases hb : Bt.has L k with
      | false =>
        have HP := Lib.hid (Bt.fr_yes hb)
        obtain ⟨fn, tmps, assign, body, hy, hR⟩ := HY.out _ k _ (HJD.out _ _ d HJs.out) (Nat.lt_of_le_of_lt (Bt.fr_len_le L k) hlt)
        have HR := Lib.hid hR
        clear hb HL HLr HKA HBp HJs HY hR hbp
        gi_wp2
        refine HR.out.mono ?_
        rintro e W3 (⟨rfl, hJ3, hk3⟩ | ⟨rfl, hJx3⟩)
        · gi_wp2
          go_roundw
          case rel => exact ⟨k + 1, by omega, by simp, by rw [HP.out]; exact hJ3, HK2.out.trans hk3⟩
          case measure => simp [intOf]; omega
        · gi_wp2
          refine bodyPost_ret (results_none rfl _ _ _) rfl ?_
          have HQ := Bt.fr_pre L (show k + 1 ≤ N by omega)
          rw [HP.out] at HQ
          exact ⟨⟨_, rfl⟩, .inr ⟨_, HQ, hJx3⟩⟩
      | true =>
        have HP := Lib.hid (Bt.fr_no hb)
        clear hb HL HLr HKA HBp HY hbp
        gi_wp2
        refine ⟨fun _ h => (by cases h), ?_⟩
        gi_wp2
        go_roundw
        case rel => exact ⟨k + 1, by omega, by simp, by rw [HP.out]; exact HJD.out _ _ d HJs.out, HK2⟩
        case measure => simp [intOf]; omega
    · have hlt' : NI ≤ (k : Int) := by have := HNI.out; omega
      obtain rfl : k = N := by omega
      gi_wp2
      go_end0
      exact ⟨⟨_, rfl⟩, .inl ⟨_, rfl, hJs⟩⟩

theorem free_stops (n : Nat) (hn : 1 ≤ n) (Bn Bp : Nat) (NI : Int) (N : Nat) (hNI : NI.toNat = N) (A : Option Addr) (m c : Nat) (L : List UInt8) (K : Nat → Prop) (w : World)
    (hBn : w.cell? ⟨Bn, 0, none⟩ = some (.int .i64 NI)) (hBp : w.cell? ⟨Bp, 0, none⟩ = some (.slice A m c)) (hL : BS w A m L) (hKp : K Bp) (hKA : 0 < m → ∀ ad, A = some ad → K ad.block) (hN : N ≤ 1000000) (hm : m ≤ 1000000) (hbn : Bn < w.heap.size) (hbp : Bp < w.heap.size) :
    SeqStopsK Fence.wide n Tryz.prog 118 #[.pointer (some ⟨Bn, 0, none⟩), .pointer (some ⟨Bp, 0, none⟩)] (fun x : Nat => #[Value.int .i64 (x : Int)]) (Keep K) (fun ys => ys = Bt.fr L N) (fun pre => ∃ r, Bt.fr L N = pre ++ r) N w := fun l J Jx W hW hJ _ hY h0 =>
  free1_in n hn l Bn Bp NI N hNI A m c L K J Jx hY W hJ ((hW.cell (p := ⟨Bn, 0, none⟩) hbn).trans hBn) ((hW.cell (p := ⟨Bp, 0, none⟩) hbp).trans hBp) (hL.below hW) hKp hKA hN hm h0
end Go.Proofs.YtnhokkdieijkhaaGreatDoor

namespace Go.Proofs.YtnhokkdieijkhaaGreatDoor
open Go.RowKit

/-- All that is not of S is as it was. -/
def Fr (S : Nat → Prop) (w w' : World) : Prop := Keep (fun k => k < w.heap.size ∧ ¬ S k) w w'

theorem Fr.refl (S : Nat → Prop) (w : World) : Fr S w w := Keep.refl _ _
theorem Fr.trans {S S' : Nat → Prop} {w w1 w2 : World} (h : Fr S w w1) (h2 : Fr S' w1 w2) (hS : ∀ k, S' k → S k ∨ w.heap.size ≤ k) : Fr S w w2 :=
  Keep.trans h (h2.mono fun k hk => ⟨Nat.lt_of_lt_of_le hk.1 h.size, fun h' => by rcases hS k h' with h' | h'; exact hk.2 h'; omega⟩)
theorem Fr.of_below {S : Nat → Prop} {w w' : World} (h : Below w.heap.size w w') : Fr S w w' := (Keep.of_below h).mono fun _ hk => hk.1
theorem Fr.mono {S S' : Nat → Prop} {w w' : World} (h : Fr S w w') (hS : ∀ k, S k → S' k) : Fr S' w w' := Keep.mono h fun k hk => ⟨hk.1, fun h' => hk.2 (hS k h')⟩
theorem Fr.below {S : Nat → Prop} {w w' : World} (h : Fr S w w') {B : Nat} (hB : B ≤ w.heap.size) (hS : ∀ k, S k → B ≤ k) : Below B w w' :=
  Keep.below (Keep.mono h fun k hk => ⟨Nat.lt_of_lt_of_le hk hB, fun h' => by have := hS k h'; omega⟩)

/-- A slice as it lies in a cell. -/
structure Sl where
  a : Option Addr
  n : Nat
  c : Nat
def Sl.v (x : Sl) : Value := .slice x.a x.n x.c
/-- A slice of writes, of blocks X. -/
def WS (w : World) (X : Nat → Prop) (A : Option Addr) (n : Nat) (l : List (Int × List UInt8)) : Prop :=
  l.length = n ∧ (0 < n → ∃ b o, A = some ⟨b, o, none⟩ ∧ X b ∧ ∀ k (h : k < l.length), ∃ x : Sl, w.cell? ⟨b, o + k * 2, none⟩ = some (.int .i64 l[k].1) ∧ w.cell? ⟨b, o + k * 2 + 1, none⟩ = some (.slice x.a x.n x.c) ∧ BS w x.a x.n l[k].2 ∧ x.n ≤ x.c ∧ (0 < x.n → ∀ ad, x.a = some ad → X ad.block))
section
variable {w w' : World} {X : Nat → Prop} {A : Option Addr} {n : Nat} {l : List (Int × List UInt8)}
theorem WS.nil : WS w X A 0 [] := ⟨rfl, fun h => absurd h (by omega)⟩
theorem WS.keepK (h : WS w X A n l) (hk : Keep X w w') : WS w' X A n l := by
  refine ⟨h.1, fun hn => ?_⟩
  obtain ⟨b, o, e, hX, hc⟩ := h.2 hn
  refine ⟨b, o, e, hX, fun k hk' => ?_⟩
  obtain ⟨x, h1, h2, h3, h4, h5⟩ := hc k hk'
  exact ⟨x, (World.cell?_of_block (a := ⟨b, o + k * 2, none⟩) (hk.block b hX)).trans h1, (World.cell?_of_block (a := ⟨b, o + k * 2 + 1, none⟩) (hk.block b hX)).trans h2, h3.keepK hk h5, h4, h5⟩
theorem WS.fr (h : WS w X A n l) {T : Nat → Prop} (hf : Fr T w w') (hd : ∀ k, X k → k < w.heap.size ∧ ¬ T k) : WS w' X A n l := h.keepK (Keep.mono hf hd)
theorem WS.mono (h : WS w X A n l) {Y : Nat → Prop} (hY : ∀ k, X k → Y k) : WS w Y A n l := by
  refine ⟨h.1, fun hn => ?_⟩
  obtain ⟨b, o, e, hX, hc⟩ := h.2 hn
  refine ⟨b, o, e, hY b hX, fun k hk' => ?_⟩
  obtain ⟨x, h1, h2, h3, h4, h5⟩ := hc k hk'
  exact ⟨x, h1, h2, h3, h4, fun hn ad e => hY _ (h5 hn ad e)⟩
theorem WS.at (h : WS w X A n l) (k : Nat) (hk : k < n) : ∃ b o x, ∃ hl : k < l.length, A = some ⟨b, o, none⟩ ∧ X b ∧ w.cell? ⟨b, o + k * 2, none⟩ = some (.int .i64 l[k].1) ∧ w.cell? ⟨b, o + k * 2 + 1, none⟩ = some (.slice (Sl.a x) x.n x.c) ∧ BS w x.a x.n l[k].2 ∧ x.n ≤ x.c ∧ (0 < x.n → ∀ ad, x.a = some ad → X ad.block) := by
  have hl : k < l.length := by rw [h.1]; exact hk
  obtain ⟨b, o, e, hX, hc⟩ := h.2 (by omega)
  obtain ⟨x, h1, h2, h3, h4, h5⟩ := hc k hl
  exact ⟨b, o, x, hl, e, hX, h1, h2, h3, h4, h5⟩
end

theorem Own.new {w w' : World} {A : Option Addr} {n c : Nat} {l : List UInt8} (h : Own w w' A n c l) : ∀ ad, A = some ad → w.heap.size ≤ ad.block := by
  intro ad e
  rcases h.1.2 with ⟨h1, _⟩ | ⟨g, cap, cur, h1, h2, _⟩
  · injection h1 with h1 _ _
    rw [h1] at e
    cases e
  · injection h1 with h1 _ _
    rw [h1] at e
    cases e
    exact h2
/-- A write as cells. -/
def wv (i : Int) (x : Sl) : List Value := [.int .i64 i, .slice x.a x.n x.c]
theorem size_wr : (Tryz.prog.info? 93).map (·.size) = some 2 := by kernel_rfl
theorem zero_wr : (Tryz.prog.info? 93).bind (·.zero) = some (.agg (wv 0 ⟨none, 0, 0⟩).toArray) := by kernel_rfl
theorem wv_one (i : Int) (x : Sl) : (wv i x).toArray.all (·.oneCell') = true := by simp [wv, Value.oneCell']
theorem WS.news {w : World} {b o : Nat} {i : Int} {x : Sl} (h1 : w.cell? ⟨b, o, none⟩ = some (.int .i64 i)) (h2 : w.cell? ⟨b, o + 1, none⟩ = some (.slice x.a x.n x.c)) : ∀ j u, (wv i x)[j]? = some u → w.cell? ((⟨b, o, none⟩ : Addr).add j) = some u := by
  intro j u hu
  rw [add_plain]
  match j with
  | 0 => simp [wv] at hu; subst hu; exact h1
  | 1 => simp [wv] at hu; subst hu; exact h2
  | n + 2 => simp [wv] at hu

/-- The cells of writes. -/
def wcs : List (Nat × List UInt8) → List Sl → List Value
  | x :: l, s :: r => wv x.1 s ++ wcs l r
  | _, _ => []
theorem wcs_len : ∀ (l : List (Nat × List UInt8)) (sl : List Sl), sl.length = l.length → (wcs l sl).length = l.length * 2
  | [], _, _ => by simp [wcs]
  | x :: l, [], h => by simp at h
  | x :: l, s :: r, h => by
    have := wcs_len l r (by simpa using h)
    simp only [wcs, List.length_append, this, List.length_cons]
    simp [wv]
    omega
theorem wcs_snoc : ∀ (l : List (Nat × List UInt8)) (sl : List Sl) (x : Nat × List UInt8) (s : Sl), sl.length = l.length → wcs (l ++ [x]) (sl ++ [s]) = wcs l sl ++ wv x.1 s
  | [], [], x, s, _ => by simp [wcs]
  | [], _ :: _, _, _, h => by simp at h
  | _ :: _, [], _, _, h => by simp at h
  | y :: l, t :: r, x, s, h => by
    simp only [List.cons_append, wcs, wcs_snoc l r x s (by simpa using h), List.append_assoc]
theorem wcs_get : ∀ (l : List (Nat × List UInt8)) (sl : List Sl) (h : sl.length = l.length) (k : Nat) (hk : k < l.length), (wcs l sl)[k * 2]? = some (.int .i64 (l[k].1 : Int)) ∧ (wcs l sl)[k * 2 + 1]? = some (.slice (sl[k]'(by omega)).a (sl[k]'(by omega)).n (sl[k]'(by omega)).c)
  | [], _, _, k, hk => by simp at hk
  | _ :: _, [], h, _, _ => by simp at h
  | x :: l, s :: r, h, k, hk => by
    match k with
    | 0 => simp [wcs, wv]
    | k + 1 =>
      have := wcs_get l r (by simpa using h) k (by simpa using hk)
      simp only [wcs]
      rw [show (k + 1) * 2 = k * 2 + 2 by omega, List.getElem?_append_right (by simp [wv]), List.getElem?_append_right (by simp [wv])]
      simpa [wv] using this
/-- Writes in a row of the call's own. -/
structure WR (W : World) (base : Nat) (A : Option Addr) (c : Nat) (l : List (Nat × List UInt8)) (sl : List Sl) : Prop where
  len : sl.length = l.length
  row : W.ownsRow base 93 2 (.slice A l.length c) l.length (wcs l sl)
  bs : ∀ i (h : i < sl.length), BS W sl[i].a sl[i].n (l[i]'(by rw [← len]; exact h)).2
  cap : ∀ i (h : i < sl.length), sl[i].n ≤ sl[i].c
  own : ∀ i (h : i < sl.length), 0 < sl[i].n → ∀ ad, sl[i].a = some ad → base ≤ ad.block
  off : ∀ i (h : i < sl.length), 0 < sl[i].n → ∀ ad, sl[i].a = some ad → (Value.slice A l.length c).ownBlock ≠ some ad.block
theorem WR.ws {W : World} {base : Nat} {A : Option Addr} {c : Nat} {l : List (Nat × List UInt8)} {sl : List Sl} (h : WR W base A c l sl) : WS W (fun k => base ≤ k) A l.length (l.map fun x => ((x.1 : Int), x.2)) := by
  refine ⟨by simp, fun hn => ?_⟩
  rcases h.row.2 with ⟨h1, h2⟩ | ⟨g, cap, cur, h1, h2, h3, h4, h5, h6, h7⟩
  · omega
  · injection h1 with h1 _ _
    refine ⟨g, 0, h1, h2, fun k hk => ?_⟩
    have hkl : k < l.length := by simpa using hk
    obtain ⟨w1, w2⟩ := wcs_get l sl h.len k hkl
    have cell : ∀ j v, j < l.length * 2 → (wcs l sl)[j]? = some v → W.cell? ⟨g, 0 + j, none⟩ = some v := fun j v hj hv => by
      rw [Nat.zero_add, cell_of_row _ _ _ _ _ _ h3]
      rw [← h7, List.getElem?_take, if_pos hj] at hv
      simpa using hv
    refine ⟨sl[k]'(by rw [h.len]; exact hkl), ?_, ?_, ?_, h.cap k (by rw [h.len]; exact hkl), h.own k (by rw [h.len]; exact hkl)⟩
    · rw [cell _ _ (by omega) w1]
      simp
    · rw [Nat.add_assoc, cell _ _ (by omega) w2]
    · simpa using h.bs k (by rw [h.len]; exact hkl)
theorem WR.nil (W : World) (base : Nat) : WR W base none 0 [] [] := ⟨rfl, World.ownsRow_nil _ _ _ _, fun i h => by simp at h, fun i h => by simp at h, fun i h => by simp at h, fun i h => by simp at h⟩
/-- A row's block is a row of writes; bytes are bytes: whatever else is written leaves them. -/
theorem WR.keep {W W' : World} {base : Nat} {A : Option Addr} {c : Nat} {l : List (Nat × List UInt8)} {sl : List Sl} (h : WR W base A c l sl) (T : Nat → Prop) (hf : Fr T W W') (hT : ∀ k, T k → ∀ cur, W.heap[k]? ≠ some (.cells cur 93 (0, 0))) (hB : ∀ k, T k → ∀ o z, W.cell? ⟨k, o, none⟩ ≠ some (.int .u8 z)) : WR W' base A c l sl := by
  refine ⟨h.len, ⟨h.row.1, ?_⟩, fun i hi => ?_, h.cap, h.own, h.off⟩
  · rcases h.row.2 with h1 | ⟨g, cap, cur, h1, h2, h3, h4⟩
    · exact .inl h1
    · exact .inr ⟨g, cap, cur, h1, h2, (hf.block g ⟨(Array.getElem?_eq_some_iff.1 h3).1, fun hg => hT g hg cur h3⟩).trans h3, h4⟩
  · obtain ⟨b1, b2⟩ := h.bs i hi
    refine ⟨b1, fun hn => ?_⟩
    obtain ⟨b, o, e, hc⟩ := b2 hn
    refine ⟨b, o, e, fun j hj => ?_⟩
    rw [← hc j hj]
    exact World.cell?_of_block (hf.block b ⟨World.block_lt_of_cell? W _ (hc j hj), fun hb => hB b hb _ _ (hc j hj)⟩)

theorem WR.append {w7 w8 : World} {base : Nat} {A A' : Option Addr} {c c' : Nat} {l : List (Nat × List UInt8)} {sl : List Sl} {x : Nat × List UInt8} {s : Sl} (h : WR w7 base A c l sl) (h8 : w8.ownsRow base 93 2 (.slice A' (l.length + 1) c') (l.length + 1) (wcs l sl ++ wv x.1 s)) (hg : w7.grownBy w8 (Value.slice A l.length c).ownBlock)
    (hat : (Value.slice A' (l.length + 1) c').ownBlock = (Value.slice A l.length c).ownBlock ∨ (Value.slice A' (l.length + 1) c').ownBlock = some w7.heap.size) (hb : BS w7 s.a s.n x.2) (hc : s.n ≤ s.c) (hs : 0 < s.n → ∀ ad, s.a = some ad → base ≤ ad.block ∧ (Value.slice A l.length c).ownBlock ≠ some ad.block) : WR w8 base A' c' (l ++ [x]) (sl ++ [s]) := by
  have keepB : ∀ (a : Option Addr) (n : Nat) (b : List UInt8), BS w7 a n b → (0 < n → ∀ ad, a = some ad → (Value.slice A l.length c).ownBlock ≠ some ad.block) → BS w8 a n b := fun a n b hB ho =>
    ⟨hB.1, fun hn => by
      obtain ⟨bb, o, e, hcell⟩ := hB.2 hn
      exact ⟨bb, o, e, fun j hj => (World.cell?_of_block (hg.block bb (World.block_lt_of_cell? w7 _ (hcell j hj)) (fun e' => ho hn _ e e'.symm))).trans (hcell j hj)⟩⟩
  have offB : ∀ (a : Option Addr) (n : Nat) (b : List UInt8), BS w7 a n b → (0 < n → ∀ ad, a = some ad → (Value.slice A l.length c).ownBlock ≠ some ad.block) → (0 < n → ∀ ad, a = some ad → (Value.slice A' (l.length + 1) c').ownBlock ≠ some ad.block) := fun a n b hB ho hn ad e => by
    rcases hat with h1 | h1
    · rw [h1]; exact ho hn ad e
    · rw [h1]
      have := hB.lt_block hn ad e
      simp
      omega
  have hlen : (sl ++ [s]).length = (l ++ [x]).length := by simp [h.len]
  refine ⟨hlen, ?_, fun i hi => ?_, fun i hi => ?_, fun i hi h0 ad e => ?_, fun i hi h0 ad e => ?_⟩
  · rw [List.length_append, wcs_snoc _ _ _ _ h.len]; exact h8
  · by_cases hi' : i < sl.length
    · simp only [List.getElem_append_left hi', List.getElem_append_left (show i < l.length by rw [← h.len]; exact hi')]
      exact keepB _ _ _ (h.bs i hi') (h.off i hi')
    · obtain rfl : i = sl.length := by simp at hi; omega
      have e1 : (sl ++ [s])[sl.length]'hi = s := by simp
      have e2 : ∀ hh, (l ++ [x])[sl.length]'hh = x := by intro hh; simp [h.len]
      rw [e1, e2]
      exact keepB _ _ _ hb fun hn ad e => (hs hn ad e).2
  · by_cases hi' : i < sl.length
    · simp only [List.getElem_append_left hi']; exact h.cap i hi'
    · obtain rfl : i = sl.length := by simp at hi; omega
      have e1 : (sl ++ [s])[sl.length]'hi = s := by simp
      rw [e1]; exact hc
  · by_cases hi' : i < sl.length
    · simp only [List.getElem_append_left hi'] at h0 e; exact h.own i hi' h0 ad e
    · obtain rfl : i = sl.length := by simp at hi; omega
      have e1 : (sl ++ [s])[sl.length]'hi = s := by simp
      rw [e1] at h0 e; exact (hs h0 ad e).1
  · rw [List.length_append]
    show (Value.slice A' (l.length + 1) c').ownBlock ≠ _
    by_cases hi' : i < sl.length
    · simp only [List.getElem_append_left hi'] at h0 e; exact offB _ _ _ (h.bs i hi') (h.off i hi') h0 ad e
    · obtain rfl : i = sl.length := by simp at hi; omega
      have e1 : (sl ++ [s])[sl.length]'hi = s := by simp
      rw [e1] at h0 e; exact offB _ _ _ hb (fun hn ad e => (hs hn ad e).2) h0 ad e
theorem fr_grown {W W' : World} {v : Value} (hg : W.grownBy W' v.ownBlock) : Fr (fun i => v.ownBlock = some i) W W' := ⟨hg.os, hg.tape, hg.output, hg.size, fun i hi => hg.block i hi.1 (fun e => hi.2 e.symm)⟩
theorem WR.below {W W' : World} {base : Nat} {A : Option Addr} {c : Nat} {sl : List Sl} {l : List (Nat × List UInt8)} (h : WR W base A c l sl) (hb : Below W.heap.size W W') : WR W' base A c l sl := h.keep (fun _ => False) (Fr.of_below hb) (fun _ h => h.elim) (fun _ h => h.elim)
theorem WR.place {W : World} {base : Nat} {A : Option Addr} {c : Nat} {sl : List Sl} {l : List (Nat × List UInt8)} (h : WR W base A c l sl) (b : Nat) (e : (Value.slice A l.length c).ownBlock = some b) : base ≤ b ∧ b < W.heap.size := by
  rcases h.row.2 with ⟨h0, _⟩ | ⟨g, cap, cur, h1, h2, h3, h4⟩
  · rw [h0] at e; cases e
  · rw [h1] at e
    obtain rfl : g = b := by simpa [Value.ownBlock] using e
    exact ⟨h2, (Array.getElem?_eq_some_iff.1 h3).1⟩
end Go.Proofs.YtnhokkdieijkhaaGreatDoor

namespace Go.Proofs.YtnhokkdieijkhaaGreatDoor

/-- A transaction: the blocks as they were, and what was put. -/
structure TX where
  l : List (List UInt8)
  p : Nat → Option (List UInt8)
namespace TX
def new (l : List (List UInt8)) : TX := ⟨l, fun _ => none⟩
def was (X : TX) (i : Nat) : List UInt8 := X.l.getD i []
def get (X : TX) (i : Nat) : List UInt8 := (X.p i).getD (X.was i)
def put (X : TX) (i : Nat) (b : List UInt8) : TX := { X with p := fun j => if j = i then some b else X.p j }
def take (X Y : TX) : TX := { X with p := Y.p }
/-- Does block i change? -/
def chg (X : TX) (i : Nat) : Bool := decide (X.get i ≠ X.was i)
/-- The changes of the first k blocks. -/
def chs (X : TX) : Nat → List (Nat × List UInt8)
  | 0 => []
  | k + 1 => X.chs k ++ if X.chg k then [(k, X.get k)] else []
theorem chs_yes {X : TX} {k : Nat} (h : X.chg k = true) : X.chs (k + 1) = X.chs k ++ [(k, X.get k)] := by simp [chs, h]
theorem chs_no {X : TX} {k : Nat} (h : X.chg k = false) : X.chs (k + 1) = X.chs k := by simp [chs, h]
theorem chs_len (X : TX) : ∀ k, (X.chs k).length ≤ k
  | 0 => Nat.le_refl _
  | k + 1 => by
    have := chs_len X k
    cases h : X.chg k
    · rw [chs_no h]; omega
    · rw [chs_yes h, List.length_append]; simp; omega
theorem chg_of {X : TX} {i : Nat} {b : List UInt8} (h : X.p i = some b) : X.chg i = decide (b ≠ X.was i) := by simp [chg, get, h]
theorem chg_none {X : TX} {i : Nat} (h : X.p i = none) : X.chg i = false := by simp [chg, get, h]
theorem get_of {X : TX} {i : Nat} {b : List UInt8} (h : X.p i = some b) : X.get i = b := by simp [get, h]
theorem get_none {X : TX} {i : Nat} (h : X.p i = none) : X.get i = X.was i := by simp [get, h]
theorem get_put (X : TX) (i j : Nat) (b : List UInt8) : (X.put i b).get j = if j = i then b else X.get j := by
  unfold get put
  by_cases h : j = i
  · simp [h]
  · simp [h, was]
theorem was_put (X : TX) (i j : Nat) (b : List UInt8) : (X.put i b).was j = X.was j := rfl
theorem get_new (l : List (List UInt8)) (j : Nat) : (new l).get j = (new l).was j := rfl
/-- Two of the same blocks that have the same puts are the same. -/
theorem chs_congr {X Y : TX} (h : ∀ i, X.chg i = Y.chg i) (hg : ∀ i, X.get i = Y.get i) : ∀ k, X.chs k = Y.chs k
  | 0 => rfl
  | k + 1 => by simp only [chs, chs_congr h hg k, h k, hg k]
/-- All that changes, as it is told, is at its place. -/
theorem chs_at (X : TX) : ∀ (k : Nat) (j : Nat), j < k → X.chg j = true → (X.chs k)[(X.chs j).length]? = some (j, X.get j)
  | 0, j, h, _ => absurd h (Nat.not_lt_zero _)
  | k + 1, j, h, hc => by
    by_cases e : j = k
    · subst e
      rw [chs_yes hc, List.getElem?_append_right (Nat.le_refl _)]
      simp
    · have ih := chs_at X k j (by omega) hc
      have hl := (List.getElem?_eq_some_iff.1 ih).1
      cases hk : X.chg k
      · rw [chs_no hk]; exact ih
      · rw [chs_yes hk, List.getElem?_append_left hl]; exact ih
end TX
end Go.Proofs.YtnhokkdieijkhaaGreatDoor

namespace Go.Proofs.YtnhokkdieijkhaaGreatDoor
open Go.RowKit

/-- As many bytes as a slice that is read may have, at most. -/
def big47 : Nat := 140737488355328
theorem le_big47 {n : Nat} (h : n ≤ 1000000) : n ≤ big47 := by unfold big47; omega
/-- A slice of bytes in a cell, its bytes of S. -/
structure BC (w : World) (S : Nat → Prop) (x : Sl) (l : List UInt8) : Prop where
  bs : BS w x.a x.n l
  few : x.n ≤ big47
  cap : x.n ≤ x.c
  own : 0 < x.n → ∀ ad, x.a = some ad → S ad.block
/-- Such a slice, or none. -/
def OC (w : World) (S : Nat → Prop) : Option Value → Option (List UInt8) → Prop
  | none, none => True
  | some v, some l => ∃ x : Sl, v = x.v ∧ BC w S x l
  | _, _ => False
/-- Block m is a map from numbers to slices of bytes. -/
def PM (w : World) (m : Nat) (S : Nat → Prop) (p : Nat → Option (List UInt8)) : Prop :=
  ∃ es clock, w.heap[m]? = some (.map es clock) ∧ (∀ e ∈ es.toList, ∃ i : Int, e.key = .int .i64 i) ∧ ∀ i : Nat, OC w S (look es.toList (i : Int)) (p i)
/-- A slice that reads as rows of bytes, in a block of slices. -/
def BR (w : World) (S : Nat → Prop) (x : Sl) (l : List (List UInt8)) : Prop :=
  l.length = x.n ∧ x.n ≤ x.c ∧ ∃ g, ∃ rl : List Sl, x.a = some ⟨g, 0, none⟩ ∧ S g ∧ rl.length = l.length ∧ w.heap[g]? = some (.cells (rl.map Sl.v).toArray 30 (0, 0)) ∧ ∀ i (h : i < rl.length), BC w S rl[i] (l.getD i [])
/-- At block p lies a transaction, its map at m, its rows in the slice x, all of S. -/
structure Tq (w : World) (p m : Nat) (x : Sl) (S : Nat → Prop) (X : TX) : Prop where
  cells : w.heap[p]? = some (.cells #[x.v, .map (some m)] 62 (0, 0))
  rows : BR w S x X.l
  puts : PM w m S X.p
  sp : S p
  sm : S m
/-- A block that is a map, or a transaction's two cells. -/
def Dull (w : World) (k : Nat) : Prop := (∃ es c, w.heap[k]? = some (.map es c)) ∨ ∃ (x : Sl) (m : Nat), w.heap[k]? = some (.cells #[x.v, .map (some m)] 62 (0, 0))
/-- Of the old blocks at most those of Q have changed, and those were dull. -/
def Ch (Q : Nat → Prop) (w w' : World) : Prop := Fr Q w w' ∧ ∀ k, Q k → Dull w k

theorem Dull.cell {w : World} {k : Nat} (h : Dull w k) (o : Nat) : w.cell? ⟨k, o, none⟩ = none ∨ (∃ x : Sl, w.cell? ⟨k, o, none⟩ = some x.v) ∨ ∃ m, w.cell? ⟨k, o, none⟩ = some (.map (some m)) := by
  rcases h with ⟨es, c, h⟩ | ⟨x, m, h⟩
  · left; simp [World.cell?, h]
  · rw [cell_of_row _ _ _ _ _ _ h]
    match o with
    | 0 => exact .inr (.inl ⟨x, rfl⟩)
    | 1 => exact .inr (.inr ⟨m, rfl⟩)
    | n + 2 => left; simp
theorem Dull.no_int {w : World} {k : Nat} (h : Dull w k) (o : Nat) (q : IntKind) (z : Int) : w.cell? ⟨k, o, none⟩ ≠ some (.int q z) := by
  rcases h.cell o with e | ⟨x, e⟩ | ⟨m, e⟩ <;> rw [e] <;> simp [Sl.v]
theorem Dull.no_bool {w : World} {k : Nat} (h : Dull w k) (o : Nat) (z : Bool) : w.cell? ⟨k, o, none⟩ ≠ some (.bool z) := by
  rcases h.cell o with e | ⟨x, e⟩ | ⟨m, e⟩ <;> rw [e] <;> simp [Sl.v]
theorem Dull.no_str {w : World} {k : Nat} (h : Dull w k) (o : Nat) (z : ByteArray) : w.cell? ⟨k, o, none⟩ ≠ some (.string z) := by
  rcases h.cell o with e | ⟨x, e⟩ | ⟨m, e⟩ <;> rw [e] <;> simp [Sl.v]
theorem Dull.no_row {w : World} {k : Nat} (h : Dull w k) (cs : Array Value) (t : TypeId) (ht : t ≠ 62) : w.heap[k]? ≠ some (.cells cs t (0, 0)) := by
  rcases h with ⟨es, c, h⟩ | ⟨x, m, h⟩ <;> rw [h] <;> simp
  exact fun _ e => ht e.symm

section
variable {w w' : World} {S T Q : Nat → Prop}
theorem Ch.of_below (h : Below w.heap.size w w') : Ch (fun _ => False) w w' := ⟨Fr.of_below h, fun _ h => h.elim⟩
theorem Ch.below (h : Ch Q w w') {B : Nat} (hB : B ≤ w.heap.size) (hQ : ∀ k, Q k → B ≤ k) : Below B w w' := h.1.below hB hQ
theorem Ch.size (h : Ch Q w w') : w.heap.size ≤ w'.heap.size := h.1.size
theorem BS.ch {A : Option Addr} {n : Nat} {l : List UInt8} (h : BS w A n l) (hc : Ch Q w w') : BS w' A n l :=
  ⟨h.1, fun hn => by
    obtain ⟨b, o, e, hcell⟩ := h.2 hn
    refine ⟨b, o, e, fun j hj => ?_⟩
    rw [← hcell j hj]
    exact World.cell?_of_block (hc.1.block b ⟨World.block_lt_of_cell? w _ (hcell j hj), fun hq => (hc.2 b hq).no_int _ _ _ (hcell j hj)⟩)⟩
theorem BC.ch {x : Sl} {l : List UInt8} (h : BC w S x l) (hc : Ch Q w w') : BC w' S x l := ⟨h.bs.ch hc, h.few, h.cap, h.own⟩
theorem BC.keep {x : Sl} {l : List UInt8} (h : BC w S x l) (hk : ∀ k, S k → k < w.heap.size → w'.heap[k]? = w.heap[k]?) : BC w' S x l :=
  ⟨⟨h.bs.1, fun hn => by
    obtain ⟨b, o, e, hcell⟩ := h.bs.2 hn
    refine ⟨b, o, e, fun j hj => ?_⟩
    rw [← hcell j hj]
    exact World.cell?_of_block (hk b (h.own hn _ e) (World.block_lt_of_cell? w _ (hcell j hj)))⟩, h.few, h.cap, h.own⟩
theorem BC.mono {x : Sl} {l : List UInt8} (h : BC w S x l) (hS : ∀ k, S k → T k) : BC w T x l := ⟨h.bs, h.few, h.cap, fun h0 ad e => hS _ (h.own h0 ad e)⟩
theorem OC.imp {v : Option Value} {l : Option (List UInt8)} (h : OC w S v l) (f : ∀ x b, BC w S x b → BC w' T x b) : OC w' T v l := by
  cases v with
  | none => cases l with
    | none => trivial
    | some b => exact h.elim
  | some v => cases l with
    | none => exact h.elim
    | some b => obtain ⟨x, e, hb⟩ := h; exact ⟨x, e, f x b hb⟩
theorem PM.imp {m : Nat} {p : Nat → Option (List UInt8)} (h : PM w m S p) (hm : w'.heap[m]? = w.heap[m]?) (f : ∀ x b, BC w S x b → BC w' T x b) : PM w' m T p := by
  obtain ⟨es, c, h1, h2, h3⟩ := h
  exact ⟨es, c, hm.trans h1, h2, fun i => (h3 i).imp f⟩
theorem PM.lt {m : Nat} {p : Nat → Option (List UInt8)} (h : PM w m S p) : m < w.heap.size := by
  obtain ⟨es, c, h1, _⟩ := h
  exact (Array.getElem?_eq_some_iff.1 h1).1
theorem PM.dull {m : Nat} {p : Nat → Option (List UInt8)} (h : PM w m S p) : Dull w m := by
  obtain ⟨es, c, h1, _⟩ := h
  exact .inl ⟨es, c, h1⟩
theorem BR.imp {x : Sl} {l : List (List UInt8)} (h : BR w S x l) (hS : ∀ k, S k → T k) (hg : ∀ g cs, S g → w.heap[g]? = some (.cells cs 30 (0, 0)) → w'.heap[g]? = w.heap[g]?) (f : ∀ x b, BC w S x b → BC w' T x b) : BR w' T x l := by
  obtain ⟨h1, h2, g, rl, h3, h4, h5, h6, h7⟩ := h
  exact ⟨h1, h2, g, rl, h3, hS g h4, h5, (hg g _ h4 h6).trans h6, fun i hi => f _ _ (h7 i hi)⟩
variable {p m : Nat} {x : Sl} {X : TX}
theorem Tq.plt (h : Tq w p m x S X) : p < w.heap.size := (Array.getElem?_eq_some_iff.1 h.cells).1
theorem Tq.mlt (h : Tq w p m x S X) : m < w.heap.size := h.puts.lt
theorem Tq.ne (h : Tq w p m x S X) : m ≠ p := by
  rintro rfl
  obtain ⟨es, c, h1, _⟩ := h.puts
  rw [h.cells] at h1
  simp at h1
theorem Tq.dull (h : Tq w p m x S X) : Dull w p := .inr ⟨x, m, h.cells⟩
theorem Tq.ch (h : Tq w p m x S X) (hc : Ch Q w w') (hp : ¬ Q p) (hm : ¬ Q m) : Tq w' p m x S X :=
  ⟨(hc.1.block p ⟨h.plt, hp⟩).trans h.cells, h.rows.imp (fun _ h => h) (fun g cs _ hg => hc.1.block g ⟨(Array.getElem?_eq_some_iff.1 hg).1, fun hq => (hc.2 g hq).no_row cs _ (by decide) hg⟩) (fun _ _ hb => hb.ch hc),
    h.puts.imp (hc.1.block m ⟨h.mlt, hm⟩) fun _ _ hb => hb.ch hc, h.sp, h.sm⟩
theorem Tq.keep (h : Tq w p m x S X) (hk : ∀ k, S k → k < w.heap.size → w'.heap[k]? = w.heap[k]?) : Tq w' p m x S X :=
  ⟨(hk p h.sp h.plt).trans h.cells, h.rows.imp (fun _ h => h) (fun g _ hs hg => hk g hs (Array.getElem?_eq_some_iff.1 hg).1) (fun _ _ hb => hb.keep hk), h.puts.imp (hk m h.sm h.mlt) fun _ _ hb => hb.keep hk, h.sp, h.sm⟩
theorem Tq.below (h : Tq w p m x S X) (hb : Below w.heap.size w w') : Tq w' p m x S X := h.keep fun k _ hk => hb.block k hk
theorem Tq.drew (h : Tq w p m x S X) : Tq w.drew p m x S X := h.below (Below.refl _ _).drew
theorem Tq.drewN (h : Tq w p m x S X) (n : Nat) : Tq (w.drewN n) p m x S X := h.keep fun _ _ _ => rfl
theorem Tq.mono (h : Tq w p m x S X) (hS : ∀ k, S k → T k) : Tq w p m x T X :=
  ⟨h.cells, h.rows.imp hS (fun _ _ _ _ => rfl) (fun _ _ hb => hb.mono hS), h.puts.imp rfl fun _ _ hb => hb.mono hS, hS _ h.sp, hS _ h.sm⟩
theorem Tq.c0 (h : Tq w p m x S X) : w.cell? ⟨p, 0, none⟩ = some (.slice x.a x.n x.c) := by rw [cell_of_row _ _ _ _ _ _ h.cells]; rfl
theorem Tq.c1 (h : Tq w p m x S X) : w.cell? ⟨p, 1, none⟩ = some (.map (some m)) := by rw [cell_of_row _ _ _ _ _ _ h.cells]; rfl
theorem Tq.froz (h : Tq w p m x S X) (k : Nat) : w.frozen? ⟨p, k, none⟩ = false := by simp [World.frozen?, h.cells]
theorem Tq.len (h : Tq w p m x S X) : X.l.length = x.n := h.rows.1
/-- Row i. -/
theorem BR.at {l : List (List UInt8)} (h : BR w S x l) {i : Nat} (hi : i < x.n) : ∃ g y, x.a = some ⟨g, 0, none⟩ ∧ w.cell? ⟨g, i, none⟩ = some (.slice (Sl.a y) y.n y.c) ∧ BC w S y (l.getD i []) := by
  obtain ⟨h1, h2, g, rl, h3, h4, h5, h6, h7⟩ := h
  have hr : i < rl.length := by omega
  exact ⟨g, rl[i], h3, by rw [cell_of_row _ _ _ _ _ _ h6]; simp [hr, Sl.v], h7 i hr⟩
end
end Go.Proofs.YtnhokkdieijkhaaGreatDoor

namespace Go.Proofs.YtnhokkdieijkhaaGreatDoor
open Go.RowKit

/-- A row of the call's own may be written. -/
theorem Own.soft {w w' : World} {A : Option Addr} {n c : Nat} {l : List UInt8} (h : Own w w' A n c l) : ∀ ad, A = some ad → ∀ j, w'.frozen? ⟨ad.block, j, none⟩ = false := by
  intro ad e j
  rcases h.1.2 with ⟨h1, _⟩ | ⟨g, cap, cur, h1, _, h3, _⟩
  · injection h1 with h1 _ _
    rw [h1] at e
    cases e
  · injection h1 with h1 _ _
    rw [h1] at e
    cases e
    simp [World.frozen?, h3]
theorem clone_big (A : Option Addr) (n c : Nat) (l : List UInt8) (w : World) (h : BS w A n l) (hn : n ≤ big47) :
    Calls Tryz.prog 24 #[.slice A n c] w fun e w' => ∃ A' c', e = .returned (.slice A' n c') ∧ BS w' A' n l ∧ n ≤ c' ∧ (∀ ad, A' = some ad → w.heap.size ≤ ad.block) ∧ Below w.heap.size w w' ∧ (∀ ad, A' = some ad → ∀ j, w'.frozen? ⟨ad.block, j, none⟩ = false) := by
  rcases A with _ | ad
  · have h0 : n = 0 := by
      rcases Nat.eq_zero_or_pos n with h0 | h0
      · exact h0
      · obtain ⟨b, o, h, _⟩ := h.2 h0
        cases h
    subst h0
    obtain rfl : l = [] := List.eq_nil_of_length_eq_zero h.1
    refine (Tryz.bytes_Clone_nil 0 c w).mono ?_
    rintro e w' ⟨rfl, rfl⟩
    exact ⟨none, 0, rfl, BS.nil, Nat.le_refl _, fun ad e => by (cases e), Below.refl _ _, fun ad e => by (cases e)⟩
  · have hl := h.1
    refine (Tryz.bytes_Clone_at ad n c (l.map fun b => (b.toNat : Int)) w (by simpa using hl) (by exact hn) (fun i hi => ?_)).mono ?_
    · rw [h.news rfl i (.int .u8 ((l[i]'(by omega)).toNat : Int)) (bc_get l i (by omega))]
      simp [hl, hi]
    · rintro e w' ⟨v, rfl, ho, _, hb⟩
      have e1 : ((l.map fun b => (b.toNat : Int)).map (Value.int .u8)) = bc l := by simp [bc]
      rw [e1] at ho
      have hv : ∃ A' c', v = .slice A' n c' := by
        rcases ho.2 with ⟨h6, h7⟩ | ⟨g, cap, cur, h6, _⟩
        · exact ⟨none, 0, by rw [h6, h7]⟩
        · exact ⟨_, _, h6⟩
      obtain ⟨A', c', rfl⟩ := hv
      have hO : Own w w' A' n c' l := ⟨ho, hb⟩
      exact ⟨A', c', rfl, hO.bs, hO.cap, hO.new, hb, hO.soft⟩

set_option maxRecDepth 100000 in
set_option maxHeartbeats 1000000 in
theorem equal_any (A B : Option Addr) (n m c d : Nat) (k l : List UInt8) (w : World) (h : BS w A n k) (g : BS w B m l) :
    Calls Tryz.prog 48 #[.slice A n c, .slice B m d] w fun e w' => e = .returned (.bool (decide (k = l))) ∧ w' = w := by
  have v1 := run_convert_bs w A n c k h
  have v2 := run_convert_bs w B m d l g
  have e : ((txt k).toList == (txt l).toList) = decide (k = l) := by
    by_cases hk : k = l
    · subst hk; simp
    · have : ¬ (txt k).toList = (txt l).toList := by rw [txt_toList, txt_toList]; exact hk
      simp [hk, this]
  clear h g
  go_enter Tryz.func48, Tryz.ntmps48
  go_wp2
  go_ret
  exact ⟨by rw [← e]; rfl, rfl⟩

set_option maxRecDepth 100000 in
set_option maxHeartbeats 1000000 in
theorem mclone_any (b : Nat) (es : Array MapEntry) (clock : Nat) (w : World) (hb : w.heap[b]? = some (.map es clock)) :
    Calls Tryz.prog 65 #[.map (some b)] w fun e w' => e = .returned (.map (some w.heap.size)) ∧ w' = w.alloc (.map es clock) := by
  have hq := fun w => run_eql_map_nil_sl (P := Tryz.prog) w 60 _ _ (some b) Tryz.underlying60
  go_enter Tryz.func65, Tryz.ntmps65
  go_wp2
  rw [run_callFunc_extern (f := 86) (P := Tryz.prog) (fn := Tryz.f86) (by kernel_rfl) (by kernel_rfl) (by kernel_rfl) (by kernel_rfl) (e := Extern.MapsClone.clone) (by kernel_rfl), run_maps_clone_sl w 60 hb]
  simp only [Result.andThen]
  rw [Oper.upon_value]
  go_wp2
  rw [run_typeAssert_map_sl _ 60 20 _ _ _ Tryz.underlying60]
  simp only [Result.andThen]
  rw [Oper.upon_value]
  go_wp2
  go_ret
  exact ⟨rfl, rfl⟩
end Go.Proofs.YtnhokkdieijkhaaGreatDoor

namespace Go.Proofs.YtnhokkdieijkhaaGreatDoor
open Go.RowKit

section
variable {w : World} {m : Nat} {S : Nat → Prop} {p : Nat → Option (List UInt8)}
theorem PM.none_at (h : PM w m S p) (i : Nat) (hi : p i = none) : (Instr.lookup 60 (.map (some m)) (.int .i64 (i : Int)) true).run Tryz.prog w = .ok (.tuple #[.slice none 0 0, .bool false]) w := by
  obtain ⟨es, c, hb, hk, hp⟩ := h
  have ho := hp i
  have hik : MapKept.IsKey (.int .i64) (.int .i64 (i : Int)) := by simp [MapKept.IsKey]
  have hz := Tryz.zeroValue30 w
  rcases findNow_spec (i : Int) es.toList 0 hk with ⟨h1, h2⟩ | ⟨n, v, h1, h2, _⟩
  · simp [Instr.lookup, run_underlying Tryz.underlying60, MapKept.run_getObj_map hb, MapKept.run_checkKey Tryz.underlying3 hik, MapKept.run_findKey Tryz.underlying3 h2, hz, Result.andThen]
  · rw [h1, hi] at ho
    exact ho.elim
theorem PM.some_at (h : PM w m S p) (i : Nat) {b : List UInt8} (hi : p i = some b) : ∃ x : Sl, (Instr.lookup 60 (.map (some m)) (.int .i64 (i : Int)) true).run Tryz.prog w = .ok (.tuple #[.slice x.a x.n x.c, .bool true]) w ∧ BC w S x b := by
  obtain ⟨es, c, hb, hk, hp⟩ := h
  have ho := hp i
  have hik : MapKept.IsKey (.int .i64) (.int .i64 (i : Int)) := by simp [MapKept.IsKey]
  rcases findNow_spec (i : Int) es.toList 0 hk with ⟨h1, h2⟩ | ⟨n, v, h1, h2, _⟩
  · rw [h1, hi] at ho
    exact ho.elim
  · rw [h1, hi] at ho
    obtain ⟨x, rfl, hx⟩ := ho
    exact ⟨x, by simp [Instr.lookup, run_underlying Tryz.underlying60, MapKept.run_getObj_map hb, MapKept.run_checkKey Tryz.underlying3 hik, MapKept.run_findKey Tryz.underlying3 h2, Result.andThen, Sl.v], hx⟩
theorem PM.update (h : PM w m S p) (i : Nat) (x : Sl) (b : List UInt8) (hx : BC w S x b) :
    ∃ w', (Instr.mapUpdate 60 (.map (some m)) (.int .i64 (i : Int)) (.slice x.a x.n x.c)).run Tryz.prog w = .ok () w' ∧ PM w' m S (fun j => if j = i then some b else p j) ∧ Ch (· = m) w w' ∧ w'.heap.size = w.heap.size := by
  have hd := h.dull
  obtain ⟨es, c, hb, hkeys, hF⟩ := h
  have hik : MapKept.IsKey (.int .i64) (.int .i64 (i : Int)) := by simp [MapKept.IsKey]
  have gb : ∀ o : Obj, Ch (· = m) w { w with heap := w.heap.setIfInBounds m o } := fun o => ⟨⟨rfl, rfl, rfl, by simp, fun j hj => by
    simp only [Array.getElem?_setIfInBounds]
    rw [if_neg (fun e => hj.2 e.symm)]⟩, fun k hk => by rw [hk]; exact hd⟩
  rcases findNow_spec (i : Int) es.toList 0 hkeys with ⟨h1, h2⟩ | ⟨n, v, h1, h2, h3, h4, h5⟩
  · refine ⟨{ w with heap := w.heap.setIfInBounds m (.map (es.push { key := .int .i64 (i : Int), val := x.v, born := c }) (c + 1)) }, ?_, ⟨_, _, (MapKept.heap_set hb).1, ?_, ?_⟩, gb _, by simp⟩
    · simp [Instr.mapUpdate, run_underlying Tryz.underlying60, MapKept.run_getObj_map hb, MapKept.run_checkKey Tryz.underlying3 hik, MapKept.run_findKey Tryz.underlying3 h2, MapKept.run_setObj_map _ hb, Result.andThen, Sl.v]
    · intro e he
      simp only [Array.toList_push, List.mem_append, List.mem_singleton] at he
      rcases he with he | rfl
      · exact hkeys e he
      · exact ⟨i, rfl⟩
    · intro j
      have happ : ∀ (A : List MapEntry) (x : MapEntry), look (A ++ [x]) (j : Int) = (look A (j : Int)).or (if keyI x.key = some (j : Int) then some x.val else none) := by
        intro A x
        induction A with
        | nil => simp [look]
        | cons y A ih => simp only [List.cons_append, look, ih]; split <;> simp
      rw [Array.toList_push, happ]
      by_cases e1 : j = i
      · subst e1
        simp only [h1, keyI, if_true, Option.none_or]
        exact ⟨x, rfl, hx.ch (gb _)⟩
      · have e2 : ¬ (i : Int) = (j : Int) := fun e => e1 (by omega)
        simp only [keyI, Option.some.injEq, if_neg e2, if_neg e1, Option.or_none]
        exact (hF j).imp fun _ _ hb => hb.ch (gb _)
  · have hes : ((es[n]?).map (·.key)).getD (.int .i64 (i : Int)) = .int .i64 (i : Int) := by
      have : es[n]? = es.toList[n]? := by simp
      rw [this, h4]
      rfl
    refine ⟨{ w with heap := w.heap.setIfInBounds m (.map (es.modify n fun e => { e with key := .int .i64 (i : Int), val := x.v }) c) }, ?_, ⟨_, _, (MapKept.heap_set hb).1, ?_, ?_⟩, gb _, by simp⟩
    · simp [Instr.mapUpdate, run_underlying Tryz.underlying60, MapKept.run_getObj_map hb, MapKept.run_checkKey Tryz.underlying3 hik, MapKept.run_findKey Tryz.underlying3 h2, MapKept.run_setObj_map _ hb, Result.andThen, hes, MapKept.run_keyThatStays hik, Sl.v]
    · intro e he
      rw [Array.toList_modify] at he
      obtain ⟨j, hj⟩ := List.mem_iff_getElem?.1 he
      rw [List.getElem?_modify] at hj
      obtain ⟨x, hx, rfl⟩ := Option.map_eq_some_iff.1 hj
      by_cases hnj : n = j
      · rw [if_pos hnj]
        exact ⟨i, rfl⟩
      · rw [if_neg hnj]
        exact hkeys x (List.mem_of_getElem? hx)
    · intro j
      rw [Array.toList_modify, h5]
      by_cases e1 : j = i
      · subst e1
        simp only [if_true]
        exact ⟨x, rfl, hx.ch (gb _)⟩
      · have e2 : ¬ (j : Int) = (i : Int) := fun e => e1 (by omega)
        simp only [if_neg e2, if_neg e1]
        exact (hF j).imp fun _ _ hb => hb.ch (gb _)
end

section
variable {w : World} {p m : Nat} {x : Sl} {S : Nat → Prop} {X : TX}
set_option maxHeartbeats 400000 in
theorem tlen_nil (w : World) : Calls Tryz.prog 58 #[.pointer none] w fun e w' => e = .returned (.int .i64 0) ∧ w' = w := by
  go_enter Tryz.func58, Tryz.ntmps58
  go_wp2
  go_ret
  exact ⟨rfl, rfl⟩
set_option maxHeartbeats 400000 in
theorem tlen_any (h : Tq w p m x S X) : Calls Tryz.prog 58 #[.pointer (some ⟨p, 0, none⟩)] w fun e w' => e = .returned (.int .i64 (x.n : Int)) ∧ w' = w := by
  have h0 := h.c0
  clear h
  go_enter Tryz.func58, Tryz.ntmps58
  go_wp2
  go_ret
  exact ⟨rfl, rfl⟩
/-- Is there a block i? -/
def hasB (n : Nat) (i : Int) : Bool := decide (0 ≤ i) && decide (i < (n : Int))
set_option maxHeartbeats 400000 in
theorem has_any (h : Tq w p m x S X) (i : Int) : Calls Tryz.prog 59 #[.pointer (some ⟨p, 0, none⟩), .int .i64 i] w fun e w' => e = .returned (.bool (hasB x.n i)) ∧ w' = w := by
  have HC := Lib.hid (tlen_any h)
  clear h
  by_cases h0 : 0 ≤ i
  · by_cases h1 : i < (x.n : Int)
    · have HE : Hid (hasB x.n i = true) := by show _ = _; simp [hasB, h0, h1]
      have hd : decide (i < (x.n : Int)) = true := by simpa using h1
      go_enter Tryz.func59, Tryz.ntmps59
      go_wp2_with fail
      refine HC.out.mono ?_
      rintro e w' ⟨rfl, rfl⟩
      go_wp2
      go_ret
      rw [HE.out]
      exact ⟨rfl, rfl⟩
    · have HE : Hid (hasB x.n i = false) := by show _ = _; simp [hasB, h1]
      have hd : decide (i < (x.n : Int)) = false := by simpa using h1
      go_enter Tryz.func59, Tryz.ntmps59
      go_wp2_with fail
      refine HC.out.mono ?_
      rintro e w' ⟨rfl, rfl⟩
      go_wp2
      go_ret
      rw [HE.out]
      exact ⟨rfl, rfl⟩
  · have HE : Hid (hasB x.n i = false) := by show _ = _; simp [hasB, h0]
    go_enter Tryz.func59, Tryz.ntmps59
    go_wp2
    go_ret
    rw [HE.out]
    exact ⟨rfl, rfl⟩
set_option maxHeartbeats 400000 in
theorem has_nil (i : Int) (w : World) : Calls Tryz.prog 59 #[.pointer none, .int .i64 i] w fun e w' => e = .returned (.bool false) ∧ w' = w := by
  have HC := Lib.hid (tlen_nil w)
  by_cases h0 : 0 ≤ i
  · have hd : decide (i < 0) = false := by simp; omega
    go_enter Tryz.func59, Tryz.ntmps59
    go_wp2_with fail
    refine HC.out.mono ?_
    rintro e w' ⟨rfl, rfl⟩
    go_wp2
    go_ret
    exact ⟨rfl, rfl⟩
  · go_enter Tryz.func59, Tryz.ntmps59
    go_wp2
    go_ret
    exact ⟨rfl, rfl⟩
/-- What Get hands back: bytes of its own. -/
def GotB (w : World) (l : List UInt8) (e : Ending) (w' : World) : Prop := ∃ A n c, e = .returned (.slice A n c) ∧ BS w' A n l ∧ n ≤ c ∧ n ≤ big47 ∧ (∀ ad, A = some ad → w.heap.size ≤ ad.block) ∧ Below w.heap.size w w' ∧ ∀ ad, A = some ad → ∀ j, w'.frozen? ⟨ad.block, j, none⟩ = false
set_option maxHeartbeats 1000000 in
theorem get_no (h : Tq w p m x S X) (i : Int) (hi : hasB x.n i = false) : Calls Tryz.prog 22 #[.pointer (some ⟨p, 0, none⟩), .int .i64 i] w (GotB w []) := by
  have HC := Lib.hid (has_any h i)
  rw [hi] at HC
  clear h hi
  go_enter Tryz.func22, Tryz.ntmps22
  go_wp2_with fail
  refine HC.out.mono ?_
  rintro e w' ⟨rfl, rfl⟩
  go_wp2
  go_ret
  exact ⟨none, 0, 0, rfl, BS.nil, Nat.le_refl _, Nat.zero_le _, (fun _ e => by cases e), Below.refl _ _, (fun _ e => by cases e)⟩
set_option maxHeartbeats 1000000 in
theorem get_nil (i : Int) (w : World) : Calls Tryz.prog 22 #[.pointer none, .int .i64 i] w fun e w' => e = .returned (.slice none 0 0) ∧ w' = w := by
  have HC := Lib.hid (has_nil i w)
  go_enter Tryz.func22, Tryz.ntmps22
  go_wp2_with fail
  refine HC.out.mono ?_
  rintro e w' ⟨rfl, rfl⟩
  go_wp2
  go_ret
  exact ⟨rfl, rfl⟩
theorem hasB_nat {n i : Nat} (h : i < n) : hasB n (i : Int) = true := by simp [hasB, h]
set_option maxHeartbeats 1000000 in
theorem get_ok (h : Tq w p m x S X) (i : Nat) (hi : i < x.n) : Calls Tryz.prog 22 #[.pointer (some ⟨p, 0, none⟩), .int .i64 (i : Int)] w (GotB w (X.get i)) := by
  have HC := Lib.hid (has_any h (i : Int))
  rw [hasB_nat hi] at HC
  have c0 := h.c0
  have c1 := h.c1
  cases hp : X.p i with
  | none =>
    have hl := h.puts.none_at i hp
    obtain ⟨g, y, hxa, hg, hb⟩ := h.rows.at hi
    have HB := Lib.hid hb
    have HE : Hid (X.get i = X.l.getD i []) := TX.get_none hp
    clear h hp hb
    rw [hxa] at c0
    clear hxa
    go_enter Tryz.func22, Tryz.ntmps22
    go_wp2_with fail
    refine HC.out.mono ?_
    rintro e w' ⟨rfl, rfl⟩
    go_wp2_with fail
    refine (clone_big y.a y.n y.c _ w' HB.out.bs HB.out.few).mono ?_
    rintro e w2 ⟨A, c, rfl, h1, h2, h3, h4, h5⟩
    have HH : Hid (GotB w' (X.get i) (.returned (.slice A y.n c)) w2) := by
      show GotB _ _ _ _
      rw [HE.out]
      exact ⟨A, _, c, rfl, h1, h2, HB.out.few, h3, h4, h5⟩
    clear h1 h2 h3 h4 h5
    go_wp2_with fail
    go_ret
    exact HH.out
  | some b =>
    obtain ⟨y, hl, hb⟩ := h.puts.some_at i hp
    have HB := Lib.hid hb
    have HE : Hid (X.get i = b) := TX.get_of hp
    clear h hp hb
    go_enter Tryz.func22, Tryz.ntmps22
    go_wp2_with fail
    refine HC.out.mono ?_
    rintro e w' ⟨rfl, rfl⟩
    go_wp2_with fail
    refine (clone_big y.a y.n y.c _ w' HB.out.bs HB.out.few).mono ?_
    rintro e w2 ⟨A, c, rfl, h1, h2, h3, h4, h5⟩
    have HH : Hid (GotB w' (X.get i) (.returned (.slice A y.n c)) w2) := by
      show GotB _ _ _ _
      rw [HE.out]
      exact ⟨A, _, c, rfl, h1, h2, HB.out.few, h3, h4, h5⟩
    clear h1 h2 h3 h4 h5
    go_wp2_with fail
    go_ret
    exact HH.out
end
end Go.Proofs.YtnhokkdieijkhaaGreatDoor

namespace Go.Proofs.YtnhokkdieijkhaaGreatDoor
open Go.RowKit

/-- What Put answers, and what it leaves. -/
def TX.mayPut (n : Nat) (i : Int) (b : List UInt8) : Bool := hasB n i && decide (b.length ≤ 96)
def TX.perr (n : Nat) (i : Int) (b : List UInt8) : Int := if hasB n i then if b.length ≤ 96 then 0 else 13 else 15
def TX.putI (X : TX) (n : Nat) (i : Int) (b : List UInt8) : TX := if TX.mayPut n i b then X.put i.toNat b else X
theorem TX.perr_ok {n : Nat} {i : Int} {b : List UInt8} (h : hasB n i = true) (hb : b.length ≤ 96) : TX.perr n i b = 0 := by simp [TX.perr, h, hb]
theorem TX.putI_ok {X : TX} {n i : Nat} {b : List UInt8} (h : i < n) (hb : b.length ≤ 96) : X.putI n (i : Int) b = X.put i b := by simp [TX.putI, TX.mayPut, hasB_nat h, hb]
theorem TX.putI_l (X : TX) (n : Nat) (i : Int) (b : List UInt8) : (X.putI n i b).l = X.l := by unfold TX.putI; split <;> rfl

section
variable {w : World} {p m : Nat} {x : Sl} {S : Nat → Prop} {X : TX}
set_option maxHeartbeats 400000 in
theorem put_nil (i : Int) (A : Option Addr) (n c : Nat) (w : World) : Calls Tryz.prog 23 #[.pointer none, .int .i64 i, .slice A n c] w fun e w' => e = .returned (.int .i64 1) ∧ w' = w := by
  go_enter Tryz.func23, Tryz.ntmps23
  go_wp2
  go_ret
  exact ⟨rfl, rfl⟩
theorem Ch.refl (Q : Nat → Prop) (w : World) (hQ : ∀ k, Q k → Dull w k) : Ch Q w w := ⟨Fr.refl _ _, hQ⟩
/-- Behind Put. -/
def TPutQ (w : World) (p m : Nat) (x : Sl) (S : Nat → Prop) (X : TX) (r : Int) (e : Ending) (w' : World) : Prop := e = .returned (.int .i64 r) ∧ Tq w' p m x S X ∧ Ch (· = m) w w'
set_option maxRecDepth 100000 in
set_option maxHeartbeats 1000000 in
theorem tput_any (h : Tq w p m x S X) (hS : ∀ k, w.heap.size ≤ k → S k) (i : Int) (A : Option Addr) (n c : Nat) (b : List UInt8) (hb : BS w A n b) :
    Calls Tryz.prog 23 #[.pointer (some ⟨p, 0, none⟩), .int .i64 i, .slice A n c] w (TPutQ w p m x S (X.putI x.n i b) (TX.perr x.n i b)) := by
  have HC := Lib.hid (has_any h i)
  have HN : Hid (b.length = n) := hb.1
  cases hh : hasB x.n i with
  | false =>
    have HE : Hid (TX.perr x.n i b = 15 ∧ X.putI x.n i b = X) := by refine ⟨?_, ?_⟩ <;> simp [TX.perr, TX.putI, TX.mayPut, hh]
    have HQ : Hid (Ch (· = m) w w) := Ch.refl _ _ fun k hk => by rw [hk]; exact h.puts.dull
    rw [hh] at HC
    have HT := Lib.hid h
    clear h hb hh hS
    go_enter Tryz.func23, Tryz.ntmps23
    go_wp2_with fail
    refine HC.out.mono ?_
    rintro e w' ⟨rfl, rfl⟩
    go_wp2
    go_ret
    show TPutQ _ _ _ _ _ _ _ _ _
    rw [HE.out.1, HE.out.2]
    exact ⟨rfl, HT.out, HQ.out⟩
  | true =>
    by_cases hn : n ≤ 96
    · have HE : Hid (TX.perr x.n i b = 0 ∧ X.putI x.n i b = X.put i.toNat b) := by
        have hl : b.length ≤ 96 := by rw [HN.out]; exact hn
        refine ⟨?_, ?_⟩ <;> simp [TX.perr, TX.putI, TX.mayPut, hh, hl]
      obtain ⟨k, rfl⟩ : ∃ k : Nat, i = (k : Int) := by
        simp only [hasB, Bool.and_eq_true, decide_eq_true_eq] at hh
        exact Int.eq_ofNat_of_zero_le hh.1
      rw [hh] at HC
      have hd : decide (96 < (n : Int)) = false := by simp; omega
      have HT := Lib.hid h
      have HB := Lib.hid hb
      have HS1 := Lib.hid hS
      clear h hb hh hS
      go_enter Tryz.func23, Tryz.ntmps23
      go_wp2_with fail
      refine HC.out.mono ?_
      rintro e w' ⟨rfl, rfl⟩
      go_wp2_with fail
      have HTd : Hid (Tq w'.drew p m x S X) := HT.out.drew
      have HS : Hid ((fun W : World => W.cell? ⟨p, 1, none⟩ = some (.map (some m))) w'.drew) := HTd.out.c1
      refine wp_region_held_drew (S := fun W => W.cell? ⟨p, 1, none⟩ = some (.map (some m))) (by kernel_rfl) HS.out (fun _ => ?_)
      change wpAnyH _ _ _ _ _ 8 (Array.replicate 8 false) _ _
      refine takeH (i := 0) 16 (.pointer (some ⟨p, 0, none⟩)) rfl rfl (by kernel_rfl) (by kernel_rfl) (by kernel_rfl) (fun _ _ _ h => h) (.inl ⟨by rfl, fun W hW => by go_simp⟩) HS.out ?_
      simp only [Act.put, List.setIfInBounds_toArray, List.set_cons_zero, List.set_cons_succ]
      refine takeH (i := 1) 17 (.pointer (some ⟨p, 0, none⟩)) rfl rfl (by kernel_rfl) (by kernel_rfl) (by kernel_rfl) (fun _ _ _ h => h) (.inl ⟨by rfl, fun W hW => by go_simp⟩) HS.out ?_
      simp only [Act.put, List.setIfInBounds_toArray, List.set_cons_zero, List.set_cons_succ]
      refine takeH (i := 2) 18 (.pointer (some ⟨p, 1, none⟩)) rfl rfl (by kernel_rfl) (by kernel_rfl) (by kernel_rfl) (fun _ _ _ h => h) (.inl ⟨by rfl, fun W hW => by go_simp⟩) HS.out ?_
      simp only [Act.put, List.setIfInBounds_toArray, List.set_cons_zero, List.set_cons_succ]
      refine takeH (i := 3) 19 (.map (some m)) rfl rfl (by kernel_rfl) (by kernel_rfl) (by kernel_rfl) (fun _ _ _ h => h) (.inl ⟨by rfl, fun W hW => by (have hz : W.cell? ⟨p, 1, none⟩ = some (.map (some m)) := hW; go_simp)⟩) HS.out ?_
      simp only [Act.put, List.setIfInBounds_toArray, List.set_cons_zero, List.set_cons_succ]
      refine takeH (i := 4) 20 (.int .i64 (k : Int)) rfl rfl (by kernel_rfl) (by kernel_rfl) (by kernel_rfl) (fun _ _ _ h => h) (.inl ⟨by rfl, fun W hW => by go_simp⟩) HS.out ?_
      simp only [Act.put, List.setIfInBounds_toArray, List.set_cons_zero, List.set_cons_succ]
      refine takeH (i := 5) 21 (.slice A n c) rfl rfl (by kernel_rfl) (by kernel_rfl) (by kernel_rfl) (fun _ _ _ h => h) (.inl ⟨by rfl, fun W hW => by go_simp⟩) HS.out ?_
      simp only [Act.put, List.setIfInBounds_toArray, List.set_cons_zero, List.set_cons_succ]
      refine wpAnyH_ready (rs := [6]) (by kernel_rfl) (by simp) ?_
      refine AllReadyH.cons rfl (fun K hK => ?_) AllReadyH.nil
      go_simp
      refine (clone_big A n c b w'.drew HB.out.drew (le_big47 (by omega))).mono ?_
      rintro e w2 ⟨A2, c2, rfl, h1, h2, h3, h4, -⟩
      have HT2 := Lib.hid (HTd.out.below h4)
      have HX : Hid (BC w2 S ⟨A2, n, c2⟩ b) := ⟨h1, le_big47 (by show n ≤ _; omega), h2, fun _ ad e => HS1.out _ (h3 ad e)⟩
      have HW2 : Hid (Below w'.heap.size w' w2) := (Below.refl _ _).drew.trans h4
      refine hK.out _ _ HT2.out.c1 fun _ => ?_
      clear hK K h1 h2 h3 h4
      refine wpAnyH_ready (rs := [7]) (by kernel_rfl) (by simp) ?_
      refine AllReadyH.cons rfl (fun K hK => ?_) AllReadyH.nil
      obtain ⟨w3, hr, g1, g2, g3⟩ := HT2.out.puts.update k ⟨A2, n, c2⟩ b HX.out
      have HT3 : Hid (Tq w3 p m x S (X.put k b)) := ⟨(g2.1.block p ⟨HT2.out.plt, fun e => HT2.out.ne e.symm⟩).trans HT2.out.cells, HT2.out.rows.imp (fun _ h => h) (fun g cs _ hg => g2.1.block g ⟨(Array.getElem?_eq_some_iff.1 hg).1, fun hq => (g2.2 g hq).no_row cs _ (by decide) hg⟩) (fun _ _ hb => hb.ch g2), g1, HT2.out.sp, HT2.out.sm⟩
      have HC3 : Hid (Ch (· = m) w' w3) := ⟨(Fr.of_below HW2.out).trans g2.1 (fun k hk => .inl hk), fun k hk => by rw [hk]; exact HT.out.puts.dull⟩
      clear g1 g2 g3
      go_simp
      refine hK.out _ _ HT3.out.c1 fun _ => ?_
      clear hK K hr
      refine wpAnyH_done (by kernel_rfl) ?_ _
      go_wp2
      go_ret
      show TPutQ _ _ _ _ _ _ _ _ _
      rw [HE.out.1, HE.out.2]
      exact ⟨rfl, HT3.out, HC3.out⟩
    · have HE : Hid (TX.perr x.n i b = 13 ∧ X.putI x.n i b = X) := by
        have hl : ¬ b.length ≤ 96 := by rw [HN.out]; exact hn
        refine ⟨?_, ?_⟩ <;> simp [TX.perr, TX.putI, TX.mayPut, hh, hl]
      have HQ : Hid (Ch (· = m) w w) := Ch.refl _ _ fun k hk => by rw [hk]; exact h.puts.dull
      rw [hh] at HC
      have hd : decide (96 < (n : Int)) = true := by simp; omega
      have HT := Lib.hid h
      clear h hb hh hS
      go_enter Tryz.func23, Tryz.ntmps23
      go_wp2_with fail
      refine HC.out.mono ?_
      rintro e w' ⟨rfl, rfl⟩
      go_wp2
      go_ret
      show TPutQ _ _ _ _ _ _ _ _ _
      rw [HE.out.1, HE.out.2]
      exact ⟨rfl, HT.out, HQ.out⟩
end
end Go.Proofs.YtnhokkdieijkhaaGreatDoor

namespace Go.Proofs.YtnhokkdieijkhaaGreatDoor
open Go.RowKit

theorem PM.new (w : World) (S : Nat → Prop) : PM (w.alloc (.map #[] 0)) w.heap.size S (fun _ => none) := ⟨#[], 0, heap_alloc_new w _, by simp, fun i => trivial⟩
/-- A copy of a map. -/
theorem PM.copy {w : World} {m : Nat} {S : Nat → Prop} {p : Nat → Option (List UInt8)} (h : PM w m S p) : ∃ es clock, w.heap[m]? = some (.map es clock) ∧ PM (w.alloc (.map es clock)) w.heap.size S p := by
  obtain ⟨es, c, h1, h2, h3⟩ := h
  refine ⟨es, c, h1, es, c, heap_alloc_new w _, h2, fun i => (h3 i).imp fun x b hb => hb.keep fun k _ hk => ?_⟩
  exact Below.heap_alloc w _ k hk

section
variable {w : World} {p m q mq : Nat} {x y : Sl} {S : Nat → Prop} {X Y : TX}
/-- Behind Fork. -/
def ForkQ (w : World) (x : Sl) (S : Nat → Prop) (X : TX) (e : Ending) (w' : World) : Prop := ∃ p' m', e = .returned (.pointer (some ⟨p', 0, none⟩)) ∧ Tq w' p' m' x S X ∧ Below w.heap.size w w' ∧ w.heap.size ≤ p' ∧ w.heap.size ≤ m'
set_option maxHeartbeats 400000 in
theorem fork_nil (w : World) : Calls Tryz.prog 36 #[.pointer none] w fun e w' => e = .returned (.pointer none) ∧ w' = w := by
  go_enter Tryz.func36, Tryz.ntmps36
  go_wp2
  go_ret
  exact ⟨rfl, rfl⟩
set_option maxRecDepth 100000 in
set_option maxHeartbeats 1000000 in
theorem fork_any (h : Tq w p m x S X) (hS : ∀ k, w.heap.size ≤ k → S k) : Calls Tryz.prog 36 #[.pointer (some ⟨p, 0, none⟩)] w (ForkQ w x S X) := by
  have HT : Hid (Tq w.drew p m x S X) := h.drew
  obtain ⟨es, clock, hm, hP⟩ := HT.out.puts.copy
  have HM := Lib.hid hm
  have HB1 : Hid (Below w.heap.size w (w.drew.alloc (.map es clock))) := (Below.refl _ _).drew.alloc (Nat.le_refl _) _
  have HT1 : Hid (Tq (w.drew.alloc (.map es clock)) p m x S X) := HT.out.below ((Below.refl _ _).alloc (Nat.le_refl _) _)
  have HP := Lib.hid hP
  have HS1 := Lib.hid hS
  have HR := Lib.hid (HT1.out.rows)
  have HZ : Hid ((w.drew.alloc (.map es clock)).heap.size = w.heap.size + 1) := by show _ = _; rw [World.size_alloc]; rfl
  clear h hm hP hS
  go_enter Tryz.func36, Tryz.ntmps36
  go_wp2_with fail
  have HS : Hid ((fun W : World => W.cell? ⟨p, 0, none⟩ = some (.slice x.a x.n x.c) ∧ W.cell? ⟨p, 1, none⟩ = some (.map (some m))) w.drew) := ⟨HT.out.c0, HT.out.c1⟩
  refine wp_region_held_drew (S := fun W => W.cell? ⟨p, 0, none⟩ = some (.slice x.a x.n x.c) ∧ W.cell? ⟨p, 1, none⟩ = some (.map (some m))) (by kernel_rfl) HS.out (fun _ => ?_)
  change wpAnyH _ _ _ _ _ 12 (Array.replicate 12 false) _ _
  refine takeH (i := 0) 5 (.pointer (some ⟨p, 0, none⟩)) rfl rfl (by kernel_rfl) (by kernel_rfl) (by kernel_rfl) (fun _ _ _ h => h) (.inl ⟨by rfl, fun W hW => by go_simp⟩) HS.out ?_
  simp only [Act.put, List.setIfInBounds_toArray, List.set_cons_zero, List.set_cons_succ]
  refine takeH (i := 1) 6 (.pointer (some ⟨p, 0, none⟩)) rfl rfl (by kernel_rfl) (by kernel_rfl) (by kernel_rfl) (fun _ _ _ h => h) (.inl ⟨by rfl, fun W hW => by go_simp⟩) HS.out ?_
  simp only [Act.put, List.setIfInBounds_toArray, List.set_cons_zero, List.set_cons_succ]
  refine takeH (i := 2) 7 (.pointer (some ⟨p, 0, none⟩)) rfl rfl (by kernel_rfl) (by kernel_rfl) (by kernel_rfl) (fun _ _ _ h => h) (.inl ⟨by rfl, fun W hW => by go_simp⟩) HS.out ?_
  simp only [Act.put, List.setIfInBounds_toArray, List.set_cons_zero, List.set_cons_succ]
  refine takeH (i := 3) 8 (.slice x.a x.n x.c) rfl rfl (by kernel_rfl) (by kernel_rfl) (by kernel_rfl) (fun _ _ _ h => h) (.inl ⟨by rfl, fun W hW => by (have hz0 := hW.1; have hz1 := hW.2; go_simp)⟩) HS.out ?_
  simp only [Act.put, List.setIfInBounds_toArray, List.set_cons_zero, List.set_cons_succ]
  refine takeH (i := 4) 9 (.pointer (some ⟨p, 0, none⟩)) rfl rfl (by kernel_rfl) (by kernel_rfl) (by kernel_rfl) (fun _ _ _ h => h) (.inl ⟨by rfl, fun W hW => by go_simp⟩) HS.out ?_
  simp only [Act.put, List.setIfInBounds_toArray, List.set_cons_zero, List.set_cons_succ]
  refine takeH (i := 5) 10 (.pointer (some ⟨p, 0, none⟩)) rfl rfl (by kernel_rfl) (by kernel_rfl) (by kernel_rfl) (fun _ _ _ h => h) (.inl ⟨by rfl, fun W hW => by go_simp⟩) HS.out ?_
  simp only [Act.put, List.setIfInBounds_toArray, List.set_cons_zero, List.set_cons_succ]
  refine takeH (i := 6) 11 (.pointer (some ⟨p, 1, none⟩)) rfl rfl (by kernel_rfl) (by kernel_rfl) (by kernel_rfl) (fun _ _ _ h => h) (.inl ⟨by rfl, fun W hW => by go_simp⟩) HS.out ?_
  simp only [Act.put, List.setIfInBounds_toArray, List.set_cons_zero, List.set_cons_succ]
  refine takeH (i := 7) 12 (.map (some m)) rfl rfl (by kernel_rfl) (by kernel_rfl) (by kernel_rfl) (fun _ _ _ h => h) (.inl ⟨by rfl, fun W hW => by (have hz0 := hW.1; have hz1 := hW.2; go_simp)⟩) HS.out ?_
  simp only [Act.put, List.setIfInBounds_toArray, List.set_cons_zero, List.set_cons_succ]
  refine wpAnyH_ready (rs := [8]) (by kernel_rfl) (by simp) ?_
  refine AllReadyH.cons rfl (fun K hK => ?_) AllReadyH.nil
  go_simp
  refine (mclone_any m es clock w.drew HM.out).mono ?_
  rintro e w2 ⟨rfl, hw2⟩
  have HW2 := Lib.hid hw2
  clear hw2
  rw [show w.drew.heap.size = w.heap.size from rfl] at *
  have HS2 : Hid (w2.cell? ⟨p, 0, none⟩ = some (.slice x.a x.n x.c) ∧ w2.cell? ⟨p, 1, none⟩ = some (.map (some m))) := by
    show _ ∧ _
    rw [HW2.out]
    exact ⟨HT1.out.c0, HT1.out.c1⟩
  have HZ2 : Hid (w2.heap.size = w.heap.size + 1) := by show _ = _; rw [HW2.out]; exact HZ.out
  refine hK.out _ _ HS2.out fun _ => ?_
  clear hK K
  refine wpAnyH_ready (rs := [9]) (by kernel_rfl) (by simp) ?_
  refine AllReadyH.cons rfl (fun K hK => ?_) AllReadyH.nil
  go_simp
  refine hK.out _ _ HS2.out fun _ => ?_
  clear hK K
  refine wpAnyH_ready (rs := [10]) (by kernel_rfl) (by simp) ?_
  refine AllReadyH.cons rfl (fun K hK => ?_) AllReadyH.nil
  have HS3 : Hid ((w2.alloc (.cells #[.slice x.a x.n x.c, .map (some w.heap.size)] 62)).cell? ⟨p, 0, none⟩ = some (.slice x.a x.n x.c) ∧ (w2.alloc (.cells #[.slice x.a x.n x.c, .map (some w.heap.size)] 62)).cell? ⟨p, 1, none⟩ = some (.map (some m))) :=
    ⟨(World.cell?_alloc_lt _ _ ⟨p, 0, none⟩ (World.block_lt_of_cell? w2 _ HS2.out.1)).trans HS2.out.1, (World.cell?_alloc_lt _ _ ⟨p, 1, none⟩ (World.block_lt_of_cell? w2 _ HS2.out.2)).trans HS2.out.2⟩
  go_simp
  refine hK.out _ _ HS3.out fun _ => ?_
  clear hK K
  refine wpAnyH_ready (rs := [11]) (by kernel_rfl) (by simp) ?_
  refine AllReadyH.cons rfl (fun K hK => ?_) AllReadyH.nil
  go_simp
  refine hK.out _ _ HS3.out fun _ => ?_
  clear hK K
  refine wpAnyH_done (by kernel_rfl) ?_ _
  go_wp2
  go_ret
  refine ⟨w2.heap.size, w.heap.size, rfl, ?_, ?_, by rw [HZ2.out]; omega, Nat.le_refl _⟩
  · have hb : Below w2.heap.size w2 (w2.alloc (.cells #[.slice x.a x.n x.c, .map (some w.heap.size)] 62)) := (Below.refl _ _).alloc (Nat.le_refl _) _
    have hr : BR w2 S x X.l := by rw [HW2.out]; exact HR.out
    have hp : PM w2 w.heap.size S X.p := by rw [HW2.out]; exact HP.out
    refine ⟨heap_alloc_new w2 _, hr.imp (fun _ h => h) (fun g cs _ hg => hb.block g (Array.getElem?_eq_some_iff.1 hg).1) (fun _ _ hc => hc.keep fun k _ hk => hb.block k hk), hp.imp (hb.block _ (by rw [HZ2.out]; omega)) (fun _ _ hc => hc.keep fun k _ hk => hb.block k hk), HS1.out _ (by rw [HZ2.out]; omega), HS1.out _ (Nat.le_refl _)⟩
  · have hb : Below w.heap.size w w2 := by rw [HW2.out]; exact HB1.out
    exact hb.alloc (by rw [HZ2.out]; omega) _
end
end Go.Proofs.YtnhokkdieijkhaaGreatDoor

namespace Go.Proofs.YtnhokkdieijkhaaGreatDoor
open Go.RowKit

section
variable {w : World} {p m q mq : Nat} {x y : Sl} {S : Nat → Prop} {X Y : TX}
set_option maxHeartbeats 400000 in
theorem take_nil (v : Value) (w : World) (hv : v = .pointer none ∨ ∃ a, v = .pointer (some a)) : Calls Tryz.prog 38 #[.pointer none, v] w fun e w' => e = .returned (.tuple #[]) ∧ w' = w := by
  rcases hv with rfl | ⟨a, rfl⟩ <;>
  · go_enter Tryz.func38, Tryz.ntmps38
    go_wp2
    exact bodyPost_ret (by simp [results, Tryz.results38, go_sem]) rfl ⟨rfl, rfl⟩
set_option maxHeartbeats 400000 in
theorem take_none (a : Addr) (w : World) : Calls Tryz.prog 38 #[.pointer (some a), .pointer none] w fun e w' => e = .returned (.tuple #[]) ∧ w' = w := by
  go_enter Tryz.func38, Tryz.ntmps38
  go_wp2
  exact bodyPost_ret (by simp [results, Tryz.results38, go_sem]) rfl ⟨rfl, rfl⟩
set_option maxRecDepth 100000 in
set_option maxHeartbeats 1000000 in
theorem take_no (h : Tq w p m x S X) (hq : Tq w q mq y S Y) (hn : x.n ≠ y.n) : Calls Tryz.prog 38 #[.pointer (some ⟨p, 0, none⟩), .pointer (some ⟨q, 0, none⟩)] w fun e w' => e = .returned (.tuple #[]) ∧ w' = w := by
  have HC := Lib.hid (tlen_any h)
  have HD := Lib.hid (tlen_any hq)
  have hd : ((x.n : Int) != (y.n : Int)) = true := by simp; omega
  clear h hq hn
  go_enter Tryz.func38, Tryz.ntmps38
  go_wp2_with fail
  refine HC.out.mono ?_
  rintro e w' ⟨rfl, rfl⟩
  go_wp2_with fail
  refine HD.out.mono ?_
  rintro e w'' ⟨rfl, rfl⟩
  go_wp2
  exact bodyPost_ret (by simp [results, Tryz.results38, go_sem]) rfl ⟨rfl, rfl⟩
/-- Behind Take. -/
def TakeQ (w : World) (p : Nat) (x : Sl) (S : Nat → Prop) (X : TX) (e : Ending) (w' : World) : Prop := e = .returned (.tuple #[]) ∧ ∃ m', Tq w' p m' x S X ∧ Ch (· = p) w w' ∧ w.heap.size ≤ m'
set_option maxRecDepth 100000 in
set_option maxHeartbeats 1000000 in
theorem ttake_any (h : Tq w p m x S X) (hq : Tq w q mq y S Y) (hn : x.n = y.n) (hS : ∀ k, w.heap.size ≤ k → S k) : Calls Tryz.prog 38 #[.pointer (some ⟨p, 0, none⟩), .pointer (some ⟨q, 0, none⟩)] w (TakeQ w p x S (X.take Y)) := by
  have HC := Lib.hid (tlen_any h)
  have HD := Lib.hid (tlen_any hq)
  obtain ⟨es, clock, hm, hP⟩ := hq.puts.copy
  have HM := Lib.hid hm
  have HP := Lib.hid hP
  have c1 := hq.c1
  have HT := Lib.hid h
  have HS1 := Lib.hid hS
  have hd : ((x.n : Int) != (y.n : Int)) = false := by simp; omega
  clear h hq hn hm hP hS
  go_enter Tryz.func38, Tryz.ntmps38
  go_wp2_with fail
  refine HC.out.mono ?_
  rintro e w' ⟨rfl, rfl⟩
  go_wp2_with fail
  refine HD.out.mono ?_
  rintro e w'' ⟨rfl, rfl⟩
  go_wp2_with fail
  refine (mclone_any mq es clock w'' HM.out).mono ?_
  rintro e w2 ⟨rfl, hw2⟩
  have HW2 := Lib.hid hw2
  clear hw2
  have HB2 : Hid (Below w''.heap.size w'' w2) := by show Below _ _ _; rw [HW2.out]; exact (Below.refl _ _).alloc (Nat.le_refl _) _
  have HT2 := Lib.hid (HT.out.below HB2.out)
  have HP2 : Hid (PM w2 w''.heap.size S Y.p) := by show PM _ _ _ _; rw [HW2.out]; exact HP.out
  have k1 := HT2.out.c1
  have f1 := HT2.out.froz 1
  go_wp2
  refine bodyPost_ret (v := .tuple #[]) (by simp [results, Tryz.results38, go_sem]) rfl ?_
  have hfr : Fr (· = p) w2 (w2.setCell ⟨p, 1, none⟩ (.map (some w''.heap.size))) := (Fr.refl (· = p) w2).setCell (p := ⟨p, 1, none⟩) (fun h' => h'.2 rfl) _
  have hch : Ch (· = p) w2 (w2.setCell ⟨p, 1, none⟩ (.map (some w''.heap.size))) := ⟨hfr, fun k hk => by rw [hk]; exact HT2.out.dull⟩
  have hlt := HT.out.plt
  refine ⟨rfl, w''.heap.size, ⟨?_, HT2.out.rows.imp (fun _ h => h) (fun g cs _ hg => hfr.block g ⟨(Array.getElem?_eq_some_iff.1 hg).1, fun hq => (hch.2 g hq).no_row cs _ (by decide) hg⟩) (fun _ _ hb => hb.ch hch), HP2.out.imp (hfr.block _ ⟨HP2.out.lt, by omega⟩) (fun _ _ hb => hb.ch hch), HT2.out.sp, HS1.out _ (Nat.le_refl _)⟩, ⟨(Fr.of_below HB2.out).trans hfr (fun k hk => .inl hk), fun k hk => by rw [hk]; exact HT.out.dull⟩, Nat.le_refl _⟩
  rw [setCell_eq_setRow w2 p 1 _ _ _ _ HT2.out.cells]
  exact setRow_heap w2 p _ _ _ _ HT2.out.cells
end
end Go.Proofs.YtnhokkdieijkhaaGreatDoor

namespace Go.Proofs.YtnhokkdieijkhaaGreatDoor
open Go.RowKit

/-- Rows of bytes that a call is handed. -/
def RI (w : World) (A : Option Addr) (n : Nat) (ls : List (List UInt8)) : Prop :=
  ls.length = n ∧ (0 < n → ∃ b o, A = some ⟨b, o, none⟩ ∧ ∀ k (_ : k < n), ∃ x : Sl, w.cell? ⟨b, o + k, none⟩ = some (.slice x.a x.n x.c) ∧ BS w x.a x.n (ls.getD k []) ∧ x.n ≤ big47)
theorem RI.at {w : World} {A : Option Addr} {n : Nat} {ls : List (List UInt8)} (h : RI w A n ls) {k : Nat} (hk : k < n) : ∃ b o, ∃ x : Sl, A = some ⟨b, o, none⟩ ∧ w.cell? ⟨b, o + k, none⟩ = some (.slice x.a x.n x.c) ∧ BS w x.a x.n (ls.getD k []) ∧ x.n ≤ big47 := by
  obtain ⟨b, o, e, hc⟩ := h.2 (by omega)
  obtain ⟨x, h1, h2, h3⟩ := hc k hk
  exact ⟨b, o, x, e, h1, h2, h3⟩
theorem RI.below {w w' : World} {A : Option Addr} {n : Nat} {ls : List (List UInt8)} (h : RI w A n ls) (hb : Below w.heap.size w w') : RI w' A n ls :=
  ⟨h.1, fun hn => by
    obtain ⟨b, o, e, hc⟩ := h.2 hn
    refine ⟨b, o, e, fun k hk => ?_⟩
    obtain ⟨x, h1, h2, h3⟩ := hc k hk
    exact ⟨x, (hb.cell (p := ⟨b, o + k, none⟩) (World.block_lt_of_cell? w _ h1)).trans h1, h2.below hb, h3⟩⟩
theorem RI.alloc {w : World} {A : Option Addr} {n : Nat} {ls : List (List UInt8)} (h : RI w A n ls) (o : Obj) : RI (w.alloc o) A n ls := h.below ((Below.refl _ _).alloc (Nat.le_refl _) _)

theorem madeCells_rows (n : Nat) : madeCells (Value.slice none 0 0).cells n = Array.replicate n (.slice none 0 0) := by
  apply Array.ext'
  simp [madeCells, Value.cells, Nat.mod_one]
  apply List.ext_getElem <;> simp
theorem info_rows : (Tryz.prog.info? 30).map (fun i => (i.zero, i.size, i.bytes)) = some (some (.slice none 0 0), 1, 24) := by kernel_rfl

/-- While New is under way: its struct at p, the rows' block g, of which the first k are laid, the map at m. -/
structure NewI (w wr : World) (n : Nat) (ls : List (List UInt8)) (k g m p : Nat) : Prop where
  bel : Below w.heap.size w wr
  cells : wr.heap[p]? = some (.cells #[.slice (some ⟨g, 0, none⟩) n n, .map (some m)] 62 (0, 0))
  map : wr.heap[m]? = some (.map #[] 0)
  rows : ∃ rl : List Sl, wr.heap[g]? = some (.cells (rl.map Sl.v).toArray 30 (0, 0)) ∧ rl.length = n ∧ ∀ i (_ : i < k) (h : i < rl.length), BC wr (fun z => w.heap.size ≤ z) rl[i] (ls.getD i [])
  gs : w.heap.size ≤ g
  ms : w.heap.size ≤ m
  ps : w.heap.size ≤ p
section
variable {w wr w' : World} {n k g m p : Nat} {ls : List (List UInt8)}
theorem NewI.plt (h : NewI w wr n ls k g m p) : p < wr.heap.size := (Array.getElem?_eq_some_iff.1 h.cells).1
theorem NewI.mlt (h : NewI w wr n ls k g m p) : m < wr.heap.size := (Array.getElem?_eq_some_iff.1 h.map).1
theorem NewI.glt (h : NewI w wr n ls k g m p) : g < wr.heap.size := by
  obtain ⟨rl, h1, _⟩ := h.rows
  exact (Array.getElem?_eq_some_iff.1 h1).1
theorem NewI.gp (h : NewI w wr n ls k g m p) : g ≠ p := by
  rintro rfl
  obtain ⟨rl, h1, _⟩ := h.rows
  rw [h.cells] at h1
  simp only [Option.some.injEq, Obj.cells.injEq] at h1
  exact absurd h1.2.1 (by decide)
theorem NewI.gm (h : NewI w wr n ls k g m p) : g ≠ m := by
  rintro rfl
  obtain ⟨rl, h1, _⟩ := h.rows
  rw [h.map] at h1
  simp at h1
theorem NewI.below (h : NewI w wr n ls k g m p) (hb : Below wr.heap.size wr w') : NewI w w' n ls k g m p := by
  obtain ⟨rl, h1, h2, h3⟩ := h.rows
  exact ⟨h.bel.trans (hb.mono h.bel.size), (hb.block _ h.plt).trans h.cells, (hb.block _ h.mlt).trans h.map, ⟨rl, (hb.block _ h.glt).trans h1, h2, fun i hi hl => (h3 i hi hl).keep fun _ _ hk => hb.block _ hk⟩, h.gs, h.ms, h.ps⟩
theorem NewI.drew (h : NewI w wr n ls k g m p) : NewI w wr.drew n ls k g m p := h.below (Below.refl _ _).drew
theorem NewI.c0 (h : NewI w wr n ls k g m p) : wr.cell? ⟨p, 0, none⟩ = some (.slice (some ⟨g, 0, none⟩) n n) := by rw [cell_of_row _ _ _ _ _ _ h.cells]; rfl
theorem NewI.row (h : NewI w wr n ls k g m p) {i : Nat} (hi : i < n) : ∃ v, wr.cell? ⟨g, i, none⟩ = some v := by
  obtain ⟨rl, h1, h2, _⟩ := h.rows
  have hr : i < rl.length := by omega
  exact ⟨rl[i].v, by rw [cell_of_row _ _ _ _ _ _ h1]; simp [hr]⟩
theorem NewI.froz (h : NewI w wr n ls k g m p) (i : Nat) : wr.frozen? ⟨g, i, none⟩ = false := by
  obtain ⟨rl, h1, _⟩ := h.rows
  simp [World.frozen?, h1]
theorem NewI.set (h : NewI w wr n ls k g m p) (y : Sl) (hy : BC wr (fun z => w.heap.size ≤ z) y (ls.getD k [])) : NewI w (wr.setCell ⟨g, k, none⟩ (.slice y.a y.n y.c)) n ls (k + 1) g m p := by
  have hbk : ∀ b, b ≠ g → (wr.setCell ⟨g, k, none⟩ (.slice y.a y.n y.c)).heap[b]? = wr.heap[b]? := fun b hb => Below.heap_setCell wr ⟨g, k, none⟩ _ b hb
  have hgp := h.gp
  have hgm := h.gm
  obtain ⟨rl, h1, h2, h3⟩ := h.rows
  have keepB : ∀ x l, BC wr (fun z => w.heap.size ≤ z) x l → BC (wr.setCell ⟨g, k, none⟩ (.slice y.a y.n y.c)) (fun z => w.heap.size ≤ z) x l := fun x l hb =>
    ⟨hb.bs.off (q := g) (fun o z e => by
      rw [cell_of_row _ _ _ _ _ _ h1] at e
      simp only [List.getElem?_toArray, List.getElem?_map, Option.map_eq_some_iff] at e
      obtain ⟨_, _, hx⟩ := e
      cases hx) (fun b _ hb => hbk b hb), hb.few, hb.cap, hb.own⟩
  refine ⟨h.bel.setCell h.gs _, (hbk p (Ne.symm hgp)).trans h.cells, (hbk m (Ne.symm hgm)).trans h.map, ⟨rl.set k y, ?_, by simpa using h2, fun i hi hl => ?_⟩, h.gs, h.ms, h.ps⟩
  · rw [setCell_eq_setRow wr g k _ _ _ _ h1]
    have := setRow_heap wr g _ ((rl.map Sl.v).toArray.setIfInBounds k y.v) _ _ h1
    refine this.trans ?_
    simp [List.map_set]
  · by_cases e : k = i
    · subst e
      simp only [List.getElem_set_self]
      exact keepB _ _ hy
    · simp only [List.getElem_set_ne e]
      exact keepB _ _ (h3 i (by omega) (by simpa using hl))
theorem NewI.done (h : NewI w wr n ls n g m p) (hl : ls.length = n) : Tq wr p m ⟨some ⟨g, 0, none⟩, n, n⟩ (fun z => w.heap.size ≤ z) (TX.new ls) := by
  obtain ⟨rl, h1, h2, h3⟩ := h.rows
  exact ⟨h.cells, ⟨hl, Nat.le_refl _, g, rl, rfl, h.gs, by show rl.length = ls.length; omega, h1, fun i hi => h3 i (by omega) hi⟩, ⟨#[], 0, h.map, by simp, fun i => trivial⟩, h.ps, h.ms⟩
/-- At the start. -/
theorem NewI.start (w : World) (n : Nat) (ls : List (List UInt8)) : NewI w (((w.alloc (.cells (Array.replicate n (.slice none 0 0)) 30)).alloc (.map #[] 0)).alloc (.cells #[.slice (some ⟨w.heap.size, 0, none⟩) n n, .map (some (w.heap.size + 1))] 62)) n ls 0 w.heap.size (w.heap.size + 1) (w.heap.size + 2) := by
  refine ⟨(((Below.refl _ _).alloc (Nat.le_refl _) _).alloc (by simp) _).alloc (by simp; omega) _, ?_, ?_, ⟨List.replicate n ⟨none, 0, 0⟩, ?_, by simp, fun i hi => by omega⟩, Nat.le_refl _, by omega, by omega⟩
  · have := heap_alloc_new ((w.alloc (.cells (Array.replicate n (.slice none 0 0)) 30)).alloc (.map #[] 0)) (.cells #[.slice (some ⟨w.heap.size, 0, none⟩) n n, .map (some (w.heap.size + 1))] 62)
    rwa [World.size_alloc, World.size_alloc] at this
  · rw [Below.heap_alloc _ _ _ (by simp)]
    have := heap_alloc_new (w.alloc (.cells (Array.replicate n (.slice none 0 0)) 30)) (.map #[] 0)
    rwa [World.size_alloc] at this
  · rw [Below.heap_alloc _ _ _ (by simp; omega), Below.heap_alloc _ _ _ (by simp), heap_alloc_new]
    simp [Sl.v]
end
/-- Behind New. -/
def NewQ (w : World) (n : Nat) (ls : List (List UInt8)) (e : Ending) (w' : World) : Prop := ∃ g m p, e = .returned (.pointer (some ⟨p, 0, none⟩)) ∧ Tq w' p m ⟨some ⟨g, 0, none⟩, n, n⟩ (fun z => w.heap.size ≤ z) (TX.new ls) ∧ Below w.heap.size w w' ∧ w.heap.size ≤ p ∧ w.heap.size ≤ m
set_option maxRecDepth 100000 in
set_option maxHeartbeats 1000000 in
theorem new_any (A : Option Addr) (n c : Nat) (ls : List (List UInt8)) (w : World) (h : RI w A n ls) (hn : n ≤ 1000000) : Calls Tryz.prog 10 #[.slice A n c] w (NewQ w n ls) := by
  obtain ⟨ii, hii, hiz, his, hib⟩ := info_parts info_rows
  have hmk : ∀ W : World, (Instr.makeSlice 26 (.int .i64 (n : Int)) (.int .i64 (n : Int))).run Tryz.prog W = .ok (.slice (some ⟨W.heap.size, 0, none⟩) n n) (W.alloc (.cells (Array.replicate n (.slice none 0 0)) 30)) := fun W => by
    have hr := run_makeSlice (P := Tryz.prog) W 26 30 ii (.slice none 0 0) Tryz.underlying26 hii hiz .i64 .i64 (n : Int) (n : Int) (by omega) (by omega) (by rw [his]; simp; omega) (by rw [hib]; omega) (by omega)
    simp only [Int.toNat_natCast, his, Nat.mul_one] at hr
    rw [hr, madeCells_rows]
  have hmm := @run_makeMap Tryz.prog
  have HR := Lib.hid h
  have HI0 := Lib.hid (NewI.start w n ls)
  have HN : Hid (n ≤ 1000000) := hn
  have HL : Hid (ls.length = n) := h.1
  clear h hii hiz his hib
  go_enter Tryz.func10, Tryz.ntmps10
  go_wp2_with fail
  go_loopw [14] (fun i wr => ∃ k : Nat, k ≤ n ∧ i = .int .i64 k ∧ Hid (NewI w wr n ls k w.heap.size (w.heap.size + 1) (w.heap.size + 2))) (fun i _ => n - (intOf i).toNat)
  case atStart => exact ⟨0, by omega, rfl, HI0⟩
  case round =>
    clear HI0 hmk hmm
    obtain ⟨k, hk, rfl, HI⟩ := hrel
    by_cases hlt : k < n
    · obtain ⟨b, o, x, rfl, h1, h2, h3⟩ := HR.out.at hlt
      have hcx : wr.cell? ⟨b, o + k, none⟩ = some (.slice x.a x.n x.c) := (HI.out.bel.cell (p := ⟨b, o + k, none⟩) (World.block_lt_of_cell? w _ h1)).trans h1
      have HX := Lib.hid h2
      have HX3 := Lib.hid h3
      clear h1 h2 h3
      have hn1 := HN.out
      go_wp2_with fail
      have HId := Lib.hid HI.out.drew
      have HS : Hid ((fun W : World => W.cell? ⟨w.heap.size + 2, 0, none⟩ = some (.slice (some ⟨w.heap.size, 0, none⟩) n n)) wr.drew) := HId.out.c0
      refine wp_region_held_drew (S := fun W => W.cell? ⟨w.heap.size + 2, 0, none⟩ = some (.slice (some ⟨w.heap.size, 0, none⟩) n n)) (by kernel_rfl) HS.out (fun _ => ?_)
      change wpAnyH _ _ _ _ _ 9 (Array.replicate 9 false) _ _
      refine takeH (i := 0) 19 (.pointer (some ⟨w.heap.size + 2, 0, none⟩)) rfl rfl (by kernel_rfl) (by kernel_rfl) (by kernel_rfl) (fun _ _ _ h => h) (.inl ⟨by rfl, fun W hW => by go_simp⟩) HS.out ?_
      simp only [Act.put, List.setIfInBounds_toArray, List.set_cons_zero, List.set_cons_succ]
      refine takeH (i := 1) 20 (.pointer (some ⟨w.heap.size + 2, 0, none⟩)) rfl rfl (by kernel_rfl) (by kernel_rfl) (by kernel_rfl) (fun _ _ _ h => h) (.inl ⟨by rfl, fun W hW => by go_simp⟩) HS.out ?_
      simp only [Act.put, List.setIfInBounds_toArray, List.set_cons_zero, List.set_cons_succ]
      refine takeH (i := 2) 21 (.pointer (some ⟨w.heap.size + 2, 0, none⟩)) rfl rfl (by kernel_rfl) (by kernel_rfl) (by kernel_rfl) (fun _ _ _ h => h) (.inl ⟨by rfl, fun W hW => by go_simp⟩) HS.out ?_
      simp only [Act.put, List.setIfInBounds_toArray, List.set_cons_zero, List.set_cons_succ]
      refine takeH (i := 3) 22 (.slice (some ⟨w.heap.size, 0, none⟩) n n) rfl rfl (by kernel_rfl) (by kernel_rfl) (by kernel_rfl) (fun _ _ _ h => h) (.inl ⟨by rfl, fun W hW => by (have hz : W.cell? ⟨w.heap.size + 2, 0, none⟩ = some (.slice (some ⟨w.heap.size, 0, none⟩) n n) := hW; go_simp)⟩) HS.out ?_
      simp only [Act.put, List.setIfInBounds_toArray, List.set_cons_zero, List.set_cons_succ]
      refine takeH (i := 4) 23 (.int .i64 (k : Int)) rfl rfl (by kernel_rfl) (by kernel_rfl) (by kernel_rfl) (fun _ _ _ h => h) (.inl ⟨by rfl, fun W hW => by go_simp⟩) HS.out ?_
      simp only [Act.put, List.setIfInBounds_toArray, List.set_cons_zero, List.set_cons_succ]
      refine takeH (i := 5) 24 (.slice x.a x.n x.c) rfl rfl (by kernel_rfl) (by kernel_rfl) (by kernel_rfl) (fun _ _ _ h => h) (.inl ⟨by rfl, fun W hW => by go_simp⟩) HS.out ?_
      simp only [Act.put, List.setIfInBounds_toArray, List.set_cons_zero, List.set_cons_succ]
      refine wpAnyH_ready (rs := [6]) (by kernel_rfl) (by simp) ?_
      refine AllReadyH.cons rfl (fun K hK => ?_) AllReadyH.nil
      go_simp
      refine (clone_big x.a x.n x.c _ wr.drew (HX.out.below HI.out.bel).drew HX3.out).mono ?_
      rintro e w2 ⟨A2, c2, rfl, h1, h2, h3, h4, -⟩
      have HI2 := Lib.hid (HId.out.below h4)
      have HY : Hid (BC w2 (fun z => w.heap.size ≤ z) ⟨A2, x.n, c2⟩ (ls.getD k [])) := ⟨h1, HX3.out, h2, fun _ ad e => Nat.le_trans HI.out.bel.size (h3 ad e)⟩
      refine hK.out _ _ HI2.out.c0 fun _ => ?_
      clear hK K h1 h2 h3 h4
      refine takeH (i := 7) 26 (.pointer (some ⟨w.heap.size, k, none⟩)) rfl rfl (by kernel_rfl) (by kernel_rfl) (by kernel_rfl) (fun _ _ _ h => h) (.inl ⟨by rfl, fun W hW => by go_simp⟩) HI2.out.c0 ?_
      simp only [Act.put, List.setIfInBounds_toArray, List.set_cons_zero, List.set_cons_succ]
      refine wpAnyH_ready (rs := [8]) (by kernel_rfl) (by simp) ?_
      refine AllReadyH.cons rfl (fun K hK => ?_) AllReadyH.nil
      have HI3 := Lib.hid (HI2.out.set ⟨A2, x.n, c2⟩ HY.out)
      obtain ⟨v, hrow⟩ := HI2.out.row hlt
      have hfrow := HI2.out.froz k
      go_simp
      refine hK.out _ _ HI3.out.c0 fun _ => ?_
      clear hK K hrow hfrow
      refine wpAnyH_done (by kernel_rfl) ?_ _
      go_wp2
      go_roundw
      case rel => exact ⟨k + 1, by omega, by go_num, HI3⟩
      case measure => simp [intOf]; omega
    · obtain rfl : k = n := by omega
      go_wp2
      go_ret
      exact ⟨_, _, _, rfl, HI.out.done HL.out, HI.out.bel, by omega, by omega⟩
end Go.Proofs.YtnhokkdieijkhaaGreatDoor
