/-
  The document's Get, walked (layer 7).
-/
import Derived.Test.YtkgpgaanodmpiaaIRPut
namespace Go.Proofs.Ytkgpgaanodmpiaa
open Go.RowKit

theorem size_R : (Try.prog.info? 72).map (·.size) = some 2 := by kernel_rfl
theorem zero_R : (Try.prog.info? 72).bind (·.zero) = some (.agg #[.string (txt []), .int .i64 0]) := by kernel_rfl
theorem built_R (b : ByteArray) : Try.prog.built 72 [(0, .string b)] = some #[.string b, .int .i64 0] := by kernel_rfl
theorem r32 (l : List UInt8) (e : Int) (w : World) : Calls Try.prog 38 #[.agg #[.string (txt l), .int .i64 e]] w fun en w' => en = .returned (.tuple #[.agg #[.string (txt (rdN 4 (l, e)).1.1), .int .i64 (rdN 4 (l, e)).1.2], .int .u32 ((rdN 4 (l, e)).2 : Int)]) ∧ Below w.heap.size w w' := refRead32 l e w
theorem r64 (l : List UInt8) (e : Int) (w : World) : Calls Try.prog 39 #[.agg #[.string (txt l), .int .i64 e]] w fun en w' => en = .returned (.tuple #[.agg #[.string (txt (rdN 8 (l, e)).1.1), .int .i64 (rdN 8 (l, e)).1.2], .int .u64 ((rdN 8 (l, e)).2 : Int)]) ∧ Below w.heap.size w w' := refRead64 l e w
theorem rEnd (l : List UInt8) (e : Int) (w : World) : Calls Try.prog 40 #[.agg #[.string (txt l), .int .i64 e]] w fun en w' => en = .returned (.int .i64 (endOf l e)) ∧ Below w.heap.size w w' := refEnd l e w
/-- While the document's Get goes: its result in block r, the inode that is read in g, what is left to be read in t. -/
structure RI (w : World) (r g t : Nat) (cs : List Value) (l : List UInt8) (e : Int) (W : World) : Prop where
  res : Cs W r zI 34
  nod : Cs W g cs 34
  rdr : Two W t (.string (txt l)) (.int .i64 e)
  bel : Below w.heap.size w W
  lr : w.heap.size ≤ r
  lg : w.heap.size ≤ g
  lt : w.heap.size ≤ t
  nrg : r ≠ g
  nrt : r ≠ t
  ngt : g ≠ t
section
variable {w W W' : World} {r g t : Nat} {cs : List Value} {l l' : List UInt8} {e e' : Int}
theorem RI.step (h : RI w r g t cs l e W) (hb : Below W.heap.size W W') : RI w r g t cs l e W' := ⟨h.res.below hb, h.nod.below hb, h.rdr.below hb h.rdr.lt, h.bel.trans (hb.mono h.bel.size), h.lr, h.lg, h.lt, h.nrg, h.nrt, h.ngt⟩
theorem RI.stored (h : RI w r g t cs l e W) (hb : W'.heap[t]? = some (.cells #[.string (txt l'), .int .i64 e'] 72 (0, 0))) (hk : Keep (· ≠ t) W W') : RI w r g t cs l' e' W' :=
  ⟨(hk.block r h.nrt).trans h.res, (hk.block g h.ngt).trans h.nod, hb, h.bel.trans (Keep.below (hk.mono fun k hk => by have := h.lt; omega)), h.lr, h.lg, h.lt, h.nrg, h.nrt, h.ngt⟩
theorem RI.field (h : RI w r g t cs l e W) (i : Nat) (v : Value) : RI w r g t (cs.set i v) l e (W.setCell ⟨g, i, none⟩ v) :=
  ⟨(Below.heap_setCell W ⟨g, i, none⟩ v r h.nrg).trans h.res, h.nod.set i v, h.rdr.far h.ngt.symm, h.bel.setCell h.lg _, h.lr, h.lg, h.lt, h.nrg, h.nrt, h.ngt⟩
end
theorem RI.no {w W W' : World} {r g t : Nat} {cs : List Value} {l : List UInt8} {e : Int} (h : RI w r g t cs l e W) (hk : Keep (· ≠ r) W W') : Below w.heap.size w W' := h.bel.trans (Keep.below (hk.mono fun k hk => by have := h.lr; omega))
/-- While the blocks are read. -/
structure RL (w : World) (r g t : Nat) (x : Nd) (s : St) (k : Nat) (A : Option Addr) (c : Nat) (W : World) : Prop where
  ri : RI w r g t (nI x (.slice A k c)) (Nd.rds 4 k s).1.1 (Nd.rds 4 k s).1.2 W
  own : W.ownsRow w.heap.size 22 1 (.slice A k c) k (c32 (Nd.rds 4 k s).2)
/-- One more block was read and appended. -/
theorem RL.next {w wr w1 w2 w3 : World} {r g t : Nat} {x : Nd} {s : St} {k : Nat} {A : Option Addr} {c gg cap v : Nat} {o : Obj} (h : RL w r g t x s k A c wr)
    (hb1 : Below wr.heap.size wr w1) (hb2 : w2.heap[t]? = some (.cells #[.string (txt (rdN 4 (Nd.rds 4 k s).1).1.1), .int .i64 (rdN 4 (Nd.rds 4 k s).1).1.2] 72 (0, 0))) (hk2 : Keep (· ≠ t) w1 w2)
    (hv : (rdN 4 (Nd.rds 4 k s).1).2 = v)
    (ho : w3.ownsRow w.heap.size 22 1 (.slice (some ⟨gg, 0, none⟩) (k + 1) cap) (k + 1) (c32 (Nd.rds 4 k s).2 ++ [.int .u32 (v : Int)]))
    (hg : (w2.alloc o).grownBy w3 (Value.slice A k c).ownBlock) :
    RL w r g t x s (k + 1) (some ⟨gg, 0, none⟩) cap (w3.setCell ⟨g, 8, none⟩ (.slice (some ⟨gg, 0, none⟩) (k + 1) cap)) := by
  have i2 := (h.ri.step hb1).stored hb2 hk2
  have o1 : w1.ownsRow w.heap.size 22 1 (.slice A k c) k (c32 (Nd.rds 4 k s).2) := own_grown h.own (row := none) ⟨hb1.os, hb1.tape, hb1.output, hb1.size, fun j hj _ => hb1.block j hj⟩ (fun _ _ e => by cases e)
  have o2 : w2.ownsRow w.heap.size 22 1 (.slice A k c) k (c32 (Nd.rds 4 k s).2) := own_grown o1 (row := some t) ⟨hk2.os, hk2.tape, hk2.output, hk2.size, fun j _ hj => hk2.block j (fun e => hj (by rw [e]))⟩ (fun gq hgq e => by
    injection e with e
    subst e
    exact own_ne o1 (h.ri.step hb1).rdr (by decide) hgq)
  have iA := i2.step ((Below.refl _ _).alloc (Nat.le_refl _) o)
  have oA := o2.alloc o
  have nr : (Value.slice A k c).ownBlock ≠ some r := own_ne oA iA.res (by decide)
  have ng : (Value.slice A k c).ownBlock ≠ some g := own_ne oA iA.nod (by decide)
  have nt : (Value.slice A k c).ownBlock ≠ some t := own_ne oA iA.rdr (by decide)
  have lo : ∀ j, (Value.slice A k c).ownBlock = some j → w.heap.size ≤ j := fun j hj => (oA.lt j hj).1
  have i3 : RI w r g t (nI x (.slice A k c)) (rdN 4 (Nd.rds 4 k s).1).1.1 (rdN 4 (Nd.rds 4 k s).1).1.2 w3 :=
    ⟨iA.res.grown hg nr, iA.nod.grown hg ng, (hg.block t iA.rdr.lt (fun e => nt e.symm)).trans iA.rdr, iA.bel.trans ⟨hg.os, hg.tape, hg.output, hg.size, fun j hj => hg.block j (Nat.lt_of_lt_of_le hj iA.bel.size) (fun e => by have := lo j e.symm; omega)⟩, iA.lr, iA.lg, iA.lt, iA.nrg, iA.nrt, iA.ngt⟩
  have hgg : gg ≠ g := by
    rintro rfl
    exact own_ne ho i3.nod (by decide) rfl
  refine ⟨i3.field 8 _, ?_⟩
  have e1 : c32 (Nd.rds 4 (k + 1) s).2 = c32 (Nd.rds 4 k s).2 ++ [.int .u32 (v : Int)] := by
    show c32 ((Nd.rds 4 k s).2 ++ [(rdN 4 (Nd.rds 4 k s).1).2]) = _
    rw [hv]
    unfold c32
    simp
  rw [e1]
  refine own_grown ho ⟨rfl, rfl, rfl, by simp [World.setCell], fun j _ hj => Below.heap_setCell w3 ⟨g, 8, none⟩ _ j (fun e => hj (by rw [e]))⟩ (row := some g) (fun j hj e => ?_)
  injection e with e
  subst e
  exact hgg (by simpa [Value.ownBlock] using hj)

set_option maxRecDepth 100000 in
set_option maxHeartbeats 1000000 in
theorem refGet_nil (w : World) : Calls Try.prog 19 #[.string (txt [])] w (GetP [] w) := by
  have ht : ((txt []).toList == ([] : List UInt8)) = true := by decide +kernel
  have ht2 : (txt []).toList.isEmpty = true := by decide +kernel
  go_enter Try.func19, Try.ntmps19
  go_upto_region 1 with (refine wpList_alloc_any rfl 34 rfl _ zero_N ?_; intro w1 hb1 hs1 hw1)
  have HB1 := Lib.hid hb1
  have HW1 := Lib.hid hw1
  clear hb1 hs1 hw1
  go_wp2_with (first
    | (refine Did.list rfl (did_build 34 #[] rfl #[.int .u32 0, .int .u32 0, .int .u32 0, .int .u32 0, .int .u32 0, .int .u64 0, .int .u64 0, .int .u64 0, .slice none 0 0] built_N) ?_)
    | (refine wpList_store_any rfl 34 (.tmp 2) (.tmp 13) rfl w.heap.size #[.int .u32 0, .int .u32 0, .int .u32 0, .int .u32 0, .int .u32 0, .int .u64 0, .int .u64 0, .int .u64 0, .slice none 0 0] rfl rfl 34 _ HB1.out size_N rfl (by simp [Value.oneCell']) ?_
       intro w3 hb3 hs3 hw3
       have HB3 := Lib.hid hb3
       have HW3 : Hid (Below w.heap.size w w3) := HW1.out.trans (Keep.below (hw3.mono fun k hk => by omega))
       clear hb3 hs3 hw3))
  exact bodyPost_ret (results_I rfl _ w3 w.heap.size _ HB3.out size_N (by rfl) (by rfl) Try.underlying34) rfl (GetP.no (by rfl) (.inr rfl) HW3.out)
end Go.Proofs.Ytkgpgaanodmpiaa
