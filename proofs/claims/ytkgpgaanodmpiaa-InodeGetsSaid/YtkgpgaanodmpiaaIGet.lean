/-
  Contract of package inode's Get (layer 7).
-/
import Derived.Test.YtkgpgaanodmpiaaIPut
import Derived.Test.YtkgpgaanodmpiaaDMem
namespace Go.Proofs.Ytkgpgaanodmpiaa
open Go.RowKit

theorem info_u32 : (Try.prog.info? 22).map (fun i => (i.zero, i.size, i.bytes)) = some (some (.int .u32 0), 1, 4) := by kernel_rfl
/-- The cells of an inode. -/
def zI : List Value := [.int .u32 0, .int .u32 0, .int .u32 0, .int .u32 0, .int .u32 0, .int .u64 0, .int .u64 0, .int .u64 0, .slice none 0 0]
theorem zero_I : (Try.prog.info? 26).bind (·.zero) = some (.agg #[.int .u32 0, .int .u32 0, .int .u32 0, .int .u32 0, .int .u32 0, .int .u64 0, .int .u64 0, .int .u64 0, .slice none 0 0]) := by kernel_rfl
theorem built_I : Try.prog.built 26 [] = some #[.int .u32 0, .int .u32 0, .int .u32 0, .int .u32 0, .int .u32 0, .int .u64 0, .int .u64 0, .int .u64 0, .slice none 0 0] := by kernel_rfl
theorem results_I {t : TypeId} {fs : Array Field} {cs : Array Value} {fn : Func} {p q : Tmp} (h : fn.results = #[.cell p t, .tmp q]) (tmps : Array Value) (w : World) (g : Nat) (v : Value) (hg : w.heap[g]? = some (.cells cs t (0, 0))) (hi : (Try.prog.info? t).map (·.size) = some cs.size)
    (hp : tmps.getD p undef = .pointer (some ⟨g, 0, none⟩)) (hq : tmps.getD q undef = v) (hu : Try.prog.underlying t = some (.struct fs)) : (results fn tmps).run Try.prog w = .ok (.tuple #[.agg cs, v]) w := by
  have hp' : tmps[p]?.getD undef = .pointer (some ⟨g, 0, none⟩) := by simpa using hp
  have hq' : tmps[q]?.getD undef = v := by simpa using hq
  have hl := run_loadVar_row (P := Try.prog) w g t t cs (0, 0) _ hg hu rfl hi
  simp [results, h, hp', hq', asAddr, hl]
/-- What Get hands back. -/
def GetQ (x : Nd) (z : Int) (w : World) (e : Ending) (w' : World) : Prop :=
  ∃ B c, e = .returned (.tuple #[(.agg #[.int .u32 (x.kind : Int), .int .u32 (x.gen : Int), .int .u32 (x.links : Int), .int .u32 (x.mode : Int), .int .u32 (x.size : Int), .int .u64 (x.change : Int), .int .u64 (x.cookie : Int), .int .u64 (x.verf : Int), .slice B x.bl.length c]), .int .i64 z]) ∧ NS .u32 w' B x.bl.length x.bl ∧ Below w.heap.size w w'
def GetP (l : List UInt8) (w : World) (e : Ending) (w' : World) : Prop := GetQ (Nd.got l) (Nd.err l) w e w'
theorem NS.nil {k : IntKind} {w : World} : NS k w none 0 [] := ⟨rfl, fun h => absurd h (by omega)⟩
theorem GetP.no {l : List UInt8} {w w' : World} {z : Int} (hz : Nd.err l = z) (h0 : z ≠ 0 ∨ l = []) (hb : Below w.heap.size w w') : GetP l w (.returned (.tuple #[(.agg #[.int .u32 0, .int .u32 0, .int .u32 0, .int .u32 0, .int .u32 0, .int .u64 0, .int .u64 0, .int .u64 0, .slice none 0 0]), .int .i64 z])) w' := by
  have hg : Nd.got l = Nd.zero := by
    unfold Nd.got
    rw [if_neg]
    rintro ⟨h1, h2⟩
    rcases h0 with h0 | h0
    · exact h0 (hz.symm.trans h2)
    · exact h1 h0
  unfold GetP
  rw [hg, hz]
  exact ⟨none, 0, rfl, NS.nil, hb⟩
/-- While Get goes: its result lies in block r, the inode that is read in block g. -/
structure GI (w : World) (r g : Nat) (cs : List Value) (W : World) : Prop where
  res : Cs W r zI 26
  nod : Cs W g cs 26
  bel : Below w.heap.size w W
  lr : w.heap.size ≤ r
  lg : w.heap.size ≤ g
  ne : r ≠ g
section
variable {w W W' : World} {r g q : Nat} {cs cs' : List Value}
theorem GI.step (h : GI w r g cs W) (hb : Below W.heap.size W W') : GI w r g cs W' := ⟨h.res.below hb, h.nod.below hb, h.bel.trans (hb.mono h.bel.size), h.lr, h.lg, h.ne⟩
theorem GI.but (h : GI w r g cs W) (hb : But q g W W') (hq : w.heap.size ≤ q) (hqr : q ≠ r) (hn : Cs W' g cs' 26) : GI w r g cs' W' :=
  ⟨(hb.block r h.res.lt (fun e => hqr e.symm) h.ne).trans h.res, hn, h.bel.trans (hb.toBelow h.bel.size hq h.lg), h.lr, h.lg, h.ne⟩
theorem GI.one (h : GI w r g cs W) (hb : W.grownBy W' (some q)) (hq : w.heap.size ≤ q) (hqr : q ≠ r) (hqg : q ≠ g) : GI w r g cs W' :=
  h.but (But.one hb) hq hqr (h.nod.grown hb (fun e => hqg (by injection e)))
end
/-- The cells behind both runs of fields. -/
theorem cells_I (a b : List Nat) (ha : a.length = 5) (hb : b.length = 3) : upd (upd zI 0 (c32 a)) 5 (c64 b) =
    [.int .u32 (a.getD 0 0 : Int), .int .u32 (a.getD 1 0 : Int), .int .u32 (a.getD 2 0 : Int), .int .u32 (a.getD 3 0 : Int), .int .u32 (a.getD 4 0 : Int), .int .u64 (b.getD 0 0 : Int), .int .u64 (b.getD 1 0 : Int), .int .u64 (b.getD 2 0 : Int), .slice none 0 0] := by
  match a, ha with
  | [_, _, _, _, _], _ =>
    match b, hb with
    | [_, _, _], _ => rfl
theorem NS.of_own {w : World} {base : Nat} {A : Option Addr} {n c : Nat} {xs : List Nat} (h : w.ownsRow base 22 1 (.slice A n c) n (c32 xs)) : NS .u32 w A n xs := by
  have hl : xs.length = n := by have := h.1; unfold c32 at this; rw [List.length_map] at this; omega
  refine ⟨hl, fun hn => ?_⟩
  obtain ⟨g, cap, hv, _, hlt⟩ := h.form hn
  injection hv with hA _ _
  subst hA
  refine ⟨g, 0, rfl, fun j hj => ?_⟩
  have := h.cells (g := g) rfl j (.int .u32 (xs[j] : Int)) (by unfold c32; simp [hj])
  rwa [add_plain] at this
/-- A row of numbers is no block of another kind. -/
theorem own_ne {w : World} {base : Nat} {A : Option Addr} {n c : Nat} {xs : List Value} (h : w.ownsRow base 22 1 (.slice A n c) n xs) {g : Nat} {cs : Array Value} {t : TypeId} {fr : Nat × Nat} (hg : w.heap[g]? = some (.cells cs t fr)) (ht : t ≠ 22) :
    (Value.slice A n c).ownBlock ≠ some g := by
  intro he
  rcases h.2 with ⟨h1, _⟩ | ⟨g', cap', cur', h1, _, h2, _⟩
  · rw [h1] at he; cases he
  · rw [h1] at he
    have : g' = g := by simpa [Value.ownBlock] using he
    subst this
    rw [hg] at h2
    injection h2 with h2
    injection h2 with _ h2 _
    exact ht h2
theorem Rd.blk {w : World} {q : Nat} {l : List UInt8} {e : Int} (h : Rd w q l e) : ∃ cs, w.heap[q]? = some (.cells cs 87 (0, 0)) := by
  obtain ⟨A, c, h⟩ := h
  exact ⟨_, h.1⟩
/-- A change of one row of numbers, and of new blocks. -/
theorem Rd.row {w w' : World} {q : Nat} {l : List UInt8} {e : Int} (h : Rd w q l e) {base : Nat} {A : Option Addr} {n c : Nat} {xs : List Value} (ho : w.ownsRow base 22 1 (.slice A n c) n xs) (hg : w.grownBy w' (Value.slice A n c).ownBlock) : Rd w' q l e := by
  rcases ho.2 with ⟨h1, _⟩ | ⟨g', cap', cur', h1, _, h2, _⟩
  · rw [h1] at hg
    exact h.kept ⟨hg.os, hg.tape, hg.output, hg.size, fun k hk => hg.block k hk (by simp [Value.ownBlock])⟩
  · have hq : q ≠ g' := by
      rintro rfl
      obtain ⟨cs, h3⟩ := h.blk
      rw [h3] at h2
      injection h2 with h2
      injection h2 with _ h2 _
      exact absurd h2 (by decide)
    refine h.off h2 (by decide) hq (fun k hk hne => hg.block k hk ?_)
    rw [h1]
    simp [Value.ownBlock]
    exact hne

theorem GI.start {w w1 w2 : World} (h1 : w1.heap[w.heap.size]? = some (.cells (Value.agg #[.int .u32 0, .int .u32 0, .int .u32 0, .int .u32 0, .int .u32 0, .int .u64 0, .int .u64 0, .int .u64 0, .slice none 0 0]).cells 26 (0, 0))) (s1 : w1.heap.size = w.heap.size + 1) (b1 : Below w.heap.size w w1)
    (h2 : w2.heap[w1.heap.size]? = some (.cells (Value.agg #[.int .u32 0, .int .u32 0, .int .u32 0, .int .u32 0, .int .u32 0, .int .u64 0, .int .u64 0, .int .u64 0, .slice none 0 0]).cells 26 (0, 0))) (b2 : Below w1.heap.size w1 w2) : GI w w.heap.size w1.heap.size zI w2 :=
  ⟨(b2.block _ (by omega)).trans h1, h2, b1.trans (b2.mono (by omega)), Nat.le_refl _, by omega, by omega⟩

set_option maxRecDepth 100000 in
set_option maxHeartbeats 1000000 in
theorem get_nil (A : Option Addr) (cp : Nat) (w : World) : Calls Try.prog 17 #[.slice A 0 cp] w (GetP [] w) := by
  go_enter Try.func17, Try.ntmps17
  go_upto_region 1 with (refine wpList_alloc_any rfl 26 rfl _ zero_I ?_; intro w1 hb1 hs1 hw1)
  go_upto_region 2 with (refine wpList_alloc_any rfl 26 rfl _ zero_I ?_; intro w2 hb2 hs2 hw2)
  have HG := Lib.hid (GI.start hb1 hs1 hw1 hb2 hw2)
  have hgs := Lib.hid hs1
  clear hb1 hs1 hw1 hb2 hs2 hw2
  go_wp2_with (first
    | (refine wpList_load_row rfl 26 (.tmp 4) rfl _ rfl 26 #[.int .u32 0, .int .u32 0, .int .u32 0, .int .u32 0, .int .u32 0, .int .u64 0, .int .u64 0, .int .u64 0, .slice none 0 0] (0, 0) _ HG.out.nod Try.underlying26 rfl size_I ?_)
    | (refine wpList_store_any rfl 26 (.tmp 2) (.tmp 11) rfl w.heap.size #[.int .u32 0, .int .u32 0, .int .u32 0, .int .u32 0, .int .u32 0, .int .u64 0, .int .u64 0, .int .u64 0, .slice none 0 0] rfl rfl 26 _ HG.out.res size_I rfl (by simp [Value.oneCell']) ?_
       intro w3 hb3 hs3 hw3
       have HB3 := Lib.hid hb3
       have HW3 : Hid (Below w.heap.size w w3) := HG.out.bel.trans (Keep.below (hw3.mono fun k hk => by omega))
       clear hb3 hs3 hw3))
  exact bodyPost_ret (results_I rfl _ w3 w.heap.size _ HB3.out size_I (by rfl) (by rfl) Try.underlying26) rfl (GetP.no (by rfl) (.inr rfl) HW3.out)

/-- The cells of an inode whose blocks are this slice. -/
def nI (x : Nd) (v : Value) : List Value := [.int .u32 (x.kind : Int), .int .u32 (x.gen : Int), .int .u32 (x.links : Int), .int .u32 (x.mode : Int), .int .u32 (x.size : Int), .int .u64 (x.change : Int), .int .u64 (x.cookie : Int), .int .u64 (x.verf : Int), v]
/-- While the blocks are read. -/
structure GL (w : World) (r g q : Nat) (x : Nd) (l : List UInt8) (k : Nat) (A : Option Addr) (c : Nat) (W : World) : Prop where
  gi : GI w r g (nI x (.slice A k c)) W
  rd : Rd W q (Nd.rds 4 k (Nd.pc l).1).1.1 (Nd.rds 4 k (Nd.pc l).1).1.2
  own : W.ownsRow w.heap.size 22 1 (.slice A k c) k (c32 (Nd.rds 4 k (Nd.pc l).1).2)
section
variable {w W W' W1 : World} {r g q : Nat} {x : Nd} {l : List UInt8} {k : Nat} {A A' : Option Addr} {c c' : Nat}
theorem GL.c8 (h : GL w r g q x l k A c W) : W.cell? ⟨g, 8, none⟩ = some (.slice A k c) := h.gi.nod.cell 8 _ rfl
theorem GL.f8 (h : GL w r g q x l k A c W) : W.frozen? ⟨g, 8, none⟩ = false := h.gi.nod.froz 8
end
theorem Rd.ne_I {w : World} {q g : Nat} {l : List UInt8} {e : Int} {cs : List Value} (h : Rd w q l e) (hg : Cs w g cs 26) : q ≠ g := by
  rintro rfl
  obtain ⟨cs', h3⟩ := h.blk
  unfold Cs at hg
  rw [h3] at hg
  injection hg with hg
  injection hg with _ hg _
  exact absurd hg (by decide)
theorem own_grown {w w' : World} {base n : Nat} {v : Value} {xs : List Value} {row : Option Nat} (h : w.ownsRow base 22 1 v n xs) (hg : w.grownBy w' row) (hr : ∀ g, v.ownBlock = some g → row ≠ some g) : w'.ownsRow base 22 1 v n xs := by
  refine ⟨h.1, ?_⟩
  rcases h.2 with h1 | ⟨g, cap, cur, h1, hb, h2, h3⟩
  · exact .inl h1
  · have hlt : g < w.heap.size := by
      rcases Nat.lt_or_ge g w.heap.size with hlt | hge
      · exact hlt
      · rw [Array.getElem?_eq_none hge] at h2; cases h2
    exact .inr ⟨g, cap, cur, h1, hb, (hg.block g hlt (fun e => hr g (by rw [h1]; rfl) e.symm)).trans h2, h3⟩
/-- One more block was read and appended. -/
theorem GL.next {w wr w1 w2 : World} {r g q : Nat} {x : Nd} {l : List UInt8} {k : Nat} {A : Option Addr} {c gg cap v : Nat} {o : Obj} (h : GL w r g q x l k A c wr) (hq : w.heap.size ≤ q)
    (hg1 : wr.grownBy w1 (some q)) (hr1 : Rd w1 q (rdN 4 (Nd.rds 4 k (Nd.pc l).1).1).1.1 (rdN 4 (Nd.rds 4 k (Nd.pc l).1).1).1.2)
    (hv : (rdN 4 (Nd.rds 4 k (Nd.pc l).1).1).2 = v)
    (ho : w2.ownsRow w.heap.size 22 1 (.slice (some ⟨gg, 0, none⟩) (k + 1) cap) (k + 1) (c32 (Nd.rds 4 k (Nd.pc l).1).2 ++ [.int .u32 (v : Int)]))
    (hg2 : (w1.alloc o).grownBy w2 (Value.slice A k c).ownBlock) :
    GL w r g q x l (k + 1) (some ⟨gg, 0, none⟩) cap (w2.setCell ⟨g, 8, none⟩ (.slice (some ⟨gg, 0, none⟩) (k + 1) cap)) := by
  have hqg : q ≠ g := h.rd.ne_I h.gi.nod
  have hqr : q ≠ r := h.rd.ne_I h.gi.res
  have i1 : GI w r g (nI x (.slice A k c)) w1 := h.gi.one hg1 hq hqr hqg
  have o1 : w1.ownsRow w.heap.size 22 1 (.slice A k c) k (c32 (Nd.rds 4 k (Nd.pc l).1).2) := own_grown h.own hg1 (fun gq hgq e => by
    injection e with e
    subst e
    obtain ⟨cs, hb⟩ := h.rd.blk
    exact own_ne h.own hb (by decide) hgq)
  have oA := o1.alloc o
  have iA := i1.step ((Below.refl _ _).alloc (Nat.le_refl _) o)
  have rA := hr1.kept ((Below.refl _ _).alloc (Nat.le_refl _) o)
  have r2 := rA.row oA hg2
  have nr : (Value.slice A k c).ownBlock ≠ some r := own_ne oA iA.res (by decide)
  have ng : (Value.slice A k c).ownBlock ≠ some g := own_ne oA iA.nod (by decide)
  have lo : ∀ j, (Value.slice A k c).ownBlock = some j → w.heap.size ≤ j := fun j hj => (oA.lt j hj).1
  have res2 : Cs w2 r zI 26 := iA.res.grown hg2 nr
  have nod2 : Cs w2 g (nI x (.slice A k c)) 26 := iA.nod.grown hg2 ng
  have bel2 : Below w.heap.size w w2 := iA.bel.trans ⟨hg2.os, hg2.tape, hg2.output, hg2.size, fun j hj => hg2.block j (Nat.lt_of_lt_of_le hj iA.bel.size) (fun e => by have := lo j e.symm; omega)⟩
  have hset : ∀ j, j ≠ g → (w2.setCell ⟨g, 8, none⟩ (.slice (some ⟨gg, 0, none⟩) (k + 1) cap)).heap[j]? = w2.heap[j]? := fun j hj => Below.heap_setCell w2 ⟨g, 8, none⟩ _ j hj
  have hgg : gg ≠ g := by
    rintro rfl
    exact own_ne ho nod2 (by decide) rfl
  refine ⟨⟨(hset r h.gi.ne).trans res2, nod2.set 8 _, ⟨bel2.os, bel2.tape, bel2.output, by simpa [World.setCell] using bel2.size, fun j hj => (hset j (by have := h.gi.lg; omega)).trans (bel2.block j hj)⟩, h.gi.lr, h.gi.lg, h.gi.ne⟩, ?_, ?_⟩
  · exact r2.off nod2 (by decide) hqg (fun j _ hj => hset j hj)
  · have e1 : c32 (Nd.rds 4 (k + 1) (Nd.pc l).1).2 = c32 (Nd.rds 4 k (Nd.pc l).1).2 ++ [.int .u32 (v : Int)] := by
      show c32 ((Nd.rds 4 k (Nd.pc l).1).2 ++ [(rdN 4 (Nd.rds 4 k (Nd.pc l).1).1).2]) = _
      rw [hv]
      unfold c32
      simp
    rw [e1]
    refine own_grown ho ⟨rfl, rfl, rfl, by simp [World.setCell], fun j _ hj => hset j (fun e => hj (by rw [e]))⟩ (row := some g) (fun j hj e => ?_)
    injection e with e
    subst e
    exact hgg (by simpa [Value.ownBlock] using hj)

/-- A slice of numbers, behind a change of a block that isn't its own. -/
theorem NS.off {T : IntKind} {w w' : World} {B : Option Addr} {n c r : Nat} {xs : List Nat} (h : NS T w B n xs) (hr : (Value.slice B n c).ownBlock ≠ some r) (hb : ∀ j, j < w.heap.size → j ≠ r → w'.heap[j]? = w.heap[j]?) : NS T w' B n xs :=
  ⟨h.1, fun hn => by
    obtain ⟨b, o, rfl, hc⟩ := h.2 hn
    refine ⟨b, o, rfl, fun j hj => ?_⟩
    rw [← hc j hj]
    refine World.cell?_of_block (hb b (World.block_lt_of_cell? w _ (hc j hj)) ?_)
    rintro rfl
    exact hr rfl⟩
set_option maxRecDepth 100000 in
set_option maxHeartbeats 4000000 in
theorem get_some (A : Option Addr) (n cp : Nat) (l : List UInt8) (w : World) (h : BS w A n l) (hn : n ≤ 1000000) (h0 : 0 < n) : Calls Try.prog 17 #[.slice A n cp] w (GetP l w) := by
  have HL := Lib.hid h
  have Hne : Hid (l ≠ []) := by
    show _ ≠ _
    rintro rfl
    have := h.1
    simp at this
    omega
  have hd : ((n : Int) == 0) = false := by simp; omega
  clear h
  obtain ⟨i0, hi0, hz0, hz1, hz2⟩ := info_parts info_u32
  go_enter Try.func17, Try.ntmps17
  go_upto_region 1 with (refine wpList_alloc_any rfl 26 rfl _ zero_I ?_; intro w1 hb1 hs1 hw1)
  go_upto_region 2 with (refine wpList_alloc_any rfl 26 rfl _ zero_I ?_; intro w2 hb2 hs2 hw2)
  have HG2 := Lib.hid (GI.start hb1 hs1 hw1 hb2 hw2)
  clear hb1 hs1 hw1 hb2 hs2 hw2
  generalize hr : w.heap.size = r at *
  generalize w1.heap.size = g at *
  have Hr := Lib.hid hr
  clear hr
  go_wp2_with fail
  refine (newReader_any A n cp l w2 (HL.out.below (by have := HG2.out.bel; exact this)) (by omega)).mono ?_
  rintro e w3 ⟨q, rfl, hrd, hb3, hq⟩
  have HG3 := Lib.hid (HG2.out.step hb3)
  have HR3 := Lib.hid hrd
  have Hq : Hid (w.heap.size ≤ q) := Nat.le_trans HG2.out.bel.size hq
  have hqg := hrd.ne_I HG3.out.nod
  have hqr := hrd.ne_I HG3.out.res
  clear hrd hb3 hq HG2 HL hd
  go_wp2_with fail
  refine (readAll32 (w3.alloc (.cells #[.pointer (some ⟨g, 0, none⟩), .pointer (some ⟨g, 1, none⟩), .pointer (some ⟨g, 2, none⟩), .pointer (some ⟨g, 3, none⟩), .pointer (some ⟨g, 4, none⟩)] 66)) q (l, 0) g 0 (zI) 26 w3.heap.size 5 5 (HR3.out.kept ((Below.refl _ _).alloc (Nat.le_refl _) _)) (HG3.out.nod.below ((Below.refl _ _).alloc (Nat.le_refl _) _)) (by decide) hqg (by decide) ?_ (by simp) (by have := HR3.out.lt; omega) (by have := HG3.out.nod.lt; omega) (by omega)).mono ?_
  · intro j hj
    have hj' : j = 0 ∨ j = 1 ∨ j = 2 ∨ j = 3 ∨ j = 4 := by omega
    rcases hj' with rfl | rfl | rfl | rfl | rfl <;> exact cell_of_row _ _ _ _ _ (0, 0) (heap_alloc_new w3 _)
  rintro e w4 ⟨rfl, hrd, hcs, hbut⟩
  have HG4 : Hid (GI w r g (upd zI 0 (c32 (Nd.pa l).2)) w4) := (HG3.out.step ((Below.refl _ _).alloc (Nat.le_refl _) _)).but hbut Hq.out hqr hcs
  have HR4 : Hid (Rd w4 q (Nd.pa l).1.1 (Nd.pa l).1.2) := hrd
  clear hrd hcs hbut HG3 HR3
  go_wp2_with fail
  refine (readAll64 (w4.alloc (.cells #[.pointer (some ⟨g, 5, none⟩), .pointer (some ⟨g, 6, none⟩), .pointer (some ⟨g, 7, none⟩)] 69)) q (Nd.pa l).1 g 5 (upd zI 0 (c32 (Nd.pa l).2)) 26 w4.heap.size 3 3 (HR4.out.kept ((Below.refl _ _).alloc (Nat.le_refl _) _)) (HG4.out.nod.below ((Below.refl _ _).alloc (Nat.le_refl _) _)) (by decide) hqg (by rw [upd_length _ _ _ (by unfold c32; rw [List.length_map, Nd.pa, Nd.rds_len]; decide)]; decide) ?_ (by simp) (by have := HR4.out.lt; omega) (by have := HG4.out.nod.lt; omega) (by omega)).mono ?_
  · intro j hj
    have hj' : j = 0 ∨ j = 1 ∨ j = 2 := by omega
    rcases hj' with rfl | rfl | rfl <;> exact cell_of_row _ _ _ _ _ (0, 0) (heap_alloc_new w4 _)
  rintro e w5 ⟨rfl, hrd, hcs, hbut⟩
  have HG5 : Hid (GI w r g (upd (upd zI 0 (c32 (Nd.pa l).2)) 5 (c64 (Nd.pb l).2)) w5) := (HG4.out.step ((Below.refl _ _).alloc (Nat.le_refl _) _)).but hbut Hq.out hqr hcs
  have HR5 : Hid (Rd w5 q (Nd.pb l).1.1 (Nd.pb l).1.2) := hrd
  clear hrd hcs hbut HG4 HR4
  rw [cells_I (Nd.pa l).2 (Nd.pb l).2 (Nd.rds_len 4 5 _) (Nd.rds_len 8 3 _)] at HG5
  go_wp2_with fail
  refine (u32r w5 q (Nd.pb l).1.1 (Nd.pb l).1.2 HR5.out).mono ?_
  rintro e w6 ⟨rfl, hrd, hgb⟩
  have HG6 : Hid (GI w r g (nI (Nd.raw l) (.slice none 0 0)) w6) := HG5.out.one hgb Hq.out hqr hqg
  have HR6 : Hid (Rd w6 q (Nd.pc l).1.1 (Nd.pc l).1.2) := hrd
  have HV : Hid ((rdN 4 ((Nd.pb l).1.1, (Nd.pb l).1.2)).2 = (Nd.pc l).2) := rfl
  rw [HV.out]
  clear hrd hgb HG5 HR5 HV
  have hx32 : (Nd.pc l).2 < 4294967296 := Nd.rdN_lt 4 _
  obtain ⟨x, hx⟩ : ∃ x, (Nd.pc l).2 = x := ⟨_, rfl⟩
  have Hx := Lib.hid hx
  rw [hx] at hx32 ⊢
  clear hx
  by_cases h8 : 8 < x
  · have HE : Hid (Nd.err l = 13) := by
      show _ = _
      unfold Nd.err
      rw [if_neg Hne.out, if_pos (by rw [Hx.out]; exact h8)]
    have hd : decide ((8 : Int) < (x : Int)) = true := by simp; omega
    clear h8
    go_wp2_with (first
      | (refine Did.list rfl (did_build 26 #[] rfl #[.int .u32 0, .int .u32 0, .int .u32 0, .int .u32 0, .int .u32 0, .int .u64 0, .int .u64 0, .int .u64 0, .slice none 0 0] built_I) ?_)
      | (refine wpList_store_any rfl 26 (.tmp 2) (.tmp 34) rfl r #[.int .u32 0, .int .u32 0, .int .u32 0, .int .u32 0, .int .u32 0, .int .u64 0, .int .u64 0, .int .u64 0, .slice none 0 0] rfl rfl 26 _ HG6.out.res size_I rfl (by simp [Value.oneCell']) ?_
         intro w7 hb7 hs7 hw7
         have HB7 := Lib.hid hb7
         have HW7 : Hid (Below w.heap.size w w7) := HG6.out.bel.trans (Keep.below (hw7.mono fun k hk => by have := HG6.out.lr; omega))
         clear hb7 hs7 hw7))
    exact bodyPost_ret (results_I rfl _ w7 r _ HB7.out size_I (by rfl) (by rfl) Try.underlying26) rfl (GetP.no HE.out (.inl (by decide)) HW7.out)
  have hd : decide ((8 : Int) < (x : Int)) = false := by simp; omega
  go_wp2_with fail
  clear hd
  go_loopw [36] (fun i wr => ∃ k : Nat, k ≤ x ∧ i = .int .u32 k ∧ Hid (∃ B c, GL w r g q (Nd.raw l) l k B c wr)) (fun i _ => x - (intOf i).toNat)
  case atStart => exact ⟨0, by omega, rfl, none, 0, HG6.out, HR6.out, World.ownsRow_nil _ _ _ _⟩
  case round =>
    obtain ⟨k, hk, rfl, HL⟩ := hrel
    obtain ⟨B, c, hgl⟩ := HL.out
    have H := Lib.hid hgl
    clear HL hgl
    by_cases hlt : k < x
    · have wk : IntKind.u32.wrap ((k : Int) + 1) = (k : Int) + 1 := by rw [IntKind.wrap_u32]; omega
      go_upto_region 12 with (fail)
      refine wp_region_held_drew (S := fun _ : World => True) (by kernel_rfl) trivial (fun _ => ?_)
      change wpAnyH _ _ _ _ _ 8 (Array.replicate 8 false) _ _
      have HS : Hid True := trivial
      have HC : Hid (wr.drew.cell? ⟨g, 8, none⟩ = some (.slice B k c)) := H.out.c8
      refine takeH (i := 0) 38 (.pointer (some ⟨g, 8, none⟩)) rfl rfl (by kernel_rfl) (by kernel_rfl) (by kernel_rfl) (fun _ _ _ h => h) (.inl ⟨by rfl, fun W hW => by go_simp⟩) HS.out ?_
      simp only [Act.put, List.setIfInBounds_toArray, List.set_cons_zero, List.set_cons_succ]
      refine takeH (i := 2) 40 (.pointer (some ⟨q, 0, none⟩)) rfl rfl (by kernel_rfl) (by kernel_rfl) (by kernel_rfl) (fun _ _ _ h => h) (.inl ⟨by rfl, fun W hW => by go_simp⟩) HS.out ?_
      simp only [Act.put, List.setIfInBounds_toArray, List.set_cons_zero, List.set_cons_succ]
      refine wpAnyH_ready (rs := [1, 3]) (by kernel_rfl) (by simp) ?_
      refine AllReadyH.cons rfl (fun K hK => ?_) (AllReadyH.cons rfl (fun K hK => ?_) AllReadyH.nil)
      · have hcl := HC.out
        go_simp
        clear hcl
        refine hK.out _ _ trivial fun _ => ?_
        clear hK K
        refine wpAnyH_ready (rs := [3]) (by kernel_rfl) (by simp) ?_
        refine AllReadyH.cons rfl (fun K hK => ?_) AllReadyH.nil
        go_simp
        refine (u32r wr.drew q _ _ H.out.rd).mono ?_
        rintro e w7 ⟨rfl, hrd, hgb⟩
        have hg1 : wr.grownBy w7 (some q) := ⟨hgb.os, hgb.tape, hgb.output, hgb.size, hgb.block⟩
        have HG1 := Lib.hid hg1
        have HR1 := Lib.hid hrd
        clear hgb hrd hg1
        obtain ⟨v, hv⟩ : ∃ v, (rdN 4 (Nd.rds 4 k (Nd.pc l).1).1).2 = v := ⟨_, rfl⟩
        have hv2 : (rdN 4 ((Nd.rds 4 k (Nd.pc l).1).1.1, (Nd.rds 4 k (Nd.pc l).1).1.2)).2 = v := hv
        rw [hv2]
        have HV := Lib.hid hv
        have I1 : Hid (GI w r g (nI (Nd.raw l) (.slice B k c)) w7) := H.out.gi.one HG1.out Hq.out hqr hqg
        have HS1 : Hid (w7.cell? ⟨g, 8, none⟩ = some (.slice B k c)) := I1.out.nod.cell 8 _ rfl
        have O1 : Hid (w7.ownsRow w.heap.size 22 1 (.slice B k c) k (c32 (Nd.rds 4 k (Nd.pc l).1).2)) := own_grown H.out.own HG1.out (fun gq hgq e => by
          injection e with e
          subst e
          obtain ⟨cs, hb⟩ := H.out.rd.blk
          exact own_ne H.out.own hb (by decide) hgq)
        have HS2 : Hid ((w7.alloc (.cells #[.int .u32 (v : Int)] 22)).cell? ⟨g, 8, none⟩ = some (.slice B k c)) := (World.cell?_alloc_lt w7 _ ⟨g, 8, none⟩ I1.out.nod.lt).trans HS1.out
        clear hv hv2
        refine hK.out _ _ trivial fun _ => ?_
        clear hK K
        refine wpAnyH_ready (rs := [4]) (by kernel_rfl) (by simp) ?_
        refine AllReadyH.cons rfl (fun K hK => ?_) AllReadyH.nil
        go_simp
        refine hK.out _ _ trivial fun _ => ?_
        clear hK K
        refine wpAnyH_ready (rs := [5]) (by kernel_rfl) (by simp) ?_
        refine AllReadyH.cons rfl (fun K hK => ?_) AllReadyH.nil
        refine step_append_lies _ (by rfl) _ _ _ (by rfl) w.heap.size 22 i0 _ 1 4 Try.underlying24 hi0 hz0 hz1 hz2 rfl (by omega) _ k _ (by rfl) (O1.out.alloc _)
          ⟨w7.heap.size, 0, none⟩ 1 1 [_] (by rfl) (by rfl) (World.news_of_block (cs := #[_]) (t := 22) (fr := (0, 0)) (heap_alloc_new w7 _)) (by simp [Value.oneCell'])
          (by omega) (by unfold maxLen; omega) (by omega) (by have := I1.out.bel.size; simp; omega) (w7.heap.size + 1) (by simp) ?_
        intro gg cap w8 hown hgrow hat hlt1
        have hng : (Value.slice B k c).ownBlock ≠ some g := own_ne (O1.out.alloc _) (I1.out.nod.below ((Below.refl _ _).alloc (Nat.le_refl _) (.cells #[.int .u32 (v : Int)] 22))) (by decide)
        have c8 : w8.cell? ⟨g, 8, none⟩ = some (.slice B k c) := (hgrow.cell_far ⟨g, 8, none⟩ (by have := I1.out.nod.lt; simp; omega) (fun e => hng e.symm)).trans HS2.out
        have f8 : w8.frozen? ⟨g, 8, none⟩ = false := (hgrow.frozen_far ⟨g, 8, none⟩ (by have := I1.out.nod.lt; simp; omega) (fun e => hng e.symm)).trans ((World.frozen?_alloc_past _ _ _ I1.out.nod.lt).trans (I1.out.nod.froz 8))
        have HN := Lib.hid (H.out.next Hq.out HG1.out HR1.out HV.out hown hgrow)
        refine hK.out _ _ trivial fun _ => ?_
        clear hK K hown hgrow hat hlt1 hng
        simp only [Act.put]
        refine wpAnyH_ready (rs := [6]) (by kernel_rfl) (by simp) ?_
        refine AllReadyH.cons rfl (fun K hK => ?_) AllReadyH.nil
        go_simp
        refine hK.out _ _ trivial fun _ => ?_
        clear hK K
        refine wpAnyH_ready (rs := [7]) (by kernel_rfl) (by simp) ?_
        refine AllReadyH.cons rfl (fun K hK => ?_) AllReadyH.nil
        go_simp
        refine hK.out _ _ trivial fun _ => ?_
        clear hK K c8 f8
        refine wpAnyH_done (by kernel_rfl) ?_ _
        go_wp2
        go_roundw
        case rel => exact ⟨k + 1, by omega, by go_num, ⟨_, _, HN.out⟩⟩
        case measure => simp [intOf]; omega
      · go_simp
        refine (u32r wr.drew q _ _ H.out.rd).mono ?_
        rintro e w7 ⟨rfl, hrd, hgb⟩
        have hg1 : wr.grownBy w7 (some q) := ⟨hgb.os, hgb.tape, hgb.output, hgb.size, hgb.block⟩
        have HG1 := Lib.hid hg1
        have HR1 := Lib.hid hrd
        clear hgb hrd hg1
        obtain ⟨v, hv⟩ : ∃ v, (rdN 4 (Nd.rds 4 k (Nd.pc l).1).1).2 = v := ⟨_, rfl⟩
        have hv2 : (rdN 4 ((Nd.rds 4 k (Nd.pc l).1).1.1, (Nd.rds 4 k (Nd.pc l).1).1.2)).2 = v := hv
        rw [hv2]
        have HV := Lib.hid hv
        have I1 : Hid (GI w r g (nI (Nd.raw l) (.slice B k c)) w7) := H.out.gi.one HG1.out Hq.out hqr hqg
        have HS1 : Hid (w7.cell? ⟨g, 8, none⟩ = some (.slice B k c)) := I1.out.nod.cell 8 _ rfl
        have O1 : Hid (w7.ownsRow w.heap.size 22 1 (.slice B k c) k (c32 (Nd.rds 4 k (Nd.pc l).1).2)) := own_grown H.out.own HG1.out (fun gq hgq e => by
          injection e with e
          subst e
          obtain ⟨cs, hb⟩ := H.out.rd.blk
          exact own_ne H.out.own hb (by decide) hgq)
        have HS2 : Hid ((w7.alloc (.cells #[.int .u32 (v : Int)] 22)).cell? ⟨g, 8, none⟩ = some (.slice B k c)) := (World.cell?_alloc_lt w7 _ ⟨g, 8, none⟩ I1.out.nod.lt).trans HS1.out
        clear hv hv2
        refine hK.out _ _ trivial fun _ => ?_
        clear hK K
        refine wpAnyH_ready (rs := [1, 4]) (by kernel_rfl) (by simp) ?_
        refine AllReadyH.cons rfl (fun K hK => ?_) (AllReadyH.cons rfl (fun K hK => ?_) AllReadyH.nil)
        · have hcl := HS1.out
          go_simp
          clear hcl
          refine hK.out _ _ trivial fun _ => ?_
          clear hK K
          refine wpAnyH_ready (rs := [4]) (by kernel_rfl) (by simp) ?_
          refine AllReadyH.cons rfl (fun K hK => ?_) AllReadyH.nil
          go_simp
          refine hK.out _ _ trivial fun _ => ?_
          clear hK K
          refine wpAnyH_ready (rs := [5]) (by kernel_rfl) (by simp) ?_
          refine AllReadyH.cons rfl (fun K hK => ?_) AllReadyH.nil
          refine step_append_lies _ (by rfl) _ _ _ (by rfl) w.heap.size 22 i0 _ 1 4 Try.underlying24 hi0 hz0 hz1 hz2 rfl (by omega) _ k _ (by rfl) (O1.out.alloc _)
            ⟨w7.heap.size, 0, none⟩ 1 1 [_] (by rfl) (by rfl) (World.news_of_block (cs := #[_]) (t := 22) (fr := (0, 0)) (heap_alloc_new w7 _)) (by simp [Value.oneCell'])
            (by omega) (by unfold maxLen; omega) (by omega) (by have := I1.out.bel.size; simp; omega) (w7.heap.size + 1) (by simp) ?_
          intro gg cap w8 hown hgrow hat hlt1
          have hng : (Value.slice B k c).ownBlock ≠ some g := own_ne (O1.out.alloc _) (I1.out.nod.below ((Below.refl _ _).alloc (Nat.le_refl _) (.cells #[.int .u32 (v : Int)] 22))) (by decide)
          have c8 : w8.cell? ⟨g, 8, none⟩ = some (.slice B k c) := (hgrow.cell_far ⟨g, 8, none⟩ (by have := I1.out.nod.lt; simp; omega) (fun e => hng e.symm)).trans HS2.out
          have f8 : w8.frozen? ⟨g, 8, none⟩ = false := (hgrow.frozen_far ⟨g, 8, none⟩ (by have := I1.out.nod.lt; simp; omega) (fun e => hng e.symm)).trans ((World.frozen?_alloc_past _ _ _ I1.out.nod.lt).trans (I1.out.nod.froz 8))
          have HN := Lib.hid (H.out.next Hq.out HG1.out HR1.out HV.out hown hgrow)
          refine hK.out _ _ trivial fun _ => ?_
          clear hK K hown hgrow hat hlt1 hng
          simp only [Act.put]
          refine wpAnyH_ready (rs := [6]) (by kernel_rfl) (by simp) ?_
          refine AllReadyH.cons rfl (fun K hK => ?_) AllReadyH.nil
          go_simp
          refine hK.out _ _ trivial fun _ => ?_
          clear hK K
          refine wpAnyH_ready (rs := [7]) (by kernel_rfl) (by simp) ?_
          refine AllReadyH.cons rfl (fun K hK => ?_) AllReadyH.nil
          go_simp
          refine hK.out _ _ trivial fun _ => ?_
          clear hK K c8 f8
          refine wpAnyH_done (by kernel_rfl) ?_ _
          go_wp2
          go_roundw
          case rel => exact ⟨k + 1, by omega, by go_num, ⟨_, _, HN.out⟩⟩
          case measure => simp [intOf]; omega
        · go_simp
          refine hK.out _ _ trivial fun _ => ?_
          clear hK K
          refine wpAnyH_ready (rs := [1]) (by kernel_rfl) (by simp) ?_
          refine AllReadyH.cons rfl (fun K hK => ?_) AllReadyH.nil
          have hcl := HS2.out
          go_simp
          clear hcl
          refine hK.out _ _ trivial fun _ => ?_
          clear hK K
          refine wpAnyH_ready (rs := [5]) (by kernel_rfl) (by simp) ?_
          refine AllReadyH.cons rfl (fun K hK => ?_) AllReadyH.nil
          refine step_append_lies _ (by rfl) _ _ _ (by rfl) w.heap.size 22 i0 _ 1 4 Try.underlying24 hi0 hz0 hz1 hz2 rfl (by omega) _ k _ (by rfl) (O1.out.alloc _)
            ⟨w7.heap.size, 0, none⟩ 1 1 [_] (by rfl) (by rfl) (World.news_of_block (cs := #[_]) (t := 22) (fr := (0, 0)) (heap_alloc_new w7 _)) (by simp [Value.oneCell'])
            (by omega) (by unfold maxLen; omega) (by omega) (by have := I1.out.bel.size; simp; omega) (w7.heap.size + 1) (by simp) ?_
          intro gg cap w8 hown hgrow hat hlt1
          have hng : (Value.slice B k c).ownBlock ≠ some g := own_ne (O1.out.alloc _) (I1.out.nod.below ((Below.refl _ _).alloc (Nat.le_refl _) (.cells #[.int .u32 (v : Int)] 22))) (by decide)
          have c8 : w8.cell? ⟨g, 8, none⟩ = some (.slice B k c) := (hgrow.cell_far ⟨g, 8, none⟩ (by have := I1.out.nod.lt; simp; omega) (fun e => hng e.symm)).trans HS2.out
          have f8 : w8.frozen? ⟨g, 8, none⟩ = false := (hgrow.frozen_far ⟨g, 8, none⟩ (by have := I1.out.nod.lt; simp; omega) (fun e => hng e.symm)).trans ((World.frozen?_alloc_past _ _ _ I1.out.nod.lt).trans (I1.out.nod.froz 8))
          have HN := Lib.hid (H.out.next Hq.out HG1.out HR1.out HV.out hown hgrow)
          refine hK.out _ _ trivial fun _ => ?_
          clear hK K hown hgrow hat hlt1 hng
          simp only [Act.put]
          refine wpAnyH_ready (rs := [6]) (by kernel_rfl) (by simp) ?_
          refine AllReadyH.cons rfl (fun K hK => ?_) AllReadyH.nil
          go_simp
          refine hK.out _ _ trivial fun _ => ?_
          clear hK K
          refine wpAnyH_ready (rs := [7]) (by kernel_rfl) (by simp) ?_
          refine AllReadyH.cons rfl (fun K hK => ?_) AllReadyH.nil
          go_simp
          refine hK.out _ _ trivial fun _ => ?_
          clear hK K c8 f8
          refine wpAnyH_done (by kernel_rfl) ?_ _
          go_wp2
          go_roundw
          case rel => exact ⟨k + 1, by omega, by go_num, ⟨_, _, HN.out⟩⟩
          case measure => simp [intOf]; omega
    · have hkx : k = x := by omega
      subst hkx
      have HD : Hid (Nd.rds 4 k (Nd.pc l).1 = Nd.pd l) := by show _ = _; unfold Nd.pd; rw [Hx.out]
      have HF : Hid (endOf (Nd.rds 4 k (Nd.pc l).1).1.1 (Nd.rds 4 k (Nd.pc l).1).1.2 = Nd.fin l) := by show _ = _; rw [HD.out]; rfl
      have HH := Lib.hid (show ¬ 8 < (Nd.pc l).2 by rw [Hx.out]; exact h8)
      have HW := Lib.hid (Nd.wide_raw l)
      have HB : Hid ((Nd.raw l).bl = (Nd.rds 4 k (Nd.pc l).1).2) := by show _ = _; rw [HD.out]; rfl
      have HN : Hid (NS .u32 wr B k (Nd.raw l).bl) := by show NS _ _ _ _ _; rw [HB.out]; exact NS.of_own H.out.own
      clear HD HB Hx
      go_wp2_with fail
      refine (end_any wr q _ _ H.out.rd).mono ?_
      rintro e w9 ⟨rfl, rfl⟩
      rw [HF.out]
      by_cases hf : Nd.fin l = 0
      rotate_left
      · have HE : Hid (Nd.err l = Nd.fin l) := by
          show _ = _
          unfold Nd.err
          rw [if_neg Hne.out, if_neg HH.out, if_pos hf]
        have HFN := Lib.hid hf
        have hd : (Nd.fin l != 0) = true := by simpa using hf
        clear hf HF
        generalize Nd.fin l = z at *
        go_wp2_with (first
          | (refine Did.list rfl (did_build 26 #[] rfl #[.int .u32 0, .int .u32 0, .int .u32 0, .int .u32 0, .int .u32 0, .int .u64 0, .int .u64 0, .int .u64 0, .slice none 0 0] built_I) ?_)
          | (refine wpList_store_any rfl 26 (.tmp 2) (.tmp 50) rfl r #[.int .u32 0, .int .u32 0, .int .u32 0, .int .u32 0, .int .u32 0, .int .u64 0, .int .u64 0, .int .u64 0, .slice none 0 0] rfl rfl 26 _ H.out.gi.res size_I rfl (by simp [Value.oneCell']) ?_
             intro w7 hb7 hs7 hw7
             have HB7 := Lib.hid hb7
             have HW7 : Hid (Below w.heap.size w w7) := H.out.gi.bel.trans (Keep.below (hw7.mono fun k hk => by have := H.out.gi.lr; omega))
             clear hb7 hs7 hw7))
        exact bodyPost_ret (results_I rfl _ w7 r _ HB7.out size_I (by rfl) (by rfl) Try.underlying26) rfl (GetP.no HE.out (.inl HFN.out) HW7.out)
      have HE : Hid (Nd.err l = if (Nd.raw l).okB = true ∧ (Nd.raw l).blank = false then 0 else 11) := by
        show _ = _
        unfold Nd.err
        rw [if_neg Hne.out, if_neg HH.out, if_neg (by rw [hf]; simp)]
      have HGot : Hid (Nd.err l = 0 → Nd.got l = Nd.raw l) := fun h => if_pos ⟨Hne.out, h⟩
      rw [hf]
      clear hf HF HH Hne
      have HI := Lib.hid H.out.gi
      have HO := Lib.hid H.out.own
      clear H
      generalize Nd.raw l = X at *
      obtain ⟨kk, ge, li, m, s, co, oo, vv, bl⟩ := X
      have hbl : bl.length = k := HN.out.1
      have hk8 : k ≤ 8 := by omega
      have hcells : wr.heap[g]? = some (.cells #[.int .u32 (kk : Int), .int .u32 (ge : Int), .int .u32 (li : Int), .int .u32 (m : Int), .int .u32 (s : Int), .int .u64 (co : Int), .int .u64 (oo : Int), .int .u64 (vv : Int), .slice B k c] 26 (0, 0)) := HI.out.nod
      have HCE := Lib.hid hcells
      clear hcells
      go_wp2_with (first
        | (refine wpList_load_row rfl 26 (.tmp 4) rfl _ rfl 26 #[.int .u32 (kk : Int), .int .u32 (ge : Int), .int .u32 (li : Int), .int .u32 (m : Int), .int .u32 (s : Int), .int .u64 (co : Int), .int .u64 (oo : Int), .int .u64 (vv : Int), .slice B k c] (0, 0) _ HCE.out Try.underlying26 rfl size_I ?_))
      refine (check_any kk ge li m s co oo vv B k c bl wr HW.out HN.out (by omega)).mono ?_
      rintro e w10 ⟨rfl, hb10⟩
      have HI10 := Lib.hid (HI.out.step hb10)
      have HN10 := Lib.hid (HN.out.below hb10)
      have HO10 : Hid (w10.ownsRow w.heap.size 22 1 (.slice B k c) k (c32 (Nd.rds 4 k (Nd.pc l).1).2)) := own_grown HO.out (row := none) ⟨hb10.os, hb10.tape, hb10.output, hb10.size, fun j hj _ => hb10.block j hj⟩ (fun _ _ e => by cases e)
      have HC10 : Hid (w10.heap[g]? = some (.cells #[.int .u32 (kk : Int), .int .u32 (ge : Int), .int .u32 (li : Int), .int .u32 (m : Int), .int .u32 (s : Int), .int .u64 (co : Int), .int .u64 (oo : Int), .int .u64 (vv : Int), .slice B k c] 26 (0, 0))) := HI10.out.nod
      clear hb10 HI HN HO HCE
      by_cases hok : (Nd.mk kk ge li m s co oo vv bl).okB = true
      rotate_left
      · have hz : (Nd.mk kk ge li m s co oo vv bl).chk = 1 := if_neg hok
        have HE2 : Hid (Nd.err l = 11) := by show _ = _; rw [HE.out, if_neg (fun h => hok h.1)]
        rw [hz]
        clear hz hok HE
        go_wp2_with (first
          | (refine Did.list rfl (did_build 26 #[] rfl #[.int .u32 0, .int .u32 0, .int .u32 0, .int .u32 0, .int .u32 0, .int .u64 0, .int .u64 0, .int .u64 0, .slice none 0 0] built_I) ?_)
          | (refine wpList_store_any rfl 26 (.tmp 2) (.tmp 59) rfl r #[.int .u32 0, .int .u32 0, .int .u32 0, .int .u32 0, .int .u32 0, .int .u64 0, .int .u64 0, .int .u64 0, .slice none 0 0] rfl rfl 26 _ HI10.out.res size_I rfl (by simp [Value.oneCell']) ?_
             intro w7 hb7 hs7 hw7
             have HB7 := Lib.hid hb7
             have HW7 : Hid (Below w.heap.size w w7) := HI10.out.bel.trans (Keep.below (hw7.mono fun k hk => by have := HI10.out.lr; omega))
             clear hb7 hs7 hw7))
        exact bodyPost_ret (results_I rfl _ w7 r _ HB7.out size_I (by rfl) (by rfl) Try.underlying26) rfl (GetP.no HE2.out (.inl (by decide)) HW7.out)
      have hz : (Nd.mk kk ge li m s co oo vv bl).chk = 0 := if_pos hok
      have HOK := Lib.hid hok
      rw [hz]
      clear hz hok
      obtain ⟨c0, c1, c2, c3, c4, c5, c6, c7, c8⟩ := I_cells HC10.out
      have HBL : Hid (blB kk ge li m s co oo vv k = (Nd.mk kk ge li m s co oo vv bl).blank) := by show _ = _; rw [← hbl]; rfl
      have HCB := fun W => Lib.hid (blank_any kk ge li m s co oo vv B k c W HW.out.k HW.out.l HW.out.m HW.out.s HW.out.o HW.out.v)
      go_wp2_with fail
      refine ((HCB _).out).mono ?_
      rintro e w11 ⟨rfl, hb11⟩
      rw [HBL.out]
      have HI11 := Lib.hid (HI10.out.step hb11)
      have HO11 : Hid (w11.ownsRow w.heap.size 22 1 (.slice B k c) k (c32 (Nd.rds 4 k (Nd.pc l).1).2)) := own_grown HO10.out (row := none) ⟨hb11.os, hb11.tape, hb11.output, hb11.size, fun j hj _ => hb11.block j hj⟩ (fun _ _ e => by cases e)
      have HN11 := Lib.hid (HN10.out.below hb11)
      have HC11 : Hid (w11.heap[g]? = some (.cells #[.int .u32 (kk : Int), .int .u32 (ge : Int), .int .u32 (li : Int), .int .u32 (m : Int), .int .u32 (s : Int), .int .u64 (co : Int), .int .u64 (oo : Int), .int .u64 (vv : Int), .slice B k c] 26 (0, 0))) := HI11.out.nod
      clear hb11 HCB HBL c0 c1 c2 c3 c4 c5 c6 c7 c8 HI10 HO10 HN10 HC10
      by_cases hbk : (Nd.mk kk ge li m s co oo vv bl).blank = true
      · have HE2 : Hid (Nd.err l = 11) := by show _ = _; rw [HE.out, if_neg (fun h => by rw [hbk] at h; cases h.2)]
        rw [hbk]
        clear hbk HE
        go_wp2_with (first
          | (refine Did.list rfl (did_build 26 #[] rfl #[.int .u32 0, .int .u32 0, .int .u32 0, .int .u32 0, .int .u32 0, .int .u64 0, .int .u64 0, .int .u64 0, .slice none 0 0] built_I) ?_)
          | (refine wpList_store_any rfl 26 (.tmp 2) (.tmp 59) rfl r #[.int .u32 0, .int .u32 0, .int .u32 0, .int .u32 0, .int .u32 0, .int .u64 0, .int .u64 0, .int .u64 0, .slice none 0 0] rfl rfl 26 _ HI11.out.res size_I rfl (by simp [Value.oneCell']) ?_
             intro w7 hb7 hs7 hw7
             have HB7 := Lib.hid hb7
             have HW7 : Hid (Below w.heap.size w w7) := HI11.out.bel.trans (Keep.below (hw7.mono fun k hk => by have := HI11.out.lr; omega))
             clear hb7 hs7 hw7))
        exact bodyPost_ret (results_I rfl _ w7 r _ HB7.out size_I (by rfl) (by rfl) Try.underlying26) rfl (GetP.no HE2.out (.inl (by decide)) HW7.out)
      have hbk : (Nd.mk kk ge li m s co oo vv bl).blank = false := by simpa using hbk
      have HE2 : Hid (Nd.err l = 0) := by show _ = _; rw [HE.out, if_pos ⟨HOK.out, hbk⟩]
      have HG := Lib.hid (HGot.out HE2.out)
      rw [hbk]
      clear hbk HE HGot
      go_wp2_with (first
        | (refine wpList_load_row rfl 26 (.tmp 4) rfl _ rfl 26 #[.int .u32 (kk : Int), .int .u32 (ge : Int), .int .u32 (li : Int), .int .u32 (m : Int), .int .u32 (s : Int), .int .u64 (co : Int), .int .u64 (oo : Int), .int .u64 (vv : Int), .slice B k c] (0, 0) _ HC11.out Try.underlying26 rfl size_I ?_)
        | (refine wpList_store_any rfl 26 (.tmp 2) (.tmp 60) rfl r #[.int .u32 (kk : Int), .int .u32 (ge : Int), .int .u32 (li : Int), .int .u32 (m : Int), .int .u32 (s : Int), .int .u64 (co : Int), .int .u64 (oo : Int), .int .u64 (vv : Int), .slice B k c] rfl rfl 26 _ HI11.out.res size_I rfl (by simp [Value.oneCell']) ?_
           intro w7 hb7 hs7 hw7
           have HB7 := Lib.hid hb7
           have HW7 : Hid (Below w.heap.size w w7) := HI11.out.bel.trans (Keep.below (hw7.mono fun k hk => by have := HI11.out.lr; omega))
           have HN7 : Hid (NS .u32 w7 B k bl) := HN11.out.off (own_ne HO11.out HI11.out.res (by decide)) (fun j _ hj => hw7.block j hj)
           clear hb7 hs7 hw7))
      refine bodyPost_ret (results_I rfl _ w7 r _ HB7.out size_I (by rfl) (by rfl) Try.underlying26) rfl ?_
      unfold GetP
      rw [HG.out, HE2.out]
      refine ⟨B, c, ?_, ?_, HW7.out⟩
      · rw [hbl]
        rfl
      · show NS .u32 w7 B bl.length bl
        rw [hbl]
        exact HN7.out
end Go.Proofs.Ytkgpgaanodmpiaa
