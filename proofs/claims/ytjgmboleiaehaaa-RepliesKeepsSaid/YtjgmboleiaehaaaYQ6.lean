/-
  TwoT transactions beside each other; the law's example (layer 10).
  Contract of the document's example (layer 14): it holds, and leaves all memory that was there alone.
  append onto a row of bytes of one's own: the row ahead of it reads as it did (layer 14).
  Entries that came in (layer 8).
  Calls and replies that came in (layer 9).
  What DirRemoves needs of entries, plain: the letters that are there, in order (layer 8).
  DirRemoves walked (layer 8).
  What DirAdds needs of entries, plain (layer 8).
  Contracts of the reference's Name and Find (layer 8).
  Contract of the reference's May (layer 8).
  Contract of the document's ReadOpaque.
  Contract of the reference's Get (layer 8).
  Arguments of layer 10's laws as they came in: rows of bytes, acts.
  What TxnForks knows: a transaction whose puts are two bytes each; a row of texts of the call's own (layer 10).
  The document's answers of layer 10 (removalistref10), and the law's texts: slices of texts, New, Get.
  The document's Put (layer 10).
  All contracts of layer 14, together.
-/
import Derived.Test.YtjgmboleiaehaaaYQ5
import Derived.ProofKit
import Derived.OpenShut
import Derived.ShutString
import Derived.ChangeOld
import Derived.Deep.Slices
import Derived.Deep.Fields
import Derived.BigQuiet
import Derived.Test.YtjgmboleiaehaaaRows
import Derived.WalkKit
import Derived.Below
import Derived.Maps.AppendAt
namespace Go.Proofs.Ytjgmboleiaehaaa
open Go.RowKit

/-- TwoT transactions, both new behind W0. -/
structure T2 (W0 w : World) (p m : Nat) (x : Sl) (X : TX) (q n : Nat) (y : Sl) (Y : TX) : Prop where
  a : Tq w p m x (fun z => W0.heap.size ≤ z) X
  b : Tq w q n y (fun z => W0.heap.size ≤ z) Y
  bel : Below W0.heap.size W0 w
  np : p ≠ q
  nm : m ≠ n
section
variable {W0 w w' : World} {p m q n : Nat} {x y : Sl} {X Y Z : TX}
theorem T2.below (h : T2 W0 w p m x X q n y Y) (hb : Below w.heap.size w w') : T2 W0 w' p m x X q n y Y := ⟨h.a.below hb, h.b.below hb, h.bel.trans (hb.mono h.bel.size), h.np, h.nm⟩
theorem T2.drew (h : T2 W0 w p m x X q n y Y) : T2 W0 w.drew p m x X q n y Y := h.below (Below.refl _ _).drew
theorem T2.new (h : T2 W0 w p m x X q n y Y) : ∀ k, w.heap.size ≤ k → W0.heap.size ≤ k := fun _ hk => Nat.le_trans h.bel.size hk
theorem T2.qm (h : T2 W0 w p m x X q n y Y) : q ≠ m := fun e => by
  have := h.b.cells
  obtain ⟨es, c, h1, _⟩ := h.a.puts
  rw [← e, this] at h1
  simp at h1
theorem T2.pn (h : T2 W0 w p m x X q n y Y) : p ≠ n := fun e => by
  have := h.a.cells
  obtain ⟨es, c, h1, _⟩ := h.b.puts
  rw [← e, this] at h1
  simp at h1
/-- Behind a Put to the first one, .. -/
theorem T2.puta (h : T2 W0 w p m x X q n y Y) (ht : Tq w' p m x (fun z => W0.heap.size ≤ z) Z) (hc : Ch (· = m) w w') : T2 W0 w' p m x Z q n y Y :=
  ⟨ht, h.b.ch hc h.qm (fun e => h.nm e.symm), h.bel.trans (hc.below h.bel.size fun k hk => by rw [hk]; exact h.a.sm), h.np, h.nm⟩
/-- .. to the second one, .. -/
theorem T2.putb (h : T2 W0 w p m x X q n y Y) (ht : Tq w' q n y (fun z => W0.heap.size ≤ z) Z) (hc : Ch (· = n) w w') : T2 W0 w' p m x X q n y Z :=
  ⟨h.a.ch hc h.pn h.nm, ht, h.bel.trans (hc.below h.bel.size fun k hk => by rw [hk]; exact h.b.sm), h.np, h.nm⟩
/-- .. behind a Take to the first one. -/
theorem T2.taka (h : T2 W0 w p m x X q n y Y) {m' : Nat} (ht : Tq w' p m' x (fun z => W0.heap.size ≤ z) Z) (hc : Ch (· = p) w w') (hm : w.heap.size ≤ m') : T2 W0 w' p m' x Z q n y Y :=
  ⟨ht, h.b.ch hc (fun e => h.np e.symm) (fun e => h.pn e.symm), h.bel.trans (hc.below h.bel.size fun k hk => by rw [hk]; exact h.a.sp), h.np, fun e => by have := h.b.mlt; omega⟩
/-- A fork of it. -/
theorem T2.of_fork (h : Tq w p m x (fun z => W0.heap.size ≤ z) X) (hb : Below W0.heap.size W0 w) {e : Ending} (hf : ForkQ w x (fun z => W0.heap.size ≤ z) X e w') : ∃ q n, e = .returned (.pointer (some ⟨q, 0, none⟩)) ∧ T2 W0 w' p m x X q n x X := by
  obtain ⟨q, n, rfl, h1, h2, h3, h4⟩ := hf
  exact ⟨q, n, rfl, h.below h2, h1, hb.trans (h2.mono hb.size), by have := h.plt; omega, by have := h.mlt; omega⟩
end

/-- Rows in a block. -/
theorem RI.of_block {w : World} {g : Nat} {rl : List Sl} {t : TypeId} {fr : Nat × Nat} {ls : List (List UInt8)} {n : Nat} (h : w.heap[g]? = some (.cells (rl.map Sl.v).toArray t fr)) (hl : ls.length = n) (hr : rl.length = n) (hb : ∀ k (h : k < rl.length), BS w rl[k].a rl[k].n (ls.getD k []) ∧ rl[k].n ≤ big47) : RI w (some ⟨g, 0, none⟩) n ls :=
  ⟨hl, fun _ => ⟨g, 0, rfl, fun k hk => by
    have hk' : k < rl.length := by omega
    refine ⟨rl[k], ?_, (hb k hk').1, (hb k hk').2⟩
    rw [Nat.zero_add, cell_of_row _ _ _ _ _ _ h]
    simp [hk', Sl.v]⟩⟩
/-- Of a row of one write. -/
theorem WR.one {W : World} {base : Nat} {A : Option Addr} {c k : Nat} {b : List UInt8} {sl : List Sl} (h : WR W base A c [(k, b)] sl) : ∃ g, ∃ s : Sl, sl = [s] ∧ A = some ⟨g, 0, none⟩ ∧ base ≤ g ∧ W.cell? ⟨g, 0, none⟩ = some (.int .i64 (k : Int)) ∧ W.cell? ⟨g, 1, none⟩ = some (.slice s.a s.n s.c) ∧ BS W s.a s.n b ∧ s.n ≤ s.c ∧ (0 < s.n → ∀ ad, s.a = some ad → base ≤ ad.block) := by
  obtain ⟨s, rfl⟩ : ∃ s, sl = [s] := by
    have := h.len
    match sl, this with
    | [s], _ => exact ⟨s, rfl⟩
  rcases h.row.2 with ⟨_, h0⟩ | ⟨g, cap, cur, e1, h2, h3, _⟩
  · simp at h0
  · injection e1 with e1
    subst e1
    have cell : ∀ j v, (wv (k : Int) s)[j]? = some v → W.cell? ⟨g, j, none⟩ = some v := fun j v hv => by
      have := h.row.cells (g := g) rfl j v (by simpa [wcs] using hv)
      rwa [add_plain, Nat.zero_add] at this
    exact ⟨g, s, rfl, rfl, h2, cell 0 _ rfl, cell 1 _ rfl, h.bs 0 (by simp), h.cap 0 (by simp), h.own 0 (by simp)⟩

/-- '[]byte("..")': a constant's row. -/
theorem conv_const (W : World) (C : Array Value) (n c B : Nat) (h : B = W.heap.size) : (convert 38 38 (.slice (some ⟨B, 0, none⟩) n c)).run Try.prog (W.alloc (.cells C 5)) = .ok (.slice (some ⟨B, 0, none⟩) n c) (W.alloc (.cells C 5 (C.size, C.size + 1))) := by
  subst h
  exact Lib.run_convert_bytes_const (P := Try.prog) W 38 5 C n c Try.underlying38 Try.underlying5
/-- The blocks of the example. -/
def exL : List (List UInt8) := [[], [97], [98]]
def exX : TX := (TX.new exL).put 2 [120]
theorem exX_chs : exX.chs 3 = [(2, [120])] := by rfl
theorem exY_chs : (exX.put 2 [98]).chs 3 = [] := by rfl
theorem exX_get : exX.get 1 = [97] := by rfl
theorem ex_rows (w : World) : RI (((w.alloc (.cells #[.int .u8 97] 5 (1, 2))).alloc (.cells #[.int .u8 98] 5 (1, 2))).alloc (.cells #[.slice none 0 0, .slice (some ⟨w.heap.size, 0, none⟩) 1 1, .slice (some ⟨w.heap.size + 1, 0, none⟩) 1 1] 38)) (some ⟨w.heap.size + 1 + 1, 0, none⟩) 3 exL := by
  have g := heap_alloc_new ((w.alloc (.cells #[.int .u8 97] 5 (1, 2))).alloc (.cells #[.int .u8 98] 5 (1, 2))) (.cells #[.slice none 0 0, .slice (some ⟨w.heap.size, 0, none⟩) 1 1, .slice (some ⟨w.heap.size + 1, 0, none⟩) 1 1] 38)
  simp only [World.size_alloc] at g
  have b1 : BS (((w.alloc (.cells #[.int .u8 97] 5 (1, 2))).alloc (.cells #[.int .u8 98] 5 (1, 2))).alloc (.cells #[.slice none 0 0, .slice (some ⟨w.heap.size, 0, none⟩) 1 1, .slice (some ⟨w.heap.size + 1, 0, none⟩) 1 1] 38)) (some ⟨w.heap.size, 0, none⟩) 1 [97] :=
    ((BS.of_block (l := [97]) (heap_alloc_new w (.cells #[.int .u8 97] 5 (1, 2)))).alloc _).alloc _
  have b2 : BS (((w.alloc (.cells #[.int .u8 97] 5 (1, 2))).alloc (.cells #[.int .u8 98] 5 (1, 2))).alloc (.cells #[.slice none 0 0, .slice (some ⟨w.heap.size, 0, none⟩) 1 1, .slice (some ⟨w.heap.size + 1, 0, none⟩) 1 1] 38)) (some ⟨w.heap.size + 1, 0, none⟩) 1 [98] := by
    have := heap_alloc_new (w.alloc (.cells #[.int .u8 97] 5 (1, 2))) (.cells #[.int .u8 98] 5 (1, 2))
    rw [World.size_alloc] at this
    exact (BS.of_block (l := [98]) this).alloc _
  refine RI.of_block (rl := [⟨none, 0, 0⟩, ⟨some ⟨w.heap.size, 0, none⟩, 1, 1⟩, ⟨some ⟨w.heap.size + 1, 0, none⟩, 1, 1⟩]) g rfl rfl fun k hk => ?_
  match k, hk with
  | 0, _ => exact ⟨BS.nil, Nat.zero_le _⟩
  | 1, _ => exact ⟨b1, le_big47 (by show 1 ≤ _; omega)⟩
  | 2, _ => exact ⟨b2, le_big47 (by show 1 ≤ _; omega)⟩

end Go.Proofs.Ytjgmboleiaehaaa

namespace Go.Proofs.Ytjgmboleiaehaaa
open Go.RowKit Go.Shelf

def aY : Rp := ⟨2, 5, 61, 0, 0, 0, 0, 0, 0, 0, [], [], false, 0, 0⟩
def cY (c x : Nat) : Cl := ⟨c, x, 0, 0, 0, [], 0, 0, [], 0, 0, 0, 0, []⟩
theorem built_aY : Try.prog.built 41 [(0, .int .u32 2), (1, .int .u32 5), (2, .int .i64 61)] = some (rc aY (.slice none 0 0) (.slice none 0 0)).toArray := by kernel_rfl
theorem built_cY (c x : Int) : Try.prog.built 63 [(0, .int .u32 c), (1, .int .u32 x)] = some #[.int .u32 c, .int .u32 x, .int .u32 0, .int .u32 0, .int .u32 0, .string (txt []), .int .u32 0, .int .u32 0, .string (txt []), .int .u64 0, .int .u64 0, .int .u32 0, .int .u32 0, .slice none 0 0] := by kernel_rfl
theorem aY_wide : aY.Wide := ⟨by decide, by decide, by decide, by decide, by decide, by decide, by decide, by decide, by decide, by decide, by decide, fun e he => by cases he⟩
theorem aY_ok : Ry.okB aY = true := by decide +kernel
theorem x_err : Ry.err [120] = 10 := by decide +kernel
set_option maxRecDepth 100000 in
set_option maxHeartbeats 4000000 in
theorem awakeY_any (w : World) : Calls Try.prog 7 #[] w fun e w' => e = .returned (.bool true) ∧ Below w.heap.size w w' := by
  have hq := conv_const
  have HQ := Lib.hid hq
  clear hq
  go_enter Try.func7, Try.ntmps7
  have HRI := Lib.hid (RI.made w 40)
  have HBa : Hid (Below w.heap.size w (w.alloc (.cells (Array.replicate 40 (.slice none 0 0)) 38))) := (Below.refl _ _).alloc (Nat.le_refl _) _
  have hmk : ∀ W : World, (Instr.makeSlice 26 (.int .i64 40) (.int .i64 40)).run Try.prog W = .ok (.slice (some ⟨W.heap.size, 0, none⟩) 40 40) (W.alloc (.cells (Array.replicate 40 (.slice none 0 0)) 38)) := fun W => run_make_rows W 40 (by omega)
  go_wp2_with fail
  refine (new_any _ 40 40 (List.replicate 40 []) _ HRI.out (by omega)).mono ?_
  rintro en w1 ⟨h, m, p, rfl, ht, hb, _, hm⟩
  have Hw1 : Hid (TK w p m ⟨some ⟨h, 0, none⟩, 40, 40⟩ (TX.new (List.replicate 40 [])) w1) := TK.start (Below.refl _ _) (ht.mono fun k hk => Nat.le_trans HBa.out.size hk) (HBa.out.trans (hb.mono HBa.out.size))
  clear ht hb hm HBa HRI hmk
  go_wp2_with (refine Did.list rfl (did_build 41 #[(0, .const (.int .u32 2)), (1, .const (.int .u32 5)), (2, .const (.int .i64 61))] rfl _ built_aY) ?_)
  refine (putRp_any Hw1.out.tq Hw1.out.new aY none 0 0 none 0 0 aY_wide rfl rfl).mono ?_
  rintro en w2 ⟨rfl, ht, hb⟩
  have HT2 := Lib.hid (Hw1.out.put ht hb)
  have HBK : Hid (∀ j, TX.bk (Ry.pPut 40 (TX.new (List.replicate 40 [])) aY) 40 j = if j = 3 then Ry.enc aY else []) := fun j => by
    rw [Ry.pPut_bk 40 _ aY aY_ok (by omega), bk_new]
    rfl
  rw [show Ry.pErr (Sl.n ⟨some ⟨h, 0, none⟩, 40, 40⟩) aY = 0 from Ry.pErr_ok 40 aY aY_ok (by omega)]
  clear ht hb Hw1
  change Hid (∀ j, TX.bk (Ry.pPut (Sl.n ⟨some ⟨h, 0, none⟩, 40, 40⟩) (TX.new (List.replicate 40 [])) aY) 40 j = if j = 3 then Ry.enc aY else []) at HBK
  generalize Ry.pPut (Sl.n ⟨some ⟨h, 0, none⟩, 40, 40⟩) (TX.new (List.replicate 40 [])) aY = X at *
  have hbk : TX.bk X 40 (1 + 2) = Ry.enc aY := HBK.out (1 + 2)
  go_wp2_with (refine Did.list rfl (did_build 63 #[(0, .const (.int .u32 2)), (1, .const (.int .u32 5))] rfl (cc (cY 2 5) (.slice none 0 0)).toArray (by exact built_cY 2 5)) ?_)
  refine (ask_tq HT2.out.tq (cY 2 5) (.slice none 0 0) (by show (TX.bk X 40 (1 + 2)).length ≤ 2000; rw [hbk]; rw [Ry.enc_length]; omega)).mono ?_
  rintro en w3a ⟨rfl, hb⟩
  rw [show Ry.aKnown (cY 2 5).cli (cY 2 5).xid (TX.bk X (Sl.n ⟨some ⟨h, 0, none⟩, 40, 40⟩) (1 + (cY 2 5).cli)) = 1 from by show Ry.aKnown 2 5 (TX.bk X 40 (1 + 2)) = _; rw [hbk]; exact (Ry.ask_eq aY aY_wide aY_ok).1, show Ry.aRep (cY 2 5).cli (cY 2 5).xid (TX.bk X (Sl.n ⟨some ⟨h, 0, none⟩, 40, 40⟩) (1 + (cY 2 5).cli)) = aY from by show Ry.aRep 2 5 (TX.bk X 40 (1 + 2)) = _; rw [hbk]; exact (Ry.ask_eq aY aY_wide aY_ok).2]
  have HT3a := Lib.hid (HT2.out.below hb)
  clear hb hbk HT2
  go_upto_region 4 with (first
    | (refine wpList_alloc_any rfl 41 rfl _ zero_Rp ?_; intro wa hba hsa hwa)
    | (refine wpList_store_part rfl 41 (.tmp 4) (.tmp 22) rfl w3a.heap.size 0 (rc aY (.slice none 0 0) (.slice none 0 0)) rfl rfl 41 _ hba size_Rp (by simp [rc]) (rc_row _ _ _ _ _ _ _) ?_
       intro w3 hbb hsb hkb))
  have hbw : Below w3a.heap.size w3a w3 := hwa.trans (hkb.below2 (fun k hk => by omega))
  have HT3 := Lib.hid (HT3a.out.below hbw)
  have HA3 : Hid (Bw w3 w3a.heap.size (rc aY (.slice none 0 0) (.slice none 0 0)) 41) := hbb
  clear hba hsa hwa hbb hsb hkb hbw HT3a
  generalize w3a.heap.size = g at *
  have hbk : TX.bk X 40 (1 + 2) = Ry.enc aY := HBK.out (1 + 2)
  go_wp2_with (refine Did.list rfl (did_build 63 #[(0, .const (.int .u32 2)), (1, .const (.int .u32 6))] rfl (cc (cY 2 6) (.slice none 0 0)).toArray (by exact built_cY 2 6)) ?_)
  refine (ask_tq HT3.out.tq (cY 2 6) (.slice none 0 0) (by show (TX.bk X 40 (1 + 2)).length ≤ 2000; rw [hbk]; rw [Ry.enc_length]; omega)).mono ?_
  rintro en w4a ⟨rfl, hb⟩
  rw [show Ry.aKnown (cY 2 6).cli (cY 2 6).xid (TX.bk X (Sl.n ⟨some ⟨h, 0, none⟩, 40, 40⟩) (1 + (cY 2 6).cli)) = 0 from by show Ry.aKnown 2 6 (TX.bk X 40 (1 + 2)) = _; rw [hbk]; exact (Ry.ask_lt aY aY_wide aY_ok 6 (by decide)).1, show Ry.aRep (cY 2 6).cli (cY 2 6).xid (TX.bk X (Sl.n ⟨some ⟨h, 0, none⟩, 40, 40⟩) (1 + (cY 2 6).cli)) = Rp.zero from by show Ry.aRep 2 6 (TX.bk X 40 (1 + 2)) = _; rw [hbk]; exact (Ry.ask_lt aY aY_wide aY_ok 6 (by decide)).2]
  have HT4a := Lib.hid (HT3.out.below hb)
  have HA4a := Lib.hid (HA3.out.below hb)
  clear hb hbk HT3 HA3
  go_upto_region 5 with (first
    | (refine wpList_alloc_any rfl 41 rfl _ zero_Rp ?_; intro wa hba hsa hwa)
    | (refine wpList_store_part rfl 41 (.tmp 6) (.tmp 28) rfl w4a.heap.size 0 (rc Rp.zero (.slice none 0 0) (.slice none 0 0)) rfl rfl 41 _ hba size_Rp (by simp [rc]) (rc_row _ _ _ _ _ _ _) ?_
       intro w4 hbb hsb hkb))
  have hbw : Below w4a.heap.size w4a w4 := hwa.trans (hkb.below2 (fun k hk => by omega))
  have HT4 := Lib.hid (HT4a.out.below hbw)
  have HA4 := Lib.hid (HA4a.out.below hbw)
  clear hba hsa hwa hbb hsb hkb hbw HT4a HA4a
  have hbk : TX.bk X 40 (1 + 2) = Ry.enc aY := HBK.out (1 + 2)
  go_wp2_with (refine Did.list rfl (did_build 63 #[(0, .const (.int .u32 2)), (1, .const (.int .u32 4))] rfl (cc (cY 2 4) (.slice none 0 0)).toArray (by exact built_cY 2 4)) ?_)
  refine (ask_tq HT4.out.tq (cY 2 4) (.slice none 0 0) (by show (TX.bk X 40 (1 + 2)).length ≤ 2000; rw [hbk]; rw [Ry.enc_length]; omega)).mono ?_
  rintro en w5a ⟨rfl, hb⟩
  rw [show Ry.aKnown (cY 2 4).cli (cY 2 4).xid (TX.bk X (Sl.n ⟨some ⟨h, 0, none⟩, 40, 40⟩) (1 + (cY 2 4).cli)) = 2 from by show Ry.aKnown 2 4 (TX.bk X 40 (1 + 2)) = _; rw [hbk]; exact (Ry.ask_gt aY aY_wide aY_ok 4 (by decide)).1, show Ry.aRep (cY 2 4).cli (cY 2 4).xid (TX.bk X (Sl.n ⟨some ⟨h, 0, none⟩, 40, 40⟩) (1 + (cY 2 4).cli)) = Rp.zero from by show Ry.aRep 2 4 (TX.bk X 40 (1 + 2)) = _; rw [hbk]; exact (Ry.ask_gt aY aY_wide aY_ok 4 (by decide)).2]
  have HT5a := Lib.hid (HT4.out.below hb)
  have HA5a := Lib.hid (HA4.out.below hb)
  clear hb hbk HT4 HA4
  go_upto_region 6 with (first
    | (refine wpList_alloc_any rfl 41 rfl _ zero_Rp ?_; intro wa hba hsa hwa)
    | (refine wpList_store_part rfl 41 (.tmp 8) (.tmp 34) rfl w5a.heap.size 0 (rc Rp.zero (.slice none 0 0) (.slice none 0 0)) rfl rfl 41 _ hba size_Rp (by simp [rc]) (rc_row _ _ _ _ _ _ _) ?_
       intro w5 hbb hsb hkb))
  have hbw : Below w5a.heap.size w5a w5 := hwa.trans (hkb.below2 (fun k hk => by omega))
  have HT5 := Lib.hid (HT5a.out.below hbw)
  have HA5 := Lib.hid (HA5a.out.below hbw)
  clear hba hsa hwa hbb hsb hkb hbw HT5a HA5a
  have hbk : TX.bk X 40 (1 + 3) = [] := HBK.out (1 + 3)
  go_wp2_with fail
  refine (get_tq HT5.out.tq 3 (by show (TX.bk X 40 (1 + 3)).length ≤ 2000; rw [hbk]; exact Nat.zero_le _)).mono ?_
  rintro en w6a ⟨rfl, hb⟩
  rw [show TX.bk X (Sl.n ⟨some ⟨h, 0, none⟩, 40, 40⟩) (1 + 3) = [] from hbk]
  rw [show Ry.gIs 3 [] = false from by decide +kernel, show Ry.gErr 3 [] = 0 from by decide +kernel, show Ry.gRep 3 [] = Rp.zero from by decide +kernel]
  have HT6a := Lib.hid (HT5.out.below hb)
  have HA6a := Lib.hid (HA5.out.below hb)
  clear hb hbk HT5 HA5
  go_upto_region 7 with (first
    | (refine wpList_alloc_any rfl 41 rfl _ zero_Rp ?_; intro wa hba hsa hwa)
    | (refine wpList_store_part rfl 41 (.tmp 9) (.tmp 38) rfl w6a.heap.size 0 (rc Rp.zero (.slice none 0 0) (.slice none 0 0)) rfl rfl 41 _ hba size_Rp (by simp [rc]) (rc_row _ _ _ _ _ _ _) ?_
       intro w6 hbb hsb hkb))
  have hbw : Below w6a.heap.size w6a w6 := hwa.trans (hkb.below2 (fun k hk => by omega))
  have HT6 := Lib.hid (HT6a.out.below hbw)
  have HA6 := Lib.hid (HA6a.out.below hbw)
  clear hba hsa hwa hbb hsb hkb hbw HT6a HA6a
  have e0 : w6.cell? ⟨g, 0, none⟩ = some (.int .u32 2) := HA6.out.cell 0 _ rfl
  have e2 : w6.cell? ⟨g, 2, none⟩ = some (.int .i64 61) := HA6.out.cell 2 _ rfl
  go_wp2_with fail
  refine (raw_tq HT6.out.tq 2).mono ?_
  rintro en w7 ⟨A7, n7, c7, rfl, ho⟩
  have hn7 : n7 = 52 := by
    have h1 := ho.bs.1
    rw [if_pos (by decide), show TX.bk X (Sl.n ⟨some ⟨h, 0, none⟩, 40, 40⟩) (1 + 2) = Ry.enc aY from HBK.out (1 + 2), Ry.enc_length] at h1
    exact h1.symm
  subst hn7
  have HT7 := Lib.hid (HT6.out.below ho.2)
  clear ho HT6 HA6 e0 e2
  have hq := HQ.out
  have HTz : Hid (TK w p m ⟨some ⟨h, 0, none⟩, 40, 40⟩ X (w7.alloc (.cells #[.int .u8 120] 5 (1, 2)))) := HT7.out.below ((Below.refl _ _).alloc (Nat.le_refl _) _)
  have HXz : Hid (BS (w7.alloc (.cells #[.int .u8 120] 5 (1, 2))) (some ⟨w7.heap.size, 0, none⟩) 1 [120]) := BS.of_block (l := [120]) (heap_alloc_new w7 (.cells #[.int .u8 120] 5 (1, 2)))
  clear HT7
  go_wp2_with fail
  refine (setRaw_any HTz.out.tq HTz.out.new 1 _ 1 1 [120] HXz.out (by omega)).mono ?_
  rintro en w8 ⟨rfl, ht, hb⟩
  have HT8 := Lib.hid (HTz.out.put ht hb)
  rw [show Ry.srErr (Sl.n ⟨some ⟨h, 0, none⟩, 40, 40⟩) 1 [120] = 11 from by
    have h3 : Ry.sErr 1 [120] = 11 := (if_pos (by decide)).trans (if_pos ⟨by simp, by rw [x_err]; decide⟩)
    exact (if_neg (by rw [h3]; decide)).trans h3]
  clear ht hb HTz HXz hq
  go_wp2_with fail
  go_ret
  exact ⟨rfl, HT8.out.bel⟩
end Go.Proofs.Ytjgmboleiaehaaa

namespace Go.Proofs.Ytjgmboleiaehaaa
open Go.RowKit Go.Shelf

theorem wpList_append_run {P : Program} {w w' : World} {ops : Array Oper} {rest : List Oper} {o : Oper} {a : Act} {Q : Exit → Act → World → Prop} (hgd : o.guard = none) (s x : Operand) (t : TypeId)
    (ho : o.op = .call { callee := .builtin .append, args := #[s, x], argTypes := #[t, t] }) (u v v' : Value) (hs : a.eval s = u) (hx : a.eval x = v) (hr : (Builtin.append_ #[t, t] o.type #[u, v]).run P w = .ok v' w') (h : wpList P ops Q rest (a.put o.dst v') w') : wpList P ops Q (o :: rest) a w := by
  refine wpList_plain hgd fun K hK => ?_
  unfold Oper.wp execOp
  simp only [ho, resolve, invoke, builtin, Sem.run_bind, Sem.run_pure, Result.andThen_ok, List.map_toArray, List.map_cons, List.map_nil, hs, hx, hr]
  exact hK _ _ h
theorem own_growF {W0 W W' : World} {base B : Nat} {t : TypeId} {k n : Nat} {v : Value} {xs : List Value} (h : W.ownsRow base t k v n xs) (hg : W.grownBy W' v.ownBlock) (hb : Below B W0 W) (hB : B ≤ base) (hs : B ≤ W.heap.size) : Below B W0 W' :=
  hb.grown hg hs (fun j hj => Nat.le_trans hB (h.lt j hj).1)
theorem append_keep (w : World) (base : Nat) (ty : TypeId) (A0 : Option Addr) (n0 c0 : Nat) (l0 : List UInt8) (hown : w.ownsRow base 5 1 (.slice A0 n0 c0) n0 (bc l0)) (A : Option Addr) (m c : Nat) (l : List UInt8) (hr : BS w A m l) (hm : 0 < m) (hb : n0 + m ≤ 4000000) (hbase : base ≤ w.heap.size) :
    ∃ A' c' w', (Builtin.append_ #[38, 38] ty #[.slice A0 n0 c0, .slice A m c]).run Try.prog w = .ok (.slice A' (n0 + m) c') w' ∧ BS w' A' (n0 + m) (l0 ++ l) ∧ BS w' A0 n0 l0 ∧ w.grownBy w' (Value.slice A0 n0 c0).ownBlock := by
  obtain ⟨i0, hi0, hz0, hz1, hz2⟩ := info_parts info_u8
  obtain ⟨A', c', w', h1, h2, h3, _⟩ := run_append_bytes (P := Try.prog) w base 38 ty 5 i0 Try.underlying38 hi0 hz0 hz1 hz2 A0 n0 c0 l0 hown A m c l hr hb hbase
  refine ⟨A', c', w', h1, BS.of_own h2, ?_, h3⟩
  obtain ⟨b, o, rfl, _⟩ := hr.2 hm
  have hl := hr.1
  have hl0 := (BS.of_own hown).1
  have hnews : ∀ j u, (bc l)[j]? = some u → w.cell? ((⟨b, o, none⟩ : Addr).add j) = some u := hr.news rfl
  have hO := BS.of_own hown
  rcases hown.2 with ⟨_, h4⟩ | ⟨g, cap, cur, h4, _, hg, hnc, hcm, hsz, _⟩
  · subst h4
    exact ⟨hl0, fun h => absurd h (by omega)⟩
  · injection h4 with e1 _ e2
    subst e1 e2
    by_cases hroom : n0 + m ≤ c0
    · have hr2 := run_append_room (P := Try.prog) w 38 ty 5 i0 Try.underlying38 hi0 g n0 c0 cur hg ⟨b, o, none⟩ m c (bc l) (by rw [hz1, bc_length, hl]; omega) hnews (bc_one l) hroom (by rw [hz1, bc_length, hl, hsz]; omega)
      rw [h1] at hr2
      injection hr2 with e3 _
      injection e3 with e4 _ _
      have hB := (BS.of_own h2).take (k := n0) (by omega)
      rw [e4, List.take_left' hl0] at hB
      exact hB
    · have hr2 := run_append_grow (P := Try.prog) w 38 ty 5 i0 _ Try.underlying38 hi0 hz0 ⟨g, 0, none⟩ n0 c0 (bc l0) (by rw [hz1, bc_length, hl0]; omega) (hO.news rfl) ⟨b, o, none⟩ m c (bc l) (by rw [hz1, bc_length, hl]; omega) hnews (by omega) (by omega) (growslice_fits (by omega) (by rw [hz2]; omega))
      rw [h1] at hr2
      injection hr2 with _ e5
      rw [e5]
      exact hO.below (((Below.refl _ w).drew).alloc (Nat.le_refl _) _)
end Go.Proofs.Ytjgmboleiaehaaa

namespace Go.Proofs.Ytjgmboleiaehaaa
open Go.ChangeShapes Go.WideShapes Go.ChangeAt Go.RowKit

theorem wf_u64 {n : Int} (h : (Lit.int .u64 n).wf = true) : 0 ≤ n ∧ n < 18446744073709551616 := by
  simp [Lit.wf, IntKind.min, IntKind.max, IntKind.bits, IntKind.signed] at h
  omega
theorem wf_u32 {n : Int} (h : (Lit.int .u32 n).wf = true) : 0 ≤ n ∧ n < 4294967296 := by
  simp [Lit.wf, IntKind.min, IntKind.max, IntKind.bits, IntKind.signed] at h
  omega
theorem wf_i64 {n : Int} (h : (Lit.int .i64 n).wf = true) : -9223372036854775808 ≤ n ∧ n ≤ 9223372036854775807 := by
  simp [Lit.wf, IntKind.min, IntKind.max, IntKind.bits, IntKind.signed] at h
  omega
theorem four_at {cs : List Value} (h : cs.length = 4) : ∃ a b c d, cs = [a, b, c, d] := by
  match cs, h with
  | [a, b, c, d], _ => exact ⟨a, b, c, d, rfl⟩
theorem list_of {α : Type} {P : Nat → α → Prop} : ∀ n : Nat, (∀ j, j < n → ∃ a, P j a) → ∃ l : List α, l.length = n ∧ ∀ j (hj : j < l.length), P j l[j]
  | 0, _ => ⟨[], rfl, fun j hj => absurd hj (Nat.not_lt_zero _)⟩
  | n + 1, h => by
    obtain ⟨l, h1, h2⟩ := list_of n fun j hj => h j (by omega)
    obtain ⟨a, ha⟩ := h n (by omega)
    refine ⟨l ++ [a], by simp [h1], fun j hj => ?_⟩
    simp only [List.length_append, List.length_cons, List.length_nil] at hj
    rcases Nat.lt_or_ge j l.length with h3 | h3
    · rw [List.getElem_append_left h3]; exact h2 j h3
    · obtain rfl : j = l.length := by omega
      rw [List.getElem_append_right (Nat.le_refl _)]
      simp only [Nat.sub_self, List.getElem_cons_zero]
      rw [h1]; exact ha
theorem txt_data (s : ByteArray) : txt s.data.toList = s := by
  obtain ⟨⟨l⟩⟩ := s
  rfl
set_option maxRecDepth 100000 in
/-- The cells of an entry, as they came in. -/
theorem entry_cs {H : Type} {enc : TypeId × Value → H} {W : World} {m : Nat} {v0 v1 v2 v3 : Value} {d : DataW H} {p : List MemPlace} (h : DataW.trod enc Try.prog W 0 (fun _ => true) true m 91 [v0, v1, v2, v3] = some (d, p)) :
    ∃ e : En, [v0, v1, v2, v3] = ec e ∧ e.Wide ∧ e.nm.length ≤ maxLen := by
  obtain ⟨ys, n', _, _, _, hyl, hg⟩ := DataW.trod_struct Try.underlying91 h
  have k0 : DataW.trod enc Try.prog W 0 (fun _ => true) true n' 35 [v0] = ys[0]? := hg 0 _ rfl
  have k1 : DataW.trod enc Try.prog W 0 (fun _ => true) true n' 34 [v1, v2] = ys[1]? := hg 1 _ rfl
  have k2 : DataW.trod enc Try.prog W 0 (fun _ => true) true n' 9 [v3] = ys[2]? := hg 2 _ rfl
  have hys : ys.length = 3 := hyl
  obtain ⟨y0, e0⟩ : ∃ y, ys[0]? = some y := ⟨_, List.getElem?_eq_getElem (by omega)⟩
  obtain ⟨⟨y1, q1⟩, e1⟩ : ∃ y, ys[1]? = some y := ⟨_, List.getElem?_eq_getElem (by omega)⟩
  obtain ⟨y2, e2⟩ : ∃ y, ys[2]? = some y := ⟨_, List.getElem?_eq_getElem (by omega)⟩
  obtain ⟨zs, n2, _, _, _, hzl, hg2⟩ := DataW.trod_struct Try.underlying34 (k1.trans e1)
  have j0 : DataW.trod enc Try.prog W 0 (fun _ => true) true n2 31 [v1] = zs[0]? := hg2 0 _ rfl
  have j1 : DataW.trod enc Try.prog W 0 (fun _ => true) true n2 31 [v2] = zs[1]? := hg2 1 _ rfl
  have hzs : zs.length = 2 := hzl
  obtain ⟨z0, f0⟩ : ∃ y, zs[0]? = some y := ⟨_, List.getElem?_eq_getElem (by omega)⟩
  obtain ⟨z1, f1⟩ : ∃ y, zs[1]? = some y := ⟨_, List.getElem?_eq_getElem (by omega)⟩
  obtain ⟨a0, h0, _, w0⟩ := DataW.trod_int Try.underlying35 (k0.trans e0)
  obtain ⟨a1, h1, _, w1⟩ := DataW.trod_int Try.underlying31 (j0.trans f0)
  obtain ⟨a2, h2, _, w2⟩ := DataW.trod_int Try.underlying31 (j1.trans f1)
  obtain ⟨s, h3, w3⟩ : ∃ s : ByteArray, v3 = .string s ∧ s.size ≤ maxLen := by
    obtain ⟨s, h3, _, w3⟩ := DataW.trod_string Try.underlying9 (k2.trans e2)
    simp only [List.cons.injEq, and_true] at h3
    exact ⟨s, h3, w3⟩
  simp only [List.cons.injEq, and_true] at h0 h1 h2
  subst h0 h1 h2 h3
  have b0 := wf_u64 w0
  have b1 := wf_u32 w1
  have b2 := wf_u32 w2
  obtain ⟨a0, rfl⟩ := Int.eq_ofNat_of_zero_le b0.1
  obtain ⟨a1, rfl⟩ := Int.eq_ofNat_of_zero_le b1.1
  obtain ⟨a2, rfl⟩ := Int.eq_ofNat_of_zero_le b2.1
  refine ⟨⟨a0, a1, a2, s.data.toList⟩, ?_, ⟨by simp only; omega, by simp only; omega, by simp only; omega⟩, ?_⟩
  · unfold ec
    rw [txt_data]
  · have := Lib.size_eq s
    simp only
    omega
/-- Entries, as they came in. -/
structure EI (W : World) (A : Option Addr) (n : Nat) (cap : Nat) (es : List En) : Prop where
  row : ES W A n es
  wide : ∀ e ∈ es, e.Wide
  names : ∀ e ∈ es, e.nm.length ≤ maxLen
  le : n ≤ cap
  few : cap ≤ maxLen
set_option maxRecDepth 100000 in
theorem entries_in {H : Type} {enc : TypeId × Value → H} {W : World} {A : Option Addr} {n cap : Nat} {d : DataW H} {p : List MemPlace} (h : DataW.Trod enc Try.prog W 0 (fun _ => true) true 39 (.slice A n cap) d p) : ∃ es, EI W A n cap es := by
  obtain ⟨fuel, hf⟩ := h
  rcases Go.Deep.open_slice (e := 91) Try.underlying39 hf with ⟨hcs, _⟩ | ⟨a, len, c, m, n', D, Pl, hcs, _, hl, hm, hmm, _, hi⟩
  · simp [Value.cells] at hcs
    obtain ⟨rfl, rfl, rfl⟩ := hcs
    exact ⟨[], ES.nil, (fun x hx => by cases hx), (fun x hx => by cases hx), Nat.le_refl _, Nat.zero_le _⟩
  · simp [Value.cells] at hcs
    obtain ⟨rfl, rfl, rfl⟩ := hcs
    simp only [if_true] at hmm
    subst hmm
    have h4 : Try.prog.cellsOf 91 = 4 := by kernel_rfl
    rw [h4] at hi
    have main : ∀ j, j < n → ∃ e : En, (∀ i v, (ec e)[i]? = some v → W.cell? (a.add (j * 4 + i)) = some v) ∧ e.Wide ∧ e.nm.length ≤ maxLen := fun j hj => by
      obtain ⟨cs', hc, ht⟩ := hi j (by omega)
      obtain ⟨_, hlen, hat⟩ := World.cells?_some hc
      obtain ⟨v0, v1, v2, v3, rfl⟩ := four_at hlen
      obtain ⟨e, he, hw, hn⟩ := entry_cs ht
      rw [he] at hat
      refine ⟨e, fun i v hv => ?_, hw, hn⟩
      have hlt := (List.getElem?_eq_some_iff.1 hv).1
      rw [ec_length] at hlt
      have := hat i (by omega)
      rw [Go.Deep.add_add] at this
      rw [this]
      exact hv
    obtain ⟨es, he1, he2⟩ := list_of n main
    refine ⟨es, ⟨he1, fun hn => ?_⟩, fun x hx => ?_, fun x hx => ?_, hl, hm⟩
    · obtain ⟨b, o, sp⟩ := a
      obtain ⟨e0, h0, _⟩ := main 0 hn
      have h00 := h0 0 _ rfl
      have hs : sp = none := by simpa [Addr.add] using World.cell?_spot h00
      subst hs
      refine ⟨b, o, rfl, fun j hj i v hv => ?_⟩
      have := (he2 j hj).1 i v hv
      rw [add_plain] at this
      rw [Nat.add_assoc]
      exact this
    · obtain ⟨i, hi', rfl⟩ := List.getElem_of_mem hx
      exact (he2 i hi').2.1
    · obtain ⟨i, hi', rfl⟩ := List.getElem_of_mem hx
      exact (he2 i hi').2.2
set_option maxRecDepth 100000 in
/-- An entry, as it came in. -/
theorem entry_in {H : Type} {enc : TypeId × Value → H} {W : World} {base : Nat} {v : Value} {d : DataW H} {p : List MemPlace} (hv : Value.okWide Try.prog W .any base 91 v)
    (h : DataW.Trod enc Try.prog W 0 (fun _ => true) true 91 v d p) : ∃ e : En, v = .agg (ec e).toArray ∧ e.Wide ∧ e.nm.length ≤ maxLen := by
  obtain ⟨cs, rfl, hsz⟩ := okWide_struct Try.underlying91 hv
  have h4 : Try.prog.cellsOf 91 = 4 := by kernel_rfl
  obtain ⟨cl⟩ := cs
  obtain ⟨v0, v1, v2, v3, rfl⟩ := four_at (cs := cl) (by simpa using hsz.trans h4)
  obtain ⟨fuel, ht⟩ := h
  obtain ⟨e, he, hw, hn⟩ := entry_cs (enc := enc) (W := W) (v0 := v0) (v1 := v1) (v2 := v2) (v3 := v3) ht
  exact ⟨e, by rw [he], hw, hn⟩
end Go.Proofs.Ytjgmboleiaehaaa

namespace Go.Proofs.Ytjgmboleiaehaaa
open Go.ChangeShapes Go.WideShapes Go.ChangeAt Go.RowKit

section
variable {H : Type} {enc : TypeId × Value → H} {W : World} {m : Nat} {v : Value} {y : DataW H × List MemPlace}
theorem u32_cell {t : TypeId} (ht : Try.prog.underlying t = some (.int .u32)) (h : DataW.trod enc Try.prog W 0 (fun _ => true) true m t [v] = some y) : ∃ a : Nat, v = .int .u32 (a : Int) ∧ a < 4294967296 := by
  obtain ⟨a, h1, _, w1⟩ := DataW.trod_int ht h
  simp only [List.cons.injEq, and_true] at h1
  subst h1
  have b := wf_u32 w1
  obtain ⟨a, rfl⟩ := Int.eq_ofNat_of_zero_le b.1
  exact ⟨a, rfl, by omega⟩
theorem u64_cell {t : TypeId} (ht : Try.prog.underlying t = some (.int .u64)) (h : DataW.trod enc Try.prog W 0 (fun _ => true) true m t [v] = some y) : ∃ a : Nat, v = .int .u64 (a : Int) ∧ a < 18446744073709551616 := by
  obtain ⟨a, h1, _, w1⟩ := DataW.trod_int ht h
  simp only [List.cons.injEq, and_true] at h1
  subst h1
  have b := wf_u64 w1
  obtain ⟨a, rfl⟩ := Int.eq_ofNat_of_zero_le b.1
  exact ⟨a, rfl, by omega⟩
theorem i64_cell {t : TypeId} (ht : Try.prog.underlying t = some (.int .i64)) (h : DataW.trod enc Try.prog W 0 (fun _ => true) true m t [v] = some y) : ∃ a : Int, v = .int .i64 a ∧ -9223372036854775808 ≤ a ∧ a ≤ 9223372036854775807 := by
  obtain ⟨a, h1, _, w1⟩ := DataW.trod_int ht h
  simp only [List.cons.injEq, and_true] at h1
  subst h1
  exact ⟨a, rfl, wf_i64 w1⟩
theorem bool_cell {t : TypeId} (ht : Try.prog.underlying t = some .bool) (h : DataW.trod enc Try.prog W 0 (fun _ => true) true m t [v] = some y) : ∃ b : Bool, v = .bool b := by
  obtain ⟨a, h1, _⟩ := DataW.trod_bool ht h
  simp only [List.cons.injEq, and_true] at h1
  exact ⟨a, h1⟩
theorem str_cell {t : TypeId} (ht : Try.prog.underlying t = some .string) (h : DataW.trod enc Try.prog W 0 (fun _ => true) true m t [v] = some y) : ∃ l : List UInt8, v = .string (txt l) ∧ l.length ≤ maxLen := by
  obtain ⟨s, h1, _, w1⟩ := DataW.trod_string ht h
  simp only [List.cons.injEq, and_true] at h1
  subst h1
  refine ⟨s.data.toList, by rw [txt_data], ?_⟩
  have := Lib.size_eq s
  omega
set_option maxRecDepth 100000 in
theorem hdl_cells {v0 v1 : Value} (h : DataW.trod enc Try.prog W 0 (fun _ => true) true m 34 [v0, v1] = some y) : ∃ a b : Nat, [v0, v1] = hc a b ∧ a < 4294967296 ∧ b < 4294967296 := by
  obtain ⟨zs, n2, _, _, _, hzl, hg2⟩ := DataW.trod_struct Try.underlying34 h
  have j0 : DataW.trod enc Try.prog W 0 (fun _ => true) true n2 31 [v0] = zs[0]? := hg2 0 _ rfl
  have j1 : DataW.trod enc Try.prog W 0 (fun _ => true) true n2 31 [v1] = zs[1]? := hg2 1 _ rfl
  have hzs : zs.length = 2 := hzl
  obtain ⟨z0, f0⟩ : ∃ y, zs[0]? = some y := ⟨_, List.getElem?_eq_getElem (by omega)⟩
  obtain ⟨z1, f1⟩ : ∃ y, zs[1]? = some y := ⟨_, List.getElem?_eq_getElem (by omega)⟩
  obtain ⟨a, rfl, ha⟩ := u32_cell Try.underlying31 (j0.trans f0)
  obtain ⟨b, rfl, hb⟩ := u32_cell Try.underlying31 (j1.trans f1)
  exact ⟨a, b, rfl, ha, hb⟩
set_option maxRecDepth 100000 in
theorem att_cells {v0 v1 v2 v3 v4 : Value} (h : DataW.trod enc Try.prog W 0 (fun _ => true) true m 37 [v0, v1, v2, v3, v4] = some y) : ∃ a b c d e : Nat, [v0, v1, v2, v3, v4] = ac a b c d e ∧ a < 4294967296 ∧ b < 4294967296 ∧ c < 4294967296 ∧ d < 4294967296 ∧ e < 18446744073709551616 := by
  obtain ⟨zs, n2, _, _, _, hzl, hg2⟩ := DataW.trod_struct Try.underlying37 h
  have j0 : DataW.trod enc Try.prog W 0 (fun _ => true) true n2 31 [v0] = zs[0]? := hg2 0 _ rfl
  have j1 : DataW.trod enc Try.prog W 0 (fun _ => true) true n2 31 [v1] = zs[1]? := hg2 1 _ rfl
  have j2 : DataW.trod enc Try.prog W 0 (fun _ => true) true n2 31 [v2] = zs[2]? := hg2 2 _ rfl
  have j3 : DataW.trod enc Try.prog W 0 (fun _ => true) true n2 31 [v3] = zs[3]? := hg2 3 _ rfl
  have j4 : DataW.trod enc Try.prog W 0 (fun _ => true) true n2 35 [v4] = zs[4]? := hg2 4 _ rfl
  have hzs : zs.length = 5 := hzl
  obtain ⟨z0, f0⟩ : ∃ y, zs[0]? = some y := ⟨_, List.getElem?_eq_getElem (by omega)⟩
  obtain ⟨z1, f1⟩ : ∃ y, zs[1]? = some y := ⟨_, List.getElem?_eq_getElem (by omega)⟩
  obtain ⟨z2, f2⟩ : ∃ y, zs[2]? = some y := ⟨_, List.getElem?_eq_getElem (by omega)⟩
  obtain ⟨z3, f3⟩ : ∃ y, zs[3]? = some y := ⟨_, List.getElem?_eq_getElem (by omega)⟩
  obtain ⟨z4, f4⟩ : ∃ y, zs[4]? = some y := ⟨_, List.getElem?_eq_getElem (by omega)⟩
  obtain ⟨a, rfl, ha⟩ := u32_cell Try.underlying31 (j0.trans f0)
  obtain ⟨b, rfl, hb⟩ := u32_cell Try.underlying31 (j1.trans f1)
  obtain ⟨c, rfl, hc⟩ := u32_cell Try.underlying31 (j2.trans f2)
  obtain ⟨d, rfl, hd⟩ := u32_cell Try.underlying31 (j3.trans f3)
  obtain ⟨e, rfl, he⟩ := u64_cell Try.underlying35 (j4.trans f4)
  exact ⟨a, b, c, d, e, rfl, ha, hb, hc, hd, he⟩
theorem bytes_cell (h : DataW.trod enc Try.prog W 0 (fun _ => true) true m 38 [v] = some y) : ∃ (A : Option Addr) (n cp : Nat) (l : List UInt8), v = .slice A n cp ∧ BS W A n l ∧ n ≤ maxLen := by
  rcases open_ints Try.underlying38 Try.underlying5 (by kernel_rfl) h with ⟨hcs, _⟩ | ⟨x, l, cap, zs, hcs, _, hl, hm, hz, _, hcell, hwz⟩
  · simp only [List.cons.injEq, and_true] at hcs
    exact ⟨none, 0, 0, [], hcs, BS.nil, Nat.zero_le _⟩
  · simp only [List.cons.injEq, and_true] at hcs
    have hr : IsRow .u8 W (some x) l cap zs := .inr ⟨_, rfl, hl, hm, by simpa using hz, hcell, hwz⟩
    obtain ⟨xs, h1⟩ := hr.bs
    exact ⟨some x, l, cap, xs, hcs, h1, Nat.le_trans hl hm⟩
theorem entries_cell (h : DataW.trod enc Try.prog W 0 (fun _ => true) true m 39 [v] = some y) : ∃ (A : Option Addr) (n cp : Nat) (es : List En), v = .slice A n cp ∧ EI W A n cp es := by
  obtain ⟨d, p⟩ := y
  have hs : ∃ A n cp, v = .slice A n cp := by
    rcases Go.Deep.open_slice (e := 91) Try.underlying39 h with ⟨hcs, _⟩ | ⟨a, len, c, _, _, _, _, hcs, _⟩
    · simp only [List.cons.injEq, and_true] at hcs
      exact ⟨_, _, _, hcs⟩
    · simp only [List.cons.injEq, and_true] at hcs
      exact ⟨_, _, _, hcs⟩
  obtain ⟨A, n, cp, rfl⟩ := hs
  obtain ⟨es, he⟩ := entries_in (enc := enc) (W := W) ⟨m, h⟩
  exact ⟨A, n, cp, es, rfl, he⟩
end
/-- A call, as it came in. -/
structure CI (W : World) (v : Value) (c : Cl) (A : Option Addr) (n cp : Nat) : Prop where
  val : v = .agg (cc c (.slice A n cp)).toArray
  data : BS W A n c.dt
  wide : c.Wide
  nm : c.nm.length ≤ maxLen
  tn : c.tn.length ≤ maxLen
  few : n ≤ maxLen
/-- A reply, as it came in. -/
structure RI9 (W : World) (v : Value) (r : Rp) (A : Option Addr) (n cp : Nat) (B : Option Addr) (m cq : Nat) : Prop where
  val : v = .agg (rc r (.slice A n cp) (.slice B m cq)).toArray
  data : BS W A n r.dt
  ent : EI W B m cq r.es
  wide : r.Wide
  st : -9223372036854775808 ≤ r.st ∧ r.st ≤ 9223372036854775807
  few : n ≤ maxLen
theorem at14 {cs : List Value} (h : cs.length = 14) : ∃ a b c d e f g i j k l m n o, cs = [a, b, c, d, e, f, g, i, j, k, l, m, n, o] := by
  match cs, h with
  | [a, b, c, d, e, f, g, i, j, k, l, m, n, o], _ => exact ⟨a, b, c, d, e, f, g, i, j, k, l, m, n, o, rfl⟩
theorem at15 {cs : List Value} (h : cs.length = 15) : ∃ a b c d e f g i j k l m n o p, cs = [a, b, c, d, e, f, g, i, j, k, l, m, n, o, p] := by
  match cs, h with
  | [a, b, c, d, e, f, g, i, j, k, l, m, n, o, p], _ => exact ⟨a, b, c, d, e, f, g, i, j, k, l, m, n, o, p, rfl⟩
set_option maxRecDepth 100000 in
theorem call_in {H : Type} {enc : TypeId × Value → H} {W : World} {base : Nat} {v : Value} {d : DataW H} {p : List MemPlace} (hv : Value.okWide Try.prog W .any base 63 v)
    (h : DataW.Trod enc Try.prog W 0 (fun _ => true) true 63 v d p) : ∃ c A n cp, CI W v c A n cp := by
  obtain ⟨cs, rfl, hsz⟩ := okWide_struct Try.underlying63 hv
  have hN : Try.prog.cellsOf 63 = 14 := by kernel_rfl
  obtain ⟨cl⟩ := cs
  obtain ⟨v0, v1, v2, v3, v4, v5, v6, v7, v8, v9, v10, v11, v12, v13, rfl⟩ := at14 (cs := cl) (by simpa using hsz.trans hN)
  obtain ⟨fuel, ht⟩ := h
  obtain ⟨ys, n', _, _, _, hyl, hg⟩ := DataW.trod_struct Try.underlying63 ht
  have k0 : DataW.trod enc Try.prog W 0 (fun _ => true) true n' 31 [v0] = ys[0]? := hg 0 _ rfl
  have k1 : DataW.trod enc Try.prog W 0 (fun _ => true) true n' 31 [v1] = ys[1]? := hg 1 _ rfl
  have k2 : DataW.trod enc Try.prog W 0 (fun _ => true) true n' 31 [v2] = ys[2]? := hg 2 _ rfl
  have k3 : DataW.trod enc Try.prog W 0 (fun _ => true) true n' 34 [v3, v4] = ys[3]? := hg 3 _ rfl
  have k4 : DataW.trod enc Try.prog W 0 (fun _ => true) true n' 9 [v5] = ys[4]? := hg 4 _ rfl
  have k5 : DataW.trod enc Try.prog W 0 (fun _ => true) true n' 34 [v6, v7] = ys[5]? := hg 5 _ rfl
  have k6 : DataW.trod enc Try.prog W 0 (fun _ => true) true n' 9 [v8] = ys[6]? := hg 6 _ rfl
  have k7 : DataW.trod enc Try.prog W 0 (fun _ => true) true n' 35 [v9] = ys[7]? := hg 7 _ rfl
  have k8 : DataW.trod enc Try.prog W 0 (fun _ => true) true n' 35 [v10] = ys[8]? := hg 8 _ rfl
  have k9 : DataW.trod enc Try.prog W 0 (fun _ => true) true n' 31 [v11] = ys[9]? := hg 9 _ rfl
  have k10 : DataW.trod enc Try.prog W 0 (fun _ => true) true n' 31 [v12] = ys[10]? := hg 10 _ rfl
  have k11 : DataW.trod enc Try.prog W 0 (fun _ => true) true n' 38 [v13] = ys[11]? := hg 11 _ rfl
  have hys : ys.length = 12 := hyl
  obtain ⟨y0, e0⟩ : ∃ y, ys[0]? = some y := ⟨_, List.getElem?_eq_getElem (by omega)⟩
  obtain ⟨y1, e1⟩ : ∃ y, ys[1]? = some y := ⟨_, List.getElem?_eq_getElem (by omega)⟩
  obtain ⟨y2, e2⟩ : ∃ y, ys[2]? = some y := ⟨_, List.getElem?_eq_getElem (by omega)⟩
  obtain ⟨y3, e3⟩ : ∃ y, ys[3]? = some y := ⟨_, List.getElem?_eq_getElem (by omega)⟩
  obtain ⟨y4, e4⟩ : ∃ y, ys[4]? = some y := ⟨_, List.getElem?_eq_getElem (by omega)⟩
  obtain ⟨y5, e5⟩ : ∃ y, ys[5]? = some y := ⟨_, List.getElem?_eq_getElem (by omega)⟩
  obtain ⟨y6, e6⟩ : ∃ y, ys[6]? = some y := ⟨_, List.getElem?_eq_getElem (by omega)⟩
  obtain ⟨y7, e7⟩ : ∃ y, ys[7]? = some y := ⟨_, List.getElem?_eq_getElem (by omega)⟩
  obtain ⟨y8, e8⟩ : ∃ y, ys[8]? = some y := ⟨_, List.getElem?_eq_getElem (by omega)⟩
  obtain ⟨y9, e9⟩ : ∃ y, ys[9]? = some y := ⟨_, List.getElem?_eq_getElem (by omega)⟩
  obtain ⟨y10, e10⟩ : ∃ y, ys[10]? = some y := ⟨_, List.getElem?_eq_getElem (by omega)⟩
  obtain ⟨y11, e11⟩ : ∃ y, ys[11]? = some y := ⟨_, List.getElem?_eq_getElem (by omega)⟩
  obtain ⟨a0, rfl, b0⟩ := u32_cell Try.underlying31 (k0.trans e0)
  obtain ⟨a1, rfl, b1⟩ := u32_cell Try.underlying31 (k1.trans e1)
  obtain ⟨a2, rfl, b2⟩ := u32_cell Try.underlying31 (k2.trans e2)
  obtain ⟨a3, a4, s3, b3, b3'⟩ := hdl_cells (k3.trans e3)
  simp only [hc, List.cons.injEq, and_true] at s3
  obtain ⟨rfl, rfl⟩ := s3
  obtain ⟨l5, rfl, b4⟩ := str_cell Try.underlying9 (k4.trans e4)
  obtain ⟨a6, a7, s5, b5, b5'⟩ := hdl_cells (k5.trans e5)
  simp only [hc, List.cons.injEq, and_true] at s5
  obtain ⟨rfl, rfl⟩ := s5
  obtain ⟨l8, rfl, b6⟩ := str_cell Try.underlying9 (k6.trans e6)
  obtain ⟨a9, rfl, b7⟩ := u64_cell Try.underlying35 (k7.trans e7)
  obtain ⟨a10, rfl, b8⟩ := u64_cell Try.underlying35 (k8.trans e8)
  obtain ⟨a11, rfl, b9⟩ := u32_cell Try.underlying31 (k9.trans e9)
  obtain ⟨a12, rfl, b10⟩ := u32_cell Try.underlying31 (k10.trans e10)
  obtain ⟨A, n, cp, l13, rfl, hbs, hbn⟩ := bytes_cell (k11.trans e11)
  exact ⟨⟨a0, a1, a2, a3, a4, l5, a6, a7, l8, a9, a10, a11, a12, l13⟩, A, n, cp, rfl, hbs, ⟨b0, b1, b2, b3, b3', b5, b5', b7, b8, b9, b10⟩, b4, b6, hbn⟩
set_option maxRecDepth 100000 in
theorem reply_in {H : Type} {enc : TypeId × Value → H} {W : World} {base : Nat} {v : Value} {d : DataW H} {p : List MemPlace} (hv : Value.okWide Try.prog W .any base 41 v)
    (h : DataW.Trod enc Try.prog W 0 (fun _ => true) true 41 v d p) : ∃ r A n cp B m cq, RI9 W v r A n cp B m cq := by
  obtain ⟨cs, rfl, hsz⟩ := okWide_struct Try.underlying41 hv
  have hN : Try.prog.cellsOf 41 = 15 := by kernel_rfl
  obtain ⟨cl⟩ := cs
  obtain ⟨v0, v1, v2, v3, v4, v5, v6, v7, v8, v9, v10, v11, v12, v13, v14, rfl⟩ := at15 (cs := cl) (by simpa using hsz.trans hN)
  obtain ⟨fuel, ht⟩ := h
  obtain ⟨ys, n', _, _, _, hyl, hg⟩ := DataW.trod_struct Try.underlying41 ht
  have k0 : DataW.trod enc Try.prog W 0 (fun _ => true) true n' 31 [v0] = ys[0]? := hg 0 _ rfl
  have k1 : DataW.trod enc Try.prog W 0 (fun _ => true) true n' 31 [v1] = ys[1]? := hg 1 _ rfl
  have k2 : DataW.trod enc Try.prog W 0 (fun _ => true) true n' 32 [v2] = ys[2]? := hg 2 _ rfl
  have k3 : DataW.trod enc Try.prog W 0 (fun _ => true) true n' 34 [v3, v4] = ys[3]? := hg 3 _ rfl
  have k4 : DataW.trod enc Try.prog W 0 (fun _ => true) true n' 37 [v5, v6, v7, v8, v9] = ys[4]? := hg 4 _ rfl
  have k5 : DataW.trod enc Try.prog W 0 (fun _ => true) true n' 38 [v10] = ys[5]? := hg 5 _ rfl
  have k6 : DataW.trod enc Try.prog W 0 (fun _ => true) true n' 39 [v11] = ys[6]? := hg 6 _ rfl
  have k7 : DataW.trod enc Try.prog W 0 (fun _ => true) true n' 4 [v12] = ys[7]? := hg 7 _ rfl
  have k8 : DataW.trod enc Try.prog W 0 (fun _ => true) true n' 35 [v13] = ys[8]? := hg 8 _ rfl
  have k9 : DataW.trod enc Try.prog W 0 (fun _ => true) true n' 31 [v14] = ys[9]? := hg 9 _ rfl
  have hys : ys.length = 10 := hyl
  obtain ⟨y0, e0⟩ : ∃ y, ys[0]? = some y := ⟨_, List.getElem?_eq_getElem (by omega)⟩
  obtain ⟨y1, e1⟩ : ∃ y, ys[1]? = some y := ⟨_, List.getElem?_eq_getElem (by omega)⟩
  obtain ⟨y2, e2⟩ : ∃ y, ys[2]? = some y := ⟨_, List.getElem?_eq_getElem (by omega)⟩
  obtain ⟨y3, e3⟩ : ∃ y, ys[3]? = some y := ⟨_, List.getElem?_eq_getElem (by omega)⟩
  obtain ⟨y4, e4⟩ : ∃ y, ys[4]? = some y := ⟨_, List.getElem?_eq_getElem (by omega)⟩
  obtain ⟨y5, e5⟩ : ∃ y, ys[5]? = some y := ⟨_, List.getElem?_eq_getElem (by omega)⟩
  obtain ⟨y6, e6⟩ : ∃ y, ys[6]? = some y := ⟨_, List.getElem?_eq_getElem (by omega)⟩
  obtain ⟨y7, e7⟩ : ∃ y, ys[7]? = some y := ⟨_, List.getElem?_eq_getElem (by omega)⟩
  obtain ⟨y8, e8⟩ : ∃ y, ys[8]? = some y := ⟨_, List.getElem?_eq_getElem (by omega)⟩
  obtain ⟨y9, e9⟩ : ∃ y, ys[9]? = some y := ⟨_, List.getElem?_eq_getElem (by omega)⟩
  obtain ⟨a0, rfl, b0⟩ := u32_cell Try.underlying31 (k0.trans e0)
  obtain ⟨a1, rfl, b1⟩ := u32_cell Try.underlying31 (k1.trans e1)
  obtain ⟨a2, rfl, b2⟩ := i64_cell Try.underlying32 (k2.trans e2)
  obtain ⟨a3, a4, s3, b3, b3'⟩ := hdl_cells (k3.trans e3)
  simp only [hc, List.cons.injEq, and_true] at s3
  obtain ⟨rfl, rfl⟩ := s3
  obtain ⟨a5, a6, a7, a8, a9, s4, b4, b4', b4'', b4''', b4''''⟩ := att_cells (k4.trans e4)
  simp only [ac, List.cons.injEq, and_true] at s4
  obtain ⟨rfl, rfl, rfl, rfl, rfl⟩ := s4
  obtain ⟨A, n, cp, l10, rfl, hbs, hbn⟩ := bytes_cell (k5.trans e5)
  obtain ⟨B, mm, cq, es, rfl, hei⟩ := entries_cell (k6.trans e6)
  obtain ⟨x12, rfl⟩ := bool_cell Try.underlying4 (k7.trans e7)
  obtain ⟨a13, rfl, b8⟩ := u64_cell Try.underlying35 (k8.trans e8)
  obtain ⟨a14, rfl, b9⟩ := u32_cell Try.underlying31 (k9.trans e9)
  exact ⟨⟨a0, a1, a2, a3, a4, a5, a6, a7, a8, a9, l10, es, x12, a13, a14⟩, A, n, cp, B, mm, cq, rfl, hbs, hei, ⟨b0, b1, b3, b3', b4, b4', b4'', b4''', b4'''', b8, b9, hei.wide⟩, b2, hbn⟩
end Go.Proofs.Ytjgmboleiaehaaa

namespace Go.Proofs.Ytjgmboleiaehaaa

/-- The first place of a name, of entries of one name and none of it. -/
theorem fnd_none {es : List En} {nm : List UInt8} (h : ∀ e ∈ es, e.nm ≠ nm) : fnd es nm = -1 := by
  unfold fnd
  rw [if_neg]
  rw [List.findIdx_lt_length]
  rintro ⟨e, he, hn⟩
  exact h e he (by simpa using hn)
theorem fnd_mid {xs ys : List En} {e : En} (h : ∀ x ∈ xs, x.nm ≠ e.nm) : fnd (xs ++ e :: ys) e.nm = (xs.length : Int) := by
  have h1 : (xs ++ e :: ys).findIdx (fun x => x.nm == e.nm) = xs.length := by
    rw [List.findIdx_append]
    have h2 : xs.findIdx (fun x => x.nm == e.nm) = xs.length := by
      rw [List.findIdx_eq_length]
      intro x hx
      simpa using h x hx
    rw [h2, if_neg (by omega), List.findIdx_cons]
    simp
  unfold fnd
  rw [h1, if_pos (by simp)]
theorem rem_mid {xs ys : List En} {e : En} (h : ∀ x ∈ xs, x.nm ≠ e.nm) : remE (xs ++ e :: ys) e.nm = 0 ∧ remL (xs ++ e :: ys) e.nm = xs ++ ys := by
  have h1 := fnd_mid (ys := ys) h
  refine ⟨by unfold remE; rw [h1, if_neg (by omega)], ?_⟩
  unfold remL
  rw [h1, if_neg (by omega), Int.toNat_natCast]
  simp
theorem rem_none {es : List En} {nm : List UInt8} (h : ∀ e ∈ es, e.nm ≠ nm) : remE es nm = 60 := by
  unfold remE
  rw [fnd_none h, if_pos (by omega)]
/-- The letters that are there. -/
def mkE (i : Nat) : En := ⟨i + 5, 0, 0, [nb i]⟩
def ltr (p : Nat → Bool) (n : Nat) : List En := ((List.range n).filter p).map mkE
theorem ltr_zero (p : Nat → Bool) : ltr p 0 = [] := rfl
theorem ltr_succ (p : Nat → Bool) (n : Nat) : ltr p (n + 1) = ltr p n ++ if p n then [mkE n] else [] := by
  unfold ltr
  rw [List.range_succ, List.filter_append, List.map_append]
  cases h : p n <;> simp [List.filter, h]
theorem ltr_congr {p q : Nat → Bool} {n : Nat} (h : ∀ i, i < n → p i = q i) : ltr p n = ltr q n := by
  unfold ltr
  congr 1
  apply List.filter_congr
  intro i hi
  exact h i (List.mem_range.1 hi)
theorem ltr_mem {p : Nat → Bool} {n : Nat} {e : En} (h : e ∈ ltr p n) : ∃ i, i < n ∧ p i = true ∧ e = mkE i := by
  unfold ltr at h
  obtain ⟨i, h1, h2⟩ := List.mem_map.1 h
  obtain ⟨h3, h4⟩ := List.mem_filter.1 h1
  exact ⟨i, List.mem_range.1 h3, h4, h2.symm⟩
theorem ltr_len (p : Nat → Bool) (n : Nat) : (ltr p n).length ≤ n := by
  unfold ltr
  rw [List.length_map]
  exact Nat.le_trans (List.length_filter_le _ _) (by simp)
theorem ltr_split (p : Nat → Bool) {k : Nat} : ∀ n, k < n → ∃ ys, ltr p n = ltr p k ++ (if p k then [mkE k] else []) ++ ys ∧ ltr (upd p k false) n = ltr p k ++ ys
  | 0, h => absurd h (by omega)
  | n + 1, h => by
    by_cases hk : k = n
    · subst hk
      refine ⟨[], by rw [ltr_succ, List.append_nil], ?_⟩
      rw [ltr_succ, List.append_nil]
      rw [ltr_congr (q := p) (fun i hi => by simp only [upd]; rw [if_neg (by omega)])]
      simp [upd]
    · obtain ⟨ys, h1, h2⟩ := ltr_split p (k := k) n (by omega)
      refine ⟨ys ++ if p n then [mkE n] else [], ?_, ?_⟩
      · rw [ltr_succ, h1, List.append_assoc]
      · rw [ltr_succ, h2, List.append_assoc]
        have : upd p k false n = p n := by simp only [upd]; rw [if_neg (by omega)]
        rw [this]
theorem mkE_wide {i : Nat} (h : i < 1000) : (mkE i).Wide := ⟨by show i + 5 < _; omega, by show 0 < _; omega, by show 0 < _; omega⟩
theorem ltr_wide {p : Nat → Bool} {n : Nat} (hn : n ≤ 1000) : ∀ x ∈ ltr p n, x.Wide := by
  intro x hx
  obtain ⟨i, h1, _, rfl⟩ := ltr_mem hx
  exact mkE_wide (by omega)
theorem ltr_other {p : Nat → Bool} {n k : Nat} (hn : n ≤ k) (hk : k < 100) : ∀ x ∈ ltr p n, x.nm ≠ (mkE k).nm := by
  intro x hx e
  obtain ⟨i, h1, _, rfl⟩ := ltr_mem hx
  have : nb i = nb k := by simpa [mkE] using e
  have := nb_inj (by omega) hk this
  omega
theorem ltr_rem (p : Nat → Bool) {k n : Nat} (hk : k < n) (hn : n ≤ 100) : remE (ltr p n) [nb k] = (if p k then 0 else 60) ∧ (p k = true → remL (ltr p n) [nb k] = ltr (upd p k false) n) := by
  obtain ⟨ys, h1, h2⟩ := ltr_split p n hk
  cases hp : p k
  · refine ⟨?_, fun h => by cases h⟩
    rw [if_neg (by simp)]
    apply rem_none
    intro e he hne
    obtain ⟨i, h3, h4, rfl⟩ := ltr_mem he
    have h5 : nb i = nb k := by simpa [mkE] using hne
    have := nb_inj (by omega) (by omega) h5
    subst this
    rw [hp] at h4
    cases h4
  · rw [hp, if_pos rfl, List.append_assoc] at h1
    have := rem_mid (xs := ltr p k) (ys := ys) (e := mkE k) (ltr_other (Nat.le_refl _) (by omega))
    rw [h1, h2]
    refine ⟨?_, fun _ => this.2⟩
    rw [if_pos rfl]
    exact this.1
/-- What comes at place i, behind those ahead of it. -/
theorem ltr_at (p : Nat → Bool) {k n : Nat} (hk : k < n) (hp : p k = true) : ∃ hj : (ltr p k).length < (ltr p n).length, (ltr p n)[(ltr p k).length] = mkE k := by
  obtain ⟨ys, h1, _⟩ := ltr_split p n hk
  rw [hp, if_pos rfl] at h1
  have h2 : (ltr p k).length < (ltr p n).length := by rw [h1]; simp
  refine ⟨h2, ?_⟩
  simp [h1]
theorem lastCk_snoc (es : List En) (e : En) : lastCk (es ++ [e]) = e.ck := by
  unfold lastCk lastAt
  simp
theorem lastCk_lt {es : List En} {b : Nat} (hb : 0 < b) (h : ∀ e ∈ es, e.ck < b) : lastCk es < b := by
  unfold lastCk lastAt
  split
  · exact hb
  · rename_i h0
    rw [List.getD_eq_getElem?_getD, List.getElem?_eq_getElem (by omega)]
    exact h _ (List.getElem_mem _)
theorem add_ok {es : List En} {e : En} (h1 : nameOk e.nm = true) (h2 : ∀ x ∈ es, x.nm ≠ e.nm) (h3 : lastCk es < e.ck) : addE es e = 0 ∧ addL es e = es ++ [e] := by
  have : addE es e = 0 := by
    unfold addE
    rw [if_neg (by rw [h1]; simp), fnd_none h2, if_neg (by omega), if_neg (by omega)]
  exact ⟨this, if_pos this⟩
theorem ltr_add (k : Nat) (hk : k < 100) (p : Nat → Bool) (hp : p k = true) : addE (ltr p k) (mkE k) = 0 ∧ addL (ltr p k) (mkE k) = ltr p (k + 1) := by
  have := add_ok (es := ltr p k) (e := mkE k) (nb_ok hk) (ltr_other (Nat.le_refl _) hk) (lastCk_lt (by show 0 < k + 5; omega) fun e he => by
    obtain ⟨i, h1, _, rfl⟩ := ltr_mem he
    show i + 5 < k + 5
    omega)
  refine ⟨this.1, ?_⟩
  rw [this.2, ltr_succ, hp, if_pos rfl]
end Go.Proofs.Ytjgmboleiaehaaa

namespace Go.Proofs.Ytjgmboleiaehaaa
open Go.RowKit Go.Shelf

theorem built_any (c : Int) (v : ByteArray) : Try.prog.built 91 [(0, .int .u64 c), (2, .string v)] = some #[.int .u64 c, .int .u32 0, .int .u32 0, .string v] := by kernel_rfl
theorem built_mk (k : Nat) : Try.prog.built 91 [(0, .int .u64 ((k : Int) + 5)), (2, .string (txt [nb k]))] = some (ec (mkE k)).toArray := by
  rw [built_any]
  rfl
theorem upd_lt (k : Nat) : upd (fun i => decide (i < k)) k true = fun i => decide (i < k + 1) := by
  funext i
  simp only [upd]
  split
  · rename_i h; rw [h]; simp
  · rename_i h
    exact decide_eq_decide.2 (by omega)
theorem ltr_init (k n : Nat) (h : k ≤ n) : ltr (fun i => decide (i < k)) n = ltr (fun i => decide (i < k)) k := by
  induction n with
  | zero => obtain rfl : k = 0 := by omega
            rfl
  | succ n ih =>
    by_cases hk : k = n + 1
    · rw [hk]
    · rw [ltr_succ, ih (by omega), decide_eq_false (by omega)]
      simp
theorem wrap_u8 {x : Int} (h : 0 ≤ x) (h2 : x < 256) : IntKind.u8.wrap x = x := IntWalk.u8_in _ (by omega)
theorem wrap_u64 {x : Int} (h : 0 ≤ x) (h2 : x < 18446744073709551616) : IntKind.u64.wrap x = x := IntWalk.u64_in _ (by omega)

end Go.Proofs.Ytjgmboleiaehaaa

namespace Go.Proofs.Ytjgmboleiaehaaa

theorem getD_app_lt {es : List En} {e : En} {k : Nat} (h : k < es.length) : (es ++ [e]).getD k default = es.getD k default := by
  rw [List.getD_eq_getElem?_getD, List.getD_eq_getElem?_getD, List.getElem?_append_left h]
theorem lastAt_app {es : List En} {e : En} {k : Nat} (h : k ≤ es.length) : lastAt (es ++ [e]) k = lastAt es k := by
  unfold lastAt
  split
  · rfl
  · rename_i h0
    rw [getD_app_lt (by omega)]
theorem okB_snoc {es : List En} {e : En} (h : okB es = true) (h1 : nameOk e.nm = true) (h2 : ∀ x ∈ es, x.nm ≠ e.nm) (h3 : lastCk es < e.ck) : okB (es ++ [e]) = true := by
  unfold okB at h ⊢
  rw [Bool.and_eq_true, List.all_eq_true, decide_eq_true_eq] at h ⊢
  obtain ⟨ha, hn⟩ := h
  refine ⟨fun k hk => ?_, ?_⟩
  · have hk' : k < es.length + 1 := by simpa using hk
    unfold stepOk
    by_cases hl : k < es.length
    · have := ha k (List.mem_range.2 hl)
      unfold stepOk at this
      rw [getD_app_lt hl, lastAt_app (by omega)]
      exact this
    · obtain rfl : k = es.length := by omega
      rw [lastAt_app (Nat.le_refl _)]
      have : (es ++ [e]).getD es.length default = e := by simp [List.getD_eq_getElem?_getD]
      rw [this, h1]
      simpa [lastCk] using h3
  · rw [List.map_append, List.nodup_append]
    refine ⟨hn, by simp, ?_⟩
    intro a ha' b hb
    obtain ⟨x, hx, rfl⟩ := List.mem_map.1 ha'
    simp only [List.map_cons, List.map_nil, List.mem_singleton] at hb
    rw [hb]
    exact h2 x hx
theorem fnd_some {es : List En} {nm : List UInt8} (h : ∃ e ∈ es, e.nm = nm) : 0 ≤ fnd es nm := by
  obtain ⟨e, he, hn⟩ := h
  unfold fnd
  rw [if_pos]
  · omega
  · rw [List.findIdx_lt_length]
    exact ⟨e, he, by simpa using hn⟩
theorem encs_le2 {m : Nat} : ∀ es : List En, (∀ e ∈ es, e.nm.length ≤ m) → (encs es).length ≤ es.length * (23 + m)
  | [], _ => Nat.zero_le _
  | e :: r, h => by
    have ih := encs_le2 r fun x hx => h x (List.mem_cons_of_mem _ hx)
    have h1 := h e (List.mem_cons_self ..)
    have h2 : pad e.nm.length ≤ 3 := by unfold pad; omega
    rw [encs_cons, List.length_append, enc1_length, List.length_cons, Nat.succ_mul]
    omega
theorem okB_nil : okB [] = true := rfl
/-- What DirAdds knows: the entries, and which letters are there. -/
structure AI (i : Nat) (p : Nat → Bool) (es : List En) : Prop where
  ok : okB es = true
  wide : ∀ e ∈ es, e.Wide
  last : lastCk es ≤ i
  len : es.length ≤ i
  has : ∀ k, k < 26 → (p k = true ↔ ∃ e ∈ es, e.nm = [nb k])
def addX (i k : Nat) : En := ⟨i + 1, i, 0, [nb k]⟩
theorem AI.nil : AI 0 (fun _ => false) [] := ⟨rfl, (fun e h => by cases h), Nat.le_refl _, Nat.le_refl _, fun k _ => ⟨fun h => by (cases h), fun ⟨e, h, _⟩ => by cases h⟩⟩
theorem AI.skip {i : Nat} {p : Nat → Bool} {es : List En} (h : AI i p es) : AI (i + 1) p es := ⟨h.ok, h.wide, by have := h.last; omega, by have := h.len; omega, h.has⟩
theorem addX_wide {i k : Nat} (h : i < 1000) : (addX i k).Wide := ⟨by show i + 1 < _; omega, by show i < _; omega, by show 0 < _; omega⟩
theorem AI.old {i k : Nat} {p : Nat → Bool} {es : List En} (h : AI i p es) (hk : k < 26) (hp : p k = true) : addE es (addX i k) = 61 ∧ addL es (addX i k) = [] := by
  have : addE es (addX i k) = 61 := by
    unfold addE
    rw [if_neg (by rw [show (addX i k).nm = [nb k] from rfl, nb_ok (by omega)]; simp), if_pos (show 0 ≤ fnd es (addX i k).nm from fnd_some ((h.has k hk).1 hp))]
  refine ⟨this, ?_⟩
  unfold addL
  rw [this, if_neg (by omega)]
theorem AI.new {i k : Nat} {p : Nat → Bool} {es : List En} (h : AI i p es) (hk : k < 26) (hi : i < 1000) (hp : p k = false) :
    addE es (addX i k) = 0 ∧ addL es (addX i k) = es ++ [addX i k] ∧ fnd (es ++ [addX i k]) [nb k] = (es.length : Int) ∧ fnd es [nb k] = -1 ∧ AI (i + 1) (upd p k true) (es ++ [addX i k]) := by
  have hno : ∀ x ∈ es, x.nm ≠ (addX i k).nm := fun x hx e => by
    have := (h.has k hk).2 ⟨x, hx, e⟩
    rw [hp] at this
    cases this
  have hlt : lastCk es < (addX i k).ck := by
    have := h.last
    show lastCk es < i + 1
    omega
  have hok := nb_ok (g := k) (by omega)
  obtain ⟨a1, a2⟩ := add_ok (e := addX i k) hok hno hlt
  refine ⟨a1, a2, fnd_mid (ys := []) hno, fnd_none hno, okB_snoc h.ok hok hno hlt, ?_, ?_, ?_, ?_⟩
  · intro e he
    rcases List.mem_append.1 he with h1 | h1
    · exact h.wide e h1
    · rw [List.mem_singleton.1 h1]
      exact addX_wide hi
  · rw [lastCk_snoc]
    exact Nat.le_refl _
  · have := h.len
    rw [List.length_append]
    simp
    exact this
  · intro j hj
    by_cases hjk : j = k
    · subst hjk
      simp only [upd, if_true, true_iff]
      exact ⟨addX i j, by simp, rfl⟩
    · simp only [upd, if_neg hjk]
      rw [h.has j hj]
      constructor
      · rintro ⟨e, he, hn⟩
        exact ⟨e, List.mem_append_left _ he, hn⟩
      · rintro ⟨e, he, hn⟩
        rcases List.mem_append.1 he with h1 | h1
        · exact ⟨e, h1, hn⟩
        · rw [List.mem_singleton.1 h1] at hn
          have : nb k = nb j := by simpa [addX] using hn
          exact absurd (nb_inj (by omega) (by omega) this).symm hjk
theorem put_len {es : List En} (h : okB es = true) {n : Nat} (hn : es.length ≤ n) : (putE es).length ≤ n * 47 := by
  have h1 := encs_le2 es (okB_names es h)
  have : putE es = encs es := if_pos h
  rw [this]
  have h2 : es.length * (23 + 24) ≤ n * 47 := Nat.mul_le_mul_right _ hn
  omega
theorem chk_ok {es : List En} (h : okB es = true) : chkE es = 0 := if_pos h
end Go.Proofs.Ytjgmboleiaehaaa

namespace Go.Proofs.Ytjgmboleiaehaaa
open Go.RowKit Go.Shelf

theorem parts_mono {l : List UInt8} {k : Nat} (h : parts (l.take k) = true) : parts l = true := by
  unfold parts at h ⊢
  rw [List.any_eq_true] at h ⊢
  obtain ⟨x, hx, h2⟩ := h
  exact ⟨x, List.mem_of_mem_take hx, h2⟩
theorem nameE_parts {l : List UInt8} (h : parts l = true) : nameE l = 67 := by
  unfold nameE
  rw [nameOk_head, h]
  simp
theorem nameE_head {l : List UInt8} (h : headOk l = false) : nameE l = 67 := by
  unfold nameE
  rw [nameOk_head, h]
  simp
theorem nameE_ok {l : List UInt8} (h : headOk l = true) (h2 : parts l = false) : nameE l = 0 := by
  unfold nameE
  rw [nameOk_head, h, h2]
  simp

theorem fnd_at {es : List En} {nm : List UInt8} {k : Nat} (hk : k < es.length) (hno : ∀ x ∈ es.take k, x.nm ≠ nm) (he : es[k].nm = nm) : fnd es nm = (k : Int) := by
  have h1 : es = es.take k ++ es[k] :: es.drop (k + 1) := by
    rw [List.getElem_cons_drop]
    exact (List.take_append_drop k es).symm
  have h2 := fnd_mid (xs := es.take k) (ys := es.drop (k + 1)) (e := es[k]) (by rw [he]; exact hno)
  rw [← h1, he, List.length_take, Nat.min_eq_left (Nat.le_of_lt hk)] at h2
  exact h2

set_option maxRecDepth 100000 in
set_option maxHeartbeats 4000000 in
theorem refFind_any (A : Option Addr) (n c : Nat) (es : List En) (nm : List UInt8) (w : World) (h : ES w A n es) (hn : n ≤ 10000000) : Calls Try.prog 25 #[.slice A n c, .string (txt nm)] w fun e w' => e = .returned (.int .i64 (fnd es nm)) ∧ w' = w := by
  have HS := Lib.hid h
  have HN : Hid (es.length = n) := h.1
  have hb := txt_toList nm
  clear h
  go_enter Try.func25, Try.ntmps25
  go_wp2_with fail
  go_loop [5] (fun i => ∃ k : Nat, k ≤ n ∧ i = .int .i64 k ∧ Hid (∀ x ∈ es.take k, x.nm ≠ nm)) (fun i => n - (intOf i).toNat)
  case atStart => exact ⟨0, Nat.zero_le _, rfl, fun x hx => by cases hx⟩
  case round =>
    obtain ⟨k, hk, rfl, HP⟩ := hrel
    by_cases hlt : k < n
    · have hlt' : (k : Int) < (n : Int) := by omega
      obtain ⟨b, o, rfl, _, hj, hc⟩ := HS.out.at hlt
      have HF : Hid (es[k].nm = nm → fnd es nm = (k : Int)) := fun e => fnd_at hj HP.out e
      have HT : Hid (es.take (k + 1) = es.take k ++ [es[k]]) := List.take_succ_eq_append_getElem hj
      generalize es[k] = e at *
      have k3 : w.cell? ⟨b, o + k * 4 + 3, none⟩ = some (.string (txt e.nm)) := hc 3 _ rfl
      have ha := txt_toList e.nm
      clear hc
      cases hd : (e.nm == nm)
      · have HR : Hid (∀ x ∈ es.take (k + 1), x.nm ≠ nm) := by
          intro x hx
          rw [HT.out] at hx
          rcases List.mem_append.1 hx with h1 | h1
          · exact HP.out x h1
          · rw [List.mem_singleton.1 h1]
            simpa using hd
        go_wp2_with fail
        go_round
        case rel => exact ⟨k + 1, by omega, by go_num, HR⟩
        case measure => simp [intOf]; omega
      · have HE := Lib.hid (HF.out (by simpa using hd))
        go_wp2_with fail
        go_ret
        exact ⟨by rw [HE.out] <;> rfl, rfl⟩
    · obtain rfl : k = n := by omega
      have HE : Hid (fnd es nm = -1) := fnd_none (by have := HP.out; rwa [List.take_of_length_le (by rw [HN.out]; exact Nat.le_refl _)] at this)
      go_wp2_with fail
      go_ret
      exact ⟨by rw [HE.out] <;> rfl, rfl⟩
end Go.Proofs.Ytjgmboleiaehaaa

namespace Go.Proofs.Ytjgmboleiaehaaa
open Go.RowKit Go.Shelf

theorem lastAt_next {es : List En} {k : Nat} (hk : k < es.length) : lastAt es (k + 1) = es[k].ck := by
  unfold lastAt
  rw [if_neg (by omega), List.getD_eq_getElem?_getD, show k + 1 - 1 = k by omega, List.getElem?_eq_getElem hk]
  rfl
theorem okB_before {es : List En} (h : okB es = true) {k : Nat} (hk : k < es.length) : ∀ x ∈ es.take k, x.nm ≠ es[k].nm := by
  have h1 : es = es.take k ++ es[k] :: es.drop (k + 1) := by
    rw [List.getElem_cons_drop]
    exact (List.take_append_drop k es).symm
  unfold okB at h
  rw [Bool.and_eq_true, decide_eq_true_eq] at h
  have h2 := h.2
  generalize es[k] = e at *
  rw [h1, List.map_append, List.nodup_append] at h2
  intro x hx
  exact h2.2.2 x.nm (List.mem_map_of_mem hx) e.nm (by simp)
theorem fnd_before {es : List En} {nm : List UInt8} {k : Nat} (h : fnd es nm = (k : Int)) : ∀ x ∈ es.take k, x.nm ≠ nm := by
  unfold fnd at h
  split at h
  · have h1 : es.findIdx (fun e => e.nm == nm) = k := by omega
    intro x hx e
    obtain ⟨j, hj, rfl⟩ := List.getElem_of_mem hx
    rw [List.length_take] at hj
    rw [List.getElem_take] at e
    have := List.not_of_lt_findIdx (p := fun e : En => e.nm == nm) (xs := es) (i := j) (by omega)
    simp [e] at this
  · omega
theorem lastCk_take {es : List En} {k : Nat} (hk : k ≤ es.length) : lastCk (es.take k) = lastAt es k := by
  unfold lastCk
  rw [List.length_take, Nat.min_eq_left hk]
  unfold lastAt
  split
  · rfl
  · rename_i h0
    rw [List.getD_eq_getElem?_getD, List.getD_eq_getElem?_getD, List.getElem?_take_of_lt (by omega)]
/-- One entry more that may be. -/
theorem okB_more {es : List En} {k : Nat} (hk : k < es.length) (h : okB (es.take k) = true) (h1 : nameOk es[k].nm = true) (h2 : fnd es es[k].nm = (k : Int)) (h3 : lastAt es k < es[k].ck) : okB (es.take (k + 1)) = true := by
  rw [List.take_succ_eq_append_getElem hk]
  exact okB_snoc h h1 (fnd_before h2) (by rw [lastCk_take (by omega)]; exact h3)
theorem okB_bad {es : List En} {k : Nat} (hk : k < es.length) (h : ¬ (nameOk es[k].nm = true ∧ lastAt es k < es[k].ck ∧ fnd es es[k].nm = (k : Int))) : okB es = false := by
  cases ho : okB es
  · rfl
  · have h1 := okB_at es ho k hk
    exact absurd ⟨h1.1, h1.2, fnd_at hk (okB_before ho hk) rfl⟩ h
theorem fnd_zero {es : List En} (h : 0 < es.length) : fnd es es[0].nm = ((0 : Nat) : Int) := fnd_at h (fun x hx => by cases hx) rfl

end Go.Proofs.Ytjgmboleiaehaaa

namespace Go.Proofs.Ytjgmboleiaehaaa
open Go.RowKit

theorem rdN4_lt (s : St) : (rdN 4 s).2 < 4294967296 := by
  unfold rdN
  split
  · simp
  · split
    · simp
    · simp only
      have h1 := num_lt (s.1.take 4)
      have h2 : (s.1.take 4).length ≤ 4 := by rw [List.length_take]; omega
      have := Nat.pow_le_pow_right (n := 256) (by omega) h2
      omega

end Go.Proofs.Ytjgmboleiaehaaa

namespace Go.Proofs.Ytjgmboleiaehaaa
open Go.RowKit Go.Shelf

theorem size_R : (Try.prog.info? 123).map (·.size) = some 2 := by kernel_rfl
theorem zero_R : (Try.prog.info? 123).bind (·.zero) = some (.agg #[.string (txt []), .int .i64 0]) := by kernel_rfl
theorem built_R (b : ByteArray) : Try.prog.built 123 [(0, .string b)] = some #[.string b, .int .i64 0] := by kernel_rfl
theorem built_F0 : Try.prog.built 92 [] = some (ec ⟨0, 0, 0, []⟩).toArray := by kernel_rfl

/-- Within a round of the reference's Get. -/
structure GF (w : World) (q g : Nat) (s : List UInt8) (er : Int) (es : List En) (A : Option Addr) (c : Nat) (e : En) (W : World) : Prop where
  rd : Two W q (.string (txt s)) (.int .i64 er)
  eb : EB W g 92 e
  row : W.ownsRow w.heap.size 92 4 (.slice A es.length c) es.length (ecs es)
  bel : Below w.heap.size w W
  hq : w.heap.size ≤ q
  hg : w.heap.size ≤ g
  qg : q ≠ g
  rg : (Value.slice A es.length c).ownBlock ≠ some g
section
variable {w W W' : World} {q g : Nat} {s s' : List UInt8} {er er' : Int} {es : List En} {A : Option Addr} {c : Nat} {e e' : En}
theorem GF.below (h : GF w q g s er es A c e W) (hb : Below W.heap.size W W') : GF w q g s er es A c e W' :=
  ⟨h.rd.below hb h.rd.lt, h.eb.below' hb, h.row.kept (below_grown hb) (Classical.em _), h.bel.trans (hb.mono h.bel.size), h.hq, h.hg, h.qg, h.rg⟩
theorem GF.stored (h : GF w q g s er es A c e W) (hr : W'.heap[q]? = some (.cells #[.string (txt s'), .int .i64 er'] 123 (0, 0))) (hk : Keep (· ≠ q) W W') : GF w q g s' er' es A c e W' := by
  have hq := h.hq
  have hg : W.grownBy W' (some q) := ⟨hk.os, hk.tape, hk.output, hk.size, fun j _ hj => hk.block j (fun e => hj (by rw [e]))⟩
  exact ⟨hr, (hk.block g (fun e => h.qg e.symm)).trans h.eb, h.row.kept hg (.inr (own_type h.row h.rd (by decide))),
    h.bel.trans (Keep.below (hk.mono fun k hk2 => by omega)), h.hq, h.hg, h.qg, h.rg⟩
theorem GF.set (h : GF w q g s er es A c e W) (k : Nat) (v : Value) (he : (ec e').toArray = (ec e).toArray.setIfInBounds k v) : GF w q g s er es A c e' (W.setCell ⟨g, k, none⟩ v) := by
  have hg := h.hg
  exact ⟨h.rd.far (p := ⟨g, k, none⟩) h.qg, h.eb.set k v he, h.row.kept (off_setCell W g k v) (.inr h.rg), h.bel.setCell (p := ⟨g, k, none⟩) hg v, h.hq, h.hg, h.qg, h.rg⟩
theorem GF.grown (h : GF w q g s er es A c e W) (hg : W.grownBy W' (Value.slice A es.length c).ownBlock) : Two W' q (.string (txt s)) (.int .i64 er) :=
  (hg.block q h.rd.lt (fun e => own_type h.row h.rd (by decide) e.symm)).trans h.rd
end

end Go.Proofs.Ytjgmboleiaehaaa

namespace Go.Proofs.Ytjgmboleiaehaaa
open Go.ChangeShapes Go.WideShapes Go.ChangeAt Go.RowKit
open Go.ChangeMaps (open_string shut_string)

theorem wf_int {n : Int} (h : (Lit.int .i64 n).wf = true) : -9223372036854775808 ≤ n ∧ n ≤ 9223372036854775807 := by
  simp [Lit.wf, IntKind.min, IntKind.max, IntKind.bits, IntKind.signed] at h
  omega
/-- Rows of bytes as they came in. -/
structure RP (W : World) (A : Option Addr) (n : Nat) (ls : List (List UInt8)) : Prop where
  len : ls.length = n
  few : n ≤ maxLen
  row : 0 < n → ∃ b o, A = some ⟨b, o, none⟩ ∧ b < W.heap.size ∧ ∀ k (_ : k < n), ∃ x : Sl, W.cell? ⟨b, o + k, none⟩ = some (.slice x.a x.n x.c) ∧ BS W x.a x.n (ls.getD k [])
theorem RP.ri {W : World} {A : Option Addr} {n : Nat} {ls : List (List UInt8)} (h : RP W A n ls) (hs : ∀ k, k < n → (ls.getD k []).length ≤ big47) : RI W A n ls :=
  ⟨h.len, fun hn => by
    obtain ⟨b, o, e, _, hc⟩ := h.row hn
    refine ⟨b, o, e, fun k hk => ?_⟩
    obtain ⟨x, h1, h2⟩ := hc k hk
    exact ⟨x, h1, h2, by rw [← h2.1]; exact hs k hk⟩⟩
theorem RP.at {W w : World} {A : Option Addr} {n : Nat} {ls : List (List UInt8)} (h : RP W A n ls) (hb : Below W.heap.size W w) {k : Nat} (hk : k < n) : ∃ b o, ∃ x : Sl, A = some ⟨b, o, none⟩ ∧ w.cell? ⟨b, o + k, none⟩ = some (.slice x.a x.n x.c) ∧ BS w x.a x.n (ls.getD k []) := by
  obtain ⟨b, o, e, hlt, hc⟩ := h.row (by omega)
  obtain ⟨x, h1, h2⟩ := hc k hk
  exact ⟨b, o, x, e, (hb.cell (p := ⟨b, o + k, none⟩) hlt).trans h1, h2.below hb⟩
theorem one_at {cs : List Value} (h : cs.length = 1) : ∃ a, cs = [a] := by
  match cs, h with
  | [a], _ => exact ⟨a, rfl⟩
set_option maxRecDepth 100000 in
theorem rows_in {H : Type} {enc : TypeId × Value → H} {W : World} {A : Option Addr} {len cap : Nat} {d : DataW H} {p : List MemPlace} (h : DataW.Trod enc Try.prog W 0 (fun _ => true) true 26 (.slice A len cap) d p) : ∃ ls, RP W A len ls := by
  obtain ⟨fuel, hf⟩ := h
  rcases Go.Deep.open_slice (e := 38) Try.underlying26 hf with ⟨hcs, _⟩ | ⟨a, l, c, m, n, D, Pl, hcs, _, hl, hm, hmm, _, hi⟩
  · simp [Value.cells] at hcs
    obtain ⟨rfl, rfl, rfl⟩ := hcs
    exact ⟨[], rfl, Nat.zero_le _, fun h => absurd h (by omega)⟩
  · simp [Value.cells] at hcs
    obtain ⟨rfl, rfl, rfl⟩ := hcs
    simp only [if_true] at hmm
    subst hmm
    have h1 : Try.prog.cellsOf 38 = 1 := by kernel_rfl
    rw [h1] at hi
    have main : ∀ j, j < len → ∃ y : List UInt8, ∃ x : Sl, W.cell? (a.add j) = some (.slice x.a x.n x.c) ∧ BS W x.a x.n y := fun j hj => by
      obtain ⟨cs', hc, ht⟩ := hi j (by omega)
      obtain ⟨_, hlen, hat⟩ := World.cells?_some hc
      obtain ⟨v0, rfl⟩ := one_at hlen
      have t0 := hat 0 (by omega)
      rw [Go.Deep.add_add, Nat.mul_one, Nat.add_zero] at t0
      rcases open_ints Try.underlying38 Try.underlying5 (by kernel_rfl) ht with ⟨hcs, _⟩ | ⟨x, l, c, zs, hcs, _, hl, hm, hz, _, hcell, hwz⟩
      · simp only [List.cons.injEq, and_true] at hcs
        subst hcs
        exact ⟨[], ⟨none, 0, 0⟩, t0, BS.nil⟩
      · simp only [List.cons.injEq, and_true] at hcs
        subst hcs
        have hr : IsRow .u8 W (some x) l c zs := .inr ⟨_, rfl, hl, hm, by simpa using hz, hcell, hwz⟩
        obtain ⟨L, hL⟩ := hr.bs
        exact ⟨L, ⟨some x, l, c⟩, t0, hL⟩
    obtain ⟨ls, hl1, hl2⟩ := list_of len main
    refine ⟨ls, hl1, by omega, fun hn => ?_⟩
    obtain ⟨b, o, sp⟩ := a
    obtain ⟨_, _, h0, _⟩ := main 0 hn
    have hs : sp = none := by simpa [Addr.add] using World.cell?_spot h0
    subst hs
    refine ⟨b, o, rfl, World.block_lt_of_cell? W _ h0, fun k hk => ?_⟩
    have hk' : k < ls.length := by omega
    obtain ⟨x, g0, g1⟩ := hl2 k hk'
    rw [add_plain] at g0
    exact ⟨x, g0, by simpa [List.getD, hk'] using g1⟩

/-- Acts as they came in. -/
def AC (w : World) (A : Option Addr) (m : Nat) : Prop := 0 < m → ∃ b o, A = some ⟨b, o, none⟩ ∧ b < w.heap.size ∧ ∀ j, j < m → ∃ (x z : Int) (B : Option Addr) (n c : Nat) (L : List UInt8),
  w.cell? ⟨b, o + j * 3, none⟩ = some (.int .i64 x) ∧ w.cell? ⟨b, o + j * 3 + 1, none⟩ = some (.int .i64 z) ∧ w.cell? ⟨b, o + j * 3 + 2, none⟩ = some (.slice B n c) ∧
  BS w B n L ∧ n ≤ maxLen ∧ (-9223372036854775808 ≤ x ∧ x ≤ 9223372036854775807) ∧ (-9223372036854775808 ≤ z ∧ z ≤ 9223372036854775807)
theorem AC.at {w W : World} {A : Option Addr} {m : Nat} (h : AC w A m) (hb : Below w.heap.size w W) {j : Nat} (hj : j < m) : ∃ (b o : Nat) (x z : Int) (B : Option Addr) (n c : Nat) (L : List UInt8), A = some ⟨b, o, none⟩ ∧
    W.cell? ⟨b, o + j * 3, none⟩ = some (.int .i64 x) ∧ W.cell? ⟨b, o + j * 3 + 1, none⟩ = some (.int .i64 z) ∧ W.cell? ⟨b, o + j * 3 + 2, none⟩ = some (.slice B n c) ∧
    BS w B n L ∧ BS W B n L ∧ n ≤ maxLen ∧ (-9223372036854775808 ≤ x ∧ x ≤ 9223372036854775807) ∧ (-9223372036854775808 ≤ z ∧ z ≤ 9223372036854775807) := by
  obtain ⟨b, o, e, hlt, hc⟩ := h (by omega)
  obtain ⟨x, z, B, n, c, L, h1, h2, h3, h4, h5, h6, h7⟩ := hc j hj
  have hk : ∀ k u, w.cell? ⟨b, k, none⟩ = some u → W.cell? ⟨b, k, none⟩ = some u := fun k u hu => (hb.cell (p := ⟨b, k, none⟩) hlt).trans hu
  exact ⟨b, o, x, z, B, n, c, L, e, hk _ _ h1, hk _ _ h2, hk _ _ h3, h4, h4.below hb, h5, h6, h7⟩
theorem three_at {cs : List Value} (h : cs.length = 3) : ∃ a b c, cs = [a, b, c] := by
  match cs, h with
  | [a, b, c], _ => exact ⟨a, b, c, rfl⟩
end Go.Proofs.Ytjgmboleiaehaaa

namespace Go.Proofs.Ytjgmboleiaehaaa
open Go.RowKit

theorem tmod_nat (x k : Nat) : ((x : Int).tmod (k : Int)) = ((x % k : Nat) : Int) := rfl
/-- TwoT bytes in a block. -/
theorem two_block {w : World} {g : Nat} {a y : UInt8} {t : TypeId} {fr : Nat × Nat} (h : w.heap[g]? = some (.cells #[.int .u8 (a.toNat : Int), .int .u8 (y.toNat : Int)] t fr)) : BS w (some ⟨g, 0, none⟩) 2 [a, y] := BS.of_block (l := [a, y]) h
/-- Puts of two bytes each, on the blocks ls. -/
structure TwoT (ls : List (List UInt8)) (X : TX) : Prop where
  ll : X.l = ls
  two : ∀ j b, X.p j = some b → b.length = 2
theorem TwoT.new (ls : List (List UInt8)) : TwoT ls (TX.new ls) := ⟨rfl, fun j b h => by cases h⟩
theorem TwoT.put {ls : List (List UInt8)} {X : TX} (h : TwoT ls X) (k : Nat) (a y : UInt8) : TwoT ls (X.put k [a, y]) := ⟨h.ll, fun j b hb => by
  simp only [TX.put] at hb
  by_cases e : j = k
  · rw [if_pos e] at hb; cases hb; rfl
  · rw [if_neg e] at hb; exact h.two j b hb⟩
/-- Whatever is not of two bytes is what was there. -/
theorem TwoT.get {ls : List (List UInt8)} {X : TX} (h : TwoT ls X) (j : Nat) (hl : (X.get j).length ≠ 2) : X.get j = ls.getD j [] := by
  cases hp : X.p j with
  | none => rw [TX.get_none hp]; unfold TX.was; rw [h.ll]
  | some b => exact absurd (h.two j b hp) (by rw [TX.get_of hp] at hl; exact hl)
theorem get_take (X Y : TX) (h : X.l = Y.l) (j : Nat) : (X.take Y).get j = Y.get j := by unfold TX.get TX.take TX.was; rw [h]

/-- A transaction, and what is known of it. -/
structure FK (W0 w : World) (ls : List (List UInt8)) (n p m : Nat) (x : Sl) (X : TX) : Prop where
  tq : Tq w p m x (fun z => W0.heap.size ≤ z) X
  xn : x.n = n
  tw : TwoT ls X
  bel : Below W0.heap.size W0 w
section
variable {W0 w w' : World} {ls : List (List UInt8)} {n p m : Nat} {x : Sl} {X Y : TX}
theorem FK.below (h : FK W0 w ls n p m x X) (hb : Below w.heap.size w w') : FK W0 w' ls n p m x X := ⟨h.tq.below hb, h.xn, h.tw, h.bel.trans (hb.mono h.bel.size)⟩
theorem FK.new (h : FK W0 w ls n p m x X) : ∀ k, w.heap.size ≤ k → W0.heap.size ≤ k := fun _ hk => Nat.le_trans h.bel.size hk
theorem FK.put (h : FK W0 w ls n p m x X) {k : Nat} {a y : UInt8} (ht : Tq w' p m x (fun z => W0.heap.size ≤ z) (X.put k [a, y])) (hc : Ch (· = m) w w') : FK W0 w' ls n p m x (X.put k [a, y]) :=
  ⟨ht, h.xn, h.tw.put k a y, h.bel.trans (hc.below h.bel.size fun k hk => by rw [hk]; exact h.tq.sm)⟩
end

/-- The cells of texts. -/
def sc (l : List (List UInt8)) : List Value := l.map fun b => Value.string (txt b)
theorem sc_length (l : List (List UInt8)) : (sc l).length = l.length := by simp [sc]
theorem sc_snoc (l : List (List UInt8)) (b : List UInt8) : sc (l ++ [b]) = sc l ++ [.string (txt b)] := by simp [sc]
theorem info_str : (Try.prog.info? 9).map (fun i => (i.zero, i.size, i.bytes)) = some (some (.string ⟨#[]⟩), 1, 16) := by kernel_rfl
/-- Texts in a row of the call's own. -/
def SR (W : World) (base : Nat) (A : Option Addr) (c : Nat) (l : List (List UInt8)) : Prop := W.ownsRow base 9 1 (.slice A l.length c) l.length (sc l)
section
variable {W W' w2 w8 : World} {base : Nat} {A A' : Option Addr} {c c' : Nat} {l : List (List UInt8)}
theorem SR.nil (W : World) (base : Nat) : SR W base none 0 [] := World.ownsRow_nil _ _ _ _
theorem SR.keep (h : SR W base A c l) (hk : ∀ (g : Nat) (cs : Array Value), W.heap[g]? = some (Obj.cells cs 9 (0, 0)) → W'.heap[g]? = W.heap[g]?) : SR W' base A c l := by
  refine ⟨h.1, ?_⟩
  rcases h.2 with h1 | ⟨g, cap, cur, h1, h2, h3, h4⟩
  · exact .inl h1
  · exact .inr ⟨g, cap, cur, h1, h2, (hk g cur h3).trans h3, h4⟩
theorem SR.below (h : SR W base A c l) (hb : Below W.heap.size W W') : SR W' base A c l := SR.keep h fun g _ hg => hb.block g (Array.getElem?_eq_some_iff.1 hg).1
theorem SR.ch {Q : Nat → Prop} (h : SR W base A c l) (hc : Ch Q W W') : SR W' base A c l := SR.keep h fun g cs hg => hc.1.block g ⟨(Array.getElem?_eq_some_iff.1 hg).1, fun hq => (hc.2 g hq).no_row cs _ (by decide) hg⟩
theorem SR.at (h : SR W base A c l) {k : Nat} (hk : k < l.length) : ∃ g, A = some ⟨g, 0, none⟩ ∧ base ≤ g ∧ W.cell? ⟨g, k, none⟩ = some (.string (txt l[k])) := by
  rcases h.2 with ⟨_, h0⟩ | ⟨g, cap, cur, h1, h2, h3, _⟩
  · omega
  · injection h1 with h1
    subst h1
    have := World.ownsRow.cells h (g := g) rfl k (.string (txt l[k])) (by simp [sc, hk])
    rw [add_plain, Nat.zero_add] at this
    exact ⟨g, rfl, h2, this⟩
theorem SR.place (h : SR W base A c l) (b : Nat) (e : (Value.slice A l.length c).ownBlock = some b) : base ≤ b ∧ b < W.heap.size := by
  rcases h.2 with ⟨h0, _⟩ | ⟨g, cap, cur, h1, h2, h3, h4⟩
  · rw [h0] at e; cases e
  · rw [h1] at e
    obtain rfl : g = b := by simpa [Value.ownBlock] using e
    exact ⟨h2, (Array.getElem?_eq_some_iff.1 h3).1⟩
theorem SR.news (w2 : World) (b : List UInt8) : ∀ j u, ([Value.string (txt b)])[j]? = some u → (w2.alloc (.cells #[.string (txt b)] 9)).cell? ((⟨w2.heap.size, 0, none⟩ : Addr).add j) = some u := fun j u hu =>
  World.news_of_block (heap_alloc_new w2 (.cells #[.string (txt b)] 9)) j u (by simpa using hu)
theorem SR.push (h : SR W base A c l) (hsz : base ≤ W.heap.size) (hb : Below W.heap.size W w2) (b : List UInt8) (h8 : w8.ownsRow base 9 1 (.slice A' (l.length + 1) c') (l.length + 1) (sc l ++ [.string (txt b)])) (hg : (w2.alloc (.cells #[.string (txt b)] 9)).grownBy w8 (Value.slice A l.length c).ownBlock) : SR w8 base A' c' (l ++ [b]) ∧ Below base W w8 := by
  have hB : Below W.heap.size W (w2.alloc (.cells #[.string (txt b)] 9)) := hb.alloc hb.size _
  refine ⟨?_, (hB.mono hsz).trans ((fr_grown hg).below (Nat.le_trans hsz hB.size) fun k e => (h.place k e).1)⟩
  unfold SR
  rw [List.length_append, sc_snoc]
  exact h8
end
/-- What the first k blocks were. -/
def wasL (X : TX) (k : Nat) : List (List UInt8) := (List.range k).map X.get
theorem wasL_len (X : TX) (k : Nat) : (wasL X k).length = k := by simp [wasL]
theorem wasL_succ (X : TX) (k : Nat) : wasL X (k + 1) = wasL X k ++ [X.get k] := by simp [wasL, List.range_succ]
theorem wasL_at (X : TX) {n k : Nat} (h : k < n) : (wasL X n)[k]'(by rw [wasL_len]; exact h) = X.get k := by simp [wasL]
/-- What is written over block 0 at last. -/
def othB : List UInt8 := [111, 116, 104, 101, 114]
theorem oth_block {w : World} {g : Nat} {t : TypeId} {fr : Nat × Nat} (h : w.heap[g]? = some (.cells #[.int .u8 111, .int .u8 116, .int .u8 104, .int .u8 101, .int .u8 114] t fr)) : BS w (some ⟨g, 0, none⟩) 5 othB := BS.of_block (l := othB) h
theorem get_last {X Y : TX} {ls : List (List UInt8)} (hx : TwoT ls X) (hy : TwoT ls Y) {k : Nat} (hk : 1 ≤ k) : ((X.take Y).put 0 othB).get k = Y.get k := by
  rw [TX.get_put, if_neg (by omega), get_take X Y (by rw [hx.ll, hy.ll])]
end Go.Proofs.Ytjgmboleiaehaaa

namespace Go.Proofs.Ytjgmboleiaehaaa
open Go.RowKit

/-- A slice that reads as texts. -/
def TS (w : World) (A : Option Addr) (n : Nat) (l : List (List UInt8)) : Prop :=
  l.length = n ∧ (0 < n → ∃ b o, A = some ⟨b, o, none⟩ ∧ ∀ j (hj : j < l.length), w.cell? ⟨b, o + j, none⟩ = some (.string (txt l[j])))
section
variable {w w' : World} {A : Option Addr} {n : Nat} {l : List (List UInt8)}
theorem TS.keep (h : TS w A n l) (hk : ∀ b o z, w.cell? ⟨b, o, none⟩ = some (.string z) → w'.cell? ⟨b, o, none⟩ = w.cell? ⟨b, o, none⟩) : TS w' A n l :=
  ⟨h.1, fun hn => by
    obtain ⟨b, o, e, hc⟩ := h.2 hn
    exact ⟨b, o, e, fun j hj => (hk b _ _ (hc j hj)).trans (hc j hj)⟩⟩
theorem TS.below (h : TS w A n l) (hb : Below w.heap.size w w') : TS w' A n l := h.keep fun b o _ hz => hb.cell (p := ⟨b, o, none⟩) (World.block_lt_of_cell? w _ hz)
theorem TS.ch {Q : Nat → Prop} (h : TS w A n l) (hc : Ch Q w w') : TS w' A n l := h.keep fun b o _ hz => World.cell?_of_block (a := ⟨b, o, none⟩) (hc.1.block b ⟨World.block_lt_of_cell? w _ hz, fun hq => (hc.2 b hq).no_str _ _ hz⟩)
/-- Whatever becomes of a block without texts. -/
theorem TS.off {q : Nat} (h : TS w A n l) (hq : ∀ o z, w.cell? ⟨q, o, none⟩ ≠ some (.string z)) (hk : ∀ k, k < w.heap.size → k ≠ q → w'.heap[k]? = w.heap[k]?) : TS w' A n l :=
  h.keep fun b o z hz => World.cell?_of_block (a := ⟨b, o, none⟩) (hk b (World.block_lt_of_cell? w _ hz) fun e => hq o z (by rw [← e]; exact hz))
theorem TS.at (h : TS w A n l) {k : Nat} (hk : k < n) : ∃ b o, A = some ⟨b, o, none⟩ ∧ ∃ hj : k < l.length, w.cell? ⟨b, o + k, none⟩ = some (.string (txt l[k])) := by
  obtain ⟨b, o, e, hc⟩ := h.2 (by omega)
  have hj : k < l.length := by rw [h.1]; exact hk
  exact ⟨b, o, e, hj, hc k hj⟩
theorem SR.ts {base c : Nat} (h : SR w base A c l) : TS w A l.length l := ⟨rfl, fun hn => by
  obtain ⟨g, e, _, _⟩ := h.at hn
  refine ⟨g, 0, e, fun j hj => ?_⟩
  obtain ⟨g', e', _, hc⟩ := h.at hj
  rw [e] at e'
  cases e'
  rw [Nat.zero_add]
  exact hc⟩
theorem TS.news (h : TS w A n l) {ad : Addr} (hA : A = some ad) : ∀ j u, (sc l)[j]? = some u → w.cell? (ad.add j) = some u := by
  intro j u hu
  have hj : j < l.length := by
    have := (List.getElem?_eq_some_iff.1 hu).1
    rwa [sc_length] at this
  obtain ⟨b, o, e, hc⟩ := h.2 (by rw [← h.1]; omega)
  rw [hA] at e
  cases e
  rw [add_plain, hc j hj, ← hu]
  simp [sc, hj]
end

/-- The document's value of a transaction: what was, and what is about to be, as texts. -/
def TV (x y : Sl) : Value := .agg #[.slice x.a x.n x.c, .slice y.a y.n y.c]
/-- .. of X, over n blocks. -/
structure RT (w : World) (n : Nat) (x y : Sl) (X : TX) : Prop where
  len : X.l.length = n
  xn : x.n = n
  yn : y.n = n
  was : TS w x.a n X.l
  now : TS w y.a n (wasL X n)
theorem RT.below {w w' : World} {n : Nat} {x y : Sl} {X : TX} (h : RT w n x y X) (hb : Below w.heap.size w w') : RT w' n x y X := ⟨h.len, h.xn, h.yn, h.was.below hb, h.now.below hb⟩
theorem RT.ch {w w' : World} {n : Nat} {x y : Sl} {X : TX} {Q : Nat → Prop} (h : RT w n x y X) (hc : Ch Q w w') : RT w' n x y X := ⟨h.len, h.xn, h.yn, h.was.ch hc, h.now.ch hc⟩
theorem size_T : (Try.prog.info? 29).map (·.size) = some 2 := by kernel_rfl
theorem zero_T : (Try.prog.info? 29).bind (·.zero) = some (.agg #[.slice none 0 0, .slice none 0 0]) := by kernel_rfl

set_option maxRecDepth 100000 in
set_option maxHeartbeats 1000000 in
theorem refNew_any (A : Option Addr) (n c : Nat) (w : World) :
    Calls Try.prog 9 #[.slice A n c] w fun e w' => e = .returned (TV ⟨A, n, c⟩ ⟨A, n, c⟩) ∧ Below w.heap.size w w' := by
  go_enter Try.func9, Try.ntmps9
  go_wp2_with fail
  refine bodyPost_ret (v := TV ⟨A, n, c⟩ ⟨A, n, c⟩) (by simp [TV, results, Try.results9, go_sem]) rfl ⟨rfl, ?_⟩
  exact (Below.refl _ _).alloc (Nat.le_refl _) _
/-- What Get answers. -/
def gotT (X : TX) (n : Nat) (i : Int) : List UInt8 := if hasB n i then X.get i.toNat else []
set_option maxRecDepth 100000 in
set_option maxHeartbeats 1000000 in
theorem trefGet_any {n : Nat} {x y : Sl} {X : TX} {w : World} (h : RT w n x y X) (i : Int) :
    Calls Try.prog 24 #[TV x y, .int .i64 i] w fun e w' => e = .returned (.string (txt (gotT X n i))) ∧ Below w.heap.size w w' := by
  unfold TV
  have hyn := h.yn
  cases hh : hasB n i with
  | false =>
    have HE : Hid (gotT X n i = []) := by show _ = _; simp [gotT, hh]
    by_cases h0 : i < 0
    · clear h hyn hh
      go_enter Try.func24, Try.ntmps24
      go_wp2
      go_ret
      rw [HE.out]
      exact ⟨rfl, (Below.refl _ _).alloc (Nat.le_refl _) _⟩
    · have h1 : (y.n : Int) ≤ i := by
        simp only [hasB, Bool.and_eq_false_iff, decide_eq_false_iff_not] at hh
        omega
      clear h hyn hh
      go_enter Try.func24, Try.ntmps24
      go_wp2
      go_ret
      rw [HE.out]
      exact ⟨rfl, (Below.refl _ _).alloc (Nat.le_refl _) _⟩
  | true =>
    have HE : Hid (gotT X n i = X.get i.toNat) := by show _ = _; simp [gotT, hh]
    simp only [hasB, Bool.and_eq_true, decide_eq_true_eq] at hh
    obtain ⟨k, rfl⟩ := Int.eq_ofNat_of_zero_le hh.1
    have hk : k < n := by omega
    obtain ⟨b, o, hya, hj, hc⟩ := h.now.at hk
    have hg : (wasL X n)[k] = X.get k := wasL_at X hk
    rw [hg] at hc
    have hlt := World.block_lt_of_cell? w _ hc
    have hc1 : ∀ ob, (w.alloc ob).cell? ⟨b, o + k, none⟩ = some (.string (txt (X.get k))) := fun ob => (World.cell?_alloc_lt w ob ⟨b, o + k, none⟩ hlt).trans hc
    have hky : (k : Int) < (y.n : Int) := by omega
    have d1 : decide (y.n ≤ k) = false := by simp; omega
    obtain ⟨ya, yn, yc⟩ := y
    dsimp only at *
    subst hya
    clear h hyn hg hc hj hh
    go_enter Try.func24, Try.ntmps24
    go_wp2
    go_ret
    rw [HE.out]
    exact ⟨rfl, (Below.refl _ _).alloc (Nat.le_refl _) _⟩
end Go.Proofs.Ytjgmboleiaehaaa

namespace Go.Proofs.Ytjgmboleiaehaaa
open Go.RowKit

theorem wasL_put (X : TX) {n k : Nat} (b : List UInt8) : (wasL X n).set k b = wasL (X.put k b) n := by
  apply List.ext_getElem
  · simp [wasL]
  · intro j h1 h2
    have hj : j < n := by simpa [wasL] using h2
    rw [List.getElem_set]
    by_cases e : k = j
    · subst e
      rw [if_pos rfl]
      simp [wasL, TX.get_put]
    · rw [if_neg e]
      have e' : ¬ j = k := fun h => e h.symm
      simp [wasL, TX.get_put, e']
/-- One text of a row of the call's own is another one. -/
theorem SR.set {W : World} {base c g : Nat} {l : List (List UInt8)} (h : SR W base (some ⟨g, 0, none⟩) c l) {k : Nat} (b : List UInt8) : TS (W.setCell ⟨g, k, none⟩ (.string (txt b))) (some ⟨g, 0, none⟩) l.length (l.set k b) := by
  refine ⟨by simp, fun hn => ⟨g, 0, rfl, fun j hj => ?_⟩⟩
  rw [Nat.zero_add]
  rcases h.2 with ⟨h1, _⟩ | ⟨g', cap, cur, h1, h2, h3, _⟩
  · cases h1
  · injection h1 with h1
    cases h1
    have hjl : j < l.length := by simpa using hj
    obtain ⟨_, e, _, hc⟩ := h.at hjl
    cases e
    rw [setCell_eq_setRow W g k _ _ _ _ h3, cell_of_row _ _ _ _ _ _ (setRow_heap W g _ _ _ _ h3)]
    rw [cell_of_row _ _ _ _ _ _ h3] at hc
    by_cases e : k = j
    · subst e
      have hs := (Array.getElem?_eq_some_iff.1 hc).1
      simp [hs]
    · simp only [List.getElem_set_ne e]
      rw [Array.getElem?_setIfInBounds_ne e]
      exact hc
theorem SR.froz {W : World} {base c : Nat} {A : Option Addr} {l : List (List UInt8)} (h : SR W base A c l) {g : Nat} (e : A = some ⟨g, 0, none⟩) (k : Nat) : W.frozen? ⟨g, k, none⟩ = false := by
  rcases h.2 with ⟨h1, _⟩ | ⟨g', cap, cur, h1, h2, h3, _⟩
  · rw [e] at h1; cases h1
  · injection h1 with h1
    rw [e] at h1
    cases h1
    simp [World.frozen?, h3]
theorem ownsRow_pos {w : World} {base : Nat} {e : TypeId} {s : Nat} {v : Value} {n : Nat} {cells : List Value} (h : w.ownsRow base e s v n cells) (hn : 0 < n) : ∃ g cap, v = .slice (some ⟨g, 0, none⟩) n cap := by
  rcases h.2 with ⟨_, h0⟩ | ⟨g, cap, _, h1, _⟩
  · omega
  · exact ⟨g, cap, h1⟩
/-- Behind the document's Put. -/
def RPutQ (w : World) (n : Nat) (x : Sl) (X : TX) (r : Int) (e : Ending) (w' : World) : Prop := ∃ y : Sl, e = .returned (.tuple #[TV x y, .int .i64 r]) ∧ RT w' n x y X ∧ Below w.heap.size w w'
set_option maxRecDepth 100000 in
set_option maxHeartbeats 1000000 in
theorem trefPut_any {n : Nat} {x y : Sl} {X : TX} {w : World} (h : RT w n x y X) (i : Int) (b : List UInt8) (hn : n ≤ 1000) :
    Calls Try.prog 16 #[TV x y, .int .i64 i, .string (txt b)] w (RPutQ w n x (X.putI n i b) (TX.perr n i b)) := by
  unfold TV
  have hyn := h.yn
  have HT := Lib.hid h
  have HBB : Hid (Below w.heap.size w ((w.alloc (.cells #[.slice x.a x.n x.c, .slice y.a y.n y.c] 29)).alloc (.cells #[.slice x.a x.n x.c, .slice y.a y.n y.c] 29))) := ((Below.refl _ _).alloc (Nat.le_refl _) _).alloc (by rw [World.size_alloc]; omega) _
  cases hh : hasB n i with
  | false =>
    have HE : Hid (TX.perr n i b = 15 ∧ X.putI n i b = X) := by refine ⟨?_, ?_⟩ <;> simp [TX.perr, TX.putI, TX.mayPut, hh]
    by_cases h0 : i < 0
    · clear h hyn hh
      go_enter Try.func16, Try.ntmps16
      go_wp2
      refine bodyPost_ret (v := .tuple #[TV x y, .int .i64 15]) (by simp [TV, results, Try.results16, go_sem]) rfl ?_
      show RPutQ _ _ _ _ _ _ _
      rw [HE.out.1, HE.out.2]
      exact ⟨y, rfl, HT.out.below HBB.out, HBB.out⟩
    · have h1 : (y.n : Int) ≤ i := by
        simp only [hasB, Bool.and_eq_false_iff, decide_eq_false_iff_not] at hh
        omega
      clear h hyn hh
      go_enter Try.func16, Try.ntmps16
      go_wp2
      refine bodyPost_ret (v := .tuple #[TV x y, .int .i64 15]) (by simp [TV, results, Try.results16, go_sem]) rfl ?_
      show RPutQ _ _ _ _ _ _ _
      rw [HE.out.1, HE.out.2]
      exact ⟨y, rfl, HT.out.below HBB.out, HBB.out⟩
  | true =>
    have hh2 := hh
    simp only [hasB, Bool.and_eq_true, decide_eq_true_eq] at hh2
    obtain ⟨k, rfl⟩ := Int.eq_ofNat_of_zero_le hh2.1
    have hk : k < n := by omega
    have hky : (k : Int) < (y.n : Int) := by omega
    have d1 : decide (y.n ≤ k) = false := by simp; omega
    have hs := txt_size b
    by_cases hb : b.length ≤ 96
    · have HE : Hid (TX.perr n (k : Int) b = 0 ∧ X.putI n (k : Int) b = X.put k b) := by refine ⟨?_, ?_⟩ <;> simp [TX.perr, TX.putI, TX.mayPut, hh, hb]
      have d2 : decide ((96 : Int) < ((txt b).size : Int)) = false := by rw [hs]; simp; omega
      obtain ⟨bb, o, hya, hj, hc⟩ := h.now.at hk
      obtain ⟨i0, hi0, hz0, hz1, hz2⟩ := info_parts info_str
      have HI0 := Lib.hid hi0
      have HZ0 := Lib.hid hz0
      have HZ1 := Lib.hid hz1
      have HZ2 := Lib.hid hz2
      clear h hh hh2 hj hc hi0 hz0 hz1 hz2 hs
      obtain ⟨ya, yn, yc⟩ := y
      dsimp only at *
      subst hya
      subst hyn
      go_enter Try.func16, Try.ntmps16
      have HNW : Hid (∀ j u, (sc (wasL X yn))[j]? = some u → ((w.alloc (.cells #[.slice x.a x.n x.c, .slice (some ⟨bb, o, none⟩) yn yc] 29)).alloc (.cells #[.slice none 0 0, .slice none 0 0] 29)).cell? ((⟨bb, o, none⟩ : Addr).add j) = some u) :=
        (HT.out.now.below (((Below.refl _ _).alloc (Nat.le_refl _) _).alloc (by rw [World.size_alloc]; omega) _)).news rfl
      go_wp2_with (first
                | (at_builtin
                   go_must (refine wpList_append_own_at _ rfl (.tmp 23) (.tmp 25) 27 rfl w.heap.size 9 i0 _ 1 16 Try.underlying27 HI0.out HZ0.out HZ1.out HZ2.out rfl (by omega) (.slice none 0 0) 0 [] rfl (World.ownsRow_nil _ _ _ _) ⟨bb, o, none⟩ yn yc (sc (wasL X yn)) rfl (by rw [sc_length, wasL_len]; omega) HNW.out (by intro u hu; simp only [sc, List.mem_map] at hu; obtain ⟨_, _, rfl⟩ := hu; rfl) (by unfold maxLen; omega) (by omega) (by simp only [World.size_alloc]; omega) ?_)
                   intro v' w8 hown' hgrow _ hat
                   rw [Nat.zero_add, List.nil_append] at hown'
                   obtain ⟨g', cap', rfl⟩ := ownsRow_pos hown' (by omega)
                   have HG : Hid (g' = w.heap.size + 2) := by
                     rcases hat with h1 | h1
                     · simp [Value.ownBlock] at h1
                     · have : g' = ((w.alloc (.cells #[.slice x.a x.n x.c, .slice (some ⟨bb, o, none⟩) yn yc] 29)).alloc (.cells #[.slice none 0 0, .slice none 0 0] 29)).heap.size := by simpa [Value.ownBlock] using h1
                       show _ = _
                       rw [this]
                       simp only [World.size_alloc]
                   have HB8 : Hid (Below (w.heap.size + 2) ((w.alloc (.cells #[.slice x.a x.n x.c, .slice (some ⟨bb, o, none⟩) yn yc] 29)).alloc (.cells #[.slice none 0 0, .slice none 0 0] 29)) w8) := ⟨hgrow.os, hgrow.tape, hgrow.output, hgrow.size, fun z hz => hgrow.block z (by simp only [World.size_alloc]; omega) (by simp [Value.ownBlock])⟩
                   have HSR : Hid (SR w8 w.heap.size (some ⟨g', 0, none⟩) cap' (wasL X yn)) := by
                     show SR _ _ _ _ _
                     unfold SR
                     rw [wasL_len]
                     exact hown'
                   have hcell : ∃ v, w8.cell? ⟨g', k, none⟩ = some v := by
                     obtain ⟨_, e9, _, hc9⟩ := HSR.out.at (k := k) (by rw [wasL_len]; exact hk)
                     cases e9
                     exact ⟨_, hc9⟩
                   obtain ⟨v9, hcell⟩ := hcell
                   have hfr := HSR.out.froz rfl k
                   have fc0 : ∀ v, (w8.setCell ⟨g', k, none⟩ v).cell? ⟨w.heap.size, 0, none⟩ = some (.slice x.a x.n x.c) := fun v => by
                     rw [World.cell?_of_block (a := ⟨w.heap.size, 0, none⟩) (Below.heap_setCell w8 ⟨g', k, none⟩ v w.heap.size (by show w.heap.size ≠ g'; rw [HG.out]; omega)), World.cell?_of_block (a := ⟨w.heap.size, 0, none⟩) (HB8.out.block w.heap.size (by omega)), World.cell?_of_block (a := ⟨w.heap.size, 0, none⟩) (Below.heap_alloc _ _ w.heap.size (by rw [World.size_alloc]; omega))]
                     rw [cell_of_row _ _ _ _ _ _ (heap_alloc_new w _)]
                     rfl
                   have HR1 : Hid (∀ v, (w8.setCell ⟨g', k, none⟩ v).heap[w.heap.size + 1]? = some (.cells #[.slice none 0 0, .slice none 0 0] 29 (0, 0))) := fun v => by
                     rw [Below.heap_setCell w8 ⟨g', k, none⟩ v (w.heap.size + 1) (by show w.heap.size + 1 ≠ g'; rw [HG.out]; omega), HB8.out.block _ (by omega)]
                     have := heap_alloc_new (w.alloc (.cells #[.slice x.a x.n x.c, .slice (some ⟨bb, o, none⟩) yn yc] 29)) (.cells #[.slice none 0 0, .slice none 0 0] 29)
                     rwa [World.size_alloc] at this
                   clear hown' hgrow hat)
                | (refine wpList_store_any rfl 29 (.tmp 6) (.tmp 34) rfl (w.heap.size + 1) #[.slice x.a x.n x.c, .slice (some ⟨g', 0, none⟩) yn cap'] rfl rfl 29 _ (HR1.out _) size_T rfl (by simp [Value.oneCell']) ?_
                   intro w9 hr9 hz9 hk9
                   have HTS9 : Hid (TS (w8.setCell ⟨g', k, none⟩ (.string (txt b))) (some ⟨g', 0, none⟩) (wasL X yn).length ((wasL X yn).set k b)) := HSR.out.set b
                   have HBe : Hid (Below w.heap.size w w9) := by
                     have h1 : Below w.heap.size w w8 := (((Below.refl _ _).alloc (Nat.le_refl _) _).alloc (by rw [World.size_alloc]; omega) _).trans (HB8.out.mono (by omega))
                     have h2 : Below w.heap.size w (w8.setCell ⟨g', k, none⟩ (.string (txt b))) := h1.setCell (by show _ ≤ g'; rw [HG.out]; omega) _
                     exact h2.trans ((Keep.mono hk9 fun z hz => by have : z < w.heap.size := hz; show z ≠ _; omega).below)
                   have HN9 : Hid (TS w9 (some ⟨g', 0, none⟩) yn (wasL (X.put k b) yn)) := by
                     have h1 := HTS9.out
                     rw [wasL_put, wasL_len] at h1
                     exact h1.keep fun z o _ hz => World.cell?_of_block (a := ⟨z, o, none⟩) (hk9.block z fun e => by
                       rw [e, cell_of_row _ _ _ _ _ _ (HR1.out _)] at hz
                       match o with
                       | 0 | 1 => simp at hz
                       | m + 2 => simp at hz)
                   have c0 : w9.cell? ⟨w.heap.size + 1, 0, none⟩ = some (.slice x.a x.n x.c) := by rw [cell_of_row _ _ _ _ _ _ hr9]; rfl
                   have c1 : w9.cell? ⟨w.heap.size + 1, 1, none⟩ = some (.slice (some ⟨g', 0, none⟩) yn cap') := by rw [cell_of_row _ _ _ _ _ _ hr9]; rfl
                   clear hr9 hz9 hk9 fc0 hcell hfr))
      refine bodyPost_ret (v := .tuple #[TV x ⟨some ⟨g', 0, none⟩, yn, cap'⟩, .int .i64 0]) (by simp [TV, results, Try.results16, go_sem, c0, c1]) rfl ?_
      show RPutQ _ _ _ _ _ _ _
      rw [HE.out.1, HE.out.2]
      exact ⟨⟨some ⟨g', 0, none⟩, yn, cap'⟩, rfl, ⟨HT.out.len, HT.out.xn, rfl, HT.out.was.below HBe.out, HN9.out⟩, HBe.out⟩
    · have HE : Hid (TX.perr n (k : Int) b = 13 ∧ X.putI n (k : Int) b = X) := by refine ⟨?_, ?_⟩ <;> simp [TX.perr, TX.putI, TX.mayPut, hh, hb]
      have d2 : decide ((96 : Int) < ((txt b).size : Int)) = true := by rw [hs]; simp; omega
      clear h hyn hh hh2 hs
      go_enter Try.func16, Try.ntmps16
      go_wp2
      refine bodyPost_ret (v := .tuple #[TV x y, .int .i64 13]) (by simp [TV, results, Try.results16, go_sem]) rfl ?_
      show RPutQ _ _ _ _ _ _ _
      rw [HE.out.1, HE.out.2]
      exact ⟨y, rfl, HT.out.below HBB.out, HBB.out⟩
end Go.Proofs.Ytjgmboleiaehaaa

namespace Go.Proofs.Ytjgmboleiaehaaa
theorem Ry.all_there : True := trivial
end Go.Proofs.Ytjgmboleiaehaaa
