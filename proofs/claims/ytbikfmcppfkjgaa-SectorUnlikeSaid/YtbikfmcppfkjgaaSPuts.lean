/-
  The walk of SectorPuts: whether any frame may be, and its bytes, are the document's; it is got as it was: the law's function returns true for every input.
-/
import Derived.Test.YtbikfmcppfkjgaaSAwake
import Derived.Test.YtbikfmcppfkjgaaSRefPut
import Derived.Test.YtbikfmcppfkjgaaSRefGet
import Derived.Test.YtbikfmcppfkjgaaSKinds
namespace Go.Proofs.Ytbikfmcppfkjgaa
open Go.RowKit

/-- A frame that lies in block p, and all that was there is as it was. -/
structure FI (w : World) (p : Nat) (k i c s a : Int) (B : Option Addr) (n cap : Nat) (W : World) : Prop where
  below : Below w.heap.size w W
  fr : W.heap[p]? = some (.cells #[.int .i64 k, .int .i64 i, .int .i64 c, .int .u64 s, .int .u32 a, .slice B n cap] 26 (0, 0))
section
variable {w W W' : World} {p : Nat} {k i c s a : Int} {B : Option Addr} {n cap : Nat}
theorem FI.lt (h : FI w p k i c s a B n cap W) : p < W.heap.size := (Array.getElem?_eq_some_iff.1 h.fr).1
theorem FI.step (h : FI w p k i c s a B n cap W) (hb : Below W.heap.size W W') : FI w p k i c s a B n cap W' := ⟨h.below.trans (hb.mono h.below.size), (hb.block p h.lt).trans h.fr⟩
theorem FI.new (h : Below w.heap.size w W) (hp : W.heap.size = p) : FI w p k i c s a B n cap (W.alloc (.cells #[.int .i64 k, .int .i64 i, .int .i64 c, .int .u64 s, .int .u32 a, .slice B n cap] 26)) := by
  subst hp
  exact ⟨h.alloc h.size _, heap_alloc_new W _⟩
theorem FI.drew (h : FI w p k i c s a B n cap W) : FI w p k i c s a B n cap W.drew := ⟨h.below.drew, h.fr⟩
theorem FI.froz (h : FI w p k i c s a B n cap W) (j : Nat) : W.frozen? ⟨p, j, none⟩ = false := by simp [World.frozen?, h.fr]
theorem FI.cells (h : FI w p k i c s a B n cap W) : W.cell? ⟨p, 0, none⟩ = some (.int .i64 k) ∧ W.cell? ⟨p, 1, none⟩ = some (.int .i64 i) ∧ W.cell? ⟨p, 2, none⟩ = some (.int .i64 c) ∧ W.cell? ⟨p, 3, none⟩ = some (.int .u64 s) ∧ W.cell? ⟨p, 4, none⟩ = some (.int .u32 a) ∧ W.cell? ⟨p, 5, none⟩ = some (.slice B n cap) := by
  have e : ∀ j v, (#[.int .i64 k, .int .i64 i, .int .i64 c, .int .u64 s, .int .u32 a, .slice B n cap] : Array Value)[j]? = some v → W.cell? ⟨p, j, none⟩ = some v := fun j v hv => by
    rw [cell_of_row _ _ _ _ _ _ h.fr]
    exact hv
  exact ⟨e 0 _ rfl, e 1 _ rfl, e 2 _ rfl, e 3 _ rfl, e 4 _ rfl, e 5 _ rfl⟩
end
/-- Two frames: the one that came in, in block p, and the one that was got, in block q. -/
structure TW (f : Fm) (w : World) (p q : Nat) (B : Option Addr) (n cap : Nat) (B5 : Option Addr) (n5 cap5 : Nat) (W : World) : Prop where
  one : FI w p f.k.toNat f.i.toNat f.c.toNat f.s f.a B n cap W
  two : FI w q f.k.toNat f.i.toNat f.c.toNat f.s f.a B5 n5 cap5 W
  got : BS W B5 n5 f.b
  had : BS W B n f.b
section
variable {f : Fm} {w W W' : World} {p q : Nat} {B B5 : Option Addr} {n cap n5 cap5 : Nat}
theorem TW.step (h : TW f w p q B n cap B5 n5 cap5 W) (hb : Below W.heap.size W W') : TW f w p q B n cap B5 n5 cap5 W' := ⟨h.one.step hb, h.two.step hb, h.got.below hb, h.had.below hb⟩
theorem TW.new (h : FI w p f.k.toNat f.i.toNat f.c.toNat f.s f.a B n cap W) (hg : BS W B5 n5 f.b) (hh : BS w B n f.b) :
    TW f w p W.heap.size B n cap B5 n5 cap5 (W.alloc (.cells #[.int .i64 (f.k.toNat : Int), .int .i64 (f.i.toNat : Int), .int .i64 (f.c.toNat : Int), .int .u64 (f.s : Int), .int .u32 (f.a : Int), .slice B5 n5 cap5] 26)).drew :=
  ⟨(h.step ((Below.refl _ W).alloc (Nat.le_refl _) _)).drew, (FI.new h.below rfl).drew, hg.alloc _, (hh.below h.below).alloc _⟩
theorem TW.cells (h : TW f w p q B n cap B5 n5 cap5 W) : W.cell? ⟨p, 0, none⟩ = some (.int .i64 (f.k.toNat : Int)) ∧ W.cell? ⟨p, 1, none⟩ = some (.int .i64 (f.i.toNat : Int)) ∧ W.cell? ⟨p, 2, none⟩ = some (.int .i64 (f.c.toNat : Int)) ∧ W.cell? ⟨p, 3, none⟩ = some (.int .u64 (f.s : Int)) ∧ W.cell? ⟨p, 4, none⟩ = some (.int .u32 (f.a : Int)) ∧ W.cell? ⟨p, 5, none⟩ = some (.slice B n cap) ∧
      W.cell? ⟨q, 0, none⟩ = some (.int .i64 (f.k.toNat : Int)) ∧ W.cell? ⟨q, 1, none⟩ = some (.int .i64 (f.i.toNat : Int)) ∧ W.cell? ⟨q, 2, none⟩ = some (.int .i64 (f.c.toNat : Int)) ∧ W.cell? ⟨q, 3, none⟩ = some (.int .u64 (f.s : Int)) ∧ W.cell? ⟨q, 4, none⟩ = some (.int .u32 (f.a : Int)) ∧ W.cell? ⟨q, 5, none⟩ = some (.slice B5 n5 cap5) := by
  obtain ⟨c0, c1, c2, c3, c4, c5⟩ := h.one.cells
  obtain ⟨d0, d1, d2, d3, d4, d5⟩ := h.two.cells
  exact ⟨c0, c1, c2, c3, c4, c5, d0, d1, d2, d3, d4, d5⟩
end
theorem frameOf_lit (k i c s a : Int) (B : Option Addr) (n cap : Nat) (l : List UInt8) (w : World) (h : BS w B n l) :
    Calls Try.prog 11 #[.agg #[.int .i64 k, .int .i64 i, .int .i64 c, .int .u64 s, .int .u32 a, .slice B n cap]] w fun e w' => e = .returned (.agg #[.int .i64 k, .int .i64 i, .int .i64 c, .int .u64 s, .int .u32 a, .string (txt l)]) ∧ Below w.heap.size w w' := frameOf_any k i c s a B n cap l w h

set_option maxRecDepth 100000 in
set_option maxHeartbeats 4000000 in
theorem puts_big (k i c s a : Int) (B : Option Addr) (n cap : Nat) (w : World) (h : 200 < n) :
    Calls Try.prog 3 #[.agg #[.int .i64 k, .int .i64 i, .int .i64 c, .int .u64 s, .int .u32 a, .slice B n cap]] w fun e w' => e = .returned (.bool true) ∧ Below w.heap.size w w' := by
  have HA := Lib.hid awake_any
  go_enter Try.func3, Try.ntmps3
  have hd : decide ((200 : Int) < (n : Int)) = true := by simp; omega
  go_wp2_with fail
  refine (HA.out _).mono ?_
  rintro e w1 ⟨rfl, hw1⟩
  have HF1 : Hid (FI w w.heap.size k i c s a B n cap w1) := (FI.new (Below.refl _ w) rfl).step hw1
  clear hw1
  obtain ⟨c0, c1, c2, c3, c4, c5⟩ := HF1.out.cells
  go_wp2_with fail
  go_ret
  exact ⟨rfl, HF1.out.below⟩

set_option maxRecDepth 100000 in
set_option maxHeartbeats 4000000 in
theorem puts_no (k i c s a : Int) (B : Option Addr) (n cap : Nat) (l : List UInt8) (w : World) (hb : BS w B n l) (h : ¬ 200 < n) (hm : ¬ may k i c n) :
    Calls Try.prog 3 #[.agg #[.int .i64 k, .int .i64 i, .int .i64 c, .int .u64 s, .int .u32 a, .slice B n cap]] w fun e w' => e = .returned (.bool true) ∧ Below w.heap.size w w' := by
  have HA := Lib.hid awake_any
  have HB := Lib.hid hb
  have HM := Lib.hid hm
  clear hb hm
  go_enter Try.func3, Try.ntmps3
  have hd : decide ((200 : Int) < (n : Int)) = false := by simp; omega
  go_wp2_with fail
  refine (HA.out _).mono ?_
  rintro e w1 ⟨rfl, hw1⟩
  have HF1 : Hid (FI w w.heap.size k i c s a B n cap w1) := (FI.new (Below.refl _ w) rfl).step hw1
  clear hw1
  obtain ⟨c0, c1, c2, c3, c4, c5⟩ := HF1.out.cells
  go_wp2_with fail
  refine (put_no k i c s a B n cap w1 HM.out).mono ?_
  rintro e w2 ⟨rfl, hw2⟩
  have HF2 := Lib.hid (HF1.out.step hw2)
  clear hw2 HF1 c0 c1 c2 c3 c4 c5
  obtain ⟨c0, c1, c2, c3, c4, c5⟩ := HF2.out.cells
  go_wp2_with fail
  refine (frameOf_lit k i c s a B n cap l w2 (HB.out.below HF2.out.below)).mono ?_
  rintro e w3 ⟨rfl, hw3⟩
  have HF3 := Lib.hid (HF2.out.step hw3)
  clear hw3 HF2 c0 c1 c2 c3 c4 c5
  go_wp2_with fail
  refine (refPut_no k i c s a l w3 (by rw [HB.out.1]; exact HM.out)).mono ?_
  rintro e w4 ⟨rfl, hw4⟩
  have HF4 := Lib.hid (HF3.out.step hw4)
  clear hw4 HF3
  have v := run_convert_bs w4 none 0 0 [] BS.nil
  have ht : (txt []).toList = [] := ByteArray.toList_mk _
  go_wp2_with fail
  go_ret
  exact ⟨rfl, HF4.out.below⟩

set_option maxRecDepth 100000 in
set_option maxHeartbeats 8000000 in
theorem puts_ok (f : Fm) (B : Option Addr) (n cap : Nat) (w : World) (hb : BS w B n f.b) (hf : f.ok) :
    Calls Try.prog 3 #[.agg #[.int .i64 (f.k.toNat : Int), .int .i64 (f.i.toNat : Int), .int .i64 (f.c.toNat : Int), .int .u64 (f.s : Int), .int .u32 (f.a : Int), .slice B n cap]] w fun e w' => e = .returned (.bool true) ∧ Below w.heap.size w w' := by
  have HA := Lib.hid awake_any
  have HB := Lib.hid hb
  have HOK := Lib.hid hf
  have hn : n ≤ 108 := by rw [← hb.1]; exact hf.b
  clear hb hf
  go_enter Try.func3, Try.ntmps3
  have hd : decide ((200 : Int) < (n : Int)) = false := by simp; omega
  go_wp2_with fail
  refine (HA.out _).mono ?_
  rintro e w1 ⟨rfl, hw1⟩
  have HF1 : Hid (FI w w.heap.size f.k.toNat f.i.toNat f.c.toNat f.s f.a B n cap w1) := (FI.new (Below.refl _ w) rfl).step hw1
  clear hw1
  obtain ⟨c0, c1, c2, c3, c4, c5⟩ := HF1.out.cells
  go_wp2_with fail
  refine (put_ok f B n cap w1 (HB.out.below HF1.out.below) HOK.out).mono ?_
  rintro e w2 ⟨A2, cc2, rfl, ho⟩
  have HF2 := Lib.hid (HF1.out.step ho.2)
  have HS2 := Lib.hid ho.bs
  have hcc2 := ho.cap
  clear ho HF1 c0 c1 c2 c3 c4 c5
  obtain ⟨c0, c1, c2, c3, c4, c5⟩ := HF2.out.cells
  go_wp2_with fail
  refine (frameOf_lit _ _ _ _ _ B n cap f.b w2 (HB.out.below HF2.out.below)).mono ?_
  rintro e w3 ⟨rfl, hw3⟩
  have HF3 := Lib.hid (HF2.out.step hw3)
  have HS3 := Lib.hid (HS2.out.below hw3)
  clear hw3 HF2 HS2 c0 c1 c2 c3 c4 c5
  go_wp2_with fail
  refine (refPut_ok f w3 HOK.out).mono ?_
  rintro e w4 ⟨rfl, hw4⟩
  have HF4 := Lib.hid (HF3.out.step hw4)
  have HS4 := Lib.hid (HS3.out.below hw4)
  clear hw4 HF3 HS3
  have v := run_convert_bs w4 A2 128 cc2 _ HS4.out
  go_wp2_with fail
  refine (get_any A2 128 cc2 _ w4 HS4.out hcc2).mono ?_
  rintro e w5 ⟨B5, n5, cap5, rfl, hb5, hw5⟩
  rw [(get_put f HOK.out).1, (get_put f HOK.out).2]
  rw [(get_put f HOK.out).2] at hb5
  have HF5 := Lib.hid (HF4.out.step hw5)
  have HB5 := Lib.hid hb5
  clear hb5 hw5 HF4 HS4 v
  unfold fv frc
  go_upto_region 13 with (fail)
  have T6 : Hid (TW f w w.heap.size w5.heap.size B n cap B5 n5 cap5 (w5.alloc (.cells #[.int .i64 (f.k.toNat : Int), .int .i64 (f.i.toNat : Int), .int .i64 (f.c.toNat : Int), .int .u64 (f.s : Int), .int .u32 (f.a : Int), .slice B5 n5 cap5] 26)).drew) := TW.new HF5.out HB5.out HB.out
  clear HF5 HB5
  generalize w5.alloc (.cells #[.int .i64 (f.k.toNat : Int), .int .i64 (f.i.toNat : Int), .int .i64 (f.c.toNat : Int), .int .u64 (f.s : Int), .int .u32 (f.a : Int), .slice B5 n5 cap5] 26) = w6 at *
  generalize w5.heap.size = q at *
  go_region_held (fun W => W.cell? ⟨w.heap.size, 0, none⟩ = some (.int .i64 (f.k.toNat : Int)) ∧ W.cell? ⟨w.heap.size, 1, none⟩ = some (.int .i64 (f.i.toNat : Int)) ∧ W.cell? ⟨w.heap.size, 2, none⟩ = some (.int .i64 (f.c.toNat : Int)) ∧ W.cell? ⟨w.heap.size, 3, none⟩ = some (.int .u64 (f.s : Int)) ∧ W.cell? ⟨w.heap.size, 4, none⟩ = some (.int .u32 (f.a : Int)) ∧ W.cell? ⟨w.heap.size, 5, none⟩ = some (.slice B n cap) ∧
      W.cell? ⟨q, 0, none⟩ = some (.int .i64 (f.k.toNat : Int)) ∧ W.cell? ⟨q, 1, none⟩ = some (.int .i64 (f.i.toNat : Int)) ∧ W.cell? ⟨q, 2, none⟩ = some (.int .i64 (f.c.toNat : Int)) ∧ W.cell? ⟨q, 3, none⟩ = some (.int .u64 (f.s : Int)) ∧ W.cell? ⟨q, 4, none⟩ = some (.int .u32 (f.a : Int)) ∧ W.cell? ⟨q, 5, none⟩ = some (.slice B5 n5 cap5))
    (first | exact T6.out.cells | exact T7.out.cells | exact T8.out.cells)
    (first
      | (go_at_call 11
         with_reducible refine (frameOf_lit _ _ _ _ _ B5 n5 cap5 f.b _ (TW.got (Hid.out (p := TW f w w.heap.size q B n cap B5 n5 cap5 _) (by assumption)))).mono ?_
         rintro e w7 ⟨rfl, hb7⟩
         have T7 : Hid (TW f w w.heap.size q B n cap B5 n5 cap5 w7) := TW.step (Hid.out (by assumption)) hb7
         clear hb7)
      | (go_at_call 11
         with_reducible refine (frameOf_lit _ _ _ _ _ B n cap f.b _ (TW.had (Hid.out (p := TW f w w.heap.size q B n cap B5 n5 cap5 _) (by assumption)))).mono ?_
         rintro e w8 ⟨rfl, hb8⟩
         have T8 : Hid (TW f w w.heap.size q B n cap B5 n5 cap5 w8) := TW.step (Hid.out (by assumption)) hb8
         clear hb8))
  all_goals
    go_wp2_with fail
    go_ret
    exact ⟨rfl, T8.out.one.below⟩

/-- A frame that may be, with the numbers of its bytes. -/
theorem may_fm {k i c : Int} {s a : Nat} {n : Nat} {l : List UInt8} (h : may k i c n) (hl : l.length = n) (hs : s < 18446744073709551616) (ha : a < 4294967296) :
    ∃ f : Fm, f.ok ∧ k = (f.k.toNat : Int) ∧ i = (f.i.toNat : Int) ∧ c = (f.c.toNat : Int) ∧ s = f.s ∧ a = f.a ∧ l = f.b := by
  obtain ⟨⟨h1, h2⟩, ⟨h3, h4, h5, h6⟩, h7⟩ := h
  obtain ⟨kb, rfl⟩ := byte_of (by omega) (by omega : k ≤ 255)
  obtain ⟨ib, rfl⟩ := byte_of h3 h4
  obtain ⟨cb, rfl⟩ := byte_of h5 h6
  exact ⟨⟨kb, ib, cb, s, a, l⟩, ⟨by show 1 ≤ kb.toNat; omega, by show kb.toNat ≤ 4; omega, hs, ha, by show l.length ≤ 108; omega⟩, rfl, rfl, rfl, rfl, rfl, rfl⟩

theorem puts_walk (k i c : Int) (s a : Nat) (B : Option Addr) (n cap : Nat) (l : List UInt8) (w : World) (hb : BS w B n l) (hs : s < 18446744073709551616) (ha : a < 4294967296) :
    Calls Try.prog 3 #[.agg #[.int .i64 k, .int .i64 i, .int .i64 c, .int .u64 (s : Int), .int .u32 (a : Int), .slice B n cap]] w fun e w' => e = .returned (.bool true) ∧ Below w.heap.size w w' := by
  by_cases h : 200 < n
  · exact puts_big k i c s a B n cap w h
  · by_cases hm : may k i c n
    · obtain ⟨f, hf, rfl, rfl, rfl, rfl, rfl, rfl⟩ := may_fm hm hb.1 hs ha
      exact puts_ok f B n cap w hb hf
    · exact puts_no k i c s a B n cap l w hb h hm
end Go.Proofs.Ytbikfmcppfkjgaa
