/-
  Contracts of the law's frameOf and of the document's answers for layer 4: Put.
-/
import Derived.Test.YtbikfmcppfkjgaaU64
import Derived.Test.YtbikfmcppfkjgaaSGetOk
import Derived.Deep.RegionHeld
namespace Go.Proofs.Ytbikfmcppfkjgaa
open Go.RowKit

/-- A frame as the document has it: its cells. -/
def rfc (k i c s a : Int) (b : List UInt8) : Array Value := #[.int .i64 k, .int .i64 i, .int .i64 c, .int .u64 s, .int .u32 a, .string (txt b)]
theorem size_F : (Try.prog.info? 34).map (·.size) = some 6 := by kernel_rfl
theorem zero_F : (Try.prog.info? 34).bind (·.zero) = some (.agg #[.int .i64 0, .int .i64 0, .int .i64 0, .int .u64 0, .int .u32 0, .string ⟨#[]⟩]) := by kernel_rfl

theorem second_new (w : World) (o o' : Obj) : ((w.alloc o).alloc o').heap[w.heap.size + 1]? = some o' := by
  have := heap_alloc_new (w.alloc o) o'
  simpa using this

set_option maxRecDepth 100000 in
set_option maxHeartbeats 2000000 in
theorem frameOf_any (k i c s a : Int) (B : Option Addr) (n cap : Nat) (l : List UInt8) (w : World) (h : BS w B n l) :
    Calls Try.prog 11 #[.agg #[.int .i64 k, .int .i64 i, .int .i64 c, .int .u64 s, .int .u32 a, .slice B n cap]] w fun e w' => e = .returned (.agg (rfc k i c s a l)) ∧ Below w.heap.size w w' := by
  have v := run_convert_bs ((w.alloc (.cells #[.int .i64 k, .int .i64 i, .int .i64 c, .int .u64 s, .int .u32 a, .slice B n cap] 26)).alloc (.cells #[.int .i64 0, .int .i64 0, .int .i64 0, .int .u64 0, .int .u32 0, .string ⟨#[]⟩] 34)) B n cap l ((h.alloc _).alloc _)
  clear h
  go_enter Try.func11, Try.ntmps11
  go_wp2_with fail
  exact bodyPost_ret (v := .agg (rfc k i c s a l)) (results_cell_row rfl _ _ (w.heap.size + 1) 34 _ _ _ (by rfl) (second_new w _ _) Try.underlying34 rfl size_F) rfl ⟨rfl, ((Below.refl _ w).alloc (Nat.le_refl _) _).alloc (by simp) _⟩

set_option maxRecDepth 100000 in
set_option maxHeartbeats 4000000 in
theorem refPut_no (k i c s a : Int) (l : List UInt8) (w : World) (h : ¬ may k i c l.length) :
    Calls Try.prog 10 #[.agg #[.int .i64 k, .int .i64 i, .int .i64 c, .int .u64 s, .int .u32 a, .string (txt l)]] w fun e w' => e = .returned (.tuple #[.string ⟨#[]⟩, .int .i64 1]) ∧ Below w.heap.size w w' := by
  have hsz := txt_size l
  have HN := Lib.hid h
  clear h
  obtain ⟨b6, hd6⟩ : ∃ b, decide ((108 : Int) < (l.length : Int)) = b := ⟨_, rfl⟩
  have h6 : if b6 then 108 < l.length else l.length ≤ 108 := by
    cases b6
    · simp at hd6; simp; omega
    · simp at hd6; simp; omega
  cases b6
  all_goals
    simp only [Bool.false_eq_true, if_false, if_true] at h6
    go_enter Try.func10, Try.ntmps10
    go_upto_region 3 with (fail)
    all_goals first
      | (exfalso; exact HN.out ⟨⟨by omega, by omega⟩, ⟨by omega, by omega, by omega, by omega⟩, by omega⟩)
      | (go_wp2; go_ret2; exact ⟨rfl, (Below.refl _ w).alloc (Nat.le_refl _) _⟩)

/-- The six cells of a frame as the document has it. -/
def S6 (f : Fm) (p : Nat) (W : World) : Prop :=
  W.cell? ⟨p, 0, none⟩ = some (.int .i64 (f.k.toNat : Int)) ∧ W.cell? ⟨p, 1, none⟩ = some (.int .i64 (f.i.toNat : Int)) ∧ W.cell? ⟨p, 2, none⟩ = some (.int .i64 (f.c.toNat : Int)) ∧
  W.cell? ⟨p, 3, none⟩ = some (.int .u64 (f.s : Int)) ∧ W.cell? ⟨p, 4, none⟩ = some (.int .u32 (f.a : Int)) ∧ W.cell? ⟨p, 5, none⟩ = some (.string (txt f.b))
theorem S6.new (f : Fm) (w : World) : S6 f w.heap.size (w.alloc (.cells #[.int .i64 (f.k.toNat : Int), .int .i64 (f.i.toNat : Int), .int .i64 (f.c.toNat : Int), .int .u64 (f.s : Int), .int .u32 (f.a : Int), .string (txt f.b)] 34)).drew := by
  have h : ∀ j v, (#[.int .i64 (f.k.toNat : Int), .int .i64 (f.i.toNat : Int), .int .i64 (f.c.toNat : Int), .int .u64 (f.s : Int), .int .u32 (f.a : Int), .string (txt f.b)] : Array Value)[j]? = some v → (w.alloc (.cells #[.int .i64 (f.k.toNat : Int), .int .i64 (f.i.toNat : Int), .int .i64 (f.c.toNat : Int), .int .u64 (f.s : Int), .int .u32 (f.a : Int), .string (txt f.b)] 34)).cell? ⟨w.heap.size, j, none⟩ = some v := fun j v hv => by
    rw [cell_of_row _ _ _ _ _ _ (heap_alloc_new w _)]
    exact hv
  exact ⟨h 0 _ rfl, h 1 _ rfl, h 2 _ rfl, h 3 _ rfl, h 4 _ rfl, h 5 _ rfl⟩
theorem S6.below {f : Fm} {p : Nat} {W W' : World} (h : S6 f p W) (hb : Below W.heap.size W W') : S6 f p W' := by
  obtain ⟨c0, c1, c2, c3, c4, c5⟩ := h
  have hp : p < W.heap.size := World.block_lt_of_cell? W _ c0
  have e : ∀ j, W'.cell? ⟨p, j, none⟩ = W.cell? ⟨p, j, none⟩ := fun j => hb.cell (p := ⟨p, j, none⟩) hp
  exact ⟨(e 0).trans c0, (e 1).trans c1, (e 2).trans c2, (e 3).trans c3, (e 4).trans c4, (e 5).trans c5⟩

/-- What Put of the document leans on, in each world on its way. -/
def RI (f : Fm) (w W : World) : Prop := Below w.heap.size w W ∧ S6 f w.heap.size W
theorem RI.below {f : Fm} {w W W' : World} (h : RI f w W) (hb : Below W.heap.size W W') : RI f w W' := ⟨h.1.trans (hb.mono h.1.size), h.2.below hb⟩
theorem RI.alloc {f : Fm} {w W : World} (h : RI f w W) (o : Obj) : RI f w (W.alloc o) := h.below ((Below.refl _ _).alloc (Nat.le_refl _) _)
theorem RI.allocd {f : Fm} {w W : World} (h : RI f w W.drew) (o : Obj) : RI f w (W.alloc o).drew := h.alloc o
theorem RI.lt {f : Fm} {w W : World} (h : RI f w W) : w.heap.size < W.heap.size := World.block_lt_of_cell? W _ h.2.1
theorem bs4 (W : World) (a b c d : UInt8) : BS (W.alloc (.cells #[.int .u8 (a.toNat : Int), .int .u8 (b.toNat : Int), .int .u8 (c.toNat : Int), .int .u8 (d.toNat : Int)] 5)) (some ⟨W.heap.size, 0, none⟩) 4 [a, b, c, d] := BS.of_block (heap_alloc_new W _)
theorem bs4d (W : World) (a b c d : UInt8) : BS (W.alloc (.cells #[.int .u8 (a.toNat : Int), .int .u8 (b.toNat : Int), .int .u8 (c.toNat : Int), .int .u8 (d.toNat : Int)] 5)).drew (some ⟨W.heap.size, 0, none⟩) 4 [a, b, c, d] := bs4 W a b c d
theorem refU32n (x : Nat) (w : World) (h1 : x < 4294967296) :
    Calls Try.prog 20 #[.int .u32 (x : Int)] w fun e w' => e = .returned (.string (txt (be 4 x))) ∧ Below w.heap.size w w' := refU32 (x : Int) w (by omega) (by omega)

end Go.Proofs.Ytbikfmcppfkjgaa
