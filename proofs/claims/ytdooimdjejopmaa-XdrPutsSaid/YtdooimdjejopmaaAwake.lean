/-
  Contract of the document's example: it holds, and leaves all memory that was there alone.
-/
import Derived.Test.YtdooimdjejopmaaReader2
import Derived.Lib.SlBytesConst
import Derived.Lib.SlBytesRow
namespace Go.Proofs.Ytdooimdjejopmaa
open Go.RowKit

theorem newWriter_op (w : World) : Calls Try.prog 12 #[] w fun e w' => ∃ p, e = .returned (.pointer (some ⟨p, 0, none⟩)) ∧ Wr (· < w.heap.size) w' p [] ∧ Below w.heap.size w w' :=
  (newWriter_any w).mono fun _ _ ⟨h1, h2⟩ => ⟨w.heap.size, h1, h2 ▸ newWriter_wr w _ (fun _ h => h), h2 ▸ (Below.refl _ _).alloc (Nat.le_refl _) _⟩

/-- A block of bytes that is known whole reads as bytes. -/
theorem BS.of_block {w : World} {g : Nat} {l : List UInt8} {t : TypeId} {fr : Nat × Nat} (h : w.heap[g]? = some (.cells (bc l).toArray t fr)) : BS w (some ⟨g, 0, none⟩) l.length l :=
  ⟨rfl, fun _ => ⟨g, 0, rfl, fun j hj => by
    rw [Nat.zero_add, cell_of_row w g j _ _ _ h]
    simp [bc_get l j hj]⟩⟩

/-- A text of bytes. -/
def txt (l : List UInt8) : ByteArray := ⟨l.toArray⟩
/-- string(b): the bytes as a text. -/
theorem run_convert_bs (w : World) (A : Option Addr) (n c : Nat) (l : List UInt8) (h : BS w A n l) : (convert 24 9 (.slice A n c)).run Try.prog w = .ok (.string (txt l)) w := by
  rcases A with _ | ad
  · have hn : n = 0 := by
      rcases Nat.eq_zero_or_pos n with h0 | h0
      · exact h0
      · obtain ⟨b, o, h, _⟩ := h.2 h0
        cases h
    subst hn
    have hl : l = [] := List.eq_nil_of_length_eq_zero h.1
    subst hl
    exact run_convert_bytes_nil w 24 5 Try.underlying24 Try.underlying5 0 c 9 Try.underlying9
  · have hl : (loadCells ad n).run Try.prog w = .ok ((l.map fun b => (b.toNat : Int)).map (Value.int .u8)).toArray w := by
      have := run_loadCells_list (P := Try.prog) w ad (bc l) (h.news rfl)
      rw [bc_length, h.1] at this
      rw [this, List.map_map]
      rfl
    rw [run_convert_bytes_string w 24 9 5 _ n c Try.underlying24 Try.underlying5 Try.underlying9, run_bytesToString w _ n c _ hl, foldl_push_byteCells]
    simp [txt, ByteArray.empty, ByteArray.emptyWithCapacity]
    rfl

/-- The example's bytes. -/
def L0 : List UInt8 := [0, 0, 0, 2, 97, 98, 0, 0, 0, 0, 0, 7, 0, 0, 0, 1]
theorem L0_eq : [] ++ opq [97, 98] ++ be 4 (Int.toNat 7) ++ be 4 (b01 true) = L0 := by decide +kernel
theorem L0_len : L0.length = 16 := rfl
def L1 : List UInt8 := [0, 0, 0, 7, 0, 0, 0, 1]
def L2 : List UInt8 := [0, 0, 0, 1]
theorem rd1 : rdO 2 (L0, 0) = ((L1, 0), [97, 98]) := by decide +kernel
theorem rd2 : rdN 4 (L1, 0) = ((L2, 0), 7) := by decide +kernel
theorem rd3 : rdB (L2, 0) = (([], 0), true) := by decide +kernel
theorem rd4 : endOf [] 0 = 0 := rfl

set_option maxRecDepth 100000 in
set_option maxHeartbeats 2000000 in
theorem awake_any (w : World) : Calls Try.prog 11 #[] w fun e w' => e = .returned (.bool true) ∧ Below w.heap.size w w' := by
  have kc := fun (w : World) (C : Array Value) (n c : Nat) => Lib.run_convert_bytes_const (P := Try.prog) w 24 5 C n c Try.underlying24 Try.underlying5
  go_enter Try.func11, Try.ntmps11
  go_wp2_with fail
  refine (newWriter_op w).mono ?_
  rintro e w1 ⟨p, rfl, hw, hb⟩
  have HW := Lib.hid hw
  have HB := Lib.hid hb
  have hs1 := hb.size
  clear hw hb
  go_wp2_with fail
  refine (opaquew (fun k => k < w.heap.size ∨ k = w1.heap.size) _ p [] (some ⟨w1.heap.size, 0, none⟩) 2 2 [97, 98] (HW.out.add _) (BS.of_block (heap_alloc_new w1 _)) (fun _ ad h => by injection h with h; subst h; exact .inr rfl) (by simp) (by omega)).mono ?_
  rintro e w2 ⟨rfl, hw, hk⟩
  clear kc
  have HW2 := Lib.hid hw
  have HB2 : Hid (Keep (· < w.heap.size) w w2) := ((Keep.of_below (HB.out)).alloc (fun k hk => Nat.lt_of_lt_of_le hk hs1) _).trans (hk.mono (fun k h => .inl h))
  clear hw hk HW HB
  go_wp2_with fail
  refine (u32w _ w2 p _ 7 (by omega) HW2.out (by decide)).mono ?_
  rintro e w3 ⟨rfl, hw, hk⟩
  have HW3 := Lib.hid hw
  have HB3 := Lib.hid (HB2.out.trans (hk.mono (fun k h => .inl h)))
  clear hw hk HW2 HB2
  go_wp2_with fail
  refine (boolw _ w3 p _ true HW3.out (by decide)).mono ?_
  rintro e w4 ⟨rfl, hw, hk⟩
  rw [L0_eq] at hw
  have HW4 := Lib.hid hw
  have HB4 := Lib.hid (HB3.out.trans (hk.mono (fun k h => .inl h)))
  clear hw hk HW3 HB3
  go_wp2_with fail
  refine (out_any _ w4 p _ HW4.out (by decide)).mono ?_
  rintro e w5 ⟨A5, c5, rfl, ho⟩
  rw [L0_len] at ho ⊢
  have HO := Lib.hid ho
  have HB5 := Lib.hid (HB4.out.trans ((Keep.of_below ho.2).mono (fun k h => Nat.lt_of_lt_of_le h HB4.out.size)))
  clear ho HW4 HB4
  go_wp2_with fail
  refine (newReader_any A5 16 c5 L0 w5 HO.out.bs (by omega)).mono ?_
  rintro e w6 ⟨q, rfl, hr, hb, hq⟩
  have HR6 := Lib.hid hr
  have HB6 := Lib.hid (HB5.out.trans ((Keep.of_below hb).mono (fun k h => Nat.lt_of_lt_of_le h HB5.out.size)))
  have HO6 := Lib.hid (HO.out.bs.below hb)
  have hq0 : w.heap.size ≤ q := Nat.le_trans HB5.out.size hq
  clear hr hb HB5 HO hq
  go_wp2_with fail
  refine (opaquer w6 q L0 0 2 (by omega) (by omega) HR6.out).mono ?_
  rw [rd1]
  rintro e w7 ⟨A7, c7, rfl, hbs, hr, hg, hA⟩
  have HR7 := Lib.hid hr
  have HB7 := Lib.hid (HB6.out.grown hg (fun k h => Nat.lt_of_lt_of_le h HB6.out.size) (fun k h h' => by injection h with h; omega))
  have HO7 := Lib.hid (HO6.out.rd HR6.out hg)
  have HC7 := Lib.hid hbs
  clear hr hbs hg hA HR6 HB6 HO6
  go_wp2_with fail
  refine (u32r w7 q L1 0 HR7.out).mono ?_
  rw [rd2]
  rintro e w8 ⟨rfl, hr, hg⟩
  have HR8 := Lib.hid hr
  have HB8 := Lib.hid (HB7.out.grown hg (fun k h => Nat.lt_of_lt_of_le h HB7.out.size) (fun k h h' => by injection h with h; omega))
  have HO8 := Lib.hid (HO7.out.rd HR7.out hg)
  have HC8 := Lib.hid (HC7.out.rd HR7.out hg)
  clear hr hg HR7 HB7 HO7 HC7
  go_wp2_with fail
  refine (boolr w8 q L2 0 HR8.out).mono ?_
  rw [rd3]
  rintro e w9 ⟨rfl, hr, hg⟩
  have HR9 := Lib.hid hr
  have HB9 := Lib.hid (HB8.out.grown hg (fun k h => Nat.lt_of_lt_of_le h HB8.out.size) (fun k h h' => by injection h with h; omega))
  have HO9 := Lib.hid (HO8.out.rd HR8.out hg)
  have HC9 := Lib.hid (HC8.out.rd HR8.out hg)
  clear hr hg HR8 HB8 HO8 HC8
  obtain ⟨b, o, rfl, hcs⟩ := HO9.out.2 (by omega)
  have hc3 : w9.cell? ⟨b, o + 3, none⟩ = some (.int .u8 2) := hcs 3 (by decide)
  have hc4 : w9.cell? ⟨b, o + 4, none⟩ = some (.int .u8 97) := hcs 4 (by decide)
  have hc6 : w9.cell? ⟨b, o + 6, none⟩ = some (.int .u8 0) := hcs 6 (by decide)
  have hcv := run_convert_bs w9 A7 2 c7 [97, 98] HC9.out
  have htl : (txt [97, 98]).toList = [97, 98] := by decide +kernel
  clear hcs
  go_wp2_with fail
  refine (end_any w9 q [] 0 HR9.out).mono ?_
  rw [rd4]
  rintro e w10 ⟨rfl, rfl⟩
  go_wp2_with fail
  go_ret
  exact ⟨rfl, HB9.out.below⟩
end Go.Proofs.Ytdooimdjejopmaa
