/-
  Contract of package inode's Put (layer 7).
-/
import Derived.Test.YtkgpgaanodmpiaaICheck
import Derived.Test.YtkgpgaanodmpiaaAwake
namespace Go.Proofs.Ytkgpgaanodmpiaa
open Go.RowKit

/-- What Put hands back. -/
def PutP (x : Nd) (w : World) (e : Ending) (w' : World) : Prop := ∃ A n cp, e = .returned (.tuple #[.slice A n cp, .int .i64 x.chk]) ∧ BS w' A n x.put ∧ Below w.heap.size w w'
theorem ns_block {w : World} {g : Nat} {k : IntKind} {t : TypeId} (xs : List Nat) (h : w.heap[g]? = some (.cells (xs.map fun x : Nat => Value.int k (x : Int)).toArray t (0, 0))) : NS k w (some ⟨g, 0, none⟩) xs.length xs :=
  ⟨rfl, fun _ => ⟨g, 0, rfl, fun j hj => by
    rw [Nat.zero_add, cell_of_row w g j _ _ _ h]
    simp [hj]⟩⟩
theorem Keep.below2 {K : Nat → Prop} {B : Nat} {w w' : World} (h : Keep K w w') (hK : ∀ k, k < B → K k) : Below B w w' := ⟨h.os, h.tape, h.output, h.size, fun k hk => h.block k (hK k hk)⟩
theorem NS.keep {T : IntKind} {w w' : World} {A : Option Addr} {n : Nat} {xs : List Nat} (h : NS T w A n xs) (hb : ∀ p : Addr, p.block < w.heap.size → w'.cell? p = w.cell? p) : NS T w' A n xs :=
  ⟨h.1, fun hn => by
    obtain ⟨b, o, e, hc⟩ := h.2 hn
    exact ⟨b, o, e, fun j hj => (hb ⟨b, o + j, none⟩ (World.block_lt_of_cell? w _ (hc j hj))).trans (hc j hj)⟩⟩
theorem NS.lt_block {T : IntKind} {w : World} {A : Option Addr} {n : Nat} {xs : List Nat} (h : NS T w A n xs) (hn : 0 < n) (ad : Addr) (ha : A = some ad) : ad.block < w.heap.size := by
  obtain ⟨b, o, e, hc⟩ := h.2 hn
  rw [ha] at e
  injection e with e
  subst e
  exact World.block_lt_of_cell? w _ (hc 0 (by rw [h.1]; exact hn))

/-- While Put writes: the Writer, the boxed inode, and what came in. -/
structure PW (w : World) (p : Nat) (L : List UInt8) (cs : Array Value) (A : Option Addr) (n : Nat) (xs : List Nat) (W : World) : Prop where
  wr : Wr (· < w.heap.size + 1) W p L
  box : W.heap[w.heap.size]? = some (.cells cs 26 (0, 0))
  bel : Below w.heap.size w W
  ns : NS .u32 W A n xs
section
variable {w W W' : World} {p n : Nat} {L L' : List UInt8} {cs : Array Value} {A : Option Addr} {xs : List Nat}
theorem PW.size (h : PW w p L cs A n xs W) : w.heap.size + 1 ≤ W.heap.size := by
  have := h.box
  rcases Nat.lt_or_ge w.heap.size W.heap.size with h | h
  · omega
  · rw [Array.getElem?_eq_none h] at this; cases this
/-- Behind a call that wrote: K held at least what came in and the box. -/
theorem PW.step (h : PW w p L cs A n xs W) (h0 : NS .u32 w A n xs) (hb : Below (w.heap.size + 1) W W') (hw : Wr (· < w.heap.size + 1) W' p L') : PW w p L' cs A n xs W' :=
  ⟨hw, (hb.block _ (by omega)).trans h.box, h.bel.trans (hb.mono (Nat.le_succ _)), h0.below (h.bel.trans (hb.mono (Nat.le_succ _)))⟩
end
theorem Wr.less {K K' : Nat → Prop} {w : World} {p : Nat} {l : List UInt8} (h : Wr K w p l) (hk : ∀ k, K' k → K k) : Wr K' w p l := by
  obtain ⟨A, c, h1, h2, h3, h4, h5⟩ := h
  exact ⟨A, c, h1, h2, fun hp => h3 (hk _ hp), fun k hk1 hk2 => h4 k hk1 (hk _ hk2), fun k hk1 => h5 k (hk _ hk1)⟩

set_option maxRecDepth 100000 in
set_option maxHeartbeats 2000000 in
theorem put_any (k g li m s c o v : Nat) (A : Option Addr) (n cp : Nat) (xs : List Nat) (w : World) (hw : (Nd.mk k g li m s c o v xs).Wide) (hx : NS .u32 w A n xs) (hn : n ≤ 1000000) :
    Calls Try.prog 10 #[(.agg #[.int .u32 (k : Int), .int .u32 (g : Int), .int .u32 (li : Int), .int .u32 (m : Int), .int .u32 (s : Int), .int .u64 (c : Int), .int .u64 (o : Int), .int .u64 (v : Int), .slice A n cp])] w (PutP (Nd.mk k g li m s c o v xs) w) := by
  have HW := Lib.hid hw
  have HX := Lib.hid hx
  have Hn := Lib.hid hx.1
  clear hw hx
  have HA : Hid (Below w.heap.size w (w.alloc (.cells #[.int .u32 (k : Int), .int .u32 (g : Int), .int .u32 (li : Int), .int .u32 (m : Int), .int .u32 (s : Int), .int .u64 (c : Int), .int .u64 (o : Int), .int .u64 (v : Int), .slice A n cp] 26))) := (Below.refl _ _).alloc (Nat.le_refl _) _
  have HX0 : Hid (NS .u32 (w.alloc (.cells #[.int .u32 (k : Int), .int .u32 (g : Int), .int .u32 (li : Int), .int .u32 (m : Int), .int .u32 (s : Int), .int .u64 (c : Int), .int .u64 (o : Int), .int .u64 (v : Int), .slice A n cp] 26)) A n xs) := HX.out.below HA.out
  have HC := Lib.hid (check_any k g li m s c o v A n cp xs _ HW.out HX0.out hn)
  have HCB := fun W => Lib.hid (blank_any k g li m s c o v A n cp W HW.out.k HW.out.l HW.out.m HW.out.s HW.out.o HW.out.v)
  go_enter Try.func10, Try.ntmps10
  go_wp2_with fail
  refine (HC.out).mono ?_
  rintro e w1 ⟨rfl, hb1⟩
  have HB1 : Hid (Below w.heap.size w w1) := HA.out.trans (hb1.mono (by simp))
  have HG1 : Hid (w1.heap[w.heap.size]? = some (.cells #[.int .u32 (k : Int), .int .u32 (g : Int), .int .u32 (li : Int), .int .u32 (m : Int), .int .u32 (s : Int), .int .u64 (c : Int), .int .u64 (o : Int), .int .u64 (v : Int), .slice A n cp] 26 (0, 0))) := (hb1.block _ (by simp)).trans (heap_alloc_new w _)
  clear hb1 HC HX0 HA
  by_cases hok : (Nd.mk k g li m s c o v xs).okB = true
  rotate_left
  · have hz : (Nd.mk k g li m s c o v xs).chk = 1 := if_neg hok
    have HP : Hid ((Nd.mk k g li m s c o v xs).put = []) := if_neg (fun h => hok h.1)
    have HZ := Lib.hid hz
    rw [hz]
    clear hz hok
    go_wp2
    go_ret2
    unfold PutP
    rw [HZ.out]
    refine ⟨none, 0, 0, rfl, ?_, HB1.out⟩
    rw [HP.out]
    exact BS.nil
  have hz : (Nd.mk k g li m s c o v xs).chk = 0 := if_pos hok
  have Hok := Lib.hid hok
  have HZ := Lib.hid hz
  rw [hz]
  clear hz hok
  obtain ⟨c0, c1, c2, c3, c4, c5, c6, c7, c8⟩ := I_cells HG1.out
  have HBL : Hid (blB k g li m s c o v n = (Nd.mk k g li m s c o v xs).blank) := by
    show _ = _
    rw [← Hn.out]
    rfl
  go_wp2_with fail
  refine ((HCB _).out).mono ?_
  rintro e w2 ⟨rfl, hb2⟩
  rw [HBL.out]
  clear HCB HBL c0 c1 c2 c3 c4 c5 c6 c7 c8
  have HB2 : Hid (Below w.heap.size w w2) := HB1.out.trans (hb2.mono HB1.out.size)
  have HG2 : Hid (w2.heap[w.heap.size]? = some (.cells #[.int .u32 (k : Int), .int .u32 (g : Int), .int .u32 (li : Int), .int .u32 (m : Int), .int .u32 (s : Int), .int .u64 (c : Int), .int .u64 (o : Int), .int .u64 (v : Int), .slice A n cp] 26 (0, 0))) := (hb2.block _ (by have := HG1.out; rcases Nat.lt_or_ge w.heap.size w1.heap.size with h | h; exact h; rw [Array.getElem?_eq_none h] at this; cases this)).trans HG1.out
  clear hb2 HG1 HB1
  by_cases hbl : (Nd.mk k g li m s c o v xs).blank = true
  · have HP : Hid ((Nd.mk k g li m s c o v xs).put = []) := if_neg (fun h => by rw [hbl] at h; cases h.2)
    rw [hbl]
    clear hbl
    go_wp2
    go_ret2
    unfold PutP
    rw [HZ.out]
    refine ⟨none, 0, 0, rfl, ?_, HB2.out⟩
    rw [HP.out]
    exact BS.nil
  have hbl : (Nd.mk k g li m s c o v xs).blank = false := by simpa using hbl
  have HP : Hid ((Nd.mk k g li m s c o v xs).put = (Nd.mk k g li m s c o v xs).code) := if_pos ⟨Hok.out, hbl⟩
  rw [hbl]
  clear hbl
  have HN8 := Lib.hid (Nd.okB_len _ Hok.out)
  have hn8 : n ≤ 8 := by have h1 := HN8.out; have h2 := Hn.out; simp only at h1; omega
  have hgs : w.heap.size + 1 ≤ w2.heap.size := by
    have := HG2.out
    rcases Nat.lt_or_ge w.heap.size w2.heap.size with h | h
    · omega
    · rw [Array.getElem?_eq_none h] at this; cases this
  clear HN8 Hok
  go_wp2_with fail
  refine (newWriter_op w2).mono ?_
  rintro e w3 ⟨p, rfl, hwr, hb3⟩
  have H3 : Hid (PW w p [] #[.int .u32 (k : Int), .int .u32 (g : Int), .int .u32 (li : Int), .int .u32 (m : Int), .int .u32 (s : Int), .int .u64 (c : Int), .int .u64 (o : Int), .int .u64 (v : Int), .slice A n cp] A n xs w3) := ⟨hwr.less (fun k hk => Nat.lt_of_lt_of_le hk hgs), (hb3.block _ (by omega)).trans HG2.out, HB2.out.trans (hb3.mono (by omega)), HX.out.below (HB2.out.trans (hb3.mono (by omega)))⟩
  clear hwr hb3 HG2 HB2 hgs
  obtain ⟨c0, c1, c2, c3, c4, c5, c6, c7, c8⟩ := I_cells H3.out.box
  go_wp2_with fail
  refine (writeAll32 (fun j => j < w.heap.size + 1 ∨ j = w3.heap.size) _ p [] (some ⟨w3.heap.size, 0, none⟩) 5 5 [k, g, li, m, s] (H3.out.wr.add _) (ns_block [k, g, li, m, s] (heap_alloc_new w3 _)) (fun _ ad h => by injection h with h; subst h; exact .inr rfl) (by simp) (by omega)).mono ?_
  rintro e w4 ⟨rfl, hwr, hkp⟩
  have H4 := Lib.hid (H3.out.step HX.out (W' := w4) (((Below.refl _ _).alloc H3.out.size _).trans (hkp.below2 (fun k hk => .inl hk))) (hwr.less (fun k hk => .inl hk)))
  clear hwr hkp H3 c0 c1 c2 c3 c4 c5 c6 c7 c8
  obtain ⟨c0, c1, c2, c3, c4, c5, c6, c7, c8⟩ := I_cells H4.out.box
  go_wp2_with fail
  refine (writeAll64 (fun j => j < w.heap.size + 1 ∨ j = w4.heap.size) _ p _ (some ⟨w4.heap.size, 0, none⟩) 3 3 [c, o, v] (H4.out.wr.add _) (ns_block [c, o, v] (heap_alloc_new w4 _)) (fun _ ad h => by injection h with h; subst h; exact .inr rfl) (by simp [enc_length]) (by omega)).mono ?_
  rintro e w5 ⟨rfl, hwr, hkp⟩
  have H5 := Lib.hid (H4.out.step HX.out (W' := w5) (((Below.refl _ _).alloc H4.out.size _).trans (hkp.below2 (fun k hk => .inl hk))) (hwr.less (fun k hk => .inl hk)))
  clear hwr hkp H4 c0 c1 c2 c3 c4 c5 c6 c7 c8
  obtain ⟨c0, c1, c2, c3, c4, c5, c6, c7, c8⟩ := I_cells H5.out.box
  have wn : IntKind.u32.wrap (n : Int) = (n : Int) := by rw [IntKind.wrap_u32]; omega
  go_wp2_with fail
  refine (writeAll32 (fun j => j < w.heap.size + 1 ∨ j = w5.heap.size) _ p _ (some ⟨w5.heap.size, 0, none⟩) 1 1 [n] (H5.out.wr.add _) (ns_block [n] (heap_alloc_new w5 _)) (fun _ ad h => by injection h with h; subst h; exact .inr rfl) (by simp [enc_length]) (by omega)).mono ?_
  rintro e w6 ⟨rfl, hwr, hkp⟩
  have H6 := Lib.hid (H5.out.step HX.out (W' := w6) (((Below.refl _ _).alloc H5.out.size _).trans (hkp.below2 (fun k hk => .inl hk))) (hwr.less (fun k hk => .inl hk)))
  clear hwr hkp H5 c0 c1 c2 c3 c4 c5 c6 c7 c8
  obtain ⟨c0, c1, c2, c3, c4, c5, c6, c7, c8⟩ := I_cells H6.out.box
  go_wp2_with fail
  refine (writeAll32 (· < w.heap.size + 1) _ p _ A n cp xs H6.out.wr H6.out.ns (fun h ad e => Nat.lt_succ_of_lt (HX.out.lt_block h ad e)) (by simp [enc_length]) (by omega)).mono ?_
  rintro e w7 ⟨rfl, hwr, hkp⟩
  have H7 := Lib.hid (H6.out.step HX.out (W' := w7) (hkp.below2 (fun k hk => hk)) hwr)
  clear hwr hkp H6 c0 c1 c2 c3 c4 c5 c6 c7 c8
  have HL : Hid ([] ++ enc 4 [k, g, li, m, s] ++ enc 8 [c, o, v] ++ enc 4 [n] ++ enc 4 xs = (Nd.mk k g li m s c o v xs).code) := by
    show _ = _
    rw [← Hn.out]
    simp [Nd.code, Nd.enc1, Nd.enc2, enc]
  rw [HL.out] at H7
  have HLen : Hid ((Nd.mk k g li m s c o v xs).code.length ≤ 3000000) := by
    show _ ≤ _
    rw [Nd.code_length]
    have := Hn.out
    simp only
    omega
  go_wp2_with fail
  refine (out_any _ w7 p _ H7.out.wr HLen.out).mono ?_
  rintro e w8 ⟨A8, c8, rfl, hown⟩
  have HO := Lib.hid hown
  clear hown
  go_wp2
  go_ret2
  unfold PutP
  rw [HZ.out]
  refine ⟨A8, _, c8, rfl, ?_, H7.out.bel.trans (HO.out.2.mono H7.out.bel.size)⟩
  rw [HP.out]
  exact HO.out.bs
end Go.Proofs.Ytkgpgaanodmpiaa
