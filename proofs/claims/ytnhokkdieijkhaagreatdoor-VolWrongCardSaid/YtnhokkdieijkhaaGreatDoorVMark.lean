/-
  Bytes of a string that were converted: a row of one's own whose block bears a mark behind its cells; append onto it (layer 12).
-/
import Derived.Test.YtnhokkdieijkhaaGreatDoorVLaw
import Derived.Lib.ConvBytes
namespace Go.Proofs.YtnhokkdieijkhaaGreatDoor
open Go.RowKit

/-- A slice of bytes from B on, its block's cells from 0 to c, none of them frozen; it reads l. -/
structure OM (w : World) (B g n c : Nat) (l : List UInt8) : Prop where
  low : B ≤ g
  blk : ∃ (cur : Array Value) (fz : Nat × Nat), w.heap[g]? = some (.cells cur 5 fz) ∧ (∀ j, j < cur.size → fz.1 ≤ j → fz.2 ≤ j) ∧ cur.size = c ∧ cur.toList.take n = bc l
  nc : n ≤ c
  cm : c ≤ maxLen
  len : l.length = n
section
variable {w w' : World} {B g n c : Nat} {l : List UInt8}
theorem OM.lt (h : OM w B g n c l) : g < w.heap.size := by
  obtain ⟨cur, fz, h1, _⟩ := h.blk
  exact (Array.getElem?_eq_some_iff.1 h1).1
theorem OM.below (h : OM w B g n c l) (hb : Below w.heap.size w w') : OM w' B g n c l := by
  obtain ⟨cur, fz, h1, h2⟩ := h.blk
  exact ⟨h.low, ⟨cur, fz, (hb.block g h.lt).trans h1, h2⟩, h.nc, h.cm, h.len⟩
theorem OM.cell (h : OM w B g n c l) (j : Nat) (hj : j < l.length) : w.cell? ⟨g, j, none⟩ = some (.int .u8 (l[j].toNat : Int)) := by
  obtain ⟨cur, fz, h1, _, h3, h4⟩ := h.blk
  rw [cell_of_row _ _ _ _ _ _ h1]
  have e := congrArg (fun x : List Value => x[j]?) h4
  simp only [List.getElem?_take] at e
  rw [if_pos (by have := h.len; omega), bc_get l j hj] at e
  simpa using e
theorem OM.froz (h : OM w B g n c l) (j : Nat) (hj : j < n) : w.frozen? ⟨g, j, none⟩ = false := by
  obtain ⟨cur, ⟨lo, hi⟩, h1, h2, h3, h4⟩ := h.blk
  have := h2 j (by have := h.nc; omega)
  simp only at this
  simp only [World.frozen?, h1, Bool.and_eq_false_iff, decide_eq_false_iff_not]
  omega
theorem OM.bs (h : OM w B g n c l) : BS w (some ⟨g, 0, none⟩) n l := by
  refine ⟨h.len, fun _ => ⟨g, 0, rfl, fun j hj => ?_⟩⟩
  rw [Nat.zero_add]
  exact h.cell j hj
theorem OM.set (h : OM w B g n c l) (j : Nat) (v : UInt8) : OM (w.setCell ⟨g, j, none⟩ (.int .u8 (v.toNat : Int))) B g n c (l.set j v) := by
  obtain ⟨cur, fz, h1, h2, h3, h4⟩ := h.blk
  refine ⟨h.low, ⟨cur.setIfInBounds j (.int .u8 (v.toNat : Int)), fz, ?_, ?_, ?_, ?_⟩, h.nc, h.cm, by simpa using h.len⟩
  · rw [setCell_eq_setRow w g j cur _ fz _ h1]
    exact setRow_heap w g cur _ _ fz h1
  · simpa using h2
  · simpa using h3
  · rw [Array.toList_setIfInBounds, List.take_set, h4]
    simp [bc, List.map_set]
/-- A string's bytes. -/
theorem OM.conv (w : World) (s : ByteArray) (hs : s.size ≤ maxLen) : OM (Lib.bytesWorld w 5 s) w.heap.size w.heap.size s.size (grownCap w s.size 0 5) s.data.toList := by
  have hge := grownCap_ge w s.size 0 5
  refine ⟨Nat.le_refl _, ⟨_, _, Lib.bytesWorld_at_new w _ s, fun j hj h => ?_, ?_, ?_⟩, hge, grownCap_le_maxLen w _ _ _ hs, by rw [Array.length_toList]; rfl⟩
  · simp only at h; omega
  · have : s.data.size = s.size := rfl
    simp only [Lib.bytesCells, Array.size_append, Array.size_map, Array.size_replicate, this]
    omega
  · have : s.data.size = s.size := rfl
    simp only [Lib.bytesCells, Array.toList_append, Array.toList_map]
    rw [List.take_left' (by simp [this])]
    simp [bc]
theorem bytesWorld_bel (w : World) (s : ByteArray) : Below w.heap.size w (Lib.bytesWorld w 5 s) :=
  ⟨rfl, rfl, rfl, by rw [Lib.bytesWorld_size]; omega, fun k hk => Lib.bytesWorld_at_old w _ s k hk⟩
/-- One more byte. -/
theorem OM.more (h : OM w B g n c l) (ad : Addr) (cc : Nat) (b : UInt8) (hb : w.cell? ad = some (.int .u8 (b.toNat : Int))) (hn : n ≤ 1000000) (hB : B ≤ w.heap.size) :
    ∃ g' c' w', (Builtin.append_ #[30, 30] 30 #[.slice (some ⟨g, 0, none⟩) n c, .slice (some ad) 1 cc]).run Tryz.prog w = .ok (.slice (some ⟨g', 0, none⟩) (n + 1) c') w' ∧ OM w' B g' (n + 1) c' (l ++ [b]) ∧ w.grownBy w' (some g) := by
  obtain ⟨i0, hi0, hz0, hz1, hz2⟩ := info_parts infos_u8
  obtain ⟨cur, fz, h1, h2, h3, h4⟩ := h.blk
  have hnews : ∀ j u, [Value.int .u8 (b.toNat : Int)][j]? = some u → w.cell? (ad.add j) = some u := by
    intro j u hu
    match j, hu with
    | 0, hu =>
      simp at hu
      subst hu
      have : ad.add 0 = ad := by unfold Addr.add; split <;> simp_all
      rw [this]
      exact hb
  have hbl : (bc l).length = n := by simp [bc, h.len]
  by_cases hroom : n + 1 ≤ c
  · refine ⟨g, c, w.setCell ⟨g, n, none⟩ (.int .u8 (b.toNat : Int)), ?_, ⟨h.low, ⟨cur.setIfInBounds n (.int .u8 (b.toNat : Int)), fz, ?_, by simpa using h2, by simpa using h3, ?_⟩, hroom, h.cm, by simp [h.len]⟩, ?_⟩
    · have hf := run_firstCells_some (P := Tryz.prog) w i0.size 1 ad 1 cc [Value.int .u8 (b.toNat : Int)] (by simp [hz1]) hnews
      have hfro : w.frozen? ⟨g, n, none⟩ = false := by
        obtain ⟨lo, hi⟩ := fz
        have := h2 n (by omega)
        simp only at this
        simp only [World.frozen?, h1, Bool.and_eq_false_iff, decide_eq_false_iff_not]
        omega
      have hcell : w.cell? ⟨g, n, none⟩ = some cur[n] := by simp [World.cell?, h1, h3, show n < c by omega]
      have hadd : (⟨g, n, none⟩ : Addr).add 0 = ⟨g, n, none⟩ := by unfold Addr.add; split <;> simp_all
      have hst : (storeCells ⟨g, n, none⟩ [Value.int .u8 (b.toNat : Int)] 0).run Tryz.prog w = .ok () (w.setCell ⟨g, n, none⟩ (.int .u8 (b.toNat : Int))) := by
        simp only [storeCells, hadd, Sem.run_bind, run_store Tryz.prog w _ _ _ (show (Value.int IntKind.u8 (b.toNat : Int)).oneCell' = true from rfl), hcell, hfro]
        rfl
      rw [hz1] at hf
      simp [Builtin.append_, run_underlying Tryz.underlying30, sizeOf, typeInfo, hi0, hz1, Builtin.lenOf, hroom, hf, Addr.add_lit, hst]
    · rw [setCell_eq_setRow w g n cur _ fz _ h1]
      exact setRow_heap w g cur _ _ fz h1
    · rw [Array.toList_setIfInBounds]
      have : (cur.toList.set n (Value.int .u8 (b.toNat : Int))).take (n + 1) = cur.toList.take n ++ [Value.int .u8 (b.toNat : Int)] := by
        have hcl : cur.toList.length = c := by simpa using h3
        apply List.ext_getElem?
        intro j
        rw [List.getElem?_take]
        by_cases hj : j < n
        · rw [if_pos (by omega), List.getElem?_set_ne (by omega), List.getElem?_append_left (by rw [List.length_take]; omega), List.getElem?_take, if_pos hj]
        · by_cases e : j = n
          · subst e
            rw [if_pos (by omega), List.getElem?_set_self (by omega), List.getElem?_append_right (by rw [List.length_take]; omega), List.length_take, show j - min j cur.toList.length = 0 by omega]
            rfl
          · rw [if_neg (by omega), List.getElem?_eq_none (by rw [List.length_append, List.length_take]; simp; omega)]
      rw [this, h4]
      simp [bc]
    · rw [setCell_eq_setRow w g n cur _ fz _ h1]
      exact ⟨rfl, rfl, rfl, by simp, fun k _ hk => setRow_other w g k _ (fun e => hk (by rw [e]))⟩
  · have holds : ∀ j u, (bc l)[j]? = some u → w.cell? ((⟨g, 0, none⟩ : Addr).add j) = some u := by
      intro j u hu
      have hj : j < l.length := by have := (List.getElem?_eq_some_iff.1 hu).1; simpa [bc] using this
      have hadd : (⟨g, 0, none⟩ : Addr).add j = ⟨g, j, none⟩ := by unfold Addr.add; split <;> simp_all
      rw [hadd, h.cell j hj, ← bc_get l j hj, hu]
    have hr := run_append_grow (P := Tryz.prog) w 30 30 5 i0 (.int .u8 0) Tryz.underlying30 hi0 hz0 ⟨g, 0, none⟩ n c (bc l) (by rw [hz1, hbl]; omega) holds ad 1 cc [.int .u8 (b.toNat : Int)] (by rw [hz1]; rfl) hnews (by omega) (by omega) (growslice_fits (by omega) (by rw [hz2]; omega))
    have hge := grownCap_ge w (n + 1) c 5
    refine ⟨_, _, _, hr, ⟨hB, ⟨_, _, heap_alloc_new w.drew _, fun j hj _ => Nat.zero_le _, ?_, ?_⟩, hge, grownCap_le_maxLen w _ _ _ (by unfold maxLen; omega), by simp [h.len]⟩, ⟨rfl, rfl, rfl, by simp, fun k hk _ => Below.heap_alloc w.drew _ k hk⟩⟩
    · simp only [Array.size_append, List.size_toArray, size_zeroCells, hbl]
      have : (Value.int IntKind.u8 0).cells.size = 1 := rfl
      rw [this]
      simp
      omega
    · simp only [Array.toList_append]
      rw [List.take_left' (by simp [hbl])]
      simp [bc]
end
/-- .. as the walk meets it. -/
theorem wpList_append_mark {ops : Array Oper} {rest : List Oper} {o : Oper} {a : Act} {Q : Exit → Act → World → Prop} {w : World} (hgd : o.guard = none) (s x : Operand)
    (ho : o.op = .call { callee := .builtin .append, args := #[s, x], argTypes := #[30, 30] }) (hty : o.type = 30) {B g n c : Nat} {l : List UInt8} (hs : a.eval s = .slice (some ⟨g, 0, none⟩) n c) (h : OM w B g n c l)
    (ad : Addr) (cc : Nat) (hx : a.eval x = .slice (some ad) 1 cc) (b : UInt8) (hb : w.cell? ad = some (.int .u8 (b.toNat : Int))) (hn : n ≤ 1000000) (hB : B ≤ w.heap.size)
    (hK : ∀ g' c' w', OM w' B g' (n + 1) c' (l ++ [b]) → w.grownBy w' (some g) → wpList Tryz.prog ops Q rest (a.put o.dst (.slice (some ⟨g', 0, none⟩) (n + 1) c')) w') :
    wpList Tryz.prog ops Q (o :: rest) a w := by
  refine wpList_plain hgd fun K hK' => ?_
  obtain ⟨g', c', w', hr, h2, h3⟩ := h.more ad cc b hb hn hB
  unfold Oper.wp execOp
  simp only [ho, hty, resolve, invoke, builtin, Sem.run_bind, Sem.run_pure, Result.andThen_ok, List.map_toArray, List.map_cons, List.map_nil, hs, hx, hr]
  exact hK' _ _ (hK g' c' w' h2 h3)
end Go.Proofs.YtnhokkdieijkhaaGreatDoor
