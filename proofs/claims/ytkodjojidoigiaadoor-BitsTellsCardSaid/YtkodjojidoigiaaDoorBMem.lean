/-
  A row of bytes of the call's own: noughts are put behind it, a byte of it is written, it is copied, it is cut where its noughts begin (bits' extended, bytes.Clone, bytes.TrimRight; layer 6).
-/
import Derived.Test.YtkodjojidoigiaaDoorBSmall
import Derived.Lib.AppendZerosOnto
import Derived.Lib.SliceRun
namespace Go.Proofs.YtkodjojidoigiaaDoor
open Go.RowKit

theorem zeroCells_bc (k : Nat) : Builtin.zeroCells (Value.int .u8 0).cells k = (bc (List.replicate k 0)).toArray := by
  apply Array.ext'
  simp [Builtin.zeroCells, bc, Value.cells, Nat.mod_one]
  rw [List.eq_replicate_iff]
  simp

section
variable {P : Program} (w : World)
/-- append of noughts onto a row of bytes of the call's own. -/
theorem run_append_zeros (base : Nat) (t tn ty e : TypeId) (i : TypeInfo) (ht : P.underlying t = some (.slice e)) (htn : P.underlying tn = some (.int .i64)) (hi : P.info? e = some i) (hz : i.zero = some (.int .u8 0)) (hsize : i.size = 1) (hby : i.bytes = 1)
    (A0 : Option Addr) (n0 c0 : Nat) (l0 : List UInt8) (hown : w.ownsRow base e 1 (.slice A0 n0 c0) n0 (bc l0)) (k : Nat) (hb : n0 + k ≤ 3000000000) (hbase : base ≤ w.heap.size) :
    ∃ A' c' w', (Builtin.append_ #[t, tn] ty #[.slice A0 n0 c0, .int .i64 (k : Int)]).run P w = .ok (.slice A' (n0 + k) c') w' ∧ w'.ownsRow base e 1 (.slice A' (n0 + k) c') (n0 + k) (bc (l0 ++ List.replicate k 0)) ∧
      w.grownBy w' (Value.slice A0 n0 c0).ownBlock := by
  have hlen : (bc (l0 ++ List.replicate k 0)).length = (n0 + k) * 1 := by have := hown.1; rw [bc_length] at this ⊢; simp; omega
  have hzl : (bc (List.replicate k (0 : UInt8))).length = k := by rw [bc_length]; simp
  have hwrap : IntKind.i64.wrap (k : Int) = k := by rw [IntKind.wrap_i64]; omega
  have hneg : ¬ ((k : Int) < 0) := by omega
  have h48i : ¬ (281474976710656 < (k : Int)) := by omega
  have hw0 : IntKind.i64.wrap 0 = 0 := rfl
  have hl0 : (bc l0).length = n0 := by have := hown.1; omega
  have hzc : (Value.int .u8 0).cells.size = 1 := rfl
  rcases hown.2 with ⟨h1, h2⟩ | ⟨g, cap, cur, h1, hbg, hg, hnc, hcm, hcs, htake⟩
  · injection h1 with h1 h3 h4
    subst h1 h2 h4
    obtain rfl : l0 = [] := by cases l0 with | nil => rfl | cons _ _ => simp [bc_length] at hl0
    rcases Nat.eq_zero_or_pos k with hk | hk
    · subst hk
      refine ⟨none, 0, w, ?_, by simpa using hown, World.grownBy.refl w _⟩
      simp [Builtin.append_, run_underlying ht, run_underlying htn, sizeOf, typeInfo, hi, hby, asInt, asIntOf, hw0]
    · have hr := Lib.run_append_nil_zeros (P := P) w t tn ty e i (.int .u8 0) .i64 .i64 ht htn hi hz k hk (by omega) (by omega) (by rw [hby]; omega)
      rw [zeroCells_bc, zeroCells_bc] at hr
      refine ⟨some ⟨w.heap.size, 0, none⟩, _, _, by rw [Nat.zero_add]; exact hr, ⟨hlen, .inr ⟨w.heap.size, _, _, by rw [Nat.zero_add], hbase, heap_alloc_new w.drew _, by rw [Nat.zero_add]; exact grownCap_ge _ _ _ _, grownCap_le_maxLen _ _ _ _ (by unfold maxLen; omega), ?_, ?_⟩⟩, ⟨rfl, rfl, rfl, by simp, fun j hj _ => Below.heap_alloc w.drew _ _ hj⟩⟩
      · have := grownCap_ge w k 0 e
        simp [bc_length]; omega
      · simp only [Array.toList_append, List.nil_append, Nat.zero_add, Nat.mul_one]
        exact List.take_left' hzl
  · injection h1 with h1 h3 h4
    subst h1 h4
    by_cases hroom : n0 + k ≤ c0
    · have hst := run_storeCells_at P g (n0 * 1) e (bc (List.replicate k 0)) 0 cur w hg (by rw [hzl]; omega) (bc_one _)
      simp only [Nat.add_zero] at hst
      refine ⟨some ⟨g, 0, none⟩, c0, w.setRow g (cur.toList.take (n0 * 1) ++ bc (List.replicate k 0) ++ cur.toList.drop (n0 * 1 + (bc (List.replicate k (0 : UInt8))).length)).toArray, ?_, ?_, ?_⟩
      · rcases Nat.eq_zero_or_pos k with hk | hk
        · subst hk
          simp only [Nat.mul_one] at hst
          simp [Builtin.append_, run_underlying ht, run_underlying htn, sizeOf, typeInfo, hi, hsize, hby, asInt, asIntOf, hw0, hnc, Addr.add_lit]
          rw [show bc (List.replicate 0 (0 : UInt8)) = [] from rfl] at hst
          rw [show bc [] = [] from rfl]
          simp only [hst, Result.andThen_ok]
          simp
        · have hk0 : k ≠ 0 := by omega
          simp [Builtin.append_, run_underlying ht, run_underlying htn, sizeOf, typeInfo, zeroValue, hi, hz, hsize, hby, asInt, asIntOf, hwrap, hneg, h48i, hroom, hk0, Addr.add_lit, zeroCells_bc]
          simp only [Nat.mul_one] at hst
          simp only [hst, Result.andThen_ok]
          simp
      · refine ⟨hlen, .inr ⟨g, c0, _, rfl, hbg, setRow_heap w g cur _ e _ hg, hroom, hcm, ?_, ?_⟩⟩
        · simp only [List.size_toArray, List.length_append, List.length_take, List.length_drop, Array.length_toList, hzl]
          omega
        · rw [htake, bc_append, List.append_assoc]
          have e1 : ((n0 + k) * 1) = (bc l0 ++ bc (List.replicate k 0)).length := by rw [List.length_append, hl0, hzl]; omega
          rw [e1, ← List.append_assoc]
          exact List.take_left
      · exact ⟨rfl, rfl, rfl, by simp, fun j _ hj => setRow_other w g j _ (fun e => hj (by simp [Value.ownBlock, e]))⟩
    · have hk : 0 < k := by omega
      have hold : (Builtin.firstCells i.size n0 (.slice (some ⟨g, 0, none⟩) n0 c0)).run P w.drew = .ok (bc l0).toArray w.drew :=
        run_firstCells_some (P := P) w.drew i.size n0 ⟨g, 0, none⟩ n0 c0 (bc l0) (by rw [hl0, hsize]; omega) (hown.cells (g := g) rfl)
      have hr := Lib.run_append_grow_zeros (P := P) w t tn ty e i (.int .u8 0) .i64 .i64 ht htn hi hz (some ⟨g, 0, none⟩) n0 c0 (bc l0) hold k hk (by omega) (by omega) (by omega) (by rw [hby]; omega) (by rw [hby]; exact growslice_fits (by omega) (by omega))
      rw [zeroCells_bc, zeroCells_bc] at hr
      have hge := grownCap_ge w (n0 + k) c0 e
      refine ⟨some ⟨w.heap.size, 0, none⟩, _, _, hr, ⟨hlen, .inr ⟨w.heap.size, _, _, rfl, hbase, heap_alloc_new w.drew _, hge, grownCap_le_maxLen _ _ _ _ (by unfold maxLen; omega), ?_, ?_⟩⟩, ⟨rfl, rfl, rfl, by simp, fun j hj _ => Below.heap_alloc w.drew _ _ hj⟩⟩
      · simp [bc_length] at hl0 ⊢; omega
      · rw [bc_append, Array.toList_append, Array.toList_append]
        have e1 : ((n0 + k) * 1) = (bc l0 ++ bc (List.replicate k 0)).length := by rw [List.length_append, hl0, hzl]; omega
        rw [e1]
        exact List.take_left
end
/-- A byte of a row of the call's own is written. -/
theorem own_set {w : World} {base : Nat} {e : TypeId} {g n c : Nat} {l : List UInt8} (h : w.ownsRow base e 1 (.slice (some ⟨g, 0, none⟩) n c) n (bc l)) {j : Nat} (hj : j < n) :
    (∃ hl : j < l.length, w.cell? ⟨g, j, none⟩ = some (.int .u8 (l[j].toNat : Int))) ∧ w.frozen? ⟨g, j, none⟩ = false ∧ base ≤ g ∧ ∀ b : UInt8, (w.setCell ⟨g, j, none⟩ (.int .u8 (b.toNat : Int))).ownsRow base e 1 (.slice (some ⟨g, 0, none⟩) n c) n (bc (l.set j b)) := by
  have hl : l.length = n := by have := h.1; rw [bc_length] at this; omega
  have hc := h.cells (g := g) rfl j _ (bc_get l j (by omega))
  rw [add_plain, Nat.zero_add] at hc
  rcases h.2 with ⟨h1, _⟩ | ⟨g', cap, cur, h1, hb, hg, hnc, hcm, hcs, ht⟩
  · cases h1
  · injection h1 with h1 _ h5
    injection h1 with h1
    injection h1 with h1 _ _
    subst h1 h5
    refine ⟨⟨by omega, hc⟩, by simp [World.frozen?, hg], hb, fun b => ?_⟩
    refine ⟨by rw [bc_length, List.length_set, hl]; omega, .inr ⟨g, c, cur.setIfInBounds j (.int .u8 (b.toNat : Int)), rfl, hb, ?_, hnc, hcm, ?_, ?_⟩⟩
    · rw [setCell_eq_setRow _ _ _ _ _ _ _ hg, setRow_heap _ _ _ _ _ _ hg]
    · simpa using hcs
    · rw [Array.toList_setIfInBounds, List.take_set, ht]
      simp [bc, List.map_set]

theorem Own.none (w : World) : Own w w none 0 0 [] := ⟨World.ownsRow_nil _ _ _ _, Below.refl _ _⟩
set_option maxRecDepth 100000 in
set_option maxHeartbeats 1000000 in
theorem clone_any (A : Option Addr) (n c : Nat) (l : List UInt8) (w : World) (h : BS w A n l) (hn : n ≤ 1000000) :
    Calls Tryd.prog 20 #[.slice A n c] w fun e w' => ∃ A' c', e = .returned (.slice A' n c') ∧ Own w w' A' n c' l := by
  obtain ⟨i, hi, hz, hs, hb⟩ := info_parts info_u8
  have q := fun (w : World) (a : Option Addr) (n c n' c' : Nat) => Lib.run_eql_slice_nil (P := Tryd.prog) w 22 5 a n c n' c' Tryd.underlying22
  have HL := Lib.hid h
  rcases A with _ | ad
  · have h0 : n = 0 := by
      rcases Nat.eq_zero_or_pos n with h0 | h0
      · exact h0
      · obtain ⟨b, o, h, _⟩ := h.2 h0
        cases h
    subst h0
    obtain rfl : l = [] := List.eq_nil_of_length_eq_zero h.1
    clear h
    go_enter Tryd.func20, Tryd.ntmps20
    go_wp2
    go_ret
    exact ⟨none, 0, rfl, Own.none w⟩
  · clear h
    have HO : Hid ((w.alloc (.cells #[] 5)).ownsRow w.heap.size 5 1 (.slice (some ⟨w.heap.size, 0, none⟩) 0 0) 0 (bc [])) := World.ownsRow_made w #[] 0 (Nat.le_refl _) (Nat.zero_le _) rfl
    go_enter Tryd.func20, Tryd.ntmps20
    go_wp2_with (at_builtin; refine wpList_append_bytes _ rfl _ _ 22 rfl w.heap.size 5 i Tryd.underlying22 hi hz hs hb _ _ _ [] rfl HO.out _ _ _ l rfl (HL.out.alloc _) (by omega) (by simp) ?_; intro A' c' w' h1 h2 h3; have H1 := Lib.hid h1; have H2 := Lib.hid h2; clear h1 h2 h3)
    go_ret
    refine ⟨A', c', rfl, by have := H1.out; simpa using this, ?_⟩
    exact ((Below.refl _ w).alloc (Nat.le_refl _) _).grown H2.out (by simp) (by intro k hk; simp [Value.ownBlock] at hk; omega)

set_option maxRecDepth 100000 in
set_option maxHeartbeats 1000000 in
theorem extended_any (base : Nat) (A : Option Addr) (n c : Nat) (l : List UInt8) (k : Nat) (w : World) (h : w.ownsRow base 5 1 (.slice A n c) n (bc l)) (hb : base ≤ w.heap.size) (hn : n ≤ 1000000) (hk : k ≤ 1000000000) :
    Calls Tryd.prog 22 #[.slice A n c, .int .i64 (k : Int)] w fun e w' => ∃ A' c', e = .returned (.slice A' (n + (k - n)) c') ∧ w'.ownsRow base 5 1 (.slice A' (n + (k - n)) c') (n + (k - n)) (bc (l ++ List.replicate (k - n) 0)) ∧ Keep (· < base) w w' := by
  obtain ⟨i, hi, hz, hs, hb1⟩ := info_parts info_u8
  have HO := Lib.hid h
  obtain ⟨A', c', w', hr, h1, h2⟩ := run_append_zeros (P := Tryd.prog) w base 22 3 22 5 i Tryd.underlying22 Tryd.underlying3 hi hz hs hb1 A n c l h (k - n) (by omega) hb
  have HR := Lib.hid hr
  have H1 := Lib.hid h1
  have H2 := Lib.hid h2
  have HM : Hid (max ((k : Int) - (n : Int)) 0 = ((k - n : Nat) : Int)) := by show _ = _; omega
  clear h hr h1 h2
  go_enter Tryd.func22, Tryd.ntmps22
  go_wp2_with (at_builtin; refine Lib.wpList_append_run _ rfl _ _ _ _ rfl _ _ rfl (by rw [← HM.out]; rfl) _ _ HR.out ?_)
  go_ret
  exact ⟨A', c', rfl, H1.out, ⟨H2.out.os, H2.out.tape, H2.out.output, H2.out.size, fun j hj => H2.out.block j (by omega) (fun e => by have := (HO.out.lt j e.symm).1; omega)⟩⟩

theorem take_trim {l : List UInt8} {k : Nat} (hk : k < l.length) (h : l[k] = 0) : Bt.trim (l.take (k + 1)) = Bt.trim (l.take k) := by
  rw [List.take_succ_eq_append_getElem hk, h, Bt.trim_zero]
theorem take_trimmed {l : List UInt8} {k : Nat} (hk : k < l.length) (h : l[k] ≠ 0) : Bt.trim (l.take (k + 1)) = l.take (k + 1) := by
  rw [List.take_succ_eq_append_getElem hk, Bt.trim_other _ h]

set_option maxRecDepth 100000 in
set_option maxHeartbeats 1000000 in
theorem trimByte_any (A : Option Addr) (n c : Nat) (l : List UInt8) (w : World) (h : BS w A n l) (hn : n ≤ 1000000000) (hc : n ≤ c) :
    Calls Tryd.prog 25 #[.slice A n c, .int .u8 0] w fun e w' => e = .returned (.slice A (Bt.trim l).length c) ∧ Hid (BS w A (Bt.trim l).length (Bt.trim l)) ∧ w = w' := by
  have HL := Lib.hid h
  have HLN : Hid (l.length = n) := h.1
  clear h
  go_enter Tryd.func25, Tryd.ntmps25
  go_wp2
  go_loop [0] (fun v => ∃ k : Nat, k ≤ n ∧ v = .slice A k c ∧ Hid (Bt.trim (l.take k) = Bt.trim l)) (fun v => match v with | .slice _ k _ => k | _ => 0)
  case atStart => exact ⟨n, Nat.le_refl _, rfl, by show _ = _; rw [List.take_of_length_le (by rw [HLN.out]; exact Nat.le_refl _)]⟩
  case round =>
    obtain ⟨k, hk, rfl, HT⟩ := hrel
    rcases Nat.eq_zero_or_pos k with hk0 | hk0
    · subst hk0
      have HE : Hid (Bt.trim l = []) := by show _ = _; rw [← HT.out]; rfl
      go_wp2
      go_ret
      rw [HE.out]
      exact ⟨rfl, BS.nil, rfl⟩
    · obtain ⟨j, rfl⟩ : ∃ j, k = j + 1 := ⟨k - 1, by omega⟩
      have hj : j < n := by omega
      obtain ⟨b, o, rfl, hjl, hcell⟩ := HL.out.at hj
      have e1 : ((j + 1 : Nat) : Int) - 1 = (j : Int) := by omega
      by_cases hz : l[j] = 0
      · have HT2 : Hid (Bt.trim (l.take j) = Bt.trim l) := by show _ = _; rw [← HT.out, take_trim hjl hz]
        rw [hz] at hcell
        clear hz
        go_wp2
        go_round
        case rel => exact ⟨j, by omega, rfl, HT2⟩
        case measure => simp
      · have HE : Hid (Bt.trim l = l.take (j + 1)) := by show _ = _; rw [← HT.out, take_trimmed hjl hz]
        have hz2 : ((l[j].toNat : Int) == 0) = false := by
          have : l[j].toNat ≠ 0 := fun e => hz (UInt8.toNat_inj.1 (by simpa using e))
          simp; omega
        have HLT := Lib.hid (HL.out.take (k := j + 1) (by omega))
        have HLL : Hid ((l.take (j + 1)).length = j + 1) := by show _ = _; rw [List.length_take]; omega
        clear hz
        go_wp2
        go_ret
        rw [HE.out, HLL.out]
        exact ⟨rfl, HLT.out, rfl⟩

set_option maxRecDepth 100000 in
set_option maxHeartbeats 1000000 in
theorem trimRight_any (A : Option Addr) (n c : Nat) (l : List UInt8) (w : World) (h : BS w A n l) (hn : n ≤ 1000000000) (hc : n ≤ c) :
    Calls Tryd.prog 23 #[.slice A n c, .string ⟨#[0]⟩] w fun e w' => e = .returned (.slice A (Bt.trim l).length c) ∧ Hid (BS w A (Bt.trim l).length (Bt.trim l)) ∧ w = w' := by
  have HL := Lib.hid h
  have HLN : Hid (l.length = n) := h.1
  clear h
  rcases Nat.eq_zero_or_pos n with h0 | h0
  · subst h0
    have HE : Hid (l = []) := List.eq_nil_of_length_eq_zero HLN.out
    go_enter Tryd.func23, Tryd.ntmps23
    go_wp2
    go_ret
    rw [HE.out]
    exact ⟨rfl, BS.nil, rfl⟩
  · have hd : ((n : Int) == 0) = false := by simp; omega
    go_enter Tryd.func23, Tryd.ntmps23
    go_wp2_with fail
    refine (trimByte_any A n c l _ HL.out hn hc).mono ?_
    rintro e w' ⟨rfl, HB, rfl⟩
    go_wp2
    go_ret
    exact ⟨rfl, HB, rfl⟩
end Go.Proofs.YtkodjojidoigiaaDoor
