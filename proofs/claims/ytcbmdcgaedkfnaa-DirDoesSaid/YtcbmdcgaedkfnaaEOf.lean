/-
  Contracts of entriesOf and of the reference's Same (layer 8).
-/
import Derived.Test.YtcbmdcgaedkfnaaEKit
import Derived.Deep.DeepCutAuto
namespace Go.Proofs.Ytcbmdcgaedkfnaa
open Go.RowKit Go.Shelf

theorem built_F (c : Int) (i g : Int) (v : ByteArray) : Try.prog.built 50 [(0, .int .u64 c), (1, .agg #[.int .u32 i, .int .u32 g]), (2, .string v)] = some #[.int .u64 c, .int .u32 i, .int .u32 g, .string v] := by kernel_rfl

theorem zsize_F : (Try.prog.info? 50).map (fun i => (i.zero, i.size)) = some (some (.agg (ec ⟨0, 0, 0, []⟩).toArray), 4) := by kernel_rfl
theorem run_did_build {P : Program} {o : Oper} {a : Act} (t : TypeId) (parts : Array (Nat × Operand)) (ho : o.op = .build t parts) (cells : Array Value) (hf : P.built t (parts.map fun (i, x) => (i, a.eval x)).toList = some cells) (w : World) : (execOp a.eval o).run P w = .ok (.value (.agg cells)) w := by
  unfold execOp
  simp only [ho, Sem.run_bind, run_build w t _ cells hf, Result.andThen_ok]
  rfl
theorem step_wp {P : Program} {o : Oper} {a : Act} {w : World} {ops : Array Oper} {K : Act → World → Prop} {Q : Exit → Act → World → Prop} {E : Prop} (hg : o.guard = none) (h : o.wp P a w K Q) :
    if Region.wanted o (yielded ops a.tmps) = true then Oper.wp P o a w K Q else E := by
  have hw : Region.wanted o (yielded ops a.tmps) = true := by simp [Region.wanted, hg]
  rw [if_pos hw]
  exact h
/-- The cells of one entry. -/
structure E4 (b q : Nat) (e : En) (w : World) : Prop where
  c0 : w.cell? ⟨b, q, none⟩ = some (.int .u64 (e.ck : Int))
  c1 : w.cell? ⟨b, q + 1, none⟩ = some (.int .u32 (e.ino : Int))
  c2 : w.cell? ⟨b, q + 2, none⟩ = some (.int .u32 (e.gen : Int))
  c3 : w.cell? ⟨b, q + 3, none⟩ = some (.string (txt e.nm))
theorem E4.of {b q : Nat} {e : En} {w : World} (h : ∀ i v, (ec e)[i]? = some v → w.cell? ⟨b, q + i, none⟩ = some v) : E4 b q e w := ⟨h 0 _ rfl, h 1 _ rfl, h 2 _ rfl, h 3 _ rfl⟩
theorem E4.below {b q : Nat} {e : En} {w w' : World} (h : E4 b q e w) (hb : Below w.heap.size w w') : E4 b q e w' := by
  have hl : b < w.heap.size := World.block_lt_of_cell? w _ h.c0
  exact ⟨(hb.cell (p := ⟨b, _, none⟩) hl).trans h.c0, (hb.cell (p := ⟨b, _, none⟩) hl).trans h.c1, (hb.cell (p := ⟨b, _, none⟩) hl).trans h.c2, (hb.cell (p := ⟨b, _, none⟩) hl).trans h.c3⟩

set_option maxRecDepth 100000 in
set_option maxHeartbeats 4000000 in
theorem of_any2 (A : Option Addr) (n c : Nat) (es : List En) (w : World) (h : ES w A n es) (hn : n ≤ 10000000) :
    Calls Try.prog 14 #[.slice A n c] w fun e w' => ∃ A' c', e = .returned (.slice A' n c') ∧ ES w' A' n es ∧ (n ≤ c' ∧ c' ≤ 9223372036854775807) ∧ Below w.heap.size w w' := by
  obtain ⟨i0, hi0, hz0, hz1, hz2⟩ := info_parts info_F
  have HI0 := Lib.hid hi0
  have HZ0 := Lib.hid hz0
  have HZ1 := Lib.hid hz1
  have HZ2 := Lib.hid hz2
  have HS := Lib.hid h
  have HN : Hid (es.length = n) := h.1
  clear hi0 hz0 hz1 hz2 h
  go_enter Try.func14, Try.ntmps14
  go_wp2_with fail
  go_loopw [3, 4] (fun L i wr => ∃ k : Nat, k ≤ n ∧ i = .int .i64 k ∧ ∃ A' c', L = .slice A' k c' ∧ Hid (wr.ownsRow w.heap.size 50 4 (.slice A' k c') k (ecs (es.take k))) ∧ Hid (Below w.heap.size w wr)) (fun _ i _ => n - (intOf i).toNat)
  case atStart => exact ⟨0, by omega, rfl, none, 0, rfl, World.ownsRow_nil _ _ _ _, Below.refl _ _⟩
  case round =>
    obtain ⟨k, hk, rfl, A', c', rfl, HO, HW⟩ := hrel
    by_cases hlt : k < n
    · have hlt' : (k : Int) < (n : Int) := by omega
      obtain ⟨b, o, rfl, hbl, hj, hc0⟩ := HS.out.at hlt
      have hc : ∀ i v, (ec es[k])[i]? = some v → wr.cell? ⟨b, o + k * 4 + i, none⟩ = some v := fun i v hv => (HW.out.cell (p := ⟨b, _, none⟩) hbl).trans (hc0 i v hv)
      have HCW := Lib.hid hc0
      clear hc0
      have HT : Hid (es.take (k + 1) = es.take k ++ [es[k]]) := List.take_succ_eq_append_getElem hj
      generalize es[k] = e at *
      have HE0 : Hid (E4 b (o + k * 4) e w) := E4.of (HCW.out)
      have HS4 : Hid (E4 b (o + k * 4) e wr.drew) := (let h : E4 b (o + k * 4) e wr := E4.of hc; ⟨h.c0, h.c1, h.c2, h.c3⟩)
      clear hc
      have HBF : Hid (Try.prog.built 50 [(0, .int .u64 (e.ck : Int)), (1, .agg #[.int .u32 (e.ino : Int), .int .u32 (e.gen : Int)]), (2, .string (txt e.nm))] = some (ec e).toArray) := built_F _ _ _ _
      have hecl := ec_length e
      go_upto_region 5 with (fail)
      refine wp_region_held_drew (S := E4 b (o + k * 4) e) (by kernel_rfl) HS4.out (fun _ => ?_)
      change wpAnyH _ _ _ _ _ 20 (Array.replicate 20 false) _ _
      refine takeH (i := 0) 11 (.slice A' k c') rfl rfl (by kernel_rfl) (by kernel_rfl) (by kernel_rfl) (fun _ _ _ h => h) (.inl ⟨by rfl, fun W hW => by (obtain ⟨k0, k1, k2, k3⟩ := hW; go_simp)⟩) HS4.out ?_
      simp only [Act.put, List.setIfInBounds_toArray, List.set_cons_zero, List.set_cons_succ]
      refine takeH (i := 1) 12 (.slice (some ⟨b, o, none⟩) n c) rfl rfl (by kernel_rfl) (by kernel_rfl) (by kernel_rfl) (fun _ _ _ h => h) (.inl ⟨by rfl, fun W hW => by (obtain ⟨k0, k1, k2, k3⟩ := hW; go_simp)⟩) HS4.out ?_
      simp only [Act.put, List.setIfInBounds_toArray, List.set_cons_zero, List.set_cons_succ]
      refine takeH (i := 2) 13 (.int .i64 (k : Int)) rfl rfl (by kernel_rfl) (by kernel_rfl) (by kernel_rfl) (fun _ _ _ h => h) (.inl ⟨by rfl, fun W hW => by (obtain ⟨k0, k1, k2, k3⟩ := hW; go_simp)⟩) HS4.out ?_
      simp only [Act.put, List.setIfInBounds_toArray, List.set_cons_zero, List.set_cons_succ]
      refine takeH (i := 3) 14 (.pointer (some ⟨b, o + k * 4, none⟩)) rfl rfl (by kernel_rfl) (by kernel_rfl) (by kernel_rfl) (fun _ _ _ h => h) (.inl ⟨by rfl, fun W hW => by (obtain ⟨k0, k1, k2, k3⟩ := hW; go_simp)⟩) HS4.out ?_
      simp only [Act.put, List.setIfInBounds_toArray, List.set_cons_zero, List.set_cons_succ]
      refine takeH (i := 4) 15 (.pointer (some ⟨b, o + k * 4, none⟩)) rfl rfl (by kernel_rfl) (by kernel_rfl) (by kernel_rfl) (fun _ _ _ h => h) (.inl ⟨by rfl, fun W hW => by (obtain ⟨k0, k1, k2, k3⟩ := hW; go_simp)⟩) HS4.out ?_
      simp only [Act.put, List.setIfInBounds_toArray, List.set_cons_zero, List.set_cons_succ]
      refine takeH (i := 5) 16 (.int .u64 (e.ck : Int)) rfl rfl (by kernel_rfl) (by kernel_rfl) (by kernel_rfl) (fun _ _ _ h => h) (.inl ⟨by rfl, fun W hW => by (obtain ⟨k0, k1, k2, k3⟩ := hW; go_simp)⟩) HS4.out ?_
      simp only [Act.put, List.setIfInBounds_toArray, List.set_cons_zero, List.set_cons_succ]
      refine takeH (i := 6) 17 (.slice (some ⟨b, o, none⟩) n c) rfl rfl (by kernel_rfl) (by kernel_rfl) (by kernel_rfl) (fun _ _ _ h => h) (.inl ⟨by rfl, fun W hW => by (obtain ⟨k0, k1, k2, k3⟩ := hW; go_simp)⟩) HS4.out ?_
      simp only [Act.put, List.setIfInBounds_toArray, List.set_cons_zero, List.set_cons_succ]
      refine takeH (i := 7) 18 (.int .i64 (k : Int)) rfl rfl (by kernel_rfl) (by kernel_rfl) (by kernel_rfl) (fun _ _ _ h => h) (.inl ⟨by rfl, fun W hW => by (obtain ⟨k0, k1, k2, k3⟩ := hW; go_simp)⟩) HS4.out ?_
      simp only [Act.put, List.setIfInBounds_toArray, List.set_cons_zero, List.set_cons_succ]
      refine takeH (i := 8) 19 (.pointer (some ⟨b, o + k * 4, none⟩)) rfl rfl (by kernel_rfl) (by kernel_rfl) (by kernel_rfl) (fun _ _ _ h => h) (.inl ⟨by rfl, fun W hW => by (obtain ⟨k0, k1, k2, k3⟩ := hW; go_simp)⟩) HS4.out ?_
      simp only [Act.put, List.setIfInBounds_toArray, List.set_cons_zero, List.set_cons_succ]
      refine takeH (i := 9) 20 (.pointer (some ⟨b, o + k * 4 + 1, none⟩)) rfl rfl (by kernel_rfl) (by kernel_rfl) (by kernel_rfl) (fun _ _ _ h => h) (.inl ⟨by rfl, fun W hW => by (obtain ⟨k0, k1, k2, k3⟩ := hW; go_simp)⟩) HS4.out ?_
      simp only [Act.put, List.setIfInBounds_toArray, List.set_cons_zero, List.set_cons_succ]
      refine takeH (i := 10) 21 (.agg #[.int .u32 (e.ino : Int), .int .u32 (e.gen : Int)]) rfl rfl (by kernel_rfl) (by kernel_rfl) (by kernel_rfl) (fun _ _ _ h => h) (.inl ⟨by rfl, fun W hW => by (obtain ⟨k0, k1, k2, k3⟩ := hW; go_simp)⟩) HS4.out ?_
      simp only [Act.put, List.setIfInBounds_toArray, List.set_cons_zero, List.set_cons_succ]
      refine takeH (i := 11) 22 (.slice (some ⟨b, o, none⟩) n c) rfl rfl (by kernel_rfl) (by kernel_rfl) (by kernel_rfl) (fun _ _ _ h => h) (.inl ⟨by rfl, fun W hW => by (obtain ⟨k0, k1, k2, k3⟩ := hW; go_simp)⟩) HS4.out ?_
      simp only [Act.put, List.setIfInBounds_toArray, List.set_cons_zero, List.set_cons_succ]
      refine takeH (i := 12) 23 (.int .i64 (k : Int)) rfl rfl (by kernel_rfl) (by kernel_rfl) (by kernel_rfl) (fun _ _ _ h => h) (.inl ⟨by rfl, fun W hW => by (obtain ⟨k0, k1, k2, k3⟩ := hW; go_simp)⟩) HS4.out ?_
      simp only [Act.put, List.setIfInBounds_toArray, List.set_cons_zero, List.set_cons_succ]
      refine takeH (i := 13) 24 (.pointer (some ⟨b, o + k * 4, none⟩)) rfl rfl (by kernel_rfl) (by kernel_rfl) (by kernel_rfl) (fun _ _ _ h => h) (.inl ⟨by rfl, fun W hW => by (obtain ⟨k0, k1, k2, k3⟩ := hW; go_simp)⟩) HS4.out ?_
      simp only [Act.put, List.setIfInBounds_toArray, List.set_cons_zero, List.set_cons_succ]
      refine takeH (i := 14) 25 (.pointer (some ⟨b, o + k * 4 + 3, none⟩)) rfl rfl (by kernel_rfl) (by kernel_rfl) (by kernel_rfl) (fun _ _ _ h => h) (.inl ⟨by rfl, fun W hW => by (obtain ⟨k0, k1, k2, k3⟩ := hW; go_simp)⟩) HS4.out ?_
      simp only [Act.put, List.setIfInBounds_toArray, List.set_cons_zero, List.set_cons_succ]
      refine takeH (i := 15) 26 (.string (txt e.nm)) rfl rfl (by kernel_rfl) (by kernel_rfl) (by kernel_rfl) (fun _ _ _ h => h) (.inl ⟨by rfl, fun W hW => by (obtain ⟨k0, k1, k2, k3⟩ := hW; go_simp)⟩) HS4.out ?_
      simp only [Act.put, List.setIfInBounds_toArray, List.set_cons_zero, List.set_cons_succ]
      refine takeH (i := 16) 27 (.agg (ec e).toArray) rfl rfl (by kernel_rfl) (by kernel_rfl) (by kernel_rfl) (fun _ _ _ h => h) (.inl ⟨by rfl, fun W hW => by (exact run_did_build 50 #[(0, .tmp 16), (1, .tmp 21), (2, .tmp 26)] rfl (ec e).toArray (by simpa [Act.eval] using HBF.out) W)⟩) HS4.out ?_
      simp only [Act.put, List.setIfInBounds_toArray, List.set_cons_zero, List.set_cons_succ]
      refine wpAnyH_ready (rs := [17]) (by kernel_rfl) (by simp) ?_
      refine AllReadyH.cons rfl (fun K hK => ?_) AllReadyH.nil
      refine Did.step rfl (did_buildSlice_one 28 50 (.tmp 27) rfl (ec e).toArray rfl Try.underlying28 _ zsize_F (by rw [ec_size]; omega) (by rw [ec_size]; omega)) ?_
      have HA4 : Hid (Below wr.heap.size wr (wr.drew.alloc (.cells (ec e).toArray 50))) := (Below.refl _ _).drew.alloc (Nat.le_refl _) _
      have HS5 : Hid (E4 b (o + k * 4) e (wr.drew.alloc (.cells (ec e).toArray 50))) := HS4.out.below ((Below.refl _ _).alloc (Nat.le_refl _) _)
      refine hK.out _ _ HS5.out fun _ => ?_
      clear hK K
      have HES : Hid (ES (wr.drew.alloc (.cells (ec e).toArray 50)) (some ⟨wr.drew.heap.size, 0, none⟩) 1 [e]) := (EB.new wr.drew _ e).es
      have HO5 : Hid ((wr.drew.alloc (.cells (ec e).toArray 50)).ownsRow w.heap.size 50 4 (.slice A' k c') k (ecs (es.take k))) := World.ownsRow.alloc (w := wr.drew) HO.out _
      have HW5 := Lib.hid (HW.out.trans (HA4.out.mono HW.out.size))
      generalize wr.drew.alloc (.cells (ec e).toArray 50) = w5 at *
      generalize wr.drew.heap.size = g5 at *
      refine wpAnyH_ready (rs := [18]) (by kernel_rfl) (by simp) ?_
      refine AllReadyH.cons rfl (fun K hK => ?_) AllReadyH.nil
      refine step_wp rfl (wp_append_es _ (.tmp 11) (.tmp 28) 28 rfl w.heap.size 50 i0 _ Try.underlying28 HI0.out HZ0.out HZ1.out HZ2.out rfl A' k c' (es.take k) rfl HO5.out (some ⟨g5, 0, none⟩) 1 1 [e] rfl HES.out (by omega) HW5.out.size ?_)
      intro A6 c6 w6 ho6 hg6 _
      have HO6 := Lib.hid ho6
      have HW6 := Lib.hid (own_below HW5.out HO5.out hg6)
      have HS6 : Hid (E4 b (o + k * 4) e w6) := HE0.out.below HW6.out
      clear ho6 hg6
      refine hK.out _ _ HS6.out fun _ => ?_
      clear hK K
      simp only [Act.put, List.setIfInBounds_toArray]
      refine takeH (i := 19) 3 (.slice A6 (k + 1) c6) rfl rfl (by kernel_rfl) (by kernel_rfl) (by kernel_rfl) (fun _ _ _ h => h) (.inl ⟨by rfl, fun W hW => by go_simp⟩) HS6.out ?_
      simp only [Act.put]
      refine wpAnyH_done (by kernel_rfl) ?_ _
      go_wp2_with fail
      go_roundw
      case rel => exact ⟨k + 1, by omega, by go_num, A6, c6, rfl, by show World.ownsRow _ _ _ _ _ _ _; rw [HT.out]; exact HO6.out, HW6.out⟩
      case measure => simp [intOf]; omega
    · obtain rfl : k = n := by omega
      go_wp2_with fail
      go_ret
      refine ⟨A', c', rfl, ?_, own_le HO.out, HW.out⟩
      have := ES.of_own HO.out
      rwa [List.take_of_length_le (by rw [HN.out]; exact Nat.le_refl _)] at this
theorem of_any (A : Option Addr) (n c : Nat) (es : List En) (w : World) (h : ES w A n es) (hn : n ≤ 10000000) :
    Calls Try.prog 14 #[.slice A n c] w fun e w' => ∃ A' c', e = .returned (.slice A' n c') ∧ ES w' A' n es ∧ Below w.heap.size w w' :=
  (of_any2 A n c es w h hn).mono fun _ _ ⟨A', c', h1, h2, _, h4⟩ => ⟨A', c', h1, h2, h4⟩
end Go.Proofs.Ytcbmdcgaedkfnaa
