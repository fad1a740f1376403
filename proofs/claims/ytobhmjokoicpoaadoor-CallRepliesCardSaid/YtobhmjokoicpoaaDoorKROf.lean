/-
  Contract of the law's replyOf (layer 9).
-/
import Derived.Test.YtobhmjokoicpoaaDoorKRBase
import Derived.Test.YtobhmjokoicpoaaDoorEOf
namespace Go.Proofs.YtobhmjokoicpoaaDoor
open Go.RowKit Go.Shelf

theorem did_store_cell {P : Program} {o : Oper} {a : Act} {w : World} (ty : TypeId) (x y : Operand) (ho : o.op = .store ty x y) (g k : Nat) (v : Value) (hx : a.eval x = .pointer (some ⟨g, k, none⟩)) (hy : a.eval y = v)
    (t : TypeId) (cs : List Value) (hg : Bw w g cs t) (hi : (P.info? ty).map (·.size) = some 1) (hv : v.cells = #[v]) (hfit : k < cs.length) (h1 : v.oneCell' = true) : Did P o a w undef (w.setRow g (cs.take k ++ [v] ++ cs.drop (k + 1)).toArray) := by
  have hr := run_storeCells_at P g k t [v] 0 cs.toArray w hg (by simp; omega) (by simpa using h1)
  simp only [Nat.add_zero, List.length_singleton] at hr
  refine .inr ⟨?_, rfl⟩
  cases hq : P.info? ty with
  | none => simp [hq] at hi
  | some i =>
    have hs : 1 = i.size := by simp [hq] at hi; omega
    have hsv : (storeVar ty ⟨g, k, none⟩ v).run P w = .ok () (w.setRow g (cs.take k ++ [v] ++ cs.drop (k + 1)).toArray) := by
      simpa [storeVar, sizeOf, typeInfo, hq, hv, hs.symm] using hr
    unfold execOp
    simp only [ho, hx, hy, Instr.storeAt, Instr.sureAddr, Sem.run_bind, Sem.run_pure, Result.andThen_ok, hsv]
/-- While replyOf goes: the reply in block p, the result's block q, the variable's block g, k entries that were taken. -/
structure RO (w : World) (p q g : Nat) (r : Rp) (A : Option Addr) (n cp : Nat) (B : Option Addr) (m cq : Nat) (k : Nat) (E : Option Addr) (c : Nat) (W : World) : Prop where
  one : Bw W p (rc r (.slice A n cp) (.slice B m cq)) 48
  res : Bw W q (rc Rp.zero (.string (txt [])) (.slice none 0 0)) 54
  var : Bw W g (rc r (.string (txt r.dt)) (.slice E k c)) 54
  own : W.ownsRow w.heap.size 101 4 (.slice E k c) k (ecs (r.es.take k))
  bel : Below w.heap.size w W
  lq : w.heap.size ≤ q
  lg : w.heap.size ≤ g
  lp : w.heap.size ≤ p
  gq : g ≠ q
  gp : g ≠ p
theorem RO.below {w W W' : World} {p q g : Nat} {r : Rp} {A : Option Addr} {n cp : Nat} {B : Option Addr} {m cq k : Nat} {E : Option Addr} {c : Nat} (h : RO w p q g r A n cp B m cq k E c W) (hb : Below W.heap.size W W') : RO w p q g r A n cp B m cq k E c W' :=
  ⟨h.one.below hb, h.res.below hb, h.var.below hb, h.own.kept (below_grown hb) (Classical.em _), h.bel.trans (hb.mono h.bel.size), h.lq, h.lg, h.lp, h.gq, h.gp⟩

set_option maxRecDepth 100000 in
set_option maxHeartbeats 8000000 in
theorem replyOf_any (r : Rp) (A : Option Addr) (n cp : Nat) (B : Option Addr) (m cq : Nat) (w : World) (h : BS w A n r.dt) (hB : ES w B m r.es) (hm : m ≤ 10000000) :
    Calls Tryd.prog 19 #[.agg (rc r (.slice A n cp) (.slice B m cq)).toArray] w fun e w' => ∃ E ce, e = .returned (.agg (rc r (.string (txt r.dt)) (.slice E m ce)).toArray) ∧ ES w' E m r.es ∧ Below w.heap.size w w' := by
  obtain ⟨i0, hi0, hz0, hz1, hz2⟩ := info_parts info_F
  have HI0 := Lib.hid hi0
  have HZ0 := Lib.hid hz0
  have HZ1 := Lib.hid hz1
  have HZ2 := Lib.hid hz2
  have HX := Lib.hid h
  have HES := Lib.hid hB
  have HN : Hid (r.es.length = m) := hB.1
  clear h hB hi0 hz0 hz1 hz2
  go_enter Tryd.func19, Tryd.ntmps19
  go_upto_region 1 with (refine wpList_alloc_any rfl 54 rfl _ zero_R9 ?_; intro w1 hb1 hs1 hw1)
  have hb0 : Below w.heap.size w (w.alloc (.cells (rc r (.slice A n cp) (.slice B m cq)).toArray 48)) := (Below.refl _ w).alloc (Nat.le_refl _) _
  have hsz : (w.alloc (.cells (rc r (.slice A n cp) (.slice B m cq)).toArray 48)).heap.size = w.heap.size + 1 := by simp
  have HB : Hid (Bw w1 w.heap.size (rc r (.slice A n cp) (.slice B m cq)) 48) := (hw1.block _ (by omega)).trans (heap_alloc_new w _)
  have HW : Hid (Below w.heap.size w w1) := hb0.trans (hw1.mono (by omega))
  have HR : Hid (Bw w1 (w.heap.size + 1) (rc Rp.zero (.string (txt [])) (.slice none 0 0)) 54) := by rw [← hsz]; exact hb1
  have HS1 : Hid (w1.heap.size = w.heap.size + 2) := by show _ = _; omega
  rw [hsz]
  clear hb1 hs1 hw1 hb0 hsz
  have e0 := HB.out.cell 0 _ rfl
  have e1 := HB.out.cell 1 _ rfl
  have e2 := HB.out.cell 2 _ rfl
  have e5 := HB.out.cell 5 _ rfl
  have e6 := HB.out.cell 6 _ rfl
  have e7 := HB.out.cell 7 _ rfl
  have e8 := HB.out.cell 8 _ rfl
  have e9 := HB.out.cell 9 _ rfl
  have e10 := HB.out.cell 10 _ rfl
  have e12 := HB.out.cell 12 _ rfl
  have e13 := HB.out.cell 13 _ rfl
  have e14 := HB.out.cell 14 _ rfl
  have HBF : Hid (Tryd.prog.built 54 [(0, .int .u32 (r.cli : Int)), (1, .int .u32 (r.xid : Int)), (2, .int .i64 r.st), (3, .agg (hc r.ati r.atg).toArray), (4, .agg (ac r.kd r.md r.ln r.sz r.ch).toArray), (5, .string (txt r.dt)), (7, .bool r.eof), (8, .int .u64 (r.vf : Int)), (9, .int .u32 (r.fr : Int))] = some (rc r (.string (txt r.dt)) (.slice none 0 0)).toArray) := built_R9 _ _ _ _ _ _ _ _ _ _ _ _ _ _
  have HBA : Hid (Tryd.prog.built 51 [(0, .int .u32 (r.kd : Int)), (1, .int .u32 (r.md : Int)), (2, .int .u32 (r.ln : Int)), (3, .int .u32 (r.sz : Int)), (4, .int .u64 (r.ch : Int))] = some (ac r.kd r.md r.ln r.sz r.ch).toArray) := built_A9 _ _ _ _ _
  have HQ : Hid (w.heap.size + 1 = w.heap.size + 1) := rfl
  generalize hq : w.heap.size + 1 = q at *
  have HQQ := Lib.hid hq
  clear hq HQ
  go_upto_region 2 with (first
    | (refine wpList_load_part rfl 24 (.tmp 11) rfl w.heap.size 3 rfl _ Tryd.underlying24 rfl (hc r.ati r.atg) 48 _ HB.out size_H (hc_in rfl rfl) ?_)
    | (refine wpList_conv_bs rfl (.tmp 30) rfl A n cp r.dt rfl (HX.out.below HW.out) ?_
       iterate 18 go_step
       refine Did.list rfl (did_build 54 #[(0, .tmp 6), (1, .tmp 8), (2, .tmp 10), (3, .tmp 12), (4, .tmp 28), (5, .tmp 31), (7, .tmp 33), (8, .tmp 35), (9, .tmp 37)] rfl (rc r (.string (txt r.dt)) (.slice none 0 0)).toArray (by simp only [List.map_toArray, List.map_cons, List.map_nil]; exact HBF.out)) ?_
       refine wpList_alloc_any rfl 54 rfl _ zero_R9 ?_
       intro w2 hb2 hs2 hw2
       refine wpList_store_part rfl 54 (.tmp 3) (.tmp 38) rfl w1.heap.size 0 (rc r (.string (txt r.dt)) (.slice none 0 0)) rfl rfl 54 _ hb2 size_R9 (by simp [rc]) (rc_ones _ _ _ _ _) ?_
       intro w3 hb3 hs3 hk3))
  have H0 : Hid (RO w w.heap.size q w1.heap.size r A n cp B m cq 0 none 0 w3) := by
    have h1 := HS1.out
    have h2 := HQQ.out
    refine ⟨(HB.out.below hw2).keep hk3 (by omega), (HR.out.below hw2).keep hk3 (by omega), hb3, World.ownsRow_nil _ _ _ _, HW.out.trans ((hw2.mono HW.out.size).trans (hk3.below2 (fun j hj => by omega))), by omega, by omega, Nat.le_refl _, by omega, by omega⟩
  clear hb2 hs2 hw2 hb3 hs3 hk3 HB HW HR HS1 HQQ HBF HBA e0 e1 e2 e5 e6 e7 e8 e9 e10 e12 e13 e14
  generalize w1.heap.size = g at *
  generalize hpp : w.heap.size = p at H0 ⊢
  have HPP : Hid (w.heap.size = p) := hpp
  rw [← hpp] at H0
  clear hpp
  go_wp2_with fail
  go_loopw [4] (fun i wr => ∃ (k : Nat) (E : Option Addr) (c : Nat), k ≤ m ∧ i = .int .i64 k ∧ Hid (RO w p q g r A n cp B m cq k E c wr)) (fun i _ => m - (intOf i).toNat)
  case atStart => exact ⟨0, none, 0, by omega, rfl, by rw [← HPP.out]; exact H0.out⟩
  case round =>
    obtain ⟨k, E, c, hk, rfl, HR⟩ := hrel
    have e11 := HR.out.one.cell 11 _ rfl
    by_cases hlt : k < m
    · have hlt' : (k : Int) < (m : Int) := by omega
      obtain ⟨b, ob, rfl, hbl, hj, hc0⟩ := HES.out.at hlt
      have hc : ∀ i v, (ec r.es[k])[i]? = some v → wr.cell? ⟨b, ob + k * 4 + i, none⟩ = some v := fun i v hv => (HR.out.bel.cell (p := ⟨b, _, none⟩) hbl).trans (hc0 i v hv)
      have HT : Hid (r.es.take (k + 1) = r.es.take k ++ [r.es[k]]) := List.take_succ_eq_append_getElem hj
      generalize r.es[k] = e at *
      have HE0 : Hid (E4 b (ob + k * 4) e w) := E4.of hc0
      have HS4 : Hid ((fun W : World => E4 b (ob + k * 4) e W ∧ W.cell? ⟨p, 11, none⟩ = some (.slice (some ⟨b, ob, none⟩) m cq)) wr.drew) := (let h : E4 b (ob + k * 4) e wr := E4.of hc; ⟨⟨h.c0, h.c1, h.c2, h.c3⟩, e11⟩)
      have HRD : Hid (RO w p q g r A n cp (some ⟨b, ob, none⟩) m cq k E c wr.drew) := ⟨HR.out.one, HR.out.res, HR.out.var, HR.out.own, HR.out.bel.drew, HR.out.lq, HR.out.lg, HR.out.lp, HR.out.gq, HR.out.gp⟩
      clear hc hc0
      have HBF : Hid (Tryd.prog.built 101 [(0, .int .u64 (e.ck : Int)), (1, .agg #[.int .u32 (e.ino : Int), .int .u32 (e.gen : Int)]), (2, .string (txt e.nm))] = some (ec e).toArray) := built_F _ _ _ _
      have hecl := ec_length e
      go_upto_region 5 with fail
      clear e11 HR
      refine wp_region_held_drew (S := fun W : World => E4 b (ob + k * 4) e W ∧ W.cell? ⟨p, 11, none⟩ = some (.slice (some ⟨b, ob, none⟩) m cq)) (by kernel_rfl) HS4.out (fun _ => ?_)
      change wpAnyH _ _ _ _ _ 25 (Array.replicate 25 false) _ _
      refine takeH (i := 0) 46 (.pointer (some ⟨g, 11, none⟩)) rfl rfl (by kernel_rfl) (by kernel_rfl) (by kernel_rfl) (fun _ _ _ h => h) (.inl ⟨by rfl, fun W hW => by go_simp⟩) HS4.out ?_
      simp only [Act.put, List.setIfInBounds_toArray, List.set_cons_zero, List.set_cons_succ]
      refine takeH (i := 2) 48 (.pointer (some ⟨p, 11, none⟩)) rfl rfl (by kernel_rfl) (by kernel_rfl) (by kernel_rfl) (fun _ _ _ h => h) (.inl ⟨by rfl, fun W hW => by go_simp⟩) HS4.out ?_
      simp only [Act.put, List.setIfInBounds_toArray, List.set_cons_zero, List.set_cons_succ]
      refine takeH (i := 3) 49 (.slice (some ⟨b, ob, none⟩) m cq) rfl rfl (by kernel_rfl) (by kernel_rfl) (by kernel_rfl) (fun _ _ _ h => h) (.inl ⟨by rfl, fun W hW => by (obtain ⟨⟨k0, k1, k2, k3⟩, hp⟩ := hW; go_simp)⟩) HS4.out ?_
      simp only [Act.put, List.setIfInBounds_toArray, List.set_cons_zero, List.set_cons_succ]
      refine takeH (i := 4) 50 (.int .i64 (k : Int)) rfl rfl (by kernel_rfl) (by kernel_rfl) (by kernel_rfl) (fun _ _ _ h => h) (.inl ⟨by rfl, fun W hW => by go_simp⟩) HS4.out ?_
      simp only [Act.put, List.setIfInBounds_toArray, List.set_cons_zero, List.set_cons_succ]
      refine takeH (i := 5) 51 (.pointer (some ⟨b, ob + k * 4, none⟩)) rfl rfl (by kernel_rfl) (by kernel_rfl) (by kernel_rfl) (fun _ _ _ h => h) (.inl ⟨by rfl, fun W hW => by (obtain ⟨⟨k0, k1, k2, k3⟩, hp⟩ := hW; go_simp)⟩) HS4.out ?_
      simp only [Act.put, List.setIfInBounds_toArray, List.set_cons_zero, List.set_cons_succ]
      refine takeH (i := 6) 52 (.pointer (some ⟨b, ob + k * 4, none⟩)) rfl rfl (by kernel_rfl) (by kernel_rfl) (by kernel_rfl) (fun _ _ _ h => h) (.inl ⟨by rfl, fun W hW => by (obtain ⟨⟨k0, k1, k2, k3⟩, hp⟩ := hW; go_simp)⟩) HS4.out ?_
      simp only [Act.put, List.setIfInBounds_toArray, List.set_cons_zero, List.set_cons_succ]
      refine takeH (i := 7) 53 (.int .u64 (e.ck : Int)) rfl rfl (by kernel_rfl) (by kernel_rfl) (by kernel_rfl) (fun _ _ _ h => h) (.inl ⟨by rfl, fun W hW => by (obtain ⟨⟨k0, k1, k2, k3⟩, hp⟩ := hW; go_simp)⟩) HS4.out ?_
      simp only [Act.put, List.setIfInBounds_toArray, List.set_cons_zero, List.set_cons_succ]
      refine takeH (i := 8) 54 (.pointer (some ⟨p, 11, none⟩)) rfl rfl (by kernel_rfl) (by kernel_rfl) (by kernel_rfl) (fun _ _ _ h => h) (.inl ⟨by rfl, fun W hW => by go_simp⟩) HS4.out ?_
      simp only [Act.put, List.setIfInBounds_toArray, List.set_cons_zero, List.set_cons_succ]
      refine takeH (i := 9) 55 (.slice (some ⟨b, ob, none⟩) m cq) rfl rfl (by kernel_rfl) (by kernel_rfl) (by kernel_rfl) (fun _ _ _ h => h) (.inl ⟨by rfl, fun W hW => by (obtain ⟨⟨k0, k1, k2, k3⟩, hp⟩ := hW; go_simp)⟩) HS4.out ?_
      simp only [Act.put, List.setIfInBounds_toArray, List.set_cons_zero, List.set_cons_succ]
      refine takeH (i := 10) 56 (.int .i64 (k : Int)) rfl rfl (by kernel_rfl) (by kernel_rfl) (by kernel_rfl) (fun _ _ _ h => h) (.inl ⟨by rfl, fun W hW => by go_simp⟩) HS4.out ?_
      simp only [Act.put, List.setIfInBounds_toArray, List.set_cons_zero, List.set_cons_succ]
      refine takeH (i := 11) 57 (.pointer (some ⟨b, ob + k * 4, none⟩)) rfl rfl (by kernel_rfl) (by kernel_rfl) (by kernel_rfl) (fun _ _ _ h => h) (.inl ⟨by rfl, fun W hW => by (obtain ⟨⟨k0, k1, k2, k3⟩, hp⟩ := hW; go_simp)⟩) HS4.out ?_
      simp only [Act.put, List.setIfInBounds_toArray, List.set_cons_zero, List.set_cons_succ]
      refine takeH (i := 12) 58 (.pointer (some ⟨b, ob + k * 4 + 1, none⟩)) rfl rfl (by kernel_rfl) (by kernel_rfl) (by kernel_rfl) (fun _ _ _ h => h) (.inl ⟨by rfl, fun W hW => by (obtain ⟨⟨k0, k1, k2, k3⟩, hp⟩ := hW; go_simp)⟩) HS4.out ?_
      simp only [Act.put, List.setIfInBounds_toArray, List.set_cons_zero, List.set_cons_succ]
      refine takeH (i := 13) 59 (.agg #[.int .u32 (e.ino : Int), .int .u32 (e.gen : Int)]) rfl rfl (by kernel_rfl) (by kernel_rfl) (by kernel_rfl) (fun _ _ _ h => h) (.inl ⟨by rfl, fun W hW => by (obtain ⟨⟨k0, k1, k2, k3⟩, hp⟩ := hW; go_simp)⟩) HS4.out ?_
      simp only [Act.put, List.setIfInBounds_toArray, List.set_cons_zero, List.set_cons_succ]
      refine takeH (i := 14) 60 (.pointer (some ⟨p, 11, none⟩)) rfl rfl (by kernel_rfl) (by kernel_rfl) (by kernel_rfl) (fun _ _ _ h => h) (.inl ⟨by rfl, fun W hW => by go_simp⟩) HS4.out ?_
      simp only [Act.put, List.setIfInBounds_toArray, List.set_cons_zero, List.set_cons_succ]
      refine takeH (i := 15) 61 (.slice (some ⟨b, ob, none⟩) m cq) rfl rfl (by kernel_rfl) (by kernel_rfl) (by kernel_rfl) (fun _ _ _ h => h) (.inl ⟨by rfl, fun W hW => by (obtain ⟨⟨k0, k1, k2, k3⟩, hp⟩ := hW; go_simp)⟩) HS4.out ?_
      simp only [Act.put, List.setIfInBounds_toArray, List.set_cons_zero, List.set_cons_succ]
      refine takeH (i := 16) 62 (.int .i64 (k : Int)) rfl rfl (by kernel_rfl) (by kernel_rfl) (by kernel_rfl) (fun _ _ _ h => h) (.inl ⟨by rfl, fun W hW => by go_simp⟩) HS4.out ?_
      simp only [Act.put, List.setIfInBounds_toArray, List.set_cons_zero, List.set_cons_succ]
      refine takeH (i := 17) 63 (.pointer (some ⟨b, ob + k * 4, none⟩)) rfl rfl (by kernel_rfl) (by kernel_rfl) (by kernel_rfl) (fun _ _ _ h => h) (.inl ⟨by rfl, fun W hW => by (obtain ⟨⟨k0, k1, k2, k3⟩, hp⟩ := hW; go_simp)⟩) HS4.out ?_
      simp only [Act.put, List.setIfInBounds_toArray, List.set_cons_zero, List.set_cons_succ]
      refine takeH (i := 18) 64 (.pointer (some ⟨b, ob + k * 4 + 3, none⟩)) rfl rfl (by kernel_rfl) (by kernel_rfl) (by kernel_rfl) (fun _ _ _ h => h) (.inl ⟨by rfl, fun W hW => by (obtain ⟨⟨k0, k1, k2, k3⟩, hp⟩ := hW; go_simp)⟩) HS4.out ?_
      simp only [Act.put, List.setIfInBounds_toArray, List.set_cons_zero, List.set_cons_succ]
      refine takeH (i := 19) 65 (.string (txt e.nm)) rfl rfl (by kernel_rfl) (by kernel_rfl) (by kernel_rfl) (fun _ _ _ h => h) (.inl ⟨by rfl, fun W hW => by (obtain ⟨⟨k0, k1, k2, k3⟩, hp⟩ := hW; go_simp)⟩) HS4.out ?_
      simp only [Act.put, List.setIfInBounds_toArray, List.set_cons_zero, List.set_cons_succ]
      refine takeH (i := 20) 66 (.agg (ec e).toArray) rfl rfl (by kernel_rfl) (by kernel_rfl) (by kernel_rfl) (fun _ _ _ h => h) (.inl ⟨by rfl, fun W hW => by (exact run_did_build 101 #[(0, .tmp 53), (1, .tmp 59), (2, .tmp 65)] rfl (ec e).toArray (by simpa [Act.eval] using HBF.out) W)⟩) HS4.out ?_
      simp only [Act.put, List.setIfInBounds_toArray, List.set_cons_zero, List.set_cons_succ]
      refine wpAnyH_ready (rs := [1, 21]) (by kernel_rfl) (by simp) ?_
      refine AllReadyH.cons rfl (fun K hK => ?_) (AllReadyH.cons rfl (fun K hK => ?_) AllReadyH.nil)
      · refine Did.step rfl (did_load_one 52 (.tmp 46) rfl ⟨g, 11, none⟩ rfl (by kernel_rfl) (HRD.out.var.cell 11 _ rfl)) ?_
        refine hK.out _ _ HS4.out fun _ => ?_
        clear hK K
        simp only [Act.put, List.setIfInBounds_toArray]
        refine wpAnyH_ready (rs := [21]) (by kernel_rfl) (by simp) ?_
        refine AllReadyH.cons rfl (fun K hK => ?_) AllReadyH.nil
        refine Did.step rfl (did_buildSlice_one 52 101 (.tmp 66) rfl (ec e).toArray rfl Tryd.underlying52 _ zsize_F (by rw [ec_size]; omega) (by rw [ec_size]; omega)) ?_
        have HA4 : Hid (Below wr.drew.heap.size wr.drew (wr.drew.alloc (.cells (ec e).toArray 101))) := (Below.refl _ _).alloc (Nat.le_refl _) _
        have HS5 : Hid ((fun W : World => E4 b (ob + k * 4) e W ∧ W.cell? ⟨p, 11, none⟩ = some (.slice (some ⟨b, ob, none⟩) m cq)) (wr.drew.alloc (.cells (ec e).toArray 101))) := ⟨HS4.out.1.below HA4.out, (HA4.out.cell (p := ⟨p, 11, none⟩) HRD.out.one.lt).trans HS4.out.2⟩
        refine hK.out _ _ HS5.out fun _ => ?_
        clear hK K
        have HX5 : Hid (ES (wr.drew.alloc (.cells (ec e).toArray 101)) (some ⟨wr.drew.heap.size, 0, none⟩) 1 [e]) := (EB.new wr.drew _ e).es
        have HR5 := Lib.hid (HRD.out.below HA4.out)
        generalize wr.drew.alloc (.cells (ec e).toArray 101) = w5 at *
        generalize wr.drew.heap.size = g5 at *
        simp only [Act.put]
        refine wpAnyH_ready (rs := [22]) (by kernel_rfl) (by simp) ?_
        refine AllReadyH.cons rfl (fun K hK => ?_) AllReadyH.nil
        refine step_wp rfl (wp_append_es _ (.tmp 47) (.tmp 67) 52 rfl w.heap.size 101 i0 _ Tryd.underlying52 HI0.out HZ0.out HZ1.out HZ2.out rfl E k c (r.es.take k) rfl HR5.out.own (some ⟨g5, 0, none⟩) 1 1 [e] rfl HX5.out (by omega) HR5.out.bel.size ?_)
        intro E6 c6 w6 ho6 hg6 _
        have HB6 := Lib.hid (own_below HR5.out.bel HR5.out.own hg6)
        have HV6 : Hid (Bw w6 g (rc r (.string (txt r.dt)) (.slice E k c)) 54) := HR5.out.var.grown hg6 (own_type HR5.out.own HR5.out.var (by decide))
        have HQ6 : Hid (Bw w6 q (rc Rp.zero (.string (txt [])) (.slice none 0 0)) 54) := HR5.out.res.grown hg6 (own_type HR5.out.own HR5.out.res (by decide))
        have HP6 : Hid (Bw w6 p (rc r (.slice A n cp) (.slice (some ⟨b, ob, none⟩) m cq)) 48) := HR5.out.one.grown hg6 (own_type HR5.out.own HR5.out.one (by decide))
        have HO6 := Lib.hid ho6
        have HS6 : Hid ((fun W : World => E4 b (ob + k * 4) e W ∧ W.cell? ⟨p, 11, none⟩ = some (.slice (some ⟨b, ob, none⟩) m cq)) w6) := ⟨HE0.out.below HB6.out, HP6.out.cell 11 _ rfl⟩
        have HLG : Hid (w.heap.size ≤ q ∧ w.heap.size ≤ g ∧ w.heap.size ≤ p ∧ g ≠ q ∧ g ≠ p) := ⟨HR5.out.lq, HR5.out.lg, HR5.out.lp, HR5.out.gq, HR5.out.gp⟩
        clear ho6 hg6 HR5 HX5 HRD
        refine hK.out _ _ HS6.out fun _ => ?_
        clear hK K
        simp only [Act.put]
        refine takeH (i := 23) 69 (.pointer (some ⟨g, 11, none⟩)) rfl rfl (by kernel_rfl) (by kernel_rfl) (by kernel_rfl) (fun _ _ _ h => h) (.inl ⟨by rfl, fun W hW => by go_simp⟩) HS6.out ?_
        simp only [Act.put]
        refine wpAnyH_ready (rs := [24]) (by kernel_rfl) (by simp) ?_
        refine AllReadyH.cons rfl (fun K hK => ?_) AllReadyH.nil
        refine Did.step rfl (did_store_cell 52 (.tmp 69) (.tmp 68) rfl g 11 (.slice E6 (k + 1) c6) rfl rfl 54 _ HV6.out (by kernel_rfl) rfl (by simp [rc]) rfl) ?_
        obtain ⟨w7, hw7⟩ : ∃ W, w6.setRow g ((rc r (.string (txt r.dt)) (.slice E k c)).take 11 ++ [Value.slice E6 (k + 1) c6] ++ (rc r (.string (txt r.dt)) (.slice E k c)).drop 12).toArray = W := ⟨_, rfl⟩
        have hb7 : Bw w7 g (rc r (.string (txt r.dt)) (.slice E6 (k + 1) c6)) 54 := by rw [← hw7]; exact setRow_heap w6 g _ _ _ _ HV6.out
        have hk7 : Keep (· ≠ g) w6 w7 := by rw [← hw7]; exact setRow_keep g _
        rw [hw7]
        have HR7 : Hid (RO w p q g r A n cp (some ⟨b, ob, none⟩) m cq (k + 1) E6 c6 w7) := by
          have h1 := HLG.out
          refine ⟨HP6.out.keep hk7 (by omega), HQ6.out.keep hk7 (by omega), hb7, ?_, HB6.out.trans (hk7.below2 (fun j hj => by omega)), h1.1, h1.2.1, h1.2.2.1, h1.2.2.2.1, h1.2.2.2.2⟩
          rw [HT.out]
          exact HO6.out.kept (grown_keep hk7) (.inr (own_type HO6.out HV6.out (by decide)))
        have HS7 : Hid ((fun W : World => E4 b (ob + k * 4) e W ∧ W.cell? ⟨p, 11, none⟩ = some (.slice (some ⟨b, ob, none⟩) m cq)) w7) := ⟨HE0.out.below HR7.out.bel, HR7.out.one.cell 11 _ rfl⟩
        clear hb7 hk7 hw7
        refine hK.out _ _ HS7.out fun _ => ?_
        clear hK K
        refine wpAnyH_done (by kernel_rfl) ?_ _
        go_wp2_with fail
        go_roundw
        case rel => exact ⟨k + 1, E6, c6, by omega, by go_num, HR7⟩
        case measure => simp [intOf]; omega
      · refine Did.step rfl (did_buildSlice_one 52 101 (.tmp 66) rfl (ec e).toArray rfl Tryd.underlying52 _ zsize_F (by rw [ec_size]; omega) (by rw [ec_size]; omega)) ?_
        have HA4 : Hid (Below wr.drew.heap.size wr.drew (wr.drew.alloc (.cells (ec e).toArray 101))) := (Below.refl _ _).alloc (Nat.le_refl _) _
        have HS5 : Hid ((fun W : World => E4 b (ob + k * 4) e W ∧ W.cell? ⟨p, 11, none⟩ = some (.slice (some ⟨b, ob, none⟩) m cq)) (wr.drew.alloc (.cells (ec e).toArray 101))) := ⟨HS4.out.1.below HA4.out, (HA4.out.cell (p := ⟨p, 11, none⟩) HRD.out.one.lt).trans HS4.out.2⟩
        refine hK.out _ _ HS5.out fun _ => ?_
        clear hK K
        have HX5 : Hid (ES (wr.drew.alloc (.cells (ec e).toArray 101)) (some ⟨wr.drew.heap.size, 0, none⟩) 1 [e]) := (EB.new wr.drew _ e).es
        have HR5 := Lib.hid (HRD.out.below HA4.out)
        generalize wr.drew.alloc (.cells (ec e).toArray 101) = w5 at *
        generalize wr.drew.heap.size = g5 at *
        simp only [Act.put, List.setIfInBounds_toArray]
        refine wpAnyH_ready (rs := [1]) (by kernel_rfl) (by simp) ?_
        refine AllReadyH.cons rfl (fun K hK => ?_) AllReadyH.nil
        refine Did.step rfl (did_load_one 52 (.tmp 46) rfl ⟨g, 11, none⟩ rfl (by kernel_rfl) (HR5.out.var.cell 11 _ rfl)) ?_
        refine hK.out _ _ HS5.out fun _ => ?_
        clear hK K
        simp only [Act.put]
        refine wpAnyH_ready (rs := [22]) (by kernel_rfl) (by simp) ?_
        refine AllReadyH.cons rfl (fun K hK => ?_) AllReadyH.nil
        refine step_wp rfl (wp_append_es _ (.tmp 47) (.tmp 67) 52 rfl w.heap.size 101 i0 _ Tryd.underlying52 HI0.out HZ0.out HZ1.out HZ2.out rfl E k c (r.es.take k) rfl HR5.out.own (some ⟨g5, 0, none⟩) 1 1 [e] rfl HX5.out (by omega) HR5.out.bel.size ?_)
        intro E6 c6 w6 ho6 hg6 _
        have HB6 := Lib.hid (own_below HR5.out.bel HR5.out.own hg6)
        have HV6 : Hid (Bw w6 g (rc r (.string (txt r.dt)) (.slice E k c)) 54) := HR5.out.var.grown hg6 (own_type HR5.out.own HR5.out.var (by decide))
        have HQ6 : Hid (Bw w6 q (rc Rp.zero (.string (txt [])) (.slice none 0 0)) 54) := HR5.out.res.grown hg6 (own_type HR5.out.own HR5.out.res (by decide))
        have HP6 : Hid (Bw w6 p (rc r (.slice A n cp) (.slice (some ⟨b, ob, none⟩) m cq)) 48) := HR5.out.one.grown hg6 (own_type HR5.out.own HR5.out.one (by decide))
        have HO6 := Lib.hid ho6
        have HS6 : Hid ((fun W : World => E4 b (ob + k * 4) e W ∧ W.cell? ⟨p, 11, none⟩ = some (.slice (some ⟨b, ob, none⟩) m cq)) w6) := ⟨HE0.out.below HB6.out, HP6.out.cell 11 _ rfl⟩
        have HLG : Hid (w.heap.size ≤ q ∧ w.heap.size ≤ g ∧ w.heap.size ≤ p ∧ g ≠ q ∧ g ≠ p) := ⟨HR5.out.lq, HR5.out.lg, HR5.out.lp, HR5.out.gq, HR5.out.gp⟩
        clear ho6 hg6 HR5 HX5 HRD
        refine hK.out _ _ HS6.out fun _ => ?_
        clear hK K
        simp only [Act.put]
        refine takeH (i := 23) 69 (.pointer (some ⟨g, 11, none⟩)) rfl rfl (by kernel_rfl) (by kernel_rfl) (by kernel_rfl) (fun _ _ _ h => h) (.inl ⟨by rfl, fun W hW => by go_simp⟩) HS6.out ?_
        simp only [Act.put]
        refine wpAnyH_ready (rs := [24]) (by kernel_rfl) (by simp) ?_
        refine AllReadyH.cons rfl (fun K hK => ?_) AllReadyH.nil
        refine Did.step rfl (did_store_cell 52 (.tmp 69) (.tmp 68) rfl g 11 (.slice E6 (k + 1) c6) rfl rfl 54 _ HV6.out (by kernel_rfl) rfl (by simp [rc]) rfl) ?_
        obtain ⟨w7, hw7⟩ : ∃ W, w6.setRow g ((rc r (.string (txt r.dt)) (.slice E k c)).take 11 ++ [Value.slice E6 (k + 1) c6] ++ (rc r (.string (txt r.dt)) (.slice E k c)).drop 12).toArray = W := ⟨_, rfl⟩
        have hb7 : Bw w7 g (rc r (.string (txt r.dt)) (.slice E6 (k + 1) c6)) 54 := by rw [← hw7]; exact setRow_heap w6 g _ _ _ _ HV6.out
        have hk7 : Keep (· ≠ g) w6 w7 := by rw [← hw7]; exact setRow_keep g _
        rw [hw7]
        have HR7 : Hid (RO w p q g r A n cp (some ⟨b, ob, none⟩) m cq (k + 1) E6 c6 w7) := by
          have h1 := HLG.out
          refine ⟨HP6.out.keep hk7 (by omega), HQ6.out.keep hk7 (by omega), hb7, ?_, HB6.out.trans (hk7.below2 (fun j hj => by omega)), h1.1, h1.2.1, h1.2.2.1, h1.2.2.2.1, h1.2.2.2.2⟩
          rw [HT.out]
          exact HO6.out.kept (grown_keep hk7) (.inr (own_type HO6.out HV6.out (by decide)))
        have HS7 : Hid ((fun W : World => E4 b (ob + k * 4) e W ∧ W.cell? ⟨p, 11, none⟩ = some (.slice (some ⟨b, ob, none⟩) m cq)) w7) := ⟨HE0.out.below HR7.out.bel, HR7.out.one.cell 11 _ rfl⟩
        clear hb7 hk7 hw7
        refine hK.out _ _ HS7.out fun _ => ?_
        clear hK K
        refine wpAnyH_done (by kernel_rfl) ?_ _
        go_wp2_with fail
        go_roundw
        case rel => exact ⟨k + 1, E6, c6, by omega, by go_num, HR7⟩
        case measure => simp [intOf]; omega
    · obtain rfl : k = m := by omega
      go_wp2_with (first
        | (refine wpList_load_part rfl 54 (.tmp 3) rfl _ 0 rfl _ Tryd.underlying54 rfl (rc r (.string (txt r.dt)) (.slice E k c)) 54 _ HR.out.var size_R9 (fun j u hu => by rw [Nat.zero_add]; exact hu) ?_)
        | (refine wpList_store_part rfl 54 (.tmp 2) (.tmp 70) rfl q 0 (rc r (.string (txt r.dt)) (.slice E k c)) rfl rfl 54 _ HR.out.res size_R9 (by simp [rc]) (rc_ones _ _ _ _ _) ?_
           intro y hb _ hk2
           have HY := Lib.hid hb
           have HK := Lib.hid hk2
           clear hb hk2))
      exact bodyPost_ret (results_one rfl _ y q HY.out size_R9 (by rfl) Tryd.underlying54) rfl ⟨E, c, rfl, by
        have ho := HR.out.own.kept (grown_keep HK.out) (.inr (own_type HR.out.own HR.out.res (by decide)))
        have he := ES.of_own ho
        rwa [List.take_of_length_le (by rw [HN.out]; exact Nat.le_refl _)] at he, HR.out.bel.trans (HK.out.below2 (fun j hj => by have := HR.out.lq; omega))⟩
end Go.Proofs.YtobhmjokoicpoaaDoor
