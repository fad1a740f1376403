/-
  Contract of the law's callOf, and two calls of the reference that are compared (layer 9).
-/
import Derived.Test.YtobhmjokoicpoaaDoorKAwake
import Derived.Test.YtobhmjokoicpoaaDoorESame
namespace Go.Proofs.YtobhmjokoicpoaaDoor
open Go.RowKit Go.Shelf

/-- A struct out of a part of a block, as a region that draws its order asks for it. -/
theorem run_load_part {P : Program} {o : Oper} {a : Act} {w : World} (ty : TypeId) (x : Operand) (ho : o.op = .load ty x) (g k : Nat) (hx : a.eval x = .pointer (some ⟨g, k, none⟩)) (d : TypeDesc) (hu : P.underlying ty = some d)
    (hd : (match d with | .struct _ | .array _ _ => true | _ => false) = true) (l : List Value) (t : TypeId) (cs : List Value) (hg : Bw w g cs t) (hi : (P.info? ty).map (·.size) = some l.length) (hl : ∀ j u, l[j]? = some u → cs[k + j]? = some u) :
    (execOp a.eval o).run P w = .ok (.value (.agg l.toArray)) w := by
  have hl2 := run_loadCells_list (P := P) w ⟨g, k, none⟩ l (hg.part k l hl)
  cases hq : P.info? ty with
  | none => simp [hq] at hi
  | some i =>
    have hs : i.size = l.length := by simpa [hq] using hi
    have hagg : (isAgg ty).run P w = .ok true w := by
      unfold isAgg
      rw [Sem.run_bind, run_underlying hu w]
      cases d <;> simp_all
    unfold execOp
    simp [ho, hx, Instr.loadAt, Instr.sureAddr, loadVar, Sem.run_bind, hagg, sizeOf, typeInfo, hq, hs, hl2]

theorem size_C9 : (Tryd.prog.info? 36).map (·.size) = some 14 := by kernel_rfl
theorem zero_C9 : (Tryd.prog.info? 36).bind (·.zero) = some (.agg (cc Cl.zero (.string (txt []))).toArray) := by kernel_rfl
theorem built_C9 (a0 a1 a2 a3 a4 a6 a7 a9 b0 b1 b2 : Int) (s5 s8 sd : ByteArray) : Tryd.prog.built 36 [(0, .int .u32 a0), (1, .int .u32 a1), (2, .int .u32 a2), (3, .agg #[.int .u32 a3, .int .u32 a4]), (4, .string s5), (5, .agg #[.int .u32 a6, .int .u32 a7]), (6, .string s8), (7, .int .u64 a9), (8, .int .u64 b0), (9, .int .u32 b1), (10, .int .u32 b2), (11, .string sd)] =
    some #[.int .u32 a0, .int .u32 a1, .int .u32 a2, .int .u32 a3, .int .u32 a4, .string s5, .int .u32 a6, .int .u32 a7, .string s8, .int .u64 a9, .int .u64 b0, .int .u32 b1, .int .u32 b2, .string sd] := by kernel_rfl
theorem cc_ones (c : Cl) (s : ByteArray) : ∀ v ∈ cc c (.string s), v.oneCell' = true := by
  intro v hv
  simp only [cc, List.mem_cons, List.not_mem_nil, or_false] at hv
  rcases hv with rfl | rfl | rfl | rfl | rfl | rfl | rfl | rfl | rfl | rfl | rfl | rfl | rfl | rfl <;> rfl

set_option maxRecDepth 100000 in
set_option maxHeartbeats 400000 in
theorem callOf_any (c : Cl) (A : Option Addr) (n cp : Nat) (w : World) (h : BS w A n c.dt) :
    Calls Tryd.prog 12 #[.agg (cc c (.slice A n cp)).toArray] w fun e w' => e = .returned (.agg (cc c (.string (txt c.dt))).toArray) ∧ Below w.heap.size w w' := by
  have HX := Lib.hid h
  clear h
  go_enter Tryd.func12, Tryd.ntmps12
  go_upto_region 1 with (refine wpList_alloc_any rfl 36 rfl _ zero_C9 ?_; intro w1 hb1 hs1 hw1)
  have hb0 : Below w.heap.size w (w.alloc (.cells (cc c (.slice A n cp)).toArray 28)) := (Below.refl _ w).alloc (Nat.le_refl _) _
  have hsz : (w.alloc (.cells (cc c (.slice A n cp)).toArray 28)).heap.size = w.heap.size + 1 := by simp
  have HB : Hid (Bw w1 w.heap.size (cc c (.slice A n cp)) 28) := (hw1.block _ (by omega)).trans (heap_alloc_new w _)
  have HW : Hid (Below w.heap.size w w1) := hb0.trans (hw1.mono (by omega))
  have HR : Hid (Bw w1 (w.heap.size + 1) (cc Cl.zero (.string (txt []))) 36) := by rw [← hsz]; exact hb1
  rw [hsz]
  clear hb1 hs1 hw1 hb0 hsz
  have e0 := HB.out.cell 0 _ rfl
  have e1 := HB.out.cell 1 _ rfl
  have e2 := HB.out.cell 2 _ rfl
  have e5 := HB.out.cell 5 _ rfl
  have e8 := HB.out.cell 8 _ rfl
  have e9 := HB.out.cell 9 _ rfl
  have e10 := HB.out.cell 10 _ rfl
  have e11 := HB.out.cell 11 _ rfl
  have e12 := HB.out.cell 12 _ rfl
  have e13 := HB.out.cell 13 _ rfl
  have HBF : Hid (Tryd.prog.built 36 [(0, .int .u32 (c.cli : Int)), (1, .int .u32 (c.xid : Int)), (2, .int .u32 (c.op : Int)), (3, .agg (hc c.ati c.atg).toArray), (4, .string (txt c.nm)), (5, .agg (hc c.toi c.tog).toArray), (6, .string (txt c.tn)), (7, .int .u64 (c.off : Int)), (8, .int .u64 (c.vf : Int)), (9, .int .u32 (c.cnt : Int)), (10, .int .u32 (c.md : Int)), (11, .string (txt c.dt))] = some (cc c (.string (txt c.dt))).toArray) := built_C9 _ _ _ _ _ _ _ _ _ _ _ _ _ _
  have HQ : Hid (w.heap.size ≤ w.heap.size + 1) := Nat.le_succ _
  generalize hq : w.heap.size + 1 = q at *
  clear hq
  go_wp2_with (first
    | (refine wpList_load_part rfl 24 (.tmp 9) rfl w.heap.size 3 rfl _ Tryd.underlying24 rfl (hc c.ati c.atg) 28 _ HB.out size_H (hc_in rfl rfl) ?_)
    | (refine wpList_load_part rfl 24 (.tmp 13) rfl w.heap.size 6 rfl _ Tryd.underlying24 rfl (hc c.toi c.tog) 28 _ HB.out size_H (hc_in rfl rfl) ?_)
    | (refine wpList_conv_bs rfl (.tmp 26) rfl A n cp c.dt rfl (HX.out.below HW.out) ?_
       refine Did.list rfl (did_build 36 #[(0, .tmp 4), (1, .tmp 6), (2, .tmp 8), (3, .tmp 10), (4, .tmp 12), (5, .tmp 14), (6, .tmp 16), (7, .tmp 18), (8, .tmp 20), (9, .tmp 22), (10, .tmp 24), (11, .tmp 27)] rfl (cc c (.string (txt c.dt))).toArray (by simp only [List.map_toArray, List.map_cons, List.map_nil]; exact HBF.out)) ?_
       refine wpList_store_part rfl 36 (.tmp 2) (.tmp 28) rfl q 0 (cc c (.string (txt c.dt))) rfl rfl 36 _ HR.out size_C9 (by simp [cc]) (cc_ones _ _) ?_
       intro y hb _ hk
       have HY := Lib.hid hb
       have HK := Lib.hid hk
       clear hb hk))
  exact bodyPost_ret (results_one rfl _ y q HY.out size_C9 (by rfl) Tryd.underlying36) rfl ⟨rfl, HW.out.trans (HK.out.below2 (fun k hk => by have := HQ.out; omega))⟩
end Go.Proofs.YtobhmjokoicpoaaDoor
