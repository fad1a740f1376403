/-
  Contract of the law's slotOf, and two of the document's that are compared (layer 11).
-/
import Derived.Test.YtbeahhijmgkfhaaLMem
import Derived.Laws.StructEq
namespace Go.Proofs.Ytbeahhijmgkfhaa
open Go.RowKit Go.Shelf

set_option maxRecDepth 100000 in
set_option maxHeartbeats 400000 in
theorem slotOf_any (s : Vl.Th) (A : Option Addr) (n cp : Nat) (w : World) (h : BS w A n s.dt) :
    Calls Try.prog 12 #[.agg (sc s (.slice A n cp)).toArray] w fun e w' => e = .returned (.agg (sc s (.string (txt s.dt))).toArray) ∧ Below w.heap.size w w' := by
  have HX := Lib.hid h
  clear h
  go_enter Try.func12, Try.ntmps12
  go_upto_region 1 with (refine wpList_alloc_any rfl 34 rfl _ zero_S11 ?_; intro w1 hb1 hs1 hw1)
  have hb0 : Below w.heap.size w (w.alloc (.cells (sc s (.slice A n cp)).toArray 26)) := (Below.refl _ w).alloc (Nat.le_refl _) _
  have hsz : (w.alloc (.cells (sc s (.slice A n cp)).toArray 26)).heap.size = w.heap.size + 1 := by simp
  have HB : Hid (Bw w1 w.heap.size (sc s (.slice A n cp)) 26) := (hw1.block _ (by omega)).trans (heap_alloc_new w _)
  have HW : Hid (Below w.heap.size w w1) := hb0.trans (hw1.mono (by omega))
  have HR : Hid (Bw w1 (w.heap.size + 1) (sc Sl.zero (.string (txt []))) 34) := by rw [← hsz]; exact hb1
  rw [hsz]
  clear hb1 hs1 hw1 hb0 hsz
  have e0 := HB.out.cell 0 _ rfl
  have e1 := HB.out.cell 1 _ rfl
  have e2 := HB.out.cell 2 _ rfl
  have e3 := HB.out.cell 3 _ rfl
  have e4 := HB.out.cell 4 _ rfl
  have e5 := HB.out.cell 5 _ rfl
  have e6 := HB.out.cell 6 _ rfl
  have e7 := HB.out.cell 7 _ rfl
  have e8 := HB.out.cell 8 _ rfl
  have HBF : Hid (Try.prog.built 34 [(0, .int .u32 (s.ino : Int)), (1, .int .u32 (s.kind : Int)), (2, .int .u32 (s.gen : Int)), (3, .int .u32 (s.links : Int)), (4, .int .u32 (s.mode : Int)), (5, .int .u64 (s.change : Int)), (6, .int .u64 (s.cookie : Int)), (7, .int .u64 (s.verf : Int)), (8, .string (txt s.dt))] = some (sc s (.string (txt s.dt))).toArray) := built_S11 _ _ _ _ _ _ _ _ _
  have HQ : Hid (w.heap.size ≤ w.heap.size + 1) := Nat.le_succ _
  generalize hq : w.heap.size + 1 = q at *
  clear hq
  go_wp2_with (refine wpList_conv_bs rfl (.tmp 20) rfl A n cp s.dt rfl (HX.out.below HW.out) ?_
               refine Did.list rfl (did_build 34 #[(0, .tmp 4), (1, .tmp 6), (2, .tmp 8), (3, .tmp 10), (4, .tmp 12), (5, .tmp 14), (6, .tmp 16), (7, .tmp 18), (8, .tmp 21)] rfl (sc s (.string (txt s.dt))).toArray (by simp only [List.map_toArray, List.map_cons, List.map_nil]; exact HBF.out)) ?_
               refine wpList_store_part rfl 34 (.tmp 2) (.tmp 22) rfl q 0 (sc s (.string (txt s.dt))) rfl rfl 34 _ HR.out size_S11 (by simp [sc]) (sc_str _ _) ?_
               intro y hb _ hk
               have HY := Lib.hid hb
               have HK := Lib.hid hk
               clear hb hk)
  exact bodyPost_ret (results_one rfl _ y q HY.out size_S11 (by rfl) Try.underlying34) rfl ⟨rfl, HW.out.trans (HK.out.below2 (fun k hk => by have := HQ.out; omega))⟩

theorem sEqIn (x y : Vl.Th) (w : World) : (Op.equalIn 10000 34 (.agg (sc x (.string (txt x.dt))).toArray) (.agg (sc y (.string (txt y.dt))).toArray)).run Try.prog w = .ok (decide (x = y)) w := by
  have hS : Try.prog.underlying 34 = some (.struct (Try.prog.fieldsOf 34)) := by kernel_rfl
  have hp : Try.prog.stoodInHeld 34 = false := by kernel_rfl
  have u := Try.underlying23
  have ia := Try.isAgg23
  have sz := Try.sizeOf23
  have u1 := Try.underlying9
  have ia1 := Try.isAgg9
  have sz1 := Try.sizeOf9
  have u3 := Try.underlying22
  have ia3 := Try.isAgg22
  have sz3 := Try.sizeOf22
  rw [show (10000 : Nat) = 9997 + 1 + 1 + 1 from rfl, run_equalIn_agg w (9997 + 1 + 1) 34 _ _ hS hp]
  simp only [Program.fieldsOf, Try.underlying34]
  unfold sc
  go_simp
  simp only [txt_toList]
  by_cases h : x = y
  · subst h
    simp
  · rw [decide_eq_false h]
    obtain ⟨a0, a1, a2, a3, a4, a5, a6, a7, a8⟩ := x
    obtain ⟨b0, b1, b2, b3, b4, b5, b6, b7, b8⟩ := y
    dsimp only
    simp only [Int.ofNat_inj]
    by_cases g0 : a0 = b0
    rotate_left
    · rw [if_neg g0]
    subst g0
    rw [if_pos rfl]
    by_cases g1 : a1 = b1
    rotate_left
    · rw [if_neg g1]
    subst g1
    rw [if_pos rfl]
    by_cases g2 : a2 = b2
    rotate_left
    · rw [if_neg g2]
    subst g2
    rw [if_pos rfl]
    by_cases g3 : a3 = b3
    rotate_left
    · rw [if_neg g3]
    subst g3
    rw [if_pos rfl]
    by_cases g4 : a4 = b4
    rotate_left
    · rw [if_neg g4]
    subst g4
    rw [if_pos rfl]
    by_cases g5 : a5 = b5
    rotate_left
    · rw [if_neg g5]
    subst g5
    rw [if_pos rfl]
    by_cases g6 : a6 = b6
    rotate_left
    · rw [if_neg g6]
    subst g6
    rw [if_pos rfl]
    by_cases g7 : a7 = b7
    rotate_left
    · rw [if_neg g7]
    subst g7
    rw [if_pos rfl]
    rw [if_neg (fun e => h (by rw [e]))]
theorem sEq (x y : Vl.Th) (w : World) : (binOp .eql 34 (.agg (sc x (.string (txt x.dt))).toArray) (.agg (sc y (.string (txt y.dt))).toArray)).run Try.prog w = .ok (.bool (decide (x = y))) w := by
  rw [run_eql_struct, sEqIn, Result.andThen_ok]
theorem sNe (x y : Vl.Th) (w : World) : (binOp .neq 34 (.agg (sc x (.string (txt x.dt))).toArray) (.agg (sc y (.string (txt y.dt))).toArray)).run Try.prog w = .ok (.bool (!decide (x = y))) w := by
  rw [run_neq_struct, sEqIn, Result.andThen_ok]
end Go.Proofs.Ytbeahhijmgkfhaa
