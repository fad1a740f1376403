/-
  The document's Same, walked, of two replies that are the same (layer 9).
-/
import Derived.Test.YtobhmjokoicpoaaDoorKRBase
namespace Go.Proofs.YtobhmjokoicpoaaDoor
open Go.RowKit Go.Shelf

theorem size_A9 : (Tryd.prog.info? 51).map (·.size) = some 5 := by kernel_rfl
theorem part_ac {r : Rp} {v u : Value} : ∀ j z, (ac r.kd r.md r.ln r.sz r.ch)[j]? = some z → (rc r v u)[5 + j]? = some z := by
  intro j z hz
  match j with
  | 0 | 1 | 2 | 3 | 4 => exact hz
  | j + 5 => simp [ac] at hz
theorem part_hc {r : Rp} {v u : Value} : ∀ j z, (hc r.ati r.atg)[j]? = some z → (rc r v u)[3 + j]? = some z := by
  intro j z hz
  match j with
  | 0 | 1 => exact hz
  | j + 2 => simp [hc] at hz
theorem hSelf (a b : Nat) (w : World) : (binOp .eql 24 (.agg (hc a b).toArray) (.agg (hc a b).toArray)).run Tryd.prog w = .ok (.bool true) w := by
  rw [run_eql_struct, show (10000 : Nat) = 9998 + 1 + 1 from rfl, show hc a b = [.int .u32 (a : Int), .int .u32 (b : Int)] from rfl, hEq 9998, Result.andThen_ok]
  simp
theorem aSelf (a b c d e : Nat) (w : World) : (binOp .eql 51 (.agg (ac a b c d e).toArray) (.agg (ac a b c d e).toArray)).run Tryd.prog w = .ok (.bool true) w := by
  have hS : Tryd.prog.underlying 51 = some (.struct (Tryd.prog.fieldsOf 51)) := by kernel_rfl
  have hp : Tryd.prog.stoodInHeld 51 = false := by kernel_rfl
  have u := Tryd.underlying25
  have ia := Tryd.isAgg25
  have sz := Tryd.sizeOf25
  have u3 := Tryd.underlying22
  have ia3 := Tryd.isAgg22
  have sz3 := Tryd.sizeOf22
  have hE : (Op.equalIn 10000 51 (.agg (ac a b c d e).toArray) (.agg (ac a b c d e).toArray)).run Tryd.prog w = .ok true w := by
    rw [show (10000 : Nat) = 9998 + 1 + 1 from rfl, run_equalIn_agg w (9998 + 1) 51 _ _ hS hp]
    simp only [Program.fieldsOf, Tryd.underlying51]
    unfold ac
    go_simp
  rw [run_eql_struct, hE, Result.andThen_ok]

set_option maxRecDepth 100000 in
set_option maxHeartbeats 2000000 in
theorem refSame9_any (r : Rp) (E : Option Addr) (m ce : Nat) (F : Option Addr) (k cf : Nat) (w : World) (h : ES w E m r.es) (h2 : ES w F k r.es) (hm : m ≤ 10000000) :
    Calls Tryd.prog 22 #[.agg (rc r (.string (txt r.dt)) (.slice E m ce)).toArray, .agg (rc r (.string (txt r.dt)) (.slice F k cf)).toArray] w fun e w' => e = .returned (.bool true) ∧ Below w.heap.size w w' := by
  have HS := Lib.hid h
  have HT := Lib.hid h2
  have HM := Lib.hid hm
  clear h h2 hm
  have hb0 : Below w.heap.size w ((w.alloc (.cells (rc r (.string (txt r.dt)) (.slice E m ce)).toArray 54)).alloc (.cells (rc r (.string (txt r.dt)) (.slice F k cf)).toArray 54)) := ((Below.refl _ _).alloc (Nat.le_refl _) _).alloc (by simp) _
  have HX : Hid (Bw ((w.alloc (.cells (rc r (.string (txt r.dt)) (.slice E m ce)).toArray 54)).alloc (.cells (rc r (.string (txt r.dt)) (.slice F k cf)).toArray 54)) w.heap.size (rc r (.string (txt r.dt)) (.slice E m ce)) 54) := (Below.heap_alloc _ _ _ (by simp)).trans (heap_alloc_new w _)
  have HY : Hid (Bw ((w.alloc (.cells (rc r (.string (txt r.dt)) (.slice E m ce)).toArray 54)).alloc (.cells (rc r (.string (txt r.dt)) (.slice F k cf)).toArray 54)) (w.heap.size + 1) (rc r (.string (txt r.dt)) (.slice F k cf)) 54) := by
    have := heap_alloc_new (w.alloc (.cells (rc r (.string (txt r.dt)) (.slice E m ce)).toArray 54)) (.cells (rc r (.string (txt r.dt)) (.slice F k cf)).toArray 54)
    show _ = _
    simpa using this
  have HW := Lib.hid hb0
  clear hb0
  have x0 := HX.out.cell 0 _ rfl
  have y0 := HY.out.cell 0 _ rfl
  have x1 := HX.out.cell 1 _ rfl
  have y1 := HY.out.cell 1 _ rfl
  have x2 := HX.out.cell 2 _ rfl
  have y2 := HY.out.cell 2 _ rfl
  have x3 := HX.out.cell 3 _ rfl
  have y3 := HY.out.cell 3 _ rfl
  have x4 := HX.out.cell 4 _ rfl
  have y4 := HY.out.cell 4 _ rfl
  have x5 := HX.out.cell 5 _ rfl
  have y5 := HY.out.cell 5 _ rfl
  have x6 := HX.out.cell 6 _ rfl
  have y6 := HY.out.cell 6 _ rfl
  have x7 := HX.out.cell 7 _ rfl
  have y7 := HY.out.cell 7 _ rfl
  have x8 := HX.out.cell 8 _ rfl
  have y8 := HY.out.cell 8 _ rfl
  have x9 := HX.out.cell 9 _ rfl
  have y9 := HY.out.cell 9 _ rfl
  have x10 := HX.out.cell 10 _ rfl
  have y10 := HY.out.cell 10 _ rfl
  have x11 := HX.out.cell 11 _ rfl
  have y11 := HY.out.cell 11 _ rfl
  have hS : ∀ W, (binOp .eql 24 (.agg #[.int .u32 (r.ati : Int), .int .u32 (r.atg : Int)]) (.agg #[.int .u32 (r.ati : Int), .int .u32 (r.atg : Int)])).run Tryd.prog W = .ok (.bool true) W := fun W => hSelf r.ati r.atg W
  have aS : ∀ W, (binOp .eql 51 (.agg #[.int .u32 (r.kd : Int), .int .u32 (r.md : Int), .int .u32 (r.ln : Int), .int .u32 (r.sz : Int), .int .u64 (r.ch : Int)]) (.agg #[.int .u32 (r.kd : Int), .int .u32 (r.md : Int), .int .u32 (r.ln : Int), .int .u32 (r.sz : Int), .int .u64 (r.ch : Int)])).run Tryd.prog W = .ok (.bool true) W := fun W => aSelf r.kd r.md r.ln r.sz r.ch W
  go_enter Tryd.func22, Tryd.ntmps22
  go_wp2_with fail
  refine (same_any E F m k ce cf r.es r.es _ (HS.out.below HW.out) (HT.out.below HW.out) HM.out).mono ?_
  rintro e w1 ⟨he, hb1⟩
  rw [decide_eq_true rfl] at he
  subst he
  have HX1 := Lib.hid (HX.out.below hb1)
  have HY1 := Lib.hid (HY.out.below hb1)
  have HW1 := Lib.hid (HW.out.trans (hb1.mono HW.out.size))
  clear hb1 HX HY HW x0 y0 x1 y1 x2 y2 x3 y3 x4 y4 x5 y5 x6 y6 x7 y7 x8 y8 x9 y9 x10 y10 x11 y11
  have x12 := HX1.out.cell 12 _ rfl
  have y12 := HY1.out.cell 12 _ rfl
  have x13 := HX1.out.cell 13 _ rfl
  have y13 := HY1.out.cell 13 _ rfl
  have x14 := HX1.out.cell 14 _ rfl
  have y14 := HY1.out.cell 14 _ rfl
  go_wp2_with fail
  go_ret
  exact ⟨rfl, HW1.out⟩
end Go.Proofs.YtobhmjokoicpoaaDoor
