/-
  The document's Check, walked (layer 11).
-/
import Derived.Test.YtbeahhijmgkfhaaLMem
import Derived.Test.YtbeahhijmgkfhaaERGet
import Derived.BigQuiet
namespace Go.Proofs.Ytbeahhijmgkfhaa
open Go.RowKit Go.Shelf

set_option maxRecDepth 100000 in
set_option maxHeartbeats 8000000 in
theorem refCheckS_any (s : Vl.Th) (w : World) :
    Calls Try.prog 15 #[.agg (sc s (.string (txt s.dt))).toArray] w fun e w' => e = .returned (.int .i64 (Sl.chkS s)) ∧ Below w.heap.size w w' := by
  have s3 : (txt s.dt).size = s.dt.length := txt_size _
  have HNO : Hid (¬ (Sl.okS s = true) → Sl.chkS s = 1) := fun h => if_neg h
  have HYES : Hid (Sl.okS s = true → Sl.chkS s = 0) := fun h => if_pos h
  by_cases a0 : s.ino ≤ 23
  rotate_left
  · rw [HNO.out (fun h => a0 (Vl.okB_facts h).1)]
    have g0 : decide ((23 : Int) < (s.ino : Int)) = true := by simp; omega
    go_enter Try.func15, Try.ntmps15
    go_upto_region 1 with fail
    have HB0 : Hid (Bw (w.alloc (.cells (sc s (.string (txt s.dt))).toArray 34)) w.heap.size (sc s (.string (txt s.dt))) 34) := heap_alloc_new w _
    have HW0 : Hid (Below w.heap.size w (w.alloc (.cells (sc s (.string (txt s.dt))).toArray 34))) := (Below.refl _ w).alloc (Nat.le_refl _) _
    generalize w.alloc (.cells (sc s (.string (txt s.dt))).toArray 34) = w0 at *
    have e0 := HB0.out.cell 0 _ rfl
    go_wp2_with fail
    go_ret
    exact ⟨rfl, HW0.out⟩
  by_cases a1 : s.kind ≤ 3
  rotate_left
  · rw [HNO.out (fun h => a1 (Vl.okB_facts h).2.1)]
    have g0 : decide ((23 : Int) < (s.ino : Int)) = false := by simp; omega
    have g1 : decide ((3 : Int) < (s.kind : Int)) = true := by simp; omega
    go_enter Try.func15, Try.ntmps15
    go_upto_region 1 with fail
    have HB0 : Hid (Bw (w.alloc (.cells (sc s (.string (txt s.dt))).toArray 34)) w.heap.size (sc s (.string (txt s.dt))) 34) := heap_alloc_new w _
    have HW0 : Hid (Below w.heap.size w (w.alloc (.cells (sc s (.string (txt s.dt))).toArray 34))) := (Below.refl _ w).alloc (Nat.le_refl _) _
    generalize w.alloc (.cells (sc s (.string (txt s.dt))).toArray 34) = w0 at *
    have e0 := HB0.out.cell 0 _ rfl
    have e1 := HB0.out.cell 1 _ rfl
    go_wp2_with fail
    go_ret
    exact ⟨rfl, HW0.out⟩
  by_cases a2 : s.dt.length ≤ 768
  rotate_left
  · rw [HNO.out (fun h => a2 (Vl.okB_facts h).2.2)]
    have g0 : decide ((23 : Int) < (s.ino : Int)) = false := by simp; omega
    have g1 : decide ((3 : Int) < (s.kind : Int)) = false := by simp; omega
    have g2 : decide ((768 : Int) < (s.dt.length : Int)) = true := by simp; omega
    go_enter Try.func15, Try.ntmps15
    go_upto_region 1 with fail
    have HB0 : Hid (Bw (w.alloc (.cells (sc s (.string (txt s.dt))).toArray 34)) w.heap.size (sc s (.string (txt s.dt))) 34) := heap_alloc_new w _
    have HW0 : Hid (Below w.heap.size w (w.alloc (.cells (sc s (.string (txt s.dt))).toArray 34))) := (Below.refl _ w).alloc (Nat.le_refl _) _
    generalize w.alloc (.cells (sc s (.string (txt s.dt))).toArray 34) = w0 at *
    have e0 := HB0.out.cell 0 _ rfl
    have e1 := HB0.out.cell 1 _ rfl
    have e8 := HB0.out.cell 8 _ rfl
    go_wp2_with fail
    go_ret
    exact ⟨rfl, HW0.out⟩
  by_cases k0 : s.kind = 0
  · by_cases z0 : s.links = 0
    rotate_left
    · rw [HNO.out (fun h => z0 ((Sl.free_iff s k0).1 h).2.1)]
      have k1 : (s.kind : Int) = 0 := by omega
      have g0 : decide ((23 : Int) < (s.ino : Int)) = false := by simp; omega
      have g1 : decide ((3 : Int) < (s.kind : Int)) = false := by simp; omega
      have g2 : decide ((768 : Int) < (s.dt.length : Int)) = false := by simp; omega
      have g3 : decide ((0 : Int) < (s.links : Int)) = true := by simp; omega
      go_enter Try.func15, Try.ntmps15
      go_upto_region 1 with fail
      have HB0 : Hid (Bw (w.alloc (.cells (sc s (.string (txt s.dt))).toArray 34)) w.heap.size (sc s (.string (txt s.dt))) 34) := heap_alloc_new w _
      have HW0 : Hid (Below w.heap.size w (w.alloc (.cells (sc s (.string (txt s.dt))).toArray 34))) := (Below.refl _ w).alloc (Nat.le_refl _) _
      generalize w.alloc (.cells (sc s (.string (txt s.dt))).toArray 34) = w0 at *
      have e0 := HB0.out.cell 0 _ rfl
      have e1 := HB0.out.cell 1 _ rfl
      have e8 := HB0.out.cell 8 _ rfl
      have e3 := HB0.out.cell 3 _ rfl
      go_wp2_with fail
      go_ret
      exact ⟨rfl, HW0.out⟩
    by_cases z1 : s.mode = 0
    rotate_left
    · rw [HNO.out (fun h => z1 ((Sl.free_iff s k0).1 h).2.2.1)]
      have k1 : (s.kind : Int) = 0 := by omega
      have g0 : decide ((23 : Int) < (s.ino : Int)) = false := by simp; omega
      have g1 : decide ((3 : Int) < (s.kind : Int)) = false := by simp; omega
      have g2 : decide ((768 : Int) < (s.dt.length : Int)) = false := by simp; omega
      have g3 : decide ((0 : Int) < (s.links : Int)) = false := by simp; omega
      have g4 : decide ((0 : Int) < (s.mode : Int)) = true := by simp; omega
      go_enter Try.func15, Try.ntmps15
      go_upto_region 1 with fail
      have HB0 : Hid (Bw (w.alloc (.cells (sc s (.string (txt s.dt))).toArray 34)) w.heap.size (sc s (.string (txt s.dt))) 34) := heap_alloc_new w _
      have HW0 : Hid (Below w.heap.size w (w.alloc (.cells (sc s (.string (txt s.dt))).toArray 34))) := (Below.refl _ w).alloc (Nat.le_refl _) _
      generalize w.alloc (.cells (sc s (.string (txt s.dt))).toArray 34) = w0 at *
      have e0 := HB0.out.cell 0 _ rfl
      have e1 := HB0.out.cell 1 _ rfl
      have e8 := HB0.out.cell 8 _ rfl
      have e3 := HB0.out.cell 3 _ rfl
      have e4 := HB0.out.cell 4 _ rfl
      go_wp2_with fail
      go_ret
      exact ⟨rfl, HW0.out⟩
    by_cases z2 : s.cookie = 0
    rotate_left
    · rw [HNO.out (fun h => z2 ((Sl.free_iff s k0).1 h).2.2.2.1)]
      have k1 : (s.kind : Int) = 0 := by omega
      have g0 : decide ((23 : Int) < (s.ino : Int)) = false := by simp; omega
      have g1 : decide ((3 : Int) < (s.kind : Int)) = false := by simp; omega
      have g2 : decide ((768 : Int) < (s.dt.length : Int)) = false := by simp; omega
      have g3 : decide ((0 : Int) < (s.links : Int)) = false := by simp; omega
      have g4 : decide ((0 : Int) < (s.mode : Int)) = false := by simp; omega
      have g5 : decide ((0 : Int) < (s.cookie : Int)) = true := by simp; omega
      go_enter Try.func15, Try.ntmps15
      go_upto_region 1 with fail
      have HB0 : Hid (Bw (w.alloc (.cells (sc s (.string (txt s.dt))).toArray 34)) w.heap.size (sc s (.string (txt s.dt))) 34) := heap_alloc_new w _
      have HW0 : Hid (Below w.heap.size w (w.alloc (.cells (sc s (.string (txt s.dt))).toArray 34))) := (Below.refl _ w).alloc (Nat.le_refl _) _
      generalize w.alloc (.cells (sc s (.string (txt s.dt))).toArray 34) = w0 at *
      have e0 := HB0.out.cell 0 _ rfl
      have e1 := HB0.out.cell 1 _ rfl
      have e8 := HB0.out.cell 8 _ rfl
      have e3 := HB0.out.cell 3 _ rfl
      have e4 := HB0.out.cell 4 _ rfl
      have e6 := HB0.out.cell 6 _ rfl
      go_wp2_with fail
      go_ret
      exact ⟨rfl, HW0.out⟩
    by_cases z3 : s.verf = 0
    rotate_left
    · rw [HNO.out (fun h => z3 ((Sl.free_iff s k0).1 h).2.2.2.2.1)]
      have k1 : (s.kind : Int) = 0 := by omega
      have g0 : decide ((23 : Int) < (s.ino : Int)) = false := by simp; omega
      have g1 : decide ((3 : Int) < (s.kind : Int)) = false := by simp; omega
      have g2 : decide ((768 : Int) < (s.dt.length : Int)) = false := by simp; omega
      have g3 : decide ((0 : Int) < (s.links : Int)) = false := by simp; omega
      have g4 : decide ((0 : Int) < (s.mode : Int)) = false := by simp; omega
      have g5 : decide ((0 : Int) < (s.cookie : Int)) = false := by simp; omega
      have g6 : decide ((0 : Int) < (s.verf : Int)) = true := by simp; omega
      go_enter Try.func15, Try.ntmps15
      go_upto_region 1 with fail
      have HB0 : Hid (Bw (w.alloc (.cells (sc s (.string (txt s.dt))).toArray 34)) w.heap.size (sc s (.string (txt s.dt))) 34) := heap_alloc_new w _
      have HW0 : Hid (Below w.heap.size w (w.alloc (.cells (sc s (.string (txt s.dt))).toArray 34))) := (Below.refl _ w).alloc (Nat.le_refl _) _
      generalize w.alloc (.cells (sc s (.string (txt s.dt))).toArray 34) = w0 at *
      have e0 := HB0.out.cell 0 _ rfl
      have e1 := HB0.out.cell 1 _ rfl
      have e8 := HB0.out.cell 8 _ rfl
      have e3 := HB0.out.cell 3 _ rfl
      have e4 := HB0.out.cell 4 _ rfl
      have e6 := HB0.out.cell 6 _ rfl
      have e7 := HB0.out.cell 7 _ rfl
      go_wp2_with fail
      go_ret
      exact ⟨rfl, HW0.out⟩
    have k1 : (s.kind : Int) = 0 := by omega
    by_cases z4 : s.dt = []
    · rw [HYES.out ((Sl.free_iff s k0).2 ⟨a0, z0, z1, z2, z3, z4⟩)]
      have g0 : decide ((23 : Int) < (s.ino : Int)) = false := by simp; omega
      have g1 : decide ((3 : Int) < (s.kind : Int)) = false := by simp; omega
      have g2 : decide ((768 : Int) < (s.dt.length : Int)) = false := by simp; omega
      have g3 : decide ((0 : Int) < (s.links : Int)) = false := by simp; omega
      have g4 : decide ((0 : Int) < (s.mode : Int)) = false := by simp; omega
      have g5 : decide ((0 : Int) < (s.cookie : Int)) = false := by simp; omega
      have g6 : decide ((0 : Int) < (s.verf : Int)) = false := by simp; omega
      have z5 : (!(txt s.dt).toList.isEmpty) = false := by rw [txt_toList, z4]; rfl
      clear z4
      go_enter Try.func15, Try.ntmps15
      go_upto_region 1 with fail
      have HB0 : Hid (Bw (w.alloc (.cells (sc s (.string (txt s.dt))).toArray 34)) w.heap.size (sc s (.string (txt s.dt))) 34) := heap_alloc_new w _
      have HW0 : Hid (Below w.heap.size w (w.alloc (.cells (sc s (.string (txt s.dt))).toArray 34))) := (Below.refl _ w).alloc (Nat.le_refl _) _
      generalize w.alloc (.cells (sc s (.string (txt s.dt))).toArray 34) = w0 at *
      have e0 := HB0.out.cell 0 _ rfl
      have e1 := HB0.out.cell 1 _ rfl
      have e8 := HB0.out.cell 8 _ rfl
      have e3 := HB0.out.cell 3 _ rfl
      have e4 := HB0.out.cell 4 _ rfl
      have e6 := HB0.out.cell 6 _ rfl
      have e7 := HB0.out.cell 7 _ rfl
      have e8 := HB0.out.cell 8 _ rfl
      go_wp2_with fail
      go_ret
      exact ⟨rfl, HW0.out⟩
    · rw [HNO.out (fun h => z4 ((Sl.free_iff s k0).1 h).2.2.2.2.2)]
      have g0 : decide ((23 : Int) < (s.ino : Int)) = false := by simp; omega
      have g1 : decide ((3 : Int) < (s.kind : Int)) = false := by simp; omega
      have g2 : decide ((768 : Int) < (s.dt.length : Int)) = false := by simp; omega
      have g3 : decide ((0 : Int) < (s.links : Int)) = false := by simp; omega
      have g4 : decide ((0 : Int) < (s.mode : Int)) = false := by simp; omega
      have g5 : decide ((0 : Int) < (s.cookie : Int)) = false := by simp; omega
      have g6 : decide ((0 : Int) < (s.verf : Int)) = false := by simp; omega
      have z5 : (txt s.dt).toList.isEmpty = false := by rw [txt_toList]; simpa using z4
      go_enter Try.func15, Try.ntmps15
      go_upto_region 1 with fail
      have HB0 : Hid (Bw (w.alloc (.cells (sc s (.string (txt s.dt))).toArray 34)) w.heap.size (sc s (.string (txt s.dt))) 34) := heap_alloc_new w _
      have HW0 : Hid (Below w.heap.size w (w.alloc (.cells (sc s (.string (txt s.dt))).toArray 34))) := (Below.refl _ w).alloc (Nat.le_refl _) _
      generalize w.alloc (.cells (sc s (.string (txt s.dt))).toArray 34) = w0 at *
      have e0 := HB0.out.cell 0 _ rfl
      have e1 := HB0.out.cell 1 _ rfl
      have e8 := HB0.out.cell 8 _ rfl
      have e3 := HB0.out.cell 3 _ rfl
      have e4 := HB0.out.cell 4 _ rfl
      have e6 := HB0.out.cell 6 _ rfl
      have e7 := HB0.out.cell 7 _ rfl
      have e8 := HB0.out.cell 8 _ rfl
      go_wp2_with fail
      go_ret
      exact ⟨rfl, HW0.out⟩
  have k1 : ¬ (s.kind : Int) = 0 := by omega
  by_cases l0 : s.links = 0
  · have HI : Hid (¬ Sl.okS s = true) := by
      intro h
      by_cases d0 : s.kind = 2
      · have := ((Sl.dir_iff s d0).1 h).2.2.1; omega
      · have := ((Sl.used_iff s k0 d0).1 h).2.2.2; omega
    rw [HNO.out HI.out]
    have l1 : (s.links : Int) = 0 := by omega
    have g0 : decide ((23 : Int) < (s.ino : Int)) = false := by simp; omega
    have g1 : decide ((3 : Int) < (s.kind : Int)) = false := by simp; omega
    have g2 : decide ((768 : Int) < (s.dt.length : Int)) = false := by simp; omega
    go_enter Try.func15, Try.ntmps15
    go_upto_region 1 with fail
    have HB0 : Hid (Bw (w.alloc (.cells (sc s (.string (txt s.dt))).toArray 34)) w.heap.size (sc s (.string (txt s.dt))) 34) := heap_alloc_new w _
    have HW0 : Hid (Below w.heap.size w (w.alloc (.cells (sc s (.string (txt s.dt))).toArray 34))) := (Below.refl _ w).alloc (Nat.le_refl _) _
    generalize w.alloc (.cells (sc s (.string (txt s.dt))).toArray 34) = w0 at *
    have e0 := HB0.out.cell 0 _ rfl
    have e1 := HB0.out.cell 1 _ rfl
    have e8 := HB0.out.cell 8 _ rfl
    have e3 := HB0.out.cell 3 _ rfl
    go_wp2_with fail
    go_ret
    exact ⟨rfl, HW0.out⟩
  have l1 : ¬ (s.links : Int) = 0 := by omega
  by_cases d0 : s.kind = 2
  rotate_left
  · have d1 : ¬ (s.kind : Int) = 2 := by omega
    rw [HYES.out ((Sl.used_iff s k0 d0).2 ⟨a0, a1, a2, by omega⟩)]
    have g0 : decide ((23 : Int) < (s.ino : Int)) = false := by simp; omega
    have g1 : decide ((3 : Int) < (s.kind : Int)) = false := by simp; omega
    have g2 : decide ((768 : Int) < (s.dt.length : Int)) = false := by simp; omega
    go_enter Try.func15, Try.ntmps15
    go_upto_region 1 with fail
    have HB0 : Hid (Bw (w.alloc (.cells (sc s (.string (txt s.dt))).toArray 34)) w.heap.size (sc s (.string (txt s.dt))) 34) := heap_alloc_new w _
    have HW0 : Hid (Below w.heap.size w (w.alloc (.cells (sc s (.string (txt s.dt))).toArray 34))) := (Below.refl _ w).alloc (Nat.le_refl _) _
    generalize w.alloc (.cells (sc s (.string (txt s.dt))).toArray 34) = w0 at *
    have e0 := HB0.out.cell 0 _ rfl
    have e1 := HB0.out.cell 1 _ rfl
    have e8 := HB0.out.cell 8 _ rfl
    have e3 := HB0.out.cell 3 _ rfl
    go_wp2_with fail
    go_ret
    exact ⟨rfl, HW0.out⟩
  have d1 : (s.kind : Int) = 2 := by omega
  have HDI : Hid (Sl.okS s = true ↔ Sl.dirB s.dt s.cookie = true) := ⟨fun h => ((Sl.dir_iff s d0).1 h).2.2.2, fun h => (Sl.dir_iff s d0).2 ⟨a0, a2, by omega, h⟩⟩
  have g0 : decide ((23 : Int) < (s.ino : Int)) = false := by simp; omega
  have g1 : decide ((3 : Int) < (s.kind : Int)) = false := by simp; omega
  have g2 : decide ((768 : Int) < (s.dt.length : Int)) = false := by simp; omega
  go_enter Try.func15, Try.ntmps15
  go_upto_region 1 with fail
  have HB0 : Hid (Bw (w.alloc (.cells (sc s (.string (txt s.dt))).toArray 34)) w.heap.size (sc s (.string (txt s.dt))) 34) := heap_alloc_new w _
  have HW0 : Hid (Below w.heap.size w (w.alloc (.cells (sc s (.string (txt s.dt))).toArray 34))) := (Below.refl _ w).alloc (Nat.le_refl _) _
  generalize w.alloc (.cells (sc s (.string (txt s.dt))).toArray 34) = w0 at *
  have e0 := HB0.out.cell 0 _ rfl
  have e1 := HB0.out.cell 1 _ rfl
  have e8 := HB0.out.cell 8 _ rfl
  have e3 := HB0.out.cell 3 _ rfl
  go_wp2_with fail
  refine (refGet_any s.dt w0 (by omega)).mono ?_
  rintro e w1 ⟨A, n, c, rfl, hes, hnc, hb⟩
  have HES := Lib.hid hes
  have HB1 := Lib.hid (HB0.out.below hb)
  have HW1 := Lib.hid (HW0.out.trans (hb.mono HW0.out.size))
  have hn9 : n ≤ 9223372036854775807 := Nat.le_trans hnc.1 hnc.2
  clear hes hnc hb HB0 HW0 e0 e1 e3 e8 g0 g1 g2 a0 a1 a2 k0 k1 l0 l1 d0 d1 s3
  by_cases herr : errE s.dt = 0
  rotate_left
  · have HZ := HNO.out (fun h => herr ((Sl.dirB_iff _ _).1 (HDI.out.1 h)).1)
    go_wp2_with fail
    go_ret
    exact ⟨by rw [HZ]; rfl, HW1.out⟩
  have HOK : Hid (Sl.okS s = true ↔ ∀ e ∈ gotE s.dt, e.ck ≤ s.cookie) := ⟨fun h => ((Sl.dirB_iff _ _).1 (HDI.out.1 h)).2, fun h => HDI.out.2 ((Sl.dirB_iff _ _).2 ⟨herr, h⟩)⟩
  clear HDI
  generalize gotE s.dt = es at *
  have HN : Hid (es.length = n) := HES.out.1
  go_wp2_with fail
  go_loopw [5] (fun i wr => ∃ k : Nat, k ≤ n ∧ i = .int .i64 k ∧ Hid (∀ e ∈ es.take k, e.ck ≤ s.cookie) ∧ Hid (Below w1.heap.size w1 wr)) (fun i _ => n - (intOf i).toNat)
  case atStart => exact ⟨0, by omega, rfl, Lib.hid (fun e he => by simp at he), Below.refl _ _⟩
  case round =>
    obtain ⟨k, hk, rfl, HE, HW⟩ := hrel
    by_cases hlt : k < n
    · have hlt' : (k : Int) < (n : Int) := by omega
      obtain ⟨b, o, rfl, hbl, hj, hc⟩ := (HES.out.below HW.out).at hlt
      have HTX : Hid (es.take (k + 1) = es.take k ++ [es[k]]) := List.take_succ_eq_append_getElem hj
      have HMX : Hid (es[k] ∈ es) := List.getElem_mem hj
      generalize es[k] = x at *
      have x0 : wr.cell? ⟨b, o + k * 4, none⟩ = some (.int .u64 (x.ck : Int)) := hc 0 _ rfl
      have e6 := (HB1.out.below HW.out).cell 6 _ rfl
      clear hc
      have HW2 : Hid (∀ k, Below w1.heap.size w1 (wr.drewN k)) := fun k => ⟨HW.out.os, HW.out.tape, HW.out.output, HW.out.size, HW.out.block⟩
      by_cases hxy : x.ck ≤ s.cookie
      · have hd : decide ((s.cookie : Int) < (x.ck : Int)) = false := by simp; omega
        go_wp2_with fail
        go_quiet (fail)
        go_wp2_with fail
        go_roundw
        case rel =>
          refine ⟨k + 1, by omega, by go_num, ?_, HW2.out _⟩
          intro e he
          rw [HTX.out, List.mem_append, List.mem_singleton] at he
          rcases he with he | rfl
          · exact HE.out e he
          · exact hxy
        case measure => simp [intOf]; omega
      · have hd : decide ((s.cookie : Int) < (x.ck : Int)) = true := by simp; omega
        have HZ := Lib.hid (HNO.out (fun h => hxy (HOK.out.1 h x HMX.out)))
        go_wp2_with fail
        go_quiet (fail)
        go_wp2_with fail
        go_ret
        exact ⟨by rw [HZ.out]; rfl, HW1.out.trans ((HW2.out _).mono HW1.out.size)⟩
    · obtain rfl : k = n := by omega
      have HZ := Lib.hid (HYES.out (HOK.out.2 (by
        have := HE.out
        rwa [List.take_of_length_le (by rw [HN.out]; exact Nat.le_refl _)] at this)))
      go_wp2_with fail
      go_ret
      exact ⟨by rw [HZ.out]; rfl, HW1.out.trans (HW.out.mono HW1.out.size)⟩
end Go.Proofs.Ytbeahhijmgkfhaa
