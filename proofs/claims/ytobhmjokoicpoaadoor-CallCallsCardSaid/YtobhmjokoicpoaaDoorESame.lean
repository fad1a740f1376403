
/-
  Contract of the reference's Same (layer 8).
-/
import Derived.Test.YtobhmjokoicpoaaDoorEKit
import Derived.Laws.StructEq
import Derived.BigQuiet
namespace Go.Proofs.YtobhmjokoicpoaaDoor
open Go.RowKit Go.Shelf

theorem hEq (d : Nat) (a b c e : Int) (w : World) : (Op.equalIn (d + 1 + 1) 24 (.agg #[.int .u32 a, .int .u32 b]) (.agg #[.int .u32 c, .int .u32 e])).run Tryd.prog w = .ok (a == c && b == e) w := by
  have hS : Tryd.prog.underlying 24 = some (.struct (Tryd.prog.fieldsOf 24)) := by kernel_rfl
  have hp : Tryd.prog.stoodInHeld 24 = false := by kernel_rfl
  have u := Tryd.underlying22
  have ia := Tryd.isAgg22
  have sz := Tryd.sizeOf22
  rw [run_equalIn_agg w (d + 1) 24 _ _ hS hp]
  simp only [Program.fieldsOf, Tryd.underlying24]
  go_simp
  by_cases h1 : a = c <;> by_cases h2 : b = e <;> simp [h1, h2]
theorem eEq (x y : En) (w : World) : (binOp .neq 101 (.agg #[.int .u64 (x.ck : Int), .int .u32 (x.ino : Int), .int .u32 (x.gen : Int), .string (txt x.nm)]) (.agg #[.int .u64 (y.ck : Int), .int .u32 (y.ino : Int), .int .u32 (y.gen : Int), .string (txt y.nm)])).run Tryd.prog w = .ok (.bool (!decide (x = y))) w := by
  have hS : Tryd.prog.underlying 101 = some (.struct (Tryd.prog.fieldsOf 101)) := by kernel_rfl
  have hp : Tryd.prog.stoodInHeld 101 = false := by kernel_rfl
  have u := Tryd.underlying25
  have ia := Tryd.isAgg25
  have sz := Tryd.sizeOf25
  have u1 := Tryd.underlying9
  have ia1 := Tryd.isAgg9
  have sz1 := Tryd.sizeOf9
  have ia2 := Tryd.isAgg24
  have sz2 := Tryd.sizeOf24
  rw [run_neq_struct, show (10000 : Nat) = 9997 + 1 + 1 + 1 from rfl, run_equalIn_agg w (9997 + 1 + 1) 101 _ _ hS hp]
  simp only [Program.fieldsOf, Tryd.underlying101]
  have hE := hEq 9997
  go_simp
  by_cases h : x = y
  · subst h
    simp
  · have hd : decide (x = y) = false := decide_eq_false h
    rw [hd]
    obtain ⟨c, i, g, l⟩ := x
    obtain ⟨c2, i2, g2, l2⟩ := y
    dsimp only
    rw [txt_toList, txt_toList]
    by_cases h0 : c = c2
    · by_cases h1 : i = i2
      · by_cases h2 : g = g2
        · subst h0 h1 h2
          have h3 : l ≠ l2 := fun e => h (by rw [e])
          simp [h3]
        · simp [h0, h1, Int.ofNat_inj, h2]
      · simp [h0, Int.ofNat_inj, h1]
    · simp [Int.ofNat_inj, h0]

set_option maxRecDepth 100000 in
set_option maxHeartbeats 4000000 in
/-- Two rows that read the same are the same, others are not. -/
theorem same_any (A B : Option Addr) (n m c d : Nat) (xs ys : List En) (w : World) (h : ES w A n xs) (h2 : ES w B m ys) (hn : n ≤ 10000000) :
    Calls Tryd.prog 55 #[.slice A n c, .slice B m d] w fun e w' => e = .returned (.bool (decide (xs = ys))) ∧ Below w.heap.size w w' := by
  have HS := Lib.hid h
  have HT := Lib.hid h2
  have HN : Hid (xs.length = n) := h.1
  have HM : Hid (ys.length = m) := h2.1
  clear h h2
  by_cases hnm : n = m
  rotate_left
  · have hne : ¬ (n : Int) = (m : Int) := by omega
    have HD : Hid (decide (xs = ys) = false) := decide_eq_false fun e => hnm (by rw [← HN.out, ← HM.out, e])
    go_enter Tryd.func55, Tryd.ntmps55
    go_wp2_with fail
    go_ret
    exact ⟨by rw [HD.out]; rfl, Below.refl _ _⟩
  subst hnm
  go_enter Tryd.func55, Tryd.ntmps55
  go_wp2_with fail
  go_loopw [5] (fun i wr => ∃ k : Nat, k ≤ n ∧ i = .int .i64 k ∧ Hid (xs.take k = ys.take k) ∧ Hid (Below w.heap.size w wr)) (fun i _ => n - (intOf i).toNat)
  case atStart => exact ⟨0, by omega, rfl, rfl, Below.refl _ _⟩
  case round =>
    obtain ⟨k, hk, rfl, HE, HW⟩ := hrel
    by_cases hlt : k < n
    · have hlt' : (k : Int) < (n : Int) := by omega
      obtain ⟨b, o, rfl, hbl, hj, hc⟩ := (HS.out.below HW.out).at hlt
      obtain ⟨b2, o2, rfl, hbl2, hj2, hc2⟩ := (HT.out.below HW.out).at hlt
      have HTX : Hid (xs.take (k + 1) = xs.take k ++ [xs[k]]) := List.take_succ_eq_append_getElem hj
      have HTY : Hid (ys.take (k + 1) = ys.take k ++ [ys[k]]) := List.take_succ_eq_append_getElem hj2
      have HDF : Hid (xs = ys → xs[k] = ys[k]) := fun e => by subst e; rfl
      generalize xs[k] = x at *
      generalize ys[k] = y at *
      have k0 : wr.cell? ⟨b, o + k * 4, none⟩ = some (.int .u64 (x.ck : Int)) := hc 0 _ rfl
      have k1 : wr.cell? ⟨b, o + k * 4 + 1, none⟩ = some (.int .u32 (x.ino : Int)) := hc 1 _ rfl
      have k2 : wr.cell? ⟨b, o + k * 4 + 2, none⟩ = some (.int .u32 (x.gen : Int)) := hc 2 _ rfl
      have k3 : wr.cell? ⟨b, o + k * 4 + 3, none⟩ = some (.string (txt x.nm)) := hc 3 _ rfl
      have j0 : wr.cell? ⟨b2, o2 + k * 4, none⟩ = some (.int .u64 (y.ck : Int)) := hc2 0 _ rfl
      have j1 : wr.cell? ⟨b2, o2 + k * 4 + 1, none⟩ = some (.int .u32 (y.ino : Int)) := hc2 1 _ rfl
      have j2 : wr.cell? ⟨b2, o2 + k * 4 + 2, none⟩ = some (.int .u32 (y.gen : Int)) := hc2 2 _ rfl
      have j3 : wr.cell? ⟨b2, o2 + k * 4 + 3, none⟩ = some (.string (txt y.nm)) := hc2 3 _ rfl
      clear hc hc2
      have heq := eEq x y
      by_cases hxy : x = y
      · have hd : decide (x = y) = true := decide_eq_true hxy
        rw [hd] at heq
        subst hxy
        clear hd
        have HW1 : Hid (∀ k, Below w.heap.size w (wr.drewN k)) := fun k => ⟨HW.out.os, HW.out.tape, HW.out.output, HW.out.size, HW.out.block⟩
        go_wp2_with fail
        go_quiet (fail)
        go_wp2_with fail
        go_roundw
        case rel => exact ⟨k + 1, by omega, by go_num, by show _ = _; rw [HTX.out, HTY.out, HE.out], HW1.out _⟩
        case measure => simp [intOf]; omega
      · have hd : decide (x = y) = false := decide_eq_false hxy
        rw [hd] at heq
        have HD : Hid (decide (xs = ys) = false) := decide_eq_false fun e => hxy (HDF.out e)
        clear hd hxy
        have HW1 : Hid (∀ k, Below w.heap.size w (wr.drewN k)) := fun k => ⟨HW.out.os, HW.out.tape, HW.out.output, HW.out.size, HW.out.block⟩
        go_wp2_with fail
        go_quiet (fail)
        go_wp2_with fail
        go_ret
        exact ⟨by rw [HD.out]; rfl, HW1.out _⟩
    · obtain rfl : k = n := by omega
      have HD : Hid (decide (xs = ys) = true) := by
        refine decide_eq_true ?_
        have := HE.out
        rwa [List.take_of_length_le (by rw [HN.out]; exact Nat.le_refl _), List.take_of_length_le (by rw [HM.out]; exact Nat.le_refl _)] at this
      go_wp2_with fail
      go_ret
      exact ⟨by rw [HD.out]; rfl, HW.out⟩
end Go.Proofs.YtobhmjokoicpoaaDoor
