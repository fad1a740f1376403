/-
  Contract of the document's example (layer 6): it holds, and leaves all memory that was there alone.
-/
import Derived.Test.YtkodjojidoigiaaDoorBDraw
import Derived.Test.YtkodjojidoigiaaDoorBWith
namespace Go.Proofs.YtkodjojidoigiaaDoor
open Go.RowKit

theorem NS.below {w w' : World} {A : Option Addr} {n : Nat} {l : List Nat} (h : NS w A n l) (hb : Below w.heap.size w w') : NS w' A n l :=
  ⟨h.1, fun hn => by
    obtain ⟨b, o, e, hc⟩ := h.2 hn
    exact ⟨b, o, e, fun j hj => (hb.cell (p := ⟨b, o + j, none⟩) (World.block_lt_of_cell? w _ (hc j hj))).trans (hc j hj)⟩⟩
theorem NS.at {w : World} {A : Option Addr} {n : Nat} {l : List Nat} (h : NS w A n l) {k : Nat} (hk : k < n) :
    ∃ b o, A = some ⟨b, o, none⟩ ∧ ∃ hj : k < l.length, w.cell? ⟨b, o + k, none⟩ = some (.int .i64 (l[k] : Int)) := by
  obtain ⟨b, o, e, hc⟩ := h.2 (by omega)
  have hj : k < l.length := by rw [h.1]; exact hk
  exact ⟨b, o, e, hj, hc k hj⟩

theorem ex_with : Bt.witI [] 9 true = [0, 64] := by decide +kernel
theorem ex_draw : Bt.drw [0, 64] 12 2 = [0, 1] ∧ Bt.drwE [0, 64] 12 2 = 0 := by decide +kernel
theorem ex_has : Bt.hasI [0, 64] 9 = true ∧ Bt.hasI [0, 64] 8 = false ∧ Bt.cnt [0, 64] (10 : Int).toNat = 1 ∧ Bt.witI [0, 64] 9 false = [] := by decide +kernel

set_option maxRecDepth 100000 in
set_option maxHeartbeats 4000000 in
theorem awake_any (w : World) : Calls Tryd.prog 8 #[] w fun e w' => e = .returned (.bool true) ∧ Below w.heap.size w w' := by
  go_enter Tryd.func8, Tryd.ntmps8
  go_wp2_with fail
  refine (with_any none 0 0 [] 9 true w BS.nil (by omega) (by omega)).mono ?_
  rintro e w1 ⟨A1, m1, c1, rfl, h1, hb1⟩
  rw [ex_with] at h1
  obtain rfl : 2 = m1 := h1.1
  have HS1 := Lib.hid h1
  have HW1 := Lib.hid hb1
  clear h1 hb1
  go_wp2_with fail
  refine (draw_any A1 2 c1 [0, 64] 12 2 w1 HS1.out (by omega) (by omega)).mono ?_
  rintro e w2 ⟨A2, k2, c2, rfl, h2, hb2⟩
  rw [ex_draw.2]
  rw [ex_draw.1] at h2
  obtain rfl : 2 = k2 := h2.1
  obtain ⟨b1, o1, rfl, hc1⟩ := (HS1.out.below hb2).2 (by omega)
  obtain ⟨b2, o2, rfl, hc2⟩ := h2.2 (by omega)
  have HS2 := Lib.hid (HS1.out.below hb2)
  have HW2 := Lib.hid (HW1.out.trans (hb2.mono HW1.out.size))
  have d0 : w2.cell? ⟨b1, o1, none⟩ = some (.int .u8 0) := hc1 0 (by decide)
  have d1 : w2.cell? ⟨b1, o1 + 1, none⟩ = some (.int .u8 64) := hc1 1 (by decide)
  have d2 : w2.cell? ⟨b2, o2 + 1, none⟩ = some (.int .i64 1) := hc2 1 (by decide)
  clear hc1 hc2 h2 hb2
  go_wp2_with fail
  refine (has_any _ 2 c1 [0, 64] 9 _ HS2.out (by omega) (by omega)).mono ?_
  rintro e w3 ⟨rfl, n3, rfl⟩
  rw [ex_has.1]
  go_wp2_with fail
  refine (has_any _ 2 c1 [0, 64] 8 _ (HS2.out.drewN _) (by omega) (by omega)).mono ?_
  rintro e w4 ⟨rfl, n4, rfl⟩
  rw [ex_has.2.1]
  go_wp2_with fail
  refine (count_any _ 2 c1 [0, 64] 10 _ (HS2.out.drewN _) (by omega) (by omega)).mono ?_
  rintro e w5 ⟨rfl, n5, rfl⟩
  rw [ex_has.2.2.1]
  go_wp2_with fail
  refine (with_any _ 2 c1 [0, 64] 9 false _ (HS2.out.drewN _) (by omega) (by omega)).mono ?_
  rintro e w6 ⟨A6, m6, c6, rfl, h6, hb6⟩
  rw [ex_has.2.2.2] at h6
  obtain rfl : 0 = m6 := h6.1
  clear h6
  go_wp2
  go_ret
  exact ⟨rfl, HW2.out.trans (((below_drewN (Below.refl _ _) _).trans hb6).mono HW2.out.size)⟩
end Go.Proofs.YtkodjojidoigiaaDoor
