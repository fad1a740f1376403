/-
  Contract of the document's example (layer 8): it holds, and leaves all memory that was there alone.
-/
import Derived.Test.YtcbmdcgaedkfnaaEGet
namespace Go.Proofs.Ytcbmdcgaedkfnaa
open Go.RowKit Go.Shelf

def eA : En := ⟨1, 0, 0, [97]⟩
def eB : En := ⟨2, 0, 0, [98]⟩
def eC : En := ⟨3, 0, 0, [99]⟩
def eD : En := ⟨3, 0, 0, [100]⟩
def es0 : List En := [eA, eB, eC]
theorem built_A : Try.prog.built 41 [(0, .int .u64 1), (2, .string ⟨#[97]⟩)] = some (ec eA).toArray := by kernel_rfl
theorem built_B : Try.prog.built 41 [(0, .int .u64 2), (2, .string ⟨#[98]⟩)] = some (ec eB).toArray := by kernel_rfl
theorem built_C : Try.prog.built 41 [(0, .int .u64 3), (2, .string ⟨#[99]⟩)] = some (ec eC).toArray := by kernel_rfl
theorem built_D : Try.prog.built 41 [(0, .int .u64 3), (2, .string ⟨#[100]⟩)] = some (ec eD).toArray := by kernel_rfl
theorem es0_wide : ∀ x ∈ es0, x.Wide := by
  intro x hx
  simp only [es0, List.mem_cons, List.not_mem_nil, or_false] at hx
  rcases hx with rfl | rfl | rfl <;> exact ⟨by decide, by decide, by decide⟩
theorem es0_ok : okB es0 = true := by decide +kernel
theorem es0_len : (putE es0).length = 72 := by decide +kernel
theorem es0_aft : aftL es0 1 1 = [eB] ∧ aftB es0 1 1 = false := by decide +kernel
theorem es0_rem : remE es0 [98] = 0 ∧ remL es0 [98] = [eA, eC] := by decide +kernel
theorem es0_add : addE [eA, eC] eD = 70 := by decide +kernel
theorem es0_addL : addL [eA, eC] eD = [] := by decide +kernel
theorem es0_fnd : fnd es0 [99] = 2 := by decide +kernel
theorem dots : nameE [46, 46] = 67 := by decide +kernel
/-- A block that holds entries. -/
theorem es_block {w : World} {g : Nat} {t : TypeId} {es : List En} (h : w.heap[g]? = some (.cells (ecs es).toArray t (0, 0))) : ES w (some ⟨g, 0, none⟩) es.length es :=
  ⟨rfl, fun _ => ⟨g, 0, rfl, fun j hj i v hv => by
    rw [cell_of_row w g _ _ _ _ h, Nat.zero_add]
    simpa using ecs_get es j hj i v hv⟩⟩

set_option maxRecDepth 100000 in
set_option maxHeartbeats 4000000 in
theorem awake_any (w : World) : Calls Try.prog 10 #[] w fun e w' => e = .returned (.bool true) ∧ Below w.heap.size w w' := by
  go_enter Try.func10, Try.ntmps10
  go_upto_region 2 with (first
    | (refine Did.list rfl (did_build 41 #[(0, .const (.int .u64 1)), (2, .const (.string ⟨#[97]⟩))] rfl _ built_A) ?_)
    | (refine Did.list rfl (did_build 41 #[(0, .const (.int .u64 2)), (2, .const (.string ⟨#[98]⟩))] rfl _ built_B) ?_)
    | (refine Did.list rfl (did_build 41 #[(0, .const (.int .u64 3)), (2, .const (.string ⟨#[99]⟩))] rfl _ built_C) ?_))
  have hal : Below w.heap.size w (w.alloc (.cells (ecs es0).toArray 41)) := (Below.refl _ _).alloc (Nat.le_refl _) _
  have HX1 : Hid (ES (w.alloc (.cells (ecs es0).toArray 41)) (some ⟨w.heap.size, 0, none⟩) 3 es0) := es_block (es := es0) (heap_alloc_new w _)
  go_wp2_with fail
  refine (after_any (some ⟨w.heap.size, 0, none⟩) 3 3 es0 1 1 (w.alloc (.cells (ecs es0).toArray 41)) HX1.out (by omega) (by omega) (by omega)).mono ?_
  rintro en w2 ⟨A2, n2, c2, rfl, hes2, hle2, hb2⟩
  rw [es0_aft.1] at hes2
  rw [es0_aft.2]
  obtain rfl : n2 = 1 := hes2.1.symm
  have HW2 := Lib.hid (hal.trans (hb2.mono hal.size))
  have HX2 := Lib.hid (HX1.out.below hb2)
  have HA2 := Lib.hid hes2
  clear hes2 hb2 hal HX1
  go_wp2_with fail
  refine (put_any (some ⟨w.heap.size, 0, none⟩) 3 3 es0 w2 HX2.out es0_wide (by omega) (fun _ => by decide +kernel)).mono ?_
  rintro en w3 ⟨A3, n3, c3, rfl, hbs3, hb3⟩
  rw [show chkE es0 = 0 from if_pos es0_ok]
  obtain rfl : n3 = 72 := by rw [← hbs3.1]; exact es0_len
  have HW3 := Lib.hid (HW2.out.trans (hb3.mono HW2.out.size))
  have HX3 := Lib.hid (HX2.out.below hb3)
  have HA3 := Lib.hid (HA2.out.below hb3)
  have HB3 := Lib.hid hbs3
  clear hbs3 hb3 HW2 HX2 HA2
  go_wp2_with fail
  refine (get_any A3 72 c3 _ w3 HB3.out (by omega)).mono ?_
  rintro en w4 ⟨A4, n4, c4, he4, hes4, _, hb4⟩
  rw [(got_put es0 es0_wide es0_ok).1] at he4
  rw [(got_put es0 es0_wide es0_ok).2] at hes4
  subst he4
  obtain rfl : n4 = 3 := hes4.1.symm
  have HW4 := Lib.hid (HW3.out.trans (hb4.mono HW3.out.size))
  have HX4 := Lib.hid (HX3.out.below hb4)
  have HA4 := Lib.hid (HA3.out.below hb4)
  have HG4 := Lib.hid hes4
  clear hes4 hb4 HW3 HX3 HA3 HB3
  go_wp2_with fail
  refine (remove_any (some ⟨w.heap.size, 0, none⟩) 3 3 es0 [98] w4 HX4.out (by omega) (by omega) (by omega)).mono ?_
  rintro en w5 ⟨A5, n5, c5, rfl, hes5, hle5, hb5⟩
  rw [es0_rem.1]
  rw [es0_rem.2] at hes5
  obtain rfl : n5 = 2 := hes5.1.symm
  have HW5 := Lib.hid (HW4.out.trans (hb5.mono HW4.out.size))
  have HX5 := Lib.hid (HX4.out.below hb5)
  have HA5 := Lib.hid (HA4.out.below hb5)
  have HG5 := Lib.hid (HG4.out.below hb5)
  have HR5 := Lib.hid hes5
  clear hes5 hb5 HW4 HX4 HA4 HG4
  go_wp2_with (refine Did.list rfl (did_build 41 #[(0, .const (.int .u64 3)), (2, .const (.string ⟨#[100]⟩))] rfl _ built_D) ?_)
  refine (add_any A5 2 c5 [eA, eC] eD w5 HR5.out (fun x hx => by
    simp only [List.mem_cons, List.not_mem_nil, or_false] at hx
    rcases hx with rfl | rfl <;> exact ⟨by decide, by decide, by decide⟩) ⟨by decide, by decide, by decide⟩ (by omega)).mono ?_
  rintro en w6 ⟨A6, n6, c6, rfl, hes6, hle6, hb6⟩
  rw [es0_add]
  have HW6 := Lib.hid (HW5.out.trans (hb6.mono HW5.out.size))
  have HX6 := Lib.hid (HX5.out.below hb6)
  obtain ⟨b2, o2, rfl, _, hj2, hc2⟩ := (HA5.out.below hb6).at (k := 0) (by omega)
  obtain ⟨b4, o4, rfl, _, hj4, hc4⟩ := (HG5.out.below hb6).at (k := 2) (by omega)
  obtain ⟨b5, o5, rfl, _, hj5, hc5⟩ := (HR5.out.below hb6).at (k := 1) (by omega)
  have k2 : w6.cell? ⟨b2, o2 + 3, none⟩ = some (.string ⟨#[98]⟩) := hc2 3 _ rfl
  have k4 : w6.cell? ⟨b4, o4 + 8 + 3, none⟩ = some (.string ⟨#[99]⟩) := hc4 3 _ rfl
  have k5 : w6.cell? ⟨b5, o5 + 4, none⟩ = some (.int .u64 3) := hc5 0 _ rfl
  have HND := fun W => Lib.hid (name_any [46, 46] W)
  rw [dots] at HND
  clear hes6 hb6 HW5 HX5 HA5 HG5 HR5 hc2 hc4 hc5
  go_wp2_with fail
  refine ((HND _).out).mono ?_
  rintro en w7 ⟨rfl, hb7⟩
  have HW7 := Lib.hid (HW6.out.trans (hb7.mono HW6.out.size))
  have HX7 := Lib.hid (HX6.out.below hb7)
  clear hb7 HW6 HX6
  go_wp2_with fail
  refine (find_any (some ⟨w.heap.size, 0, none⟩) 3 3 es0 [99] w7 HX7.out (by omega)).mono ?_
  rintro en w8 ⟨rfl, hb8⟩
  rw [es0_fnd]
  have HW8 := Lib.hid (HW7.out.trans (hb8.mono HW7.out.size))
  clear hb8
  go_wp2_with fail
  go_ret
  exact ⟨rfl, HW8.out⟩
end Go.Proofs.Ytcbmdcgaedkfnaa
