/-
  States that came in (layer 15).
-/
import Derived.Test.YtjionpkflpnejaaMMem
namespace Go.Proofs.Ytjionpkflpnejaa
open Go.ChangeShapes Go.WideShapes Go.ChangeAt Go.RowKit

theorem atNine {cs : List Value} (h : cs.length = 9) : ∃ a b c d e f g i j, cs = [a, b, c, d, e, f, g, i, j] := by
  match cs, h with
  | [a, b, c, d, e, f, g, i, j], _ => exact ⟨a, b, c, d, e, f, g, i, j, rfl⟩
set_option maxRecDepth 100000 in
theorem state_in {H : Type} {enc : TypeId × Value → H} {W : World} {base : Nat} {v : Value} {d : DataW H} {p : List MemPlace} (hv : Value.okWide Try.prog W .any base 25 v)
    (h : DataW.Trod enc Try.prog W 0 (fun _ => true) true 25 v d p) : ∃ s : Ms, v = .agg (mc s).toArray ∧ s.Wide := by
  obtain ⟨cs, rfl, hsz⟩ := okWide_struct Try.underlying25 hv
  have hN : Try.prog.cellsOf 25 = 9 := by kernel_rfl
  obtain ⟨cl⟩ := cs
  obtain ⟨v0, v1, v2, v3, v4, v5, v6, v7, v8, rfl⟩ := atNine (cs := cl) (by simpa using hsz.trans hN)
  obtain ⟨fuel, ht⟩ := h
  obtain ⟨ys, n', _, _, _, hyl, hg⟩ := DataW.trod_struct Try.underlying25 ht
  have k0 : DataW.trod enc Try.prog W 0 (fun _ => true) true n' 4 [v0] = ys[0]? := hg 0 _ rfl
  have k1 : DataW.trod enc Try.prog W 0 (fun _ => true) true n' 22 [v1] = ys[1]? := hg 1 _ rfl
  have k2 : DataW.trod enc Try.prog W 0 (fun _ => true) true n' 22 [v2] = ys[2]? := hg 2 _ rfl
  have k3 : DataW.trod enc Try.prog W 0 (fun _ => true) true n' 23 [v3] = ys[3]? := hg 3 _ rfl
  have k4 : DataW.trod enc Try.prog W 0 (fun _ => true) true n' 23 [v4] = ys[4]? := hg 4 _ rfl
  have k5 : DataW.trod enc Try.prog W 0 (fun _ => true) true n' 23 [v5] = ys[5]? := hg 5 _ rfl
  have k6 : DataW.trod enc Try.prog W 0 (fun _ => true) true n' 23 [v6] = ys[6]? := hg 6 _ rfl
  have k7 : DataW.trod enc Try.prog W 0 (fun _ => true) true n' 22 [v7] = ys[7]? := hg 7 _ rfl
  have k8 : DataW.trod enc Try.prog W 0 (fun _ => true) true n' 22 [v8] = ys[8]? := hg 8 _ rfl
  have hys : ys.length = 9 := hyl
  obtain ⟨y0, e0⟩ : ∃ y, ys[0]? = some y := ⟨_, List.getElem?_eq_getElem (by omega)⟩
  obtain ⟨y1, e1⟩ : ∃ y, ys[1]? = some y := ⟨_, List.getElem?_eq_getElem (by omega)⟩
  obtain ⟨y2, e2⟩ : ∃ y, ys[2]? = some y := ⟨_, List.getElem?_eq_getElem (by omega)⟩
  obtain ⟨y3, e3⟩ : ∃ y, ys[3]? = some y := ⟨_, List.getElem?_eq_getElem (by omega)⟩
  obtain ⟨y4, e4⟩ : ∃ y, ys[4]? = some y := ⟨_, List.getElem?_eq_getElem (by omega)⟩
  obtain ⟨y5, e5⟩ : ∃ y, ys[5]? = some y := ⟨_, List.getElem?_eq_getElem (by omega)⟩
  obtain ⟨y6, e6⟩ : ∃ y, ys[6]? = some y := ⟨_, List.getElem?_eq_getElem (by omega)⟩
  obtain ⟨y7, e7⟩ : ∃ y, ys[7]? = some y := ⟨_, List.getElem?_eq_getElem (by omega)⟩
  obtain ⟨y8, e8⟩ : ∃ y, ys[8]? = some y := ⟨_, List.getElem?_eq_getElem (by omega)⟩
  obtain ⟨a0, rfl⟩ := bool_cell Try.underlying4 (k0.trans e0)
  obtain ⟨a1, rfl, b1⟩ := u32_cell Try.underlying22 (k1.trans e1)
  obtain ⟨a2, rfl, b2⟩ := u32_cell Try.underlying22 (k2.trans e2)
  obtain ⟨a3, rfl, b3⟩ := u64_cell Try.underlying23 (k3.trans e3)
  obtain ⟨a4, rfl, b4⟩ := u64_cell Try.underlying23 (k4.trans e4)
  obtain ⟨a5, rfl, b5⟩ := u64_cell Try.underlying23 (k5.trans e5)
  obtain ⟨a6, rfl, b6⟩ := u64_cell Try.underlying23 (k6.trans e6)
  obtain ⟨a7, rfl, b7⟩ := u32_cell Try.underlying22 (k7.trans e7)
  obtain ⟨a8, rfl, b8⟩ := u32_cell Try.underlying22 (k8.trans e8)
  exact ⟨⟨a0, a1, a2, a3, a4, a5, a6, a7, a8⟩, rfl, ⟨b1, b2, b3, b4, b5, b6, b7, b8⟩⟩
end Go.Proofs.Ytjionpkflpnejaa
