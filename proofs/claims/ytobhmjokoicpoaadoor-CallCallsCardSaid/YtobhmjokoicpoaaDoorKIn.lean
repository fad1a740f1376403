/-
  Calls and replies that came in (layer 9).
-/
import Derived.Test.YtobhmjokoicpoaaDoorKAwake
import Derived.Test.YtobhmjokoicpoaaDoorEIn
namespace Go.Proofs.YtobhmjokoicpoaaDoor
open Go.ChangeShapes Go.WideShapes Go.ChangeAt Go.RowKit

section
variable {H : Type} {enc : TypeId × Value → H} {W : World} {m : Nat} {v : Value} {y : DataW H × List MemPlace}
theorem u32_cell {t : TypeId} (ht : Tryd.prog.underlying t = some (.int .u32)) (h : DataW.trod enc Tryd.prog W 0 (fun _ => true) true m t [v] = some y) : ∃ a : Nat, v = .int .u32 (a : Int) ∧ a < 4294967296 := by
  obtain ⟨a, h1, _, w1⟩ := DataW.trod_int ht h
  simp only [List.cons.injEq, and_true] at h1
  subst h1
  have b := wf_u32 w1
  obtain ⟨a, rfl⟩ := Int.eq_ofNat_of_zero_le b.1
  exact ⟨a, rfl, by omega⟩
theorem u64_cell {t : TypeId} (ht : Tryd.prog.underlying t = some (.int .u64)) (h : DataW.trod enc Tryd.prog W 0 (fun _ => true) true m t [v] = some y) : ∃ a : Nat, v = .int .u64 (a : Int) ∧ a < 18446744073709551616 := by
  obtain ⟨a, h1, _, w1⟩ := DataW.trod_int ht h
  simp only [List.cons.injEq, and_true] at h1
  subst h1
  have b := wf_u64 w1
  obtain ⟨a, rfl⟩ := Int.eq_ofNat_of_zero_le b.1
  exact ⟨a, rfl, by omega⟩
theorem i64_cell {t : TypeId} (ht : Tryd.prog.underlying t = some (.int .i64)) (h : DataW.trod enc Tryd.prog W 0 (fun _ => true) true m t [v] = some y) : ∃ a : Int, v = .int .i64 a ∧ -9223372036854775808 ≤ a ∧ a ≤ 9223372036854775807 := by
  obtain ⟨a, h1, _, w1⟩ := DataW.trod_int ht h
  simp only [List.cons.injEq, and_true] at h1
  subst h1
  exact ⟨a, rfl, wf_i64 w1⟩
theorem bool_cell {t : TypeId} (ht : Tryd.prog.underlying t = some .bool) (h : DataW.trod enc Tryd.prog W 0 (fun _ => true) true m t [v] = some y) : ∃ b : Bool, v = .bool b := by
  obtain ⟨a, h1, _⟩ := DataW.trod_bool ht h
  simp only [List.cons.injEq, and_true] at h1
  exact ⟨a, h1⟩
theorem str_cell {t : TypeId} (ht : Tryd.prog.underlying t = some .string) (h : DataW.trod enc Tryd.prog W 0 (fun _ => true) true m t [v] = some y) : ∃ l : List UInt8, v = .string (txt l) ∧ l.length ≤ maxLen := by
  obtain ⟨s, h1, _, w1⟩ := DataW.trod_string ht h
  simp only [List.cons.injEq, and_true] at h1
  subst h1
  refine ⟨s.data.toList, by rw [txt_data], ?_⟩
  have := Lib.size_eq s
  omega
set_option maxRecDepth 100000 in
theorem hdl_cells {v0 v1 : Value} (h : DataW.trod enc Tryd.prog W 0 (fun _ => true) true m 24 [v0, v1] = some y) : ∃ a b : Nat, [v0, v1] = hc a b ∧ a < 4294967296 ∧ b < 4294967296 := by
  obtain ⟨zs, n2, _, _, _, hzl, hg2⟩ := DataW.trod_struct Tryd.underlying24 h
  have j0 : DataW.trod enc Tryd.prog W 0 (fun _ => true) true n2 22 [v0] = zs[0]? := hg2 0 _ rfl
  have j1 : DataW.trod enc Tryd.prog W 0 (fun _ => true) true n2 22 [v1] = zs[1]? := hg2 1 _ rfl
  have hzs : zs.length = 2 := hzl
  obtain ⟨z0, f0⟩ : ∃ y, zs[0]? = some y := ⟨_, List.getElem?_eq_getElem (by omega)⟩
  obtain ⟨z1, f1⟩ : ∃ y, zs[1]? = some y := ⟨_, List.getElem?_eq_getElem (by omega)⟩
  obtain ⟨a, rfl, ha⟩ := u32_cell Tryd.underlying22 (j0.trans f0)
  obtain ⟨b, rfl, hb⟩ := u32_cell Tryd.underlying22 (j1.trans f1)
  exact ⟨a, b, rfl, ha, hb⟩
set_option maxRecDepth 100000 in
theorem att_cells {v0 v1 v2 v3 v4 : Value} (h : DataW.trod enc Tryd.prog W 0 (fun _ => true) true m 45 [v0, v1, v2, v3, v4] = some y) : ∃ a b c d e : Nat, [v0, v1, v2, v3, v4] = ac a b c d e ∧ a < 4294967296 ∧ b < 4294967296 ∧ c < 4294967296 ∧ d < 4294967296 ∧ e < 18446744073709551616 := by
  obtain ⟨zs, n2, _, _, _, hzl, hg2⟩ := DataW.trod_struct Tryd.underlying45 h
  have j0 : DataW.trod enc Tryd.prog W 0 (fun _ => true) true n2 22 [v0] = zs[0]? := hg2 0 _ rfl
  have j1 : DataW.trod enc Tryd.prog W 0 (fun _ => true) true n2 22 [v1] = zs[1]? := hg2 1 _ rfl
  have j2 : DataW.trod enc Tryd.prog W 0 (fun _ => true) true n2 22 [v2] = zs[2]? := hg2 2 _ rfl
  have j3 : DataW.trod enc Tryd.prog W 0 (fun _ => true) true n2 22 [v3] = zs[3]? := hg2 3 _ rfl
  have j4 : DataW.trod enc Tryd.prog W 0 (fun _ => true) true n2 25 [v4] = zs[4]? := hg2 4 _ rfl
  have hzs : zs.length = 5 := hzl
  obtain ⟨z0, f0⟩ : ∃ y, zs[0]? = some y := ⟨_, List.getElem?_eq_getElem (by omega)⟩
  obtain ⟨z1, f1⟩ : ∃ y, zs[1]? = some y := ⟨_, List.getElem?_eq_getElem (by omega)⟩
  obtain ⟨z2, f2⟩ : ∃ y, zs[2]? = some y := ⟨_, List.getElem?_eq_getElem (by omega)⟩
  obtain ⟨z3, f3⟩ : ∃ y, zs[3]? = some y := ⟨_, List.getElem?_eq_getElem (by omega)⟩
  obtain ⟨z4, f4⟩ : ∃ y, zs[4]? = some y := ⟨_, List.getElem?_eq_getElem (by omega)⟩
  obtain ⟨a, rfl, ha⟩ := u32_cell Tryd.underlying22 (j0.trans f0)
  obtain ⟨b, rfl, hb⟩ := u32_cell Tryd.underlying22 (j1.trans f1)
  obtain ⟨c, rfl, hc⟩ := u32_cell Tryd.underlying22 (j2.trans f2)
  obtain ⟨d, rfl, hd⟩ := u32_cell Tryd.underlying22 (j3.trans f3)
  obtain ⟨e, rfl, he⟩ := u64_cell Tryd.underlying25 (j4.trans f4)
  exact ⟨a, b, c, d, e, rfl, ha, hb, hc, hd, he⟩
theorem bytes_cell (h : DataW.trod enc Tryd.prog W 0 (fun _ => true) true m 26 [v] = some y) : ∃ (A : Option Addr) (n cp : Nat) (l : List UInt8), v = .slice A n cp ∧ BS W A n l ∧ n ≤ maxLen := by
  rcases open_ints Tryd.underlying26 Tryd.underlying5 (by kernel_rfl) h with ⟨hcs, _⟩ | ⟨x, l, cap, zs, hcs, _, hl, hm, hz, _, hcell, hwz⟩
  · simp only [List.cons.injEq, and_true] at hcs
    exact ⟨none, 0, 0, [], hcs, BS.nil, Nat.zero_le _⟩
  · simp only [List.cons.injEq, and_true] at hcs
    have hr : IsRow .u8 W (some x) l cap zs := .inr ⟨_, rfl, hl, hm, by simpa using hz, hcell, hwz⟩
    obtain ⟨xs, h1⟩ := hr.bs
    exact ⟨some x, l, cap, xs, hcs, h1, Nat.le_trans hl hm⟩
theorem entries_cell (h : DataW.trod enc Tryd.prog W 0 (fun _ => true) true m 46 [v] = some y) : ∃ (A : Option Addr) (n cp : Nat) (es : List En), v = .slice A n cp ∧ EI W A n cp es := by
  obtain ⟨d, p⟩ := y
  have hs : ∃ A n cp, v = .slice A n cp := by
    rcases Go.Deep.open_slice (e := 100) Tryd.underlying46 h with ⟨hcs, _⟩ | ⟨a, len, c, _, _, _, _, hcs, _⟩
    · simp only [List.cons.injEq, and_true] at hcs
      exact ⟨_, _, _, hcs⟩
    · simp only [List.cons.injEq, and_true] at hcs
      exact ⟨_, _, _, hcs⟩
  obtain ⟨A, n, cp, rfl⟩ := hs
  obtain ⟨es, he⟩ := entries_in (enc := enc) (W := W) ⟨m, h⟩
  exact ⟨A, n, cp, es, rfl, he⟩
end
/-- A call, as it came in. -/
structure CI (W : World) (v : Value) (c : Cl) (A : Option Addr) (n cp : Nat) : Prop where
  val : v = .agg (cc c (.slice A n cp)).toArray
  data : BS W A n c.dt
  wide : c.Wide
  nm : c.nm.length ≤ maxLen
  tn : c.tn.length ≤ maxLen
  few : n ≤ maxLen
/-- A reply, as it came in. -/
structure RI9 (W : World) (v : Value) (r : Rp) (A : Option Addr) (n cp : Nat) (B : Option Addr) (m cq : Nat) : Prop where
  val : v = .agg (rc r (.slice A n cp) (.slice B m cq)).toArray
  data : BS W A n r.dt
  ent : EI W B m cq r.es
  wide : r.Wide
  st : -9223372036854775808 ≤ r.st ∧ r.st ≤ 9223372036854775807
  few : n ≤ maxLen
theorem at14 {cs : List Value} (h : cs.length = 14) : ∃ a b c d e f g i j k l m n o, cs = [a, b, c, d, e, f, g, i, j, k, l, m, n, o] := by
  match cs, h with
  | [a, b, c, d, e, f, g, i, j, k, l, m, n, o], _ => exact ⟨a, b, c, d, e, f, g, i, j, k, l, m, n, o, rfl⟩
theorem at15 {cs : List Value} (h : cs.length = 15) : ∃ a b c d e f g i j k l m n o p, cs = [a, b, c, d, e, f, g, i, j, k, l, m, n, o, p] := by
  match cs, h with
  | [a, b, c, d, e, f, g, i, j, k, l, m, n, o, p], _ => exact ⟨a, b, c, d, e, f, g, i, j, k, l, m, n, o, p, rfl⟩
set_option maxRecDepth 100000 in
theorem call_in {H : Type} {enc : TypeId × Value → H} {W : World} {base : Nat} {v : Value} {d : DataW H} {p : List MemPlace} (hv : Value.okWide Tryd.prog W .any base 28 v)
    (h : DataW.Trod enc Tryd.prog W 0 (fun _ => true) true 28 v d p) : ∃ c A n cp, CI W v c A n cp := by
  obtain ⟨cs, rfl, hsz⟩ := okWide_struct Tryd.underlying28 hv
  have hN : Tryd.prog.cellsOf 28 = 14 := by kernel_rfl
  obtain ⟨cl⟩ := cs
  obtain ⟨v0, v1, v2, v3, v4, v5, v6, v7, v8, v9, v10, v11, v12, v13, rfl⟩ := at14 (cs := cl) (by simpa using hsz.trans hN)
  obtain ⟨fuel, ht⟩ := h
  obtain ⟨ys, n', _, _, _, hyl, hg⟩ := DataW.trod_struct Tryd.underlying28 ht
  have k0 : DataW.trod enc Tryd.prog W 0 (fun _ => true) true n' 22 [v0] = ys[0]? := hg 0 _ rfl
  have k1 : DataW.trod enc Tryd.prog W 0 (fun _ => true) true n' 22 [v1] = ys[1]? := hg 1 _ rfl
  have k2 : DataW.trod enc Tryd.prog W 0 (fun _ => true) true n' 22 [v2] = ys[2]? := hg 2 _ rfl
  have k3 : DataW.trod enc Tryd.prog W 0 (fun _ => true) true n' 24 [v3, v4] = ys[3]? := hg 3 _ rfl
  have k4 : DataW.trod enc Tryd.prog W 0 (fun _ => true) true n' 9 [v5] = ys[4]? := hg 4 _ rfl
  have k5 : DataW.trod enc Tryd.prog W 0 (fun _ => true) true n' 24 [v6, v7] = ys[5]? := hg 5 _ rfl
  have k6 : DataW.trod enc Tryd.prog W 0 (fun _ => true) true n' 9 [v8] = ys[6]? := hg 6 _ rfl
  have k7 : DataW.trod enc Tryd.prog W 0 (fun _ => true) true n' 25 [v9] = ys[7]? := hg 7 _ rfl
  have k8 : DataW.trod enc Tryd.prog W 0 (fun _ => true) true n' 25 [v10] = ys[8]? := hg 8 _ rfl
  have k9 : DataW.trod enc Tryd.prog W 0 (fun _ => true) true n' 22 [v11] = ys[9]? := hg 9 _ rfl
  have k10 : DataW.trod enc Tryd.prog W 0 (fun _ => true) true n' 22 [v12] = ys[10]? := hg 10 _ rfl
  have k11 : DataW.trod enc Tryd.prog W 0 (fun _ => true) true n' 26 [v13] = ys[11]? := hg 11 _ rfl
  have hys : ys.length = 12 := hyl
  obtain ⟨y0, e0⟩ : ∃ y, ys[0]? = some y := ⟨_, List.getElem?_eq_getElem (by omega)⟩
  obtain ⟨y1, e1⟩ : ∃ y, ys[1]? = some y := ⟨_, List.getElem?_eq_getElem (by omega)⟩
  obtain ⟨y2, e2⟩ : ∃ y, ys[2]? = some y := ⟨_, List.getElem?_eq_getElem (by omega)⟩
  obtain ⟨y3, e3⟩ : ∃ y, ys[3]? = some y := ⟨_, List.getElem?_eq_getElem (by omega)⟩
  obtain ⟨y4, e4⟩ : ∃ y, ys[4]? = some y := ⟨_, List.getElem?_eq_getElem (by omega)⟩
  obtain ⟨y5, e5⟩ : ∃ y, ys[5]? = some y := ⟨_, List.getElem?_eq_getElem (by omega)⟩
  obtain ⟨y6, e6⟩ : ∃ y, ys[6]? = some y := ⟨_, List.getElem?_eq_getElem (by omega)⟩
  obtain ⟨y7, e7⟩ : ∃ y, ys[7]? = some y := ⟨_, List.getElem?_eq_getElem (by omega)⟩
  obtain ⟨y8, e8⟩ : ∃ y, ys[8]? = some y := ⟨_, List.getElem?_eq_getElem (by omega)⟩
  obtain ⟨y9, e9⟩ : ∃ y, ys[9]? = some y := ⟨_, List.getElem?_eq_getElem (by omega)⟩
  obtain ⟨y10, e10⟩ : ∃ y, ys[10]? = some y := ⟨_, List.getElem?_eq_getElem (by omega)⟩
  obtain ⟨y11, e11⟩ : ∃ y, ys[11]? = some y := ⟨_, List.getElem?_eq_getElem (by omega)⟩
  obtain ⟨a0, rfl, b0⟩ := u32_cell Tryd.underlying22 (k0.trans e0)
  obtain ⟨a1, rfl, b1⟩ := u32_cell Tryd.underlying22 (k1.trans e1)
  obtain ⟨a2, rfl, b2⟩ := u32_cell Tryd.underlying22 (k2.trans e2)
  obtain ⟨a3, a4, s3, b3, b3'⟩ := hdl_cells (k3.trans e3)
  simp only [hc, List.cons.injEq, and_true] at s3
  obtain ⟨rfl, rfl⟩ := s3
  obtain ⟨l5, rfl, b4⟩ := str_cell Tryd.underlying9 (k4.trans e4)
  obtain ⟨a6, a7, s5, b5, b5'⟩ := hdl_cells (k5.trans e5)
  simp only [hc, List.cons.injEq, and_true] at s5
  obtain ⟨rfl, rfl⟩ := s5
  obtain ⟨l8, rfl, b6⟩ := str_cell Tryd.underlying9 (k6.trans e6)
  obtain ⟨a9, rfl, b7⟩ := u64_cell Tryd.underlying25 (k7.trans e7)
  obtain ⟨a10, rfl, b8⟩ := u64_cell Tryd.underlying25 (k8.trans e8)
  obtain ⟨a11, rfl, b9⟩ := u32_cell Tryd.underlying22 (k9.trans e9)
  obtain ⟨a12, rfl, b10⟩ := u32_cell Tryd.underlying22 (k10.trans e10)
  obtain ⟨A, n, cp, l13, rfl, hbs, hbn⟩ := bytes_cell (k11.trans e11)
  exact ⟨⟨a0, a1, a2, a3, a4, l5, a6, a7, l8, a9, a10, a11, a12, l13⟩, A, n, cp, rfl, hbs, ⟨b0, b1, b2, b3, b3', b5, b5', b7, b8, b9, b10⟩, b4, b6, hbn⟩
set_option maxRecDepth 100000 in
theorem reply_in {H : Type} {enc : TypeId × Value → H} {W : World} {base : Nat} {v : Value} {d : DataW H} {p : List MemPlace} (hv : Value.okWide Tryd.prog W .any base 48 v)
    (h : DataW.Trod enc Tryd.prog W 0 (fun _ => true) true 48 v d p) : ∃ r A n cp B m cq, RI9 W v r A n cp B m cq := by
  obtain ⟨cs, rfl, hsz⟩ := okWide_struct Tryd.underlying48 hv
  have hN : Tryd.prog.cellsOf 48 = 15 := by kernel_rfl
  obtain ⟨cl⟩ := cs
  obtain ⟨v0, v1, v2, v3, v4, v5, v6, v7, v8, v9, v10, v11, v12, v13, v14, rfl⟩ := at15 (cs := cl) (by simpa using hsz.trans hN)
  obtain ⟨fuel, ht⟩ := h
  obtain ⟨ys, n', _, _, _, hyl, hg⟩ := DataW.trod_struct Tryd.underlying48 ht
  have k0 : DataW.trod enc Tryd.prog W 0 (fun _ => true) true n' 22 [v0] = ys[0]? := hg 0 _ rfl
  have k1 : DataW.trod enc Tryd.prog W 0 (fun _ => true) true n' 22 [v1] = ys[1]? := hg 1 _ rfl
  have k2 : DataW.trod enc Tryd.prog W 0 (fun _ => true) true n' 30 [v2] = ys[2]? := hg 2 _ rfl
  have k3 : DataW.trod enc Tryd.prog W 0 (fun _ => true) true n' 24 [v3, v4] = ys[3]? := hg 3 _ rfl
  have k4 : DataW.trod enc Tryd.prog W 0 (fun _ => true) true n' 45 [v5, v6, v7, v8, v9] = ys[4]? := hg 4 _ rfl
  have k5 : DataW.trod enc Tryd.prog W 0 (fun _ => true) true n' 26 [v10] = ys[5]? := hg 5 _ rfl
  have k6 : DataW.trod enc Tryd.prog W 0 (fun _ => true) true n' 46 [v11] = ys[6]? := hg 6 _ rfl
  have k7 : DataW.trod enc Tryd.prog W 0 (fun _ => true) true n' 4 [v12] = ys[7]? := hg 7 _ rfl
  have k8 : DataW.trod enc Tryd.prog W 0 (fun _ => true) true n' 25 [v13] = ys[8]? := hg 8 _ rfl
  have k9 : DataW.trod enc Tryd.prog W 0 (fun _ => true) true n' 22 [v14] = ys[9]? := hg 9 _ rfl
  have hys : ys.length = 10 := hyl
  obtain ⟨y0, e0⟩ : ∃ y, ys[0]? = some y := ⟨_, List.getElem?_eq_getElem (by omega)⟩
  obtain ⟨y1, e1⟩ : ∃ y, ys[1]? = some y := ⟨_, List.getElem?_eq_getElem (by omega)⟩
  obtain ⟨y2, e2⟩ : ∃ y, ys[2]? = some y := ⟨_, List.getElem?_eq_getElem (by omega)⟩
  obtain ⟨y3, e3⟩ : ∃ y, ys[3]? = some y := ⟨_, List.getElem?_eq_getElem (by omega)⟩
  obtain ⟨y4, e4⟩ : ∃ y, ys[4]? = some y := ⟨_, List.getElem?_eq_getElem (by omega)⟩
  obtain ⟨y5, e5⟩ : ∃ y, ys[5]? = some y := ⟨_, List.getElem?_eq_getElem (by omega)⟩
  obtain ⟨y6, e6⟩ : ∃ y, ys[6]? = some y := ⟨_, List.getElem?_eq_getElem (by omega)⟩
  obtain ⟨y7, e7⟩ : ∃ y, ys[7]? = some y := ⟨_, List.getElem?_eq_getElem (by omega)⟩
  obtain ⟨y8, e8⟩ : ∃ y, ys[8]? = some y := ⟨_, List.getElem?_eq_getElem (by omega)⟩
  obtain ⟨y9, e9⟩ : ∃ y, ys[9]? = some y := ⟨_, List.getElem?_eq_getElem (by omega)⟩
  obtain ⟨a0, rfl, b0⟩ := u32_cell Tryd.underlying22 (k0.trans e0)
  obtain ⟨a1, rfl, b1⟩ := u32_cell Tryd.underlying22 (k1.trans e1)
  obtain ⟨a2, rfl, b2⟩ := i64_cell Tryd.underlying30 (k2.trans e2)
  obtain ⟨a3, a4, s3, b3, b3'⟩ := hdl_cells (k3.trans e3)
  simp only [hc, List.cons.injEq, and_true] at s3
  obtain ⟨rfl, rfl⟩ := s3
  obtain ⟨a5, a6, a7, a8, a9, s4, b4, b4', b4'', b4''', b4''''⟩ := att_cells (k4.trans e4)
  simp only [ac, List.cons.injEq, and_true] at s4
  obtain ⟨rfl, rfl, rfl, rfl, rfl⟩ := s4
  obtain ⟨A, n, cp, l10, rfl, hbs, hbn⟩ := bytes_cell (k5.trans e5)
  obtain ⟨B, mm, cq, es, rfl, hei⟩ := entries_cell (k6.trans e6)
  obtain ⟨x12, rfl⟩ := bool_cell Tryd.underlying4 (k7.trans e7)
  obtain ⟨a13, rfl, b8⟩ := u64_cell Tryd.underlying25 (k8.trans e8)
  obtain ⟨a14, rfl, b9⟩ := u32_cell Tryd.underlying22 (k9.trans e9)
  exact ⟨⟨a0, a1, a2, a3, a4, a5, a6, a7, a8, a9, l10, es, x12, a13, a14⟩, A, n, cp, B, mm, cq, rfl, hbs, hei, ⟨b0, b1, b3, b3', b4, b4', b4'', b4''', b4'''', b8, b9, hei.wide⟩, b2, hbn⟩
end Go.Proofs.YtobhmjokoicpoaaDoor
