/-
  An inode that came in: its fields, and its blocks as numbers (layer 7).
-/
import Derived.Test.YtkgpgaanodmpiaaIMath2
import Derived.Test.YtkgpgaanodmpiaaProg
import Derived.ProofKit
import Derived.OpenShut
import Derived.ShutString
import Derived.ChangeOld
import Derived.Deep.Slices
import Derived.Deep.Fields
namespace Go.Proofs.Ytkgpgaanodmpiaa
open Go.ChangeShapes Go.WideShapes Go.ChangeAt Go.RowKit

theorem wf_u64 {n : Int} (h : (Lit.int .u64 n).wf = true) : 0 ≤ n ∧ n < 18446744073709551616 := by
  simp [Lit.wf, IntKind.min, IntKind.max, IntKind.bits, IntKind.signed] at h
  omega
theorem wf_u32 {n : Int} (h : (Lit.int .u32 n).wf = true) : 0 ≤ n ∧ n < 4294967296 := by
  simp [Lit.wf, IntKind.min, IntKind.max, IntKind.bits, IntKind.signed] at h
  omega
theorem wf_u16 {n : Int} (h : (Lit.int .u16 n).wf = true) : 0 ≤ n ∧ n < 65536 := by
  simp [Lit.wf, IntKind.min, IntKind.max, IntKind.bits, IntKind.signed] at h
  omega
theorem wf_i64 {n : Int} (h : (Lit.int .i64 n).wf = true) : -9223372036854775808 ≤ n ∧ n ≤ 9223372036854775807 := by
  simp [Lit.wf, IntKind.min, IntKind.max, IntKind.bits, IntKind.signed] at h
  omega
theorem nine_at {cs : List Value} (h : cs.length = 9) : ∃ a b c d e f g h i, cs = [a, b, c, d, e, f, g, h, i] := by
  match cs, h with
  | [a, b, c, d, e, f, g, h, i], _ => exact ⟨a, b, c, d, e, f, g, h, i, rfl⟩
/-- A slice of numbers, as it came in. -/
theorem nums_in {H : Type} {enc : TypeId × Value → H} {W : World} {v : Value} {d : DataW H} {p : List MemPlace} {m : Nat}
    (h : DataW.trod enc Try.prog W 0 (fun _ => true) true m 24 [v] = some (d, p)) :
    ∃ (B : Option Addr) (n cap : Nat) (xs : List Nat), v = .slice B n cap ∧ NS .u32 W B n xs ∧ (∀ y ∈ xs, y < 4294967296) ∧ n ≤ maxLen := by
  rcases open_ints Try.underlying24 Try.underlying22 (by kernel_rfl) h with ⟨hcs, _⟩ | ⟨x, l, cap, zs, hcs, _, hl, hm, hz, _, hcell, hwz⟩
  · simp only [List.cons.injEq, and_true] at hcs
    subst hcs
    exact ⟨none, 0, 0, [], rfl, ⟨rfl, fun h => absurd h (by omega)⟩, fun y h => absurd h (by simp), Nat.zero_le _⟩
  · simp only [List.cons.injEq, and_true] at hcs
    subst hcs
    have hr : IsRow .u32 W (some x) l cap zs := .inr ⟨_, rfl, hl, hm, by simpa using hz, hcell, hwz⟩
    obtain ⟨xs, h1, h2⟩ := hr.ns 4294967296 (fun z hz => wf_u32 hz)
    exact ⟨some x, l, cap, xs, rfl, h1, h2, Nat.le_trans hl hm⟩
/-- An inode, as it came in. -/
theorem inode_in {H : Type} {enc : TypeId × Value → H} {W : World} {base : Nat} {v : Value} {d : DataW H} {p : List MemPlace} (hv : Value.okWide Try.prog W .any base 26 v)
    (h : DataW.Trod enc Try.prog W 0 (fun _ => true) true 26 v d p) :
    ∃ (k g li m s c o x : Nat) (B : Option Addr) (n cap : Nat) (xs : List Nat), v = (.agg #[.int .u32 (k : Int), .int .u32 (g : Int), .int .u32 (li : Int), .int .u32 (m : Int), .int .u32 (s : Int), .int .u64 (c : Int), .int .u64 (o : Int), .int .u64 (x : Int), .slice B n cap]) ∧ NS .u32 W B n xs ∧ n ≤ maxLen ∧ (Nd.mk k g li m s c o x xs).Wide := by
  obtain ⟨cs, rfl, hsz⟩ := okWide_struct Try.underlying26 hv
  have h9 : Try.prog.cellsOf 26 = 9 := by kernel_rfl
  obtain ⟨cl⟩ := cs
  obtain ⟨v0, v1, v2, v3, v4, v5, v6, v7, v8, rfl⟩ := nine_at (cs := cl) (by simpa using hsz.trans h9)
  obtain ⟨fuel, ht⟩ := h
  obtain ⟨ys, n', _, _, _, hyl, hg⟩ := DataW.trod_struct Try.underlying26 ht
  have k0 : DataW.trod enc Try.prog W 0 (fun _ => true) true n' 22 [v0] = ys[0]? := hg 0 _ rfl
  have k1 : DataW.trod enc Try.prog W 0 (fun _ => true) true n' 22 [v1] = ys[1]? := hg 1 _ rfl
  have k2 : DataW.trod enc Try.prog W 0 (fun _ => true) true n' 22 [v2] = ys[2]? := hg 2 _ rfl
  have k3 : DataW.trod enc Try.prog W 0 (fun _ => true) true n' 22 [v3] = ys[3]? := hg 3 _ rfl
  have k4 : DataW.trod enc Try.prog W 0 (fun _ => true) true n' 22 [v4] = ys[4]? := hg 4 _ rfl
  have k5 : DataW.trod enc Try.prog W 0 (fun _ => true) true n' 23 [v5] = ys[5]? := hg 5 _ rfl
  have k6 : DataW.trod enc Try.prog W 0 (fun _ => true) true n' 23 [v6] = ys[6]? := hg 6 _ rfl
  have k7 : DataW.trod enc Try.prog W 0 (fun _ => true) true n' 23 [v7] = ys[7]? := hg 7 _ rfl
  have k8 : DataW.trod enc Try.prog W 0 (fun _ => true) true n' 24 [v8] = ys[8]? := hg 8 _ rfl
  have hys : ys.length = 9 := hyl
  obtain ⟨y0, e0⟩ : ∃ y, ys[0]? = some y := ⟨_, List.getElem?_eq_getElem (by omega)⟩
  obtain ⟨y1, e1⟩ : ∃ y, ys[1]? = some y := ⟨_, List.getElem?_eq_getElem (by omega)⟩
  obtain ⟨y2, e2⟩ : ∃ y, ys[2]? = some y := ⟨_, List.getElem?_eq_getElem (by omega)⟩
  obtain ⟨y3, e3⟩ : ∃ y, ys[3]? = some y := ⟨_, List.getElem?_eq_getElem (by omega)⟩
  obtain ⟨y4, e4⟩ : ∃ y, ys[4]? = some y := ⟨_, List.getElem?_eq_getElem (by omega)⟩
  obtain ⟨y5, e5⟩ : ∃ y, ys[5]? = some y := ⟨_, List.getElem?_eq_getElem (by omega)⟩
  obtain ⟨y6, e6⟩ : ∃ y, ys[6]? = some y := ⟨_, List.getElem?_eq_getElem (by omega)⟩
  obtain ⟨y7, e7⟩ : ∃ y, ys[7]? = some y := ⟨_, List.getElem?_eq_getElem (by omega)⟩
  obtain ⟨y8, e8⟩ : ∃ y, ys[8]? = some y := ⟨_, List.getElem?_eq_getElem (by omega)⟩
  obtain ⟨a0, h0, _, w0⟩ := DataW.trod_int Try.underlying22 (k0.trans e0)
  obtain ⟨a1, h1, _, w1⟩ := DataW.trod_int Try.underlying22 (k1.trans e1)
  obtain ⟨a2, h2, _, w2⟩ := DataW.trod_int Try.underlying22 (k2.trans e2)
  obtain ⟨a3, h3, _, w3⟩ := DataW.trod_int Try.underlying22 (k3.trans e3)
  obtain ⟨a4, h4, _, w4⟩ := DataW.trod_int Try.underlying22 (k4.trans e4)
  obtain ⟨a5, h5, _, w5⟩ := DataW.trod_int Try.underlying23 (k5.trans e5)
  obtain ⟨a6, h6, _, w6⟩ := DataW.trod_int Try.underlying23 (k6.trans e6)
  obtain ⟨a7, h7, _, w7⟩ := DataW.trod_int Try.underlying23 (k7.trans e7)
  simp only [List.cons.injEq, and_true] at h0 h1 h2 h3 h4 h5 h6 h7
  subst h0 h1 h2 h3 h4 h5 h6 h7
  have b0 := wf_u32 w0
  obtain ⟨a0, rfl⟩ := Int.eq_ofNat_of_zero_le b0.1
  have b1 := wf_u32 w1
  obtain ⟨a1, rfl⟩ := Int.eq_ofNat_of_zero_le b1.1
  have b2 := wf_u32 w2
  obtain ⟨a2, rfl⟩ := Int.eq_ofNat_of_zero_le b2.1
  have b3 := wf_u32 w3
  obtain ⟨a3, rfl⟩ := Int.eq_ofNat_of_zero_le b3.1
  have b4 := wf_u32 w4
  obtain ⟨a4, rfl⟩ := Int.eq_ofNat_of_zero_le b4.1
  have b5 := wf_u64 w5
  obtain ⟨a5, rfl⟩ := Int.eq_ofNat_of_zero_le b5.1
  have b6 := wf_u64 w6
  obtain ⟨a6, rfl⟩ := Int.eq_ofNat_of_zero_le b6.1
  have b7 := wf_u64 w7
  obtain ⟨a7, rfl⟩ := Int.eq_ofNat_of_zero_le b7.1
  obtain ⟨B, n, cap, xs, rfl, h1, h2, h3⟩ := nums_in (k8.trans e8)
  exact ⟨a0, a1, a2, a3, a4, a5, a6, a7, B, n, cap, xs, rfl, h1, h3, by simp only; omega, by simp only; omega, by simp only; omega, by simp only; omega, by simp only; omega, by simp only; omega, by simp only; omega, by simp only; omega, h2⟩
end Go.Proofs.Ytkgpgaanodmpiaa
