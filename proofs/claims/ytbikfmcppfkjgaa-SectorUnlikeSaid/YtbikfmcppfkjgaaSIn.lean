/-
  A frame that came in: its cells, and its body as bytes.
-/
import Derived.Test.YtbikfmcppfkjgaaBytes
import Derived.ProofKit
import Derived.OpenShut
import Derived.ShutString
import Derived.ChangeOld
import Derived.Deep.Slices
import Derived.Deep.Fields
namespace Go.Proofs.Ytbikfmcppfkjgaa
open Go.ChangeShapes Go.WideShapes Go.ChangeAt Go.RowKit

theorem wf_u64 {n : Int} (h : (Lit.int .u64 n).wf = true) : 0 ≤ n ∧ n < 18446744073709551616 := by
  simp [Lit.wf, IntKind.min, IntKind.max, IntKind.bits, IntKind.signed] at h
  omega
theorem wf_u32 {n : Int} (h : (Lit.int .u32 n).wf = true) : 0 ≤ n ∧ n < 4294967296 := by
  simp [Lit.wf, IntKind.min, IntKind.max, IntKind.bits, IntKind.signed] at h
  omega
theorem six_at {cs : List Value} (h : cs.length = 6) : ∃ a b c d e f, cs = [a, b, c, d, e, f] := by
  match cs, h with
  | [a, b, c, d, e, f], _ => exact ⟨a, b, c, d, e, f, rfl⟩

/-- A frame, as it came in. -/
theorem frame_in {H : Type} {enc : TypeId × Value → H} {W : World} {base : Nat} {v : Value} {d : DataW H} {p : List MemPlace} (hv : Value.okWide Try.prog W .any base 26 v)
    (h : DataW.Trod enc Try.prog W 0 (fun _ => true) true 26 v d p) :
    ∃ (k i c : Int) (s a : Nat) (B : Option Addr) (n cap : Nat) (L : List UInt8), v = .agg #[.int .i64 k, .int .i64 i, .int .i64 c, .int .u64 (s : Int), .int .u32 (a : Int), .slice B n cap] ∧ BS W B n L ∧ n ≤ maxLen ∧ n ≤ cap ∧ s < 18446744073709551616 ∧ a < 4294967296 := by
  obtain ⟨cs, rfl, hsz⟩ := okWide_struct Try.underlying26 hv
  have h6 : Try.prog.cellsOf 26 = 6 := by kernel_rfl
  obtain ⟨cl⟩ := cs
  obtain ⟨v0, v1, v2, v3, v4, v5, rfl⟩ := six_at (cs := cl) (by simpa using hsz.trans h6)
  obtain ⟨fuel, ht⟩ := h
  obtain ⟨xs, n', _, _, _, hxl, hg⟩ := DataW.trod_struct Try.underlying26 ht
  have k0 : DataW.trod enc Try.prog W 0 (fun _ => true) true n' 3 [v0] = xs[0]? := hg 0 _ rfl
  have k1 : DataW.trod enc Try.prog W 0 (fun _ => true) true n' 3 [v1] = xs[1]? := hg 1 _ rfl
  have k2 : DataW.trod enc Try.prog W 0 (fun _ => true) true n' 3 [v2] = xs[2]? := hg 2 _ rfl
  have k3 : DataW.trod enc Try.prog W 0 (fun _ => true) true n' 22 [v3] = xs[3]? := hg 3 _ rfl
  have k4 : DataW.trod enc Try.prog W 0 (fun _ => true) true n' 23 [v4] = xs[4]? := hg 4 _ rfl
  have k5 : DataW.trod enc Try.prog W 0 (fun _ => true) true n' 24 [v5] = xs[5]? := hg 5 _ rfl
  have hxs : xs.length = 6 := hxl
  obtain ⟨y0, e0⟩ : ∃ y, xs[0]? = some y := ⟨_, List.getElem?_eq_getElem (by omega)⟩
  obtain ⟨y1, e1⟩ : ∃ y, xs[1]? = some y := ⟨_, List.getElem?_eq_getElem (by omega)⟩
  obtain ⟨y2, e2⟩ : ∃ y, xs[2]? = some y := ⟨_, List.getElem?_eq_getElem (by omega)⟩
  obtain ⟨y3, e3⟩ : ∃ y, xs[3]? = some y := ⟨_, List.getElem?_eq_getElem (by omega)⟩
  obtain ⟨y4, e4⟩ : ∃ y, xs[4]? = some y := ⟨_, List.getElem?_eq_getElem (by omega)⟩
  obtain ⟨y5, e5⟩ : ∃ y, xs[5]? = some y := ⟨_, List.getElem?_eq_getElem (by omega)⟩
  obtain ⟨k, hk, _, _⟩ := DataW.trod_int Try.underlying3 (k0.trans e0)
  obtain ⟨i, hi, _, _⟩ := DataW.trod_int Try.underlying3 (k1.trans e1)
  obtain ⟨c, hc, _, _⟩ := DataW.trod_int Try.underlying3 (k2.trans e2)
  obtain ⟨s, hs, _, ws⟩ := DataW.trod_int Try.underlying22 (k3.trans e3)
  obtain ⟨a, ha, _, wa⟩ := DataW.trod_int Try.underlying23 (k4.trans e4)
  simp only [List.cons.injEq, and_true] at hk hi hc hs ha
  subst hk hi hc hs ha
  have hs := wf_u64 ws
  have ha := wf_u32 wa
  obtain ⟨s, rfl⟩ := Int.eq_ofNat_of_zero_le hs.1
  obtain ⟨a, rfl⟩ := Int.eq_ofNat_of_zero_le ha.1
  rcases open_ints Try.underlying24 Try.underlying5 (by kernel_rfl) (k5.trans e5) with ⟨hcs, _⟩ | ⟨x, l, cap, zs, hcs, _, hl, hm, hz, _, hcell, hwz⟩
  · simp only [List.cons.injEq, and_true] at hcs
    subst hcs
    exact ⟨k, i, c, s, a, none, 0, 0, [], rfl, BS.nil, Nat.zero_le _, Nat.le_refl _, by omega, by omega⟩
  · simp only [List.cons.injEq, and_true] at hcs
    subst hcs
    have hr : IsRow .u8 W (some x) l cap zs := .inr ⟨_, rfl, hl, hm, by simpa using hz, hcell, hwz⟩
    obtain ⟨L, hL⟩ := hr.bs
    exact ⟨k, i, c, s, a, some x, l, cap, L, rfl, hL, Nat.le_trans hl hm, hl, by omega, by omega⟩
end Go.Proofs.Ytbikfmcppfkjgaa
