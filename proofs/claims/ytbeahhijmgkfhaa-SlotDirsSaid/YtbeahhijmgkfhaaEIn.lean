
/-
  Entries that came in (layer 8).
-/
import Derived.Test.YtbeahhijmgkfhaaEMem
import Derived.ProofKit
import Derived.OpenShut
import Derived.ShutString
import Derived.ChangeOld
import Derived.Deep.Slices
import Derived.Deep.Fields
namespace Go.Proofs.Ytbeahhijmgkfhaa
open Go.ChangeShapes Go.WideShapes Go.ChangeAt Go.RowKit

theorem wf_u64 {n : Int} (h : (Lit.int .u64 n).wf = true) : 0 ≤ n ∧ n < 18446744073709551616 := by
  simp [Lit.wf, IntKind.min, IntKind.max, IntKind.bits, IntKind.signed] at h
  omega
theorem wf_u32 {n : Int} (h : (Lit.int .u32 n).wf = true) : 0 ≤ n ∧ n < 4294967296 := by
  simp [Lit.wf, IntKind.min, IntKind.max, IntKind.bits, IntKind.signed] at h
  omega
theorem wf_i64 {n : Int} (h : (Lit.int .i64 n).wf = true) : -9223372036854775808 ≤ n ∧ n ≤ 9223372036854775807 := by
  simp [Lit.wf, IntKind.min, IntKind.max, IntKind.bits, IntKind.signed] at h
  omega
theorem four_at {cs : List Value} (h : cs.length = 4) : ∃ a b c d, cs = [a, b, c, d] := by
  match cs, h with
  | [a, b, c, d], _ => exact ⟨a, b, c, d, rfl⟩
theorem list_of {α : Type} {P : Nat → α → Prop} : ∀ n : Nat, (∀ j, j < n → ∃ a, P j a) → ∃ l : List α, l.length = n ∧ ∀ j (hj : j < l.length), P j l[j]
  | 0, _ => ⟨[], rfl, fun j hj => absurd hj (Nat.not_lt_zero _)⟩
  | n + 1, h => by
    obtain ⟨l, h1, h2⟩ := list_of n fun j hj => h j (by omega)
    obtain ⟨a, ha⟩ := h n (by omega)
    refine ⟨l ++ [a], by simp [h1], fun j hj => ?_⟩
    simp only [List.length_append, List.length_cons, List.length_nil] at hj
    rcases Nat.lt_or_ge j l.length with h3 | h3
    · rw [List.getElem_append_left h3]; exact h2 j h3
    · obtain rfl : j = l.length := by omega
      rw [List.getElem_append_right (Nat.le_refl _)]
      simp only [Nat.sub_self, List.getElem_cons_zero]
      rw [h1]; exact ha
theorem txt_data (s : ByteArray) : txt s.data.toList = s := by
  obtain ⟨⟨l⟩⟩ := s
  rfl
set_option maxRecDepth 100000 in
/-- The cells of an entry, as they came in. -/
theorem entry_cs {H : Type} {enc : TypeId × Value → H} {W : World} {m : Nat} {v0 v1 v2 v3 : Value} {d : DataW H} {p : List MemPlace} (h : DataW.trod enc Try.prog W 0 (fun _ => true) true m 51 [v0, v1, v2, v3] = some (d, p)) :
    ∃ e : En, [v0, v1, v2, v3] = ec e ∧ e.Wide ∧ e.nm.length ≤ maxLen := by
  obtain ⟨ys, n', _, _, _, hyl, hg⟩ := DataW.trod_struct Try.underlying51 h
  have k0 : DataW.trod enc Try.prog W 0 (fun _ => true) true n' 23 [v0] = ys[0]? := hg 0 _ rfl
  have k1 : DataW.trod enc Try.prog W 0 (fun _ => true) true n' 37 [v1, v2] = ys[1]? := hg 1 _ rfl
  have k2 : DataW.trod enc Try.prog W 0 (fun _ => true) true n' 9 [v3] = ys[2]? := hg 2 _ rfl
  have hys : ys.length = 3 := hyl
  obtain ⟨y0, e0⟩ : ∃ y, ys[0]? = some y := ⟨_, List.getElem?_eq_getElem (by omega)⟩
  obtain ⟨⟨y1, q1⟩, e1⟩ : ∃ y, ys[1]? = some y := ⟨_, List.getElem?_eq_getElem (by omega)⟩
  obtain ⟨y2, e2⟩ : ∃ y, ys[2]? = some y := ⟨_, List.getElem?_eq_getElem (by omega)⟩
  obtain ⟨zs, n2, _, _, _, hzl, hg2⟩ := DataW.trod_struct Try.underlying37 (k1.trans e1)
  have j0 : DataW.trod enc Try.prog W 0 (fun _ => true) true n2 22 [v1] = zs[0]? := hg2 0 _ rfl
  have j1 : DataW.trod enc Try.prog W 0 (fun _ => true) true n2 22 [v2] = zs[1]? := hg2 1 _ rfl
  have hzs : zs.length = 2 := hzl
  obtain ⟨z0, f0⟩ : ∃ y, zs[0]? = some y := ⟨_, List.getElem?_eq_getElem (by omega)⟩
  obtain ⟨z1, f1⟩ : ∃ y, zs[1]? = some y := ⟨_, List.getElem?_eq_getElem (by omega)⟩
  obtain ⟨a0, h0, _, w0⟩ := DataW.trod_int Try.underlying23 (k0.trans e0)
  obtain ⟨a1, h1, _, w1⟩ := DataW.trod_int Try.underlying22 (j0.trans f0)
  obtain ⟨a2, h2, _, w2⟩ := DataW.trod_int Try.underlying22 (j1.trans f1)
  obtain ⟨s, h3, w3⟩ : ∃ s : ByteArray, v3 = .string s ∧ s.size ≤ maxLen := by
    obtain ⟨s, h3, _, w3⟩ := DataW.trod_string Try.underlying9 (k2.trans e2)
    simp only [List.cons.injEq, and_true] at h3
    exact ⟨s, h3, w3⟩
  simp only [List.cons.injEq, and_true] at h0 h1 h2
  subst h0 h1 h2 h3
  have b0 := wf_u64 w0
  have b1 := wf_u32 w1
  have b2 := wf_u32 w2
  obtain ⟨a0, rfl⟩ := Int.eq_ofNat_of_zero_le b0.1
  obtain ⟨a1, rfl⟩ := Int.eq_ofNat_of_zero_le b1.1
  obtain ⟨a2, rfl⟩ := Int.eq_ofNat_of_zero_le b2.1
  refine ⟨⟨a0, a1, a2, s.data.toList⟩, ?_, ⟨by simp only; omega, by simp only; omega, by simp only; omega⟩, ?_⟩
  · unfold ec
    rw [txt_data]
  · have := Lib.size_eq s
    simp only
    omega
/-- Entries, as they came in. -/
structure EI (W : World) (A : Option Addr) (n : Nat) (cap : Nat) (es : List En) : Prop where
  row : ES W A n es
  wide : ∀ e ∈ es, e.Wide
  names : ∀ e ∈ es, e.nm.length ≤ maxLen
  le : n ≤ cap
  few : cap ≤ maxLen
set_option maxRecDepth 100000 in
theorem entries_in {H : Type} {enc : TypeId × Value → H} {W : World} {A : Option Addr} {n cap : Nat} {d : DataW H} {p : List MemPlace} (h : DataW.Trod enc Try.prog W 0 (fun _ => true) true 49 (.slice A n cap) d p) : ∃ es, EI W A n cap es := by
  obtain ⟨fuel, hf⟩ := h
  rcases Go.Deep.open_slice (e := 51) Try.underlying49 hf with ⟨hcs, _⟩ | ⟨a, len, c, m, n', D, Pl, hcs, _, hl, hm, hmm, _, hi⟩
  · simp [Value.cells] at hcs
    obtain ⟨rfl, rfl, rfl⟩ := hcs
    exact ⟨[], ES.nil, (fun x hx => by cases hx), (fun x hx => by cases hx), Nat.le_refl _, Nat.zero_le _⟩
  · simp [Value.cells] at hcs
    obtain ⟨rfl, rfl, rfl⟩ := hcs
    simp only [if_true] at hmm
    subst hmm
    have h4 : Try.prog.cellsOf 51 = 4 := by kernel_rfl
    rw [h4] at hi
    have main : ∀ j, j < n → ∃ e : En, (∀ i v, (ec e)[i]? = some v → W.cell? (a.add (j * 4 + i)) = some v) ∧ e.Wide ∧ e.nm.length ≤ maxLen := fun j hj => by
      obtain ⟨cs', hc, ht⟩ := hi j (by omega)
      obtain ⟨_, hlen, hat⟩ := World.cells?_some hc
      obtain ⟨v0, v1, v2, v3, rfl⟩ := four_at hlen
      obtain ⟨e, he, hw, hn⟩ := entry_cs ht
      rw [he] at hat
      refine ⟨e, fun i v hv => ?_, hw, hn⟩
      have hlt := (List.getElem?_eq_some_iff.1 hv).1
      rw [ec_length] at hlt
      have := hat i (by omega)
      rw [Go.Deep.add_add] at this
      rw [this]
      exact hv
    obtain ⟨es, he1, he2⟩ := list_of n main
    refine ⟨es, ⟨he1, fun hn => ?_⟩, fun x hx => ?_, fun x hx => ?_, hl, hm⟩
    · obtain ⟨b, o, sp⟩ := a
      obtain ⟨e0, h0, _⟩ := main 0 hn
      have h00 := h0 0 _ rfl
      have hs : sp = none := by simpa [Addr.add] using World.cell?_spot h00
      subst hs
      refine ⟨b, o, rfl, fun j hj i v hv => ?_⟩
      have := (he2 j hj).1 i v hv
      rw [add_plain] at this
      rw [Nat.add_assoc]
      exact this
    · obtain ⟨i, hi', rfl⟩ := List.getElem_of_mem hx
      exact (he2 i hi').2.1
    · obtain ⟨i, hi', rfl⟩ := List.getElem_of_mem hx
      exact (he2 i hi').2.2
set_option maxRecDepth 100000 in
/-- An entry, as it came in. -/
theorem entry_in {H : Type} {enc : TypeId × Value → H} {W : World} {base : Nat} {v : Value} {d : DataW H} {p : List MemPlace} (hv : Value.okWide Try.prog W .any base 51 v)
    (h : DataW.Trod enc Try.prog W 0 (fun _ => true) true 51 v d p) : ∃ e : En, v = .agg (ec e).toArray ∧ e.Wide ∧ e.nm.length ≤ maxLen := by
  obtain ⟨cs, rfl, hsz⟩ := okWide_struct Try.underlying51 hv
  have h4 : Try.prog.cellsOf 51 = 4 := by kernel_rfl
  obtain ⟨cl⟩ := cs
  obtain ⟨v0, v1, v2, v3, rfl⟩ := four_at (cs := cl) (by simpa using hsz.trans h4)
  obtain ⟨fuel, ht⟩ := h
  obtain ⟨e, he, hw, hn⟩ := entry_cs (enc := enc) (W := W) (v0 := v0) (v1 := v1) (v2 := v2) (v3 := v3) ht
  exact ⟨e, by rw [he], hw, hn⟩
end Go.Proofs.Ytbeahhijmgkfhaa
