
/-
  What the laws' walks are told of their arguments: slices of integers and bools that came in.
-/
import Derived.Test.YtjionpkflpnejaaAwake
namespace Go.Proofs.Ytjionpkflpnejaa
open Go.RowKit

/-- A slice of integers that came in: nil, or a row of cap cells, the numbers zs, the first len of them its elements, each fitting its kind. -/
def IsRow (k : IntKind) (w : World) (a : Option Addr) (len cap : Nat) (zs : List Int) : Prop :=
  (a = none ∧ len = 0 ∧ cap = 0 ∧ zs = []) ∨
  ∃ x, a = some x ∧ len ≤ cap ∧ cap ≤ maxLen ∧ zs.length = cap ∧ (∀ i, i < zs.length → w.cell? (x.add i) = some (.int k (zs.getD i 0))) ∧ ∀ n ∈ zs, (Lit.int k n).wf = true

theorem add_plain (b o j : Nat) : (⟨b, o, none⟩ : Addr).add j = ⟨b, o + j, none⟩ := by unfold Addr.add; split <;> simp_all

/-- The elements of such a slice lie in one row of plain cells. -/
theorem IsRow.cells {k : IntKind} {w : World} {a : Option Addr} {len cap : Nat} {zs : List Int} (h : IsRow k w a len cap zs) :
    len ≤ cap ∧ cap ≤ maxLen ∧ zs.length = cap ∧ (∀ n ∈ zs, (Lit.int k n).wf = true) ∧ (0 < len → ∃ b o, a = some ⟨b, o, none⟩ ∧ ∀ j, j < len → w.cell? ⟨b, o + j, none⟩ = some (.int k (zs.getD j 0))) := by
  rcases h with ⟨rfl, rfl, rfl, rfl⟩ | ⟨x, rfl, hl, hm, hz, hc, hw⟩
  · exact ⟨Nat.le_refl _, Nat.zero_le _, rfl, by simp, fun h => absurd h (by omega)⟩
  · refine ⟨hl, hm, hz, hw, fun hn => ?_⟩
    obtain ⟨b, o, sp⟩ := x
    have h0 := hc 0 (by omega)
    have hs : sp = none := by simpa [Addr.add] using World.cell?_spot h0
    subst hs
    refine ⟨b, o, rfl, fun j hj => ?_⟩
    have := hc j (by omega)
    rwa [add_plain] at this

theorem wf_u8 {n : Int} (h : (Lit.int .u8 n).wf = true) : 0 ≤ n ∧ n ≤ 255 := by
  simp [Lit.wf, IntKind.min, IntKind.max, IntKind.bits, IntKind.signed] at h
  omega

/-- A slice of bytes that came in reads as bytes. -/
theorem IsRow.bs {w : World} {a : Option Addr} {len cap : Nat} {zs : List Int} (h : IsRow .u8 w a len cap zs) : ∃ l, BS w a len l := by
  obtain ⟨hl, _, hz, hw, hc⟩ := h.cells
  refine ⟨(zs.take len).map fun z => UInt8.ofNat z.toNat, by simp; omega, fun hn => ?_⟩
  obtain ⟨b, o, rfl, hcell⟩ := hc hn
  refine ⟨b, o, rfl, fun j hj => ?_⟩
  have hj' : j < len := by simp at hj; omega
  rw [hcell j hj']
  have hjz : j < zs.length := by omega
  obtain ⟨h1, h2⟩ := wf_u8 (hw _ (List.getElem_mem hjz))
  simp [List.getD, List.getElem?_eq_getElem hjz]
  omega

/-- The elements of a slice that came in, in a later world. -/
theorem BS.at {w : World} {A : Option Addr} {n : Nat} {l : List UInt8} (h : BS w A n l) {k : Nat} (hk : k < n) :
    ∃ b o, A = some ⟨b, o, none⟩ ∧ ∃ hj : k < l.length, w.cell? ⟨b, o + k, none⟩ = some (.int .u8 (l[k].toNat : Int)) := by
  obtain ⟨b, o, e, hc⟩ := h.2 (by omega)
  have hj : k < l.length := by rw [h.1]; exact hk
  exact ⟨b, o, e, hj, hc k hj⟩
theorem BS.lt_block {w : World} {A : Option Addr} {n : Nat} {l : List UInt8} (h : BS w A n l) (hn : 0 < n) (ad : Addr) (ha : A = some ad) : ad.block < w.heap.size := by
  obtain ⟨b, o, e, hc⟩ := h.2 hn
  rw [ha] at e
  injection e with e
  subst e
  exact World.block_lt_of_cell? w _ (hc 0 (by rw [h.1]; exact hn))

/-! The spec's small facts. -/
theorem rdB_err (l : List UInt8) (e : Int) (h : e ≠ 0) : rdB (l, e) = ((l, e), false) := by simp [rdB, rdN_err 4 l e h]
theorem rdO_err (m : Int) (l : List UInt8) (e : Int) (h : e ≠ 0) : rdO m (l, e) = ((l, e), []) := by simp [rdO, rdN_err 4 l e h, h]
theorem rdN_len (n : Nat) (s : St) : (rdN n s).1.1.length ≤ s.1.length := by
  unfold rdN
  split
  · exact Nat.le_refl _
  · split
    · exact Nat.le_refl _
    · simp
theorem rdB_len (s : St) : (rdB s).1.1.length ≤ s.1.length := by
  unfold rdB
  split
  · exact rdN_len 4 s
  · exact rdN_len 4 s
theorem rdO_len (m : Int) (s : St) : (rdO m s).1.1.length ≤ s.1.length := by
  have := rdN_len 4 s
  unfold rdO
  split
  · exact this
  · split
    · exact this
    · split
      · exact this
      · split
        · simp only [List.length_drop]; omega
        · simp only [List.length_drop]; omega
theorem and3 (c : UInt8) (d : Nat) (h : c.toNat % 4 = d) : bits .and .u8 (c.toNat : Int) 3 = (d : Int) := by
  have h1 := u8_and_nat c.toNat 3 c.toNat_lt (by omega)
  have h2 : c.toNat &&& 3 = c.toNat % 4 := Nat.and_two_pow_sub_one_eq_mod c.toNat 2
  rw [h2, h] at h1
  exact h1
end Go.Proofs.Ytjionpkflpnejaa
