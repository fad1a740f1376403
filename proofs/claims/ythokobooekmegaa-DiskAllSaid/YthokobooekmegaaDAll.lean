/-
  The walk of DiskAll.
-/
import Derived.Test.YthokobooekmegaaDReads
namespace Go.Proofs.Ythokobooekmegaa
open Go.RowKit

theorem cho_all (L : List UInt8) (l : List (Int × List UInt8)) : ∀ k, k ≤ l.length → (∀ i, i < k → bit L i = true) → cho L l k = l.take k
  | 0, _, _ => by simp [cho]
  | k + 1, h, hb => by
    simp only [cho]
    rw [cho_all L l k (by omega) (fun i hi => hb i (by omega)), if_pos (hb k (by omega)), List.take_succ_eq_append_getElem (by omega), List.getElem?_eq_getElem (by omega)]
    rfl
theorem cho_none (l : List (Int × List UInt8)) : ∀ k, cho [] l k = []
  | 0 => rfl
  | k + 1 => by
    simp only [cho]
    rw [cho_none l k, bit_none (by simp)]
    rfl
theorem bit_255 (i : Nat) (h : i < 64) : bit (List.replicate 8 255) i = true := by
  have : ∀ j : Fin 64, bit (List.replicate 8 255) j.1 = true := by decide +kernel
  exact this ⟨i, h⟩
/-- The first k bytes are 255. -/
def alk (k : Nat) : List UInt8 := List.replicate k 255 ++ List.replicate (8 - k) 0
theorem alk_step (k : Nat) (h : k < 8) : (alk k).set k 255 = alk (k + 1) := by
  unfold alk
  rw [List.set_append_right _ _ (by simp), List.length_replicate, Nat.sub_self, show 8 - k = (8 - (k + 1)) + 1 by omega, List.replicate_succ, List.replicate_succ']
  simp
theorem alk_len (k : Nat) (h : k ≤ 8) : (alk k).length = 8 := by simp [alk]; omega
/-- The writes of DiskAll. -/
def g3 (WR : List UInt8) (j : Nat) : Int × List UInt8 := (((WR[j]?.getD 0).toNat % 4 : Nat), fl [WR[j]?.getD 0, UInt8.ofNat j])
def s3 (WR : List UInt8) (k : Nat) : DS := sG 4 (fun _ => zs) (g3 WR) k

/-- Two footprints have no block in common. -/
def Dj (S T : Nat → Prop) : Prop := ∀ k, S k → ¬ T k
theorem Dj.symm {S T : Nat → Prop} (h : Dj S T) : Dj T S := fun k hk hs => h k hs hk
theorem Dj.grow {S S' T : Nat → Prop} {n : Nat} (h : Dj S T) (hS : ∀ k, S' k → S k ∨ n ≤ k) (hT : ∀ k, T k → k < n) : Dj S' T := fun k hk ht => by
  rcases hS k hk with hs | hs
  · exact h k hs ht
  · have := hT k ht; omega
theorem Dj.new {S T : Nat → Prop} {n : Nat} (hS : ∀ k, S k → n ≤ k) (hT : ∀ k, T k → k < n) : Dj S T := fun k hk ht => by have := hS k hk; have := hT k ht; omega

/-- Three disks that share nothing, and the block of ones. -/
def Th (w : World) (p1 p2 p3 ga : Nat) (s1 s2 s3 : DS) (wr : World) : Prop :=
  ∃ S1 S2 S3, Dk wr p1 S1 s1 ∧ Dk wr p2 S2 s2 ∧ Dk wr p3 S3 s3 ∧ Dj S1 S2 ∧ Dj S1 S3 ∧ Dj S2 S3 ∧ (∀ k, S1 k → w.heap.size ≤ k) ∧ (∀ k, S2 k → w.heap.size ≤ k) ∧ (∀ k, S3 k → w.heap.size ≤ k) ∧
    wr.heap[ga]? = some (.cells (bc (alk 8)).toArray 5 (0, 0)) ∧ ¬ S1 ga ∧ ¬ S2 ga ∧ ¬ S3 ga
theorem Th.below {w : World} {p1 p2 p3 ga : Nat} {s1 s2 s3 : DS} {wr w' : World} (h : Th w p1 p2 p3 ga s1 s2 s3 wr) (hb : Below wr.heap.size wr w') : Th w p1 p2 p3 ga s1 s2 s3 w' := by
  obtain ⟨S1, S2, S3, h1, h2, h3, h4, h5, h6, h7, h8, h9, h10, h11⟩ := h
  exact ⟨S1, S2, S3, h1.below hb, h2.below hb, h3.below hb, h4, h5, h6, h7, h8, h9, (hb.block _ (Array.getElem?_eq_some_iff.1 h10).1).trans h10, h11⟩
theorem Th.rot {w : World} {p1 p2 p3 ga : Nat} {s1 s2 s3 : DS} {wr : World} (h : Th w p1 p2 p3 ga s1 s2 s3 wr) : Th w p2 p3 p1 ga s2 s3 s1 wr := by
  obtain ⟨S1, S2, S3, h1, h2, h3, h4, h5, h6, h7, h8, h9, h10, h11, h12, h13⟩ := h
  exact ⟨S2, S3, S1, h2, h3, h1, h6, h4.symm, h5.symm, h8, h9, h7, h10, h12, h13, h11⟩
/-- A call of the first one. -/
theorem Th.call {w : World} {p1 p2 p3 ga : Nat} {s1 s2 s3 : DS} {wr : World} (h : Th w p1 p2 p3 ga s1 s2 s3 wr) (hw : w.heap.size ≤ wr.heap.size) : ∃ S1, Dk wr p1 S1 s1 ∧ (∀ k, S1 k → w.heap.size ≤ k) ∧ ¬ S1 ga ∧
    ∀ w' S' s', Dk w' p1 S' s' → Fr S1 wr w' → (∀ k, S' k → S1 k ∨ wr.heap.size ≤ k) → Th w p1 p2 p3 ga s' s2 s3 w' := by
  obtain ⟨S1, S2, S3, h1, h2, h3, h4, h5, h6, h7, h8, h9, h10, h11, h12, h13⟩ := h
  refine ⟨S1, h1, h7, h11, fun w' S' s' hd hf hS => ?_⟩
  have hga := (Array.getElem?_eq_some_iff.1 h10).1
  refine ⟨S', S2, S3, hd, h2.keep hf h4.symm, h3.keep hf h5.symm, h4.grow hS h2.2.1, h5.grow hS h3.2.1, h6, fun k hk => ?_, h8, h9, (hf.block _ ⟨hga, h11⟩).trans h10, fun hk => ?_, h12, h13⟩
  · rcases hS k hk with h | h
    · exact h7 k h
    · omega
  · rcases hS _ hk with h | h
    · exact h11 h
    · omega
end Go.Proofs.Ythokobooekmegaa
