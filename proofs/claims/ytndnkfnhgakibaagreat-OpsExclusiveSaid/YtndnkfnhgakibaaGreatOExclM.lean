/-
  What OpsExclusive's walk wants, plain (layer 13).
-/
import Derived.Test.YtndnkfnhgakibaaGreatOPA
namespace Go.Proofs.YtndnkfnhgakibaaGreat
namespace Op
def xC (v n : Nat) (nm : List UInt8) : Cl := { cl 6 0 1 nm with vf := v, cnt := n }
def xT1 (v : Nat) := (step (format 20) (xC v 1 [102])).1
def xR1 (v : Nat) := (step (format 20) (xC v 1 [102])).2
def xT2 (v o : Nat) := (step (xT1 v) (xC o 1 [102])).1
def xR2 (v o : Nat) := (step (xT1 v) (xC o 1 [102])).2
def xT3 (v : Nat) := (step (xT1 v) (xC 0 2 [102])).1
def xR3 (v : Nat) := (step (xT1 v) (xC 0 2 [102])).2
def xT4 (v : Nat) := (step (xT1 v) (cl 6 0 1 [102])).1
def xR4 (v : Nat) := (step (xT1 v) (cl 6 0 1 [102])).2
def xT5 (v h : Nat) := (step (xT1 v) (xC 0 h [104])).1
def xR5 (v h : Nat) := (step (xT1 v) (xC 0 h [104])).2
theorem x1 (v : Nat) : (xR1 v).st = 0 ∧ (xR1 v).ati = 1 ∧ (xR1 v).atg = 1 ∧ (xT1 v).ch = 2 := ⟨by kernel_rfl, by kernel_rfl, by kernel_rfl, by kernel_rfl⟩
theorem x_look (v : Nat) : look (xT1 v) 0 [102] = some ⟨1, 1, 1, [102]⟩ := by kernel_rfl
theorem x_s1 (v : Nat) : (xT1 v).s 1 = ⟨1, 1, 1, 1, 0, 2, 0, v, []⟩ := by kernel_rfl
theorem x_f (v : Nat) : folderE (xT1 v) 0 1 = 0 ∧ thingE (xT1 v) 1 1 = 0 ∧ nameOk [102] = true := ⟨by kernel_rfl, by kernel_rfl, by kernel_rfl⟩
theorem x2 (v o : Nat) : (if o ≠ 0 ∧ o = v then (xR2 v o).st = 0 ∧ (xR2 v o).ati = 1 ∧ (xR2 v o).atg = 1 else (xR2 v o).st = 61) ∧ (xT2 v o).ch = 2 := by
  have h1 := x_f v
  have hs := x_s1 v
  have hch := (x1 v).2.2.2
  have h := create_known (t := xT1 v) (c := xC o 1 [102]) rfl h1.1 h1.2.2 (by show ¬ 2 < 1; omega) (x_look v) h1.2.1
  unfold xR2 xT2
  generalize xT1 v = T at *
  rw [h]
  have ek : (T.s (⟨1, 1, 1, [102]⟩ : En).ino) = ⟨1, 1, 1, 1, 0, 2, 0, v, []⟩ := hs
  rw [ek]
  by_cases hc : o ≠ 0 ∧ o = v
  · rw [if_pos hc, if_pos ⟨rfl, .inr ⟨rfl, hc⟩⟩]
    refine ⟨⟨rfl, ?_, ?_⟩, hch⟩
    · show (T.s 1).ino = 1; rw [hs]
    · show (T.s 1).gen = 1; rw [hs]
  · rw [if_neg hc, if_neg (fun h => h.2.elim (fun h => by cases h) fun h => hc h.2)]
    exact ⟨rfl, hch⟩
theorem x3 (v : Nat) : (xR3 v).st = 61 := by
  have h1 := x_f v
  have hs := x_s1 v
  have h := create_known (t := xT1 v) (c := xC 0 2 [102]) rfl h1.1 h1.2.2 (by show ¬ 2 < 2; omega) (x_look v) h1.2.1
  unfold xR3
  generalize xT1 v = T at *
  rw [h, if_neg (fun h => h.2.elim (fun h => by cases h) fun h => by cases h.1)]
theorem x4 (v : Nat) : (xR4 v).st = 0 ∧ (xR4 v).ati = 1 ∧ (xR4 v).atg = 1 := by
  have h1 := x_f v
  have hs := x_s1 v
  have h := create_known (t := xT1 v) (c := cl 6 0 1 [102]) rfl h1.1 h1.2.2 (by show ¬ 2 < 0; omega) (x_look v) h1.2.1
  unfold xR4
  generalize xT1 v = T at *
  have ek : (T.s (⟨1, 1, 1, [102]⟩ : En).ino) = ⟨1, 1, 1, 1, 0, 2, 0, v, []⟩ := hs
  rw [h, ek, if_pos ⟨rfl, .inl rfl⟩]
  refine ⟨rfl, ?_, ?_⟩
  · show (T.s 1).ino = 1; rw [hs]
  · show (T.s 1).gen = 1; rw [hs]
theorem x5a (v : Nat) : (xR5 v 0).st = 0 ∧ (xR5 v 1).st = 0 ∧ (xR5 v 2).st = 0 := ⟨by kernel_rfl, by kernel_rfl, by kernel_rfl⟩
theorem x5n : nameOk [104] = true := by kernel_rfl
theorem x5 (v h : Nat) : (xR5 v h).st = if h ≤ 2 then 0 else 64 := by
  by_cases h0 : h ≤ 2
  · rw [if_pos h0]
    have h3 : h = 0 ∨ h = 1 ∨ h = 2 := by omega
    have := x5a v
    rcases h3 with e | e | e <;> rw [e]
    · exact this.1
    · exact this.2.1
    · exact this.2.2
  · rw [if_neg h0]
    have h1 := x_f v
    have := create_way (t := xT1 v) (c := xC 0 h [104]) rfl h1.1 x5n (by show 2 < h; omega)
    unfold xR5
    rw [this]
end Op
end Go.Proofs.YtndnkfnhgakibaaGreat
