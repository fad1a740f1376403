/-
  A journal and its disk by the blocks that they have in memory, and no others: all are rows of cells but for the disk's map.
-/
import Derived.Test.YtcieahfhpanogaaJSect
namespace Go.Proofs.Ytcieahfhpanogaa
open Go.RowKit

/-- A block of cells. -/
def IsCells (w : World) (k : Nat) : Prop := ∃ o, w.heap[k]? = some o ∧ o.isCells = true
theorem isCells_of_cell {w : World} {b o : Nat} {v : Value} (h : w.cell? ⟨b, o, none⟩ = some v) : IsCells w b := by
  unfold World.cell? at h
  split at h
  · rename_i hc
    exact ⟨_, by assumption, rfl⟩
  · cases h

section
variable {w : World} {p dp : Nat} {S D : Nat → Prop} {j : J.JS} {d : DS}
theorem Jm.neat (h : Jm w p dp S j) : ∃ S', Jm w p dp S' j ∧ (∀ k, S' k → S k) ∧ ∀ k, S' k → IsCells w k := by
  obtain ⟨q, bl, hq⟩ := h
  refine ⟨fun k => S k ∧ IsCells w k, ⟨q, bl, ⟨fun k hk => hq.lt k hk.1, ⟨hq.sp, _, hq.cells, rfl⟩, ⟨hq.sq, _, hq.rows, rfl⟩, hq.cells, hq.rows, hq.len, hq.bs, hq.cap, fun i hi h0 ad e => ⟨hq.own i hi h0 ad e, ?_⟩⟩⟩, fun k hk => hk.1, fun k hk => hk.2⟩
  obtain ⟨b, o, e', hc⟩ := (hq.bs i hi).2 h0
  rw [e] at e'
  cases e'
  exact isCells_of_cell (hc 0 (by rw [(hq.bs i hi).1]; exact h0))
theorem Dk.neat (h : Dk w dp D d) : ∃ D', Dk w dp D' d ∧ (∀ k, D' k → D k) ∧ ∀ k, D' k → k = d.mp ∨ IsCells w k := by
  obtain ⟨hok, hlt, hp, b, A, c, hb, hv, hm, ho, hc⟩ := h
  refine ⟨fun k => D k ∧ (k = d.mp ∨ IsCells w k), ⟨hok, fun k hk => hlt k hk.1, ⟨hp, .inr ⟨_, hc, rfl⟩⟩, b, A, c, ⟨⟨hb.1, .inl hb.2⟩, hb.2⟩, fun k hk => ⟨hv k hk, .inr ?_⟩, hm, ho, hc⟩, fun k hk => hk.1, fun k hk => hk.2⟩
  rcases ho.2 with ⟨h0, _⟩ | ⟨g, cap, cur, h1, h2, h3, h4⟩
  · rw [h0] at hk; cases hk
  · rw [h1] at hk
    obtain rfl : g = k := by simpa [Value.ownBlock] using hk
    exact ⟨_, h3, rfl⟩
/-- By these blocks, and no others. -/
theorem JD.neat (h : JD w p dp S D j d) : ∃ S' D', JD w p dp S' D' j d ∧ (∀ k, S' k → S k) ∧ (∀ k, D' k → D k) ∧ ∀ k, S' k ∨ D' k → k = d.mp ∨ IsCells w k := by
  obtain ⟨S', h1, h2, h3⟩ := h.jm.neat
  obtain ⟨D', h4, h5, h6⟩ := h.dk.neat
  exact ⟨S', D', ⟨h1, h4, fun k hk hk' => h.apart k (h2 k hk) (h5 k hk')⟩, h2, h5, fun k hk => hk.elim (fun h => .inr (h3 k h)) (h6 k)⟩
end
theorem count_mp (d : DS) : d.count.mp = d.mp := by unfold DS.count; split; rfl; split <;> rfl
theorem wst_mp (d : DS) (i : Int) (b : List UInt8) : (wst d i b).mp = d.mp := by
  unfold wst
  split
  · split
    · split
      · exact count_mp d
      · exact count_mp d
    · rfl
  · rfl
theorem fst_mp (d : DS) : (fst d).mp = d.mp := by
  unfold fst
  split
  · rfl
  · split
    · exact count_mp d
    · exact count_mp d
theorem layJ_mp (d : DS) (j : J.JS) (i : Int) (f : Fm) : (layJ d j i f).1.mp = d.mp := by
  unfold layJ
  split
  · exact wst_mp _ _ _
  · rfl
theorem flushJ_mp (d : DS) (j : J.JS) : (flushJ d j).1.mp = d.mp := by
  unfold flushJ
  split
  · exact fst_mp _
  · rfl

/-- A sector of a change is laid: a block, or a flush and the end. -/
def recS (l : List (Int × List UInt8)) (x : DS × J.JS) (i : Nat) : DS × J.JS :=
  if h : i < l.length then layJ x.1 x.2 (secAt x.2.log x.2.place i) (J.dataF (x.2.seq + 1) l.length i (l[i].1.toNat, l[i].2))
  else layJ (flushJ x.1 x.2).1 (flushJ x.1 x.2).2 (secAt x.2.log x.2.place i) (J.endF (x.2.seq + 1) l.length)
def recF (l : List (Int × List UInt8)) {N : Nat} : DS × J.JS → List (Fin N) → DS × J.JS
  | x, [] => x
  | x, i :: r => recF l (recS l x i.1) r
theorem recF_snoc (l : List (Int × List UInt8)) {N : Nat} : ∀ (pre : List (Fin N)) (x : DS × J.JS) (i : Fin N), recF l x (pre ++ [i]) = recS l (recF l x pre) i.1
  | [], _, _ => rfl
  | _ :: r, _, i => recF_snoc l r _ i
theorem recS_alike (l : List (Int × List UInt8)) (x : DS × J.JS) (i : Nat) : Alike x.2 (recS l x i).2 ∧ (recS l x i).1.pend.length ≤ x.1.pend.length + 1 ∧ (recS l x i).1.mp = x.1.mp := by
  unfold recS
  split
  · obtain ⟨h1, h2⟩ := layJ_alike x.1 x.2 (secAt x.2.log x.2.place i) (J.dataF (x.2.seq + 1) l.length i (l[i].1.toNat, l[i].2))
    exact ⟨h1, h2, layJ_mp _ _ _ _⟩
  · obtain ⟨h1, h2⟩ := flushJ_alike x.1 x.2
    obtain ⟨h3, h4⟩ := layJ_alike (flushJ x.1 x.2).1 (flushJ x.1 x.2).2 (secAt x.2.log x.2.place i) (J.endF (x.2.seq + 1) l.length)
    exact ⟨h1.trans h3, by omega, by rw [layJ_mp, flushJ_mp]⟩
theorem recF_alike (l : List (Int × List UInt8)) {N : Nat} : ∀ (pre : List (Fin N)) (x : DS × J.JS), Alike x.2 (recF l x pre).2 ∧ (recF l x pre).1.pend.length ≤ x.1.pend.length + pre.length ∧ (recF l x pre).1.mp = x.1.mp
  | [], x => ⟨Alike.refl _, by simp [recF], rfl⟩
  | i :: r, x => by
    obtain ⟨h1, h2, h3⟩ := recS_alike l x i.1
    obtain ⟨h4, h5, h6⟩ := recF_alike l r (recS l x i.1)
    refine ⟨h1.trans h4, ?_, by show (recF l (recS l x i.1) r).1.mp = _; rw [h6, h3]⟩
    show (recF l (recS l x i.1) r).1.pend.length ≤ _
    simp only [List.length_cons]
    omega
end Go.Proofs.Ytcieahfhpanogaa
