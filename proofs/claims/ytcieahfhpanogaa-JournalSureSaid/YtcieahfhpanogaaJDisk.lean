/-
  A journal on a disk, plain: what a crash leaves of it, and what a change that is written leaves, whether it goes or the disk stops on the way. Nothing of the program is named here, but for what disk's texts have.
-/
import Derived.Test.YtcieahfhpanogaaJSafe
import Derived.Test.YtcieahfhpanogaaDCalls
namespace Go.Proofs.Ytcieahfhpanogaa.J
open Go.Proofs.Ytcieahfhpanogaa

/-- A disk's content behind writes. -/
def cr (F : Con) (l : List (Int × List UInt8)) : Con := fun i => rd l i (F i)
theorem cr_cons (F : Con) (p : Nat) (b : List UInt8) (l : List (Int × List UInt8)) : cr F (((p : Int), b) :: l) = cr (wr F p b) l := by
  funext i
  rfl
theorem cr_snoc (F : Con) (p : Nat) (b : List UInt8) (l : List (Int × List UInt8)) : cr F (l ++ [((p : Int), b)]) = wr (cr F l) p b := by
  funext i
  show rd _ i _ = _
  rw [rd_snoc]
  rfl
theorem read_eq (d : DS) : d.read = cr d.F d.pend := rfl
/-- Writes that are safe. -/
def AllSafe (log nb s0 t0 : Nat) (cs : List Chg) (l : List (Int × List UInt8)) : Prop := ∀ x ∈ l, ∃ p : Nat, x.1 = (p : Int) ∧ Safe log nb s0 t0 cs p x.2
theorem Good.cr {log nb s0 t0 : Nat} {cs : List Chg} {B : Nat → List UInt8} (hlog : 0 < log) : ∀ (l : List (Int × List UInt8)) {F : Con}, Good F log nb s0 t0 cs B → AllSafe log nb s0 t0 cs l → Good (J.cr F l) log nb s0 t0 cs B
  | [], _, h, _ => h
  | (i, b) :: l, F, h, hs => by
    obtain ⟨p, hp, hsafe⟩ := hs (i, b) (by simp)
    dsimp only at hp hsafe
    subst hp
    rw [cr_cons]
    exact Good.cr hlog l (h.wr hlog hsafe) fun x hx => hs x (by simp [hx])
theorem cho_mem {L : List UInt8} {l : List (Int × List UInt8)} {x : Int × List UInt8} : ∀ k, x ∈ cho L l k → x ∈ l
  | 0, h => by cases h
  | k + 1, h => by
    unfold cho at h
    rcases List.mem_append.1 h with h | h
    · exact cho_mem k h
    · split at h
      · have := Option.mem_toList.1 h
        exact List.mem_of_getElem? this
      · cases h

/-- A disk that a journal may be on: what is sure is good, what waits is safe. -/
structure Inv (d : DS) (log nb s0 t0 : Nat) (cs : List Chg) (B : Nat → List UInt8) : Prop where
  good : Good d.F log nb s0 t0 cs B
  safe : AllSafe log nb s0 t0 cs d.pend
section
variable {d : DS} {log nb s0 t0 : Nat} {cs : List Chg} {B : Nat → List UInt8}
theorem Inv.crashed (hlog : 0 < log) (h : Inv d log nb s0 t0 cs B) (L : List UInt8) : Good (d.crashed L).F log nb s0 t0 cs B := Good.cr hlog _ h.good fun x hx => h.safe x (cho_mem _ hx)
theorem Inv.crash (hlog : 0 < log) (h : Inv d log nb s0 t0 cs B) (L : List UInt8) : Inv (d.crashed L) log nb s0 t0 cs B := ⟨h.crashed hlog L, fun x hx => by cases hx⟩
theorem Inv.read (hlog : 0 < log) (h : Inv d log nb s0 t0 cs B) : Good d.read log nb s0 t0 cs B := Good.cr hlog _ h.good h.safe
theorem Inv.flushed (hlog : 0 < log) (h : Inv d log nb s0 t0 cs B) : Inv d.flushed log nb s0 t0 cs B := ⟨h.read hlog, fun x hx => by cases hx⟩
theorem Inv.count (h : Inv d log nb s0 t0 cs B) : Inv d.count log nb s0 t0 cs B := ⟨by rw [DS.count_F]; exact h.good, by rw [DS.count_pend]; exact h.safe⟩
theorem Inv.push (h : Inv d log nb s0 t0 cs B) {p : Nat} {b : List UInt8} (hs : Safe log nb s0 t0 cs p b) : Inv (d.push p b) log nb s0 t0 cs B :=
  ⟨h.good, fun x hx => by
    rcases List.mem_append.1 (show x ∈ d.pend ++ [((p : Int), b)] from hx) with hx | hx
    · exact h.safe x hx
    · obtain rfl : x = ((p : Int), b) := by simpa using hx
      exact ⟨p, rfl, hs⟩⟩
theorem Inv.wst (h : Inv d log nb s0 t0 cs B) {p : Nat} {b : List UInt8} (hs : Safe log nb s0 t0 cs p b) : Inv (wst d p b) log nb s0 t0 cs B := by
  unfold Go.Proofs.Ytcieahfhpanogaa.wst
  split
  · split
    · split
      · exact h.count
      · exact h.count.push hs
    · exact h
  · exact h
theorem Inv.fst (hlog : 0 < log) (h : Inv d log nb s0 t0 cs B) : Inv (fst d) log nb s0 t0 cs B := by
  unfold Go.Proofs.Ytcieahfhpanogaa.fst
  split
  · exact h
  · split
    · exact h.count
    · exact h.count.flushed hlog
end

/-- A write that goes. -/
theorem wst_go {d : DS} {p : Nat} {b : List UInt8} (h : wer d p b = 0) : wst d p b = d.count.push p b ∧ d.down = false ∧ d.count.down = false ∧ p < d.n := by
  unfold wer at h
  unfold wst
  split at h
  · rename_i hr
    split at h
    · rename_i hl
      split at h
      · omega
      · rename_i hc
        rw [if_pos hr, if_pos hl, if_neg hc]
        exact ⟨rfl, refus_up hr, by simpa using hc, by have := (refus_in hr).2; omega⟩
    · omega
  · rename_i hr
    exact absurd h hr
/-- A write that does not: what is sure, and what waits, is as it was. -/
theorem wst_stop {d : DS} {p : Nat} {b : List UInt8} (h : wer d p b ≠ 0) : (wst d p b).F = d.F ∧ (wst d p b).pend = d.pend := by
  unfold wer at h
  unfold wst
  split at h
  · rename_i hr
    split at h
    · rename_i hl
      split at h
      · rename_i hc
        rw [if_pos hr, if_pos hl, if_pos hc]
        exact ⟨DS.count_F d, DS.count_pend d⟩
      · omega
    · rename_i hl
      rw [if_pos hr, if_neg hl]
      exact ⟨rfl, rfl⟩
  · rename_i hr
    rw [if_neg hr]
    exact ⟨rfl, rfl⟩
theorem fst_go {d : DS} (h : fer d = 0) : fst d = d.count.flushed ∧ d.down = false ∧ d.count.down = false := by
  unfold fer at h
  unfold fst
  split at h
  · omega
  · rename_i hd
    split at h
    · omega
    · rename_i hc
      rw [if_neg hd, if_neg hc]
      exact ⟨rfl, by simpa using hd, by simpa using hc⟩
theorem fst_stop {d : DS} (h : fer d ≠ 0) : (fst d).F = d.F ∧ (fst d).pend = d.pend := by
  unfold fer at h
  unfold fst
  split at h
  · rename_i hd
    rw [if_pos hd]
    exact ⟨rfl, rfl⟩
  · rename_i hd
    split at h
    · rename_i hc
      rw [if_neg hd, if_pos hc]
      exact ⟨DS.count_F d, DS.count_pend d⟩
    · omega
theorem push_read (d : DS) (p : Nat) (b : List UInt8) : (d.count.push p b).read = wr d.read p b := by
  rw [read_eq, read_eq]
  show cr d.count.F (d.count.pend ++ [((p : Int), b)]) = _
  rw [cr_snoc, DS.count_F, DS.count_pend]
theorem flushed_F (d : DS) : d.count.flushed.F = d.read := by
  show d.count.read = d.read
  rw [read_eq, read_eq, DS.count_F, DS.count_pend]

/-- Frames are written, one by one, until one does not go. -/
def lays : DS → List (Nat × Fm) → DS × Int
  | d, [] => (d, 0)
  | d, (p, f) :: r => if wer d p (sealed f.enc) = 0 then lays (wst d p (sealed f.enc)) r else (wst d p (sealed f.enc), wer d p (sealed f.enc))
def wrs (G : Con) : List (Nat × Fm) → Con
  | [] => G
  | (p, f) :: r => wrs (wr G p (sealed f.enc)) r
theorem lays_inv {log nb s0 t0 : Nat} {cs : List Chg} {B : Nat → List UInt8} : ∀ (ws : List (Nat × Fm)) {d : DS}, Inv d log nb s0 t0 cs B → (∀ x ∈ ws, Safe log nb s0 t0 cs x.1 (sealed x.2.enc)) → Inv (lays d ws).1 log nb s0 t0 cs B
  | [], _, h, _ => h
  | (p, f) :: r, d, h, hs => by
    unfold lays
    have h1 := h.wst (hs (p, f) (by simp))
    split
    · exact lays_inv r h1 fun x hx => hs x (by simp [hx])
    · exact h1
theorem lays_go : ∀ (ws : List (Nat × Fm)) {d : DS}, (lays d ws).2 = 0 → (lays d ws).1.read = wrs d.read ws ∧ (lays d ws).1.F = d.F
  | [], _, _ => ⟨rfl, rfl⟩
  | (p, f) :: r, d, h => by
    unfold lays at h ⊢
    by_cases hw : wer d p (sealed f.enc) = 0
    · rw [if_pos hw] at h ⊢
      obtain ⟨h1, h2⟩ := lays_go r h
      obtain ⟨h3, _⟩ := wst_go hw
      rw [h1, h2, h3]
      refine ⟨?_, DS.count_F d⟩
      show wrs _ r = wrs _ r
      rw [push_read]
    · rw [if_neg hw] at h
      exact absurd h hw
theorem wrs_other : ∀ (ws : List (Nat × Fm)) (G : Con) (q : Nat) (k : UInt8), (∀ x ∈ ws, x.1 ≠ q) → fr (wrs G ws) q k = fr G q k
  | [], _, _, _, _ => rfl
  | (p, f) :: r, G, q, k, h => by
    show fr (wrs _ r) q k = _
    rw [wrs_other r _ q k fun x hx => h x (by simp [hx]), fr_other G _ k (h (p, f) (by simp))]
end Go.Proofs.Ytcieahfhpanogaa.J
