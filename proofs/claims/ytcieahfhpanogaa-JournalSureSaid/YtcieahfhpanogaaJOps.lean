/-
  A journal on a disk, plain: homes, Checkpoint, Commit and Open, whole. Nothing of the program is named here, but for what disk's texts have.
-/
import Derived.Test.YtcieahfhpanogaaJCalls
namespace Go.Proofs.Ytcieahfhpanogaa.J
open Go.Proofs.Ytcieahfhpanogaa

/-- Blocks that are written where they belong. -/
def homeW (log s : Nat) (B : Nat → List UInt8) : List Nat → List (Nat × Fm)
  | [] => []
  | i :: r => (1 + log + i, homeF s i (B i)) :: homeW log s B r
theorem homeW_mem {log s : Nat} {B : Nat → List UInt8} : ∀ (ids : List Nat) {y : Nat × Fm}, y ∈ homeW log s B ids → ∃ i ∈ ids, y = (1 + log + i, homeF s i (B i))
  | [], _, h => by cases h
  | i :: r, y, h => by
    rcases List.mem_cons.1 h with rfl | h
    · exact ⟨i, by simp, rfl⟩
    · obtain ⟨k, hk, rfl⟩ := homeW_mem r h
      exact ⟨k, by simp [hk], rfl⟩
theorem homeW_there {log s : Nat} {B : Nat → List UInt8} (hs : s < 18446744073709551616) : ∀ (ids : List Nat) (G : Con), (∀ i ∈ ids, i < 4294967296 ∧ (B i).length ≤ 96) → ∀ j, hom (wrs G (homeW log s B ids)) log j = if j ∈ ids then B j else hom G log j
  | [], _, _, j => by simp [homeW, wrs]
  | i :: r, G, hi, j => by
    have h0 := hi i (by simp)
    show hom (wrs (wr G _ _) (homeW log s B r)) log j = _
    rw [homeW_there hs r _ (fun k hk => hi k (by simp [hk])) j]
    by_cases hj : j ∈ r
    · rw [if_pos hj, if_pos (by simp [hj])]
    · rw [if_neg hj]
      by_cases e : j = i
      · subst e
        rw [if_pos (by simp), hom_put G log j s (B j) hs h0.1 h0.2]
      · rw [if_neg (by simp [hj, e]), hom_other G _ (by omega)]
/-- All blocks read as they are. -/
def Vol (d : DS) (log nb : Nat) (B : Nat → List UInt8) : Prop := ∀ i, i < nb → hom d.read log i = B i

/-- A journal. -/
structure JS where
  log : Nat
  nb : Nat
  B : Nat → List UInt8
  seq : Nat
  place : Nat
  used : Nat
  err : Int
/-- A journal on its disk. -/
structure JInv (d : DS) (j : JS) (s0 t0 : Nat) (cs : List Chg) : Prop where
  inv : Inv d j.log j.nb s0 t0 cs j.B
  seq : j.seq = s0 + cs.length
  place : j.place = (t0 + size cs) % j.log
  used : j.used = size cs
  vol : j.err = 0 → Vol d j.log j.nb j.B
  lens : ∀ i, i < j.nb → (j.B i).length ≤ 96
  log4 : 4 ≤ j.log
  log200 : j.log ≤ 200
  nb400 : j.nb ≤ 400

/-- Checkpoint. -/
def ckpt (d : DS) (j : JS) : DS × JS × Int :=
  if j.err = 0 then
    if j.used = 0 then (d, j, 0)
    else if fer d = 0 then
      if wer (fst d) 0 (sealed (superF j.seq j.place).enc) = 0 then
        if fer (wst (fst d) 0 (sealed (superF j.seq j.place).enc)) = 0 then (fst (wst (fst d) 0 (sealed (superF j.seq j.place).enc)), { j with used := 0 }, 0)
        else (fst (wst (fst d) 0 (sealed (superF j.seq j.place).enc)), { j with err := fer (wst (fst d) 0 (sealed (superF j.seq j.place).enc)) }, fer (wst (fst d) 0 (sealed (superF j.seq j.place).enc)))
      else (wst (fst d) 0 (sealed (superF j.seq j.place).enc), { j with err := wer (fst d) 0 (sealed (superF j.seq j.place).enc) }, wer (fst d) 0 (sealed (superF j.seq j.place).enc))
    else (fst d, { j with err := fer d }, fer d)
  else (d, j, j.err)

theorem fst_read {d : DS} (h : fer d = 0) : (fst d).read = d.read ∧ (fst d).F = d.read ∧ (fst d).pend = [] := by
  obtain ⟨h1, _⟩ := fst_go h
  have hF : (fst d).F = d.read := by rw [h1, flushed_F]
  have hP : (fst d).pend = [] := by rw [h1]; rfl
  refine ⟨?_, hF, hP⟩
  rw [read_eq, hP, hF]
  rfl

/-- What Checkpoint leaves: where it goes, a journal with an empty log; else each crash leaves the same blocks. -/
theorem ckpt_inv {d : DS} {j : JS} {s0 t0 : Nat} {cs : List Chg} (h : JInv d j s0 t0 cs) (he : j.err = 0) (hs : j.seq < 18446744073709551616) :
    ((ckpt d j).2.2 = 0 → (∃ s t c, JInv (ckpt d j).1 (ckpt d j).2.1 s t c) ∧ (ckpt d j).2.1 = { j with used := 0 }) ∧
    ((ckpt d j).2.2 ≠ 0 → (ckpt d j).2.1 = { j with err := (ckpt d j).2.2 } ∧ Sure (ckpt d j).1 j.log j.nb j.seq j.B) := by
  have hlog : 0 < j.log := by have := h.log4; omega
  have hl200 := h.log200
  have hs' : s0 + cs.length < 18446744073709551616 := by rw [← h.seq]; exact hs
  have sure : ∀ {d' : DS}, Inv d' j.log j.nb s0 t0 cs j.B → Sure d' j.log j.nb j.seq j.B := fun h' L => ⟨s0, t0, cs, h'.crashed hlog L, h.seq⟩
  unfold ckpt
  rw [if_pos he]
  by_cases hu : j.used = 0
  · rw [if_pos hu]
    refine ⟨fun _ => ⟨⟨s0, t0, cs, h⟩, ?_⟩, fun e => absurd rfl e⟩
    show j = _
    cases j
    simp_all
  · rw [if_neg hu]
    by_cases e1 : fer d = 0
    · rw [if_pos e1]
      obtain ⟨hr1, hF1, hP1⟩ := fst_read e1
      have h1 := h.inv.fst hlog
      have hv : ∀ i, i < j.nb → hom (fst d).F j.log i = j.B i := fun i hi => by rw [hF1]; exact h.vol he i hi
      have hnew := h1.good.super hlog (by omega) hv hs'
      rw [← h.seq, ← h.place] at hnew
      generalize fst d = d1 at *
      by_cases e2 : wer d1 0 (sealed (superF j.seq j.place).enc) = 0
      · rw [if_pos e2]
        obtain ⟨hw2, _⟩ := wst_go (p := 0) e2
        have hF2 : (wst d1 0 (sealed (superF j.seq j.place).enc)).F = d1.F := by
          show (wst d1 ((0 : Nat) : Int) _).F = _
          rw [hw2]; exact DS.count_F d1
        have hP2 : (wst d1 0 (sealed (superF j.seq j.place).enc)).pend = [(((0 : Nat) : Int), sealed (superF j.seq j.place).enc)] := by
          show (wst d1 ((0 : Nat) : Int) _).pend = _
          rw [hw2]
          show d1.count.pend ++ _ = _
          rw [DS.count_pend, hP1]
          rfl
        generalize wst d1 0 (sealed (superF j.seq j.place).enc) = d2 at *
        have hr2 : d2.read = wr d1.F 0 (sealed (superF j.seq j.place).enc) := by
          rw [read_eq, hF2, hP2, cr_cons]
          rfl
        by_cases e3 : fer d2 = 0
        · rw [if_pos e3]
          obtain ⟨hr3, hF3, hP3⟩ := fst_read e3
          refine ⟨fun _ => ⟨⟨j.seq, t0 + size cs, [], ⟨⟨by rw [hF3, hr2]; exact hnew, fun x hx => by rw [hP3] at hx; cases hx⟩, by simp, h.place, rfl, fun _ i hi => ?_, h.lens, h.log4, h.log200, h.nb400⟩⟩, rfl⟩, fun e => absurd rfl e⟩
          show hom (fst d2).read j.log i = j.B i
          rw [hr3, hr2, hom_other _ _ (by omega)]
          exact hv i hi
        · rw [if_neg e3]
          obtain ⟨hF3, hP3⟩ := fst_stop e3
          refine ⟨fun e => absurd e e3, fun _ => ⟨rfl, fun L => ?_⟩⟩
          have hc : ((fst d2).crashed L).F = cr d1.F (cho L [(((0 : Nat) : Int), sealed (superF j.seq j.place).enc)] 1) := by
            show (fun i => rd (cho L (fst d2).pend (fst d2).pend.length) i ((fst d2).F i)) = _
            rw [hF3, hP3, hF2, hP2]
            rfl
          show ∃ s0 t0 cs, Good ((fst d2).crashed L).F j.log j.nb s0 t0 cs j.B ∧ j.seq = s0 + cs.length
          rw [hc]
          rcases cho_one L (((0 : Nat) : Int), sealed (superF j.seq j.place).enc) with h0 | h0
          · rw [h0]
            exact ⟨s0, t0, cs, h1.good, h.seq⟩
          · rw [h0, cr_cons]
            exact ⟨j.seq, t0 + size cs, [], hnew, by simp⟩
      · rw [if_neg e2]
        refine ⟨fun e => absurd e e2, fun _ => ⟨rfl, ?_⟩⟩
        obtain ⟨hF2, hP2⟩ := wst_stop (p := 0) e2
        exact sure ⟨by show Good (wst d1 ((0 : Nat) : Int) _).F _ _ _ _ _ _; rw [hF2]; exact h1.good, by show AllSafe _ _ _ _ _ (wst d1 ((0 : Nat) : Int) _).pend; rw [hP2]; exact h1.safe⟩
    · rw [if_neg e1]
      exact ⟨fun e => absurd e e1, fun _ => ⟨rfl, sure (h.inv.fst hlog)⟩⟩
end Go.Proofs.Ytcieahfhpanogaa.J
