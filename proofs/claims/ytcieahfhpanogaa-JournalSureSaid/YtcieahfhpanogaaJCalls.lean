/-
  A journal on a disk, plain: Commit, Checkpoint and Open as the document has them, and what each leaves, also where the disk stops on the way. Nothing of the program is named here, but for what disk's texts have.
-/
import Derived.Test.YtcieahfhpanogaaJDisk
namespace Go.Proofs.Ytcieahfhpanogaa.J
open Go.Proofs.Ytcieahfhpanogaa

/-- The blocks of a change, as they are written into the log, from the i-th one on. -/
def logW (log t s n : Nat) : Nat → Chg → List (Nat × Fm)
  | _, [] => []
  | i, x :: r => (1 + (t + i) % log, dataF s n i x) :: logW log t s n (i + 1) r
theorem logW_mem {log t s n : Nat} : ∀ (l : Chg) (i : Nat) {y : Nat × Fm}, y ∈ logW log t s n i l → ∃ k, ∃ hk : k < l.length, y = (1 + (t + (i + k)) % log, dataF s n (i + k) l[k])
  | [], _, _, h => by cases h
  | x :: r, i, y, h => by
    rcases List.mem_cons.1 h with rfl | h
    · exact ⟨0, by simp, rfl⟩
    · obtain ⟨k, hk, rfl⟩ := logW_mem r (i + 1) h
      refine ⟨k + 1, by simp; omega, ?_⟩
      rw [show i + 1 + k = i + (k + 1) by omega]
      rfl
/-- Behind them all are there. -/
theorem logW_there {log t s n : Nat} (hs : s < 18446744073709551616) : ∀ (l : Chg) (i : Nat) (G : Con), i + l.length ≤ log → (∀ x ∈ l, x.1 < 4294967296 ∧ x.2.length ≤ 96) →
    ∀ k (hk : k < l.length), fr (wrs G (logW log t s n i l)) (1 + (t + (i + k)) % log) 2 = some (dataF s n (i + k) l[k])
  | [], _, _, _, _, k, hk => by simp at hk
  | x :: r, i, G, hi, hx, k, hk => by
    simp only [List.length_cons] at hi hk
    have hx0 := hx x (by simp)
    have hok : (dataF s n i x).ok := dataF_ok hs hx0.1 (by omega)
    show fr (wrs (wr G _ _) (logW log t s n (i + 1) r)) _ 2 = _
    match k with
    | 0 =>
      rw [wrs_other]
      · exact fr_put G _ (dataF s n i x) hok
      · intro y hy e
        obtain ⟨k', hk', rfl⟩ := logW_mem r (i + 1) hy
        have e' : 1 + (t + (i + 1 + k')) % log = 1 + (t + i) % log := e
        exact mod_ne (t := t) (u := i) (v := i + 1 + k') (log := log) (by omega) (by omega) (by omega)
    | k + 1 =>
      have := logW_there (log := log) (t := t) (n := n) hs r (i + 1) (wr G (1 + (t + i) % log) (sealed (dataF s n i x).enc)) (by omega) (fun y hy => hx y (by simp [hy])) k (by omega)
      rw [show i + 1 + k = i + (k + 1) by omega] at this
      exact this
theorem logW_mod (log t s n : Nat) : ∀ (l : Chg) (i : Nat), logW log (t % log) s n i l = logW log t s n i l
  | [], _ => rfl
  | x :: r, i => by simp only [logW, logW_mod log t s n r (i + 1), Nat.mod_add_mod]

/-- The first step of Commit: the blocks, a flush, the end, a flush. -/
def commit1 (d : DS) (log t s : Nat) (l : Chg) : DS × Int :=
  let a := lays d (logW log t s l.length 0 l)
  if a.2 = 0 then
    if fer a.1 = 0 then
      if wer (fst a.1) ((1 + (t + l.length) % log : Nat) : Int) (sealed (endF s l.length).enc) = 0 then
        (fst (wst (fst a.1) ((1 + (t + l.length) % log : Nat) : Int) (sealed (endF s l.length).enc)), fer (wst (fst a.1) ((1 + (t + l.length) % log : Nat) : Int) (sealed (endF s l.length).enc)))
      else (wst (fst a.1) ((1 + (t + l.length) % log : Nat) : Int) (sealed (endF s l.length).enc), wer (fst a.1) ((1 + (t + l.length) % log : Nat) : Int) (sealed (endF s l.length).enc))
    else (fst a.1, fer a.1)
  else a

/-- A disk whose every crash leaves blocks B with number s. -/
def Sure (d : DS) (log nb s : Nat) (B : Nat → List UInt8) : Prop := ∀ L, ∃ s0 t0 cs, Good (d.crashed L).F log nb s0 t0 cs B ∧ s = s0 + cs.length
/-- One whose every crash leaves these, or those. -/
def Either (d : DS) (log nb s : Nat) (B : Nat → List UInt8) (s' : Nat) (B' : Nat → List UInt8) : Prop :=
  ∀ L, (∃ s0 t0 cs, Good (d.crashed L).F log nb s0 t0 cs B ∧ s = s0 + cs.length) ∨ (∃ s0 t0 cs, Good (d.crashed L).F log nb s0 t0 cs B' ∧ s' = s0 + cs.length)

theorem cho_one (L : List UInt8) (x : Int × List UInt8) : cho L [x] 1 = [] ∨ cho L [x] 1 = [x] := by
  unfold cho
  split
  · right; rfl
  · left; rfl

section
variable {d : DS} {log nb s0 t0 : Nat} {cs : List Chg} {B : Nat → List UInt8} {l : Chg}
theorem Inv.sure (hlog : 0 < log) (h : Inv d log nb s0 t0 cs B) : Sure d log nb (s0 + cs.length) B := fun L => ⟨s0, t0, cs, h.crashed hlog L, rfl⟩
theorem commit1_inv (h : Inv d log nb s0 t0 cs B) (hl : ChOk nb l) (hnb : nb ≤ 4294967295) (hf : size cs + l.length + 1 ≤ log) (hs : s0 + cs.length + 1 < 18446744073709551616) :
    ((commit1 d log ((t0 + size cs) % log) (s0 + cs.length + 1) l).2 = 0 →
      Inv (commit1 d log ((t0 + size cs) % log) (s0 + cs.length + 1) l).1 log nb s0 t0 (cs ++ [l]) (apl l B) ∧ (commit1 d log ((t0 + size cs) % log) (s0 + cs.length + 1) l).1.pend = [] ∧
      ∀ i, hom (commit1 d log ((t0 + size cs) % log) (s0 + cs.length + 1) l).1.read log i = hom d.read log i) ∧
    ((commit1 d log ((t0 + size cs) % log) (s0 + cs.length + 1) l).2 ≠ 0 → Either (commit1 d log ((t0 + size cs) % log) (s0 + cs.length + 1) l).1 log nb (s0 + cs.length) B (s0 + cs.length + 1) (apl l B)) := by
  have hlog : 0 < log := by omega
  have hp := Nat.mod_lt (t0 + size cs + l.length) hlog
  have old : ∀ {d' : DS}, Inv d' log nb s0 t0 cs B → Either d' log nb (s0 + cs.length) B (s0 + cs.length + 1) (apl l B) := fun h' L => .inl ⟨s0, t0, cs, h'.crashed hlog L, rfl⟩
  unfold J.commit1
  rw [logW_mod, Nat.mod_add_mod]
  have hsafe : ∀ x ∈ logW log (t0 + size cs) (s0 + cs.length + 1) l.length 0 l, Safe log nb s0 t0 cs x.1 (sealed x.2.enc) := fun x hx => by
    obtain ⟨k, hk, rfl⟩ := logW_mem l 0 hx
    have hx := hl.2.2 _ (List.getElem_mem hk)
    rw [Nat.zero_add]
    exact safe_data (by omega) hs (by omega) hx.2
  have h1 := lays_inv _ h hsafe
  have hgo := lays_go (d := d) (logW log (t0 + size cs) (s0 + cs.length + 1) l.length 0 l)
  generalize lays d (logW log (t0 + size cs) (s0 + cs.length + 1) l.length 0 l) = a at *
  dsimp only
  by_cases e1 : a.2 = 0
  · rw [if_pos e1]
    obtain ⟨hr, _⟩ := hgo e1
    by_cases e2 : fer a.1 = 0
    · rw [if_pos e2]
      have h2 := h1.fst hlog
      obtain ⟨hf2, _⟩ := fst_go e2
      have hF2 : (fst a.1).F = wrs d.read (logW log (t0 + size cs) (s0 + cs.length + 1) l.length 0 l) := by rw [hf2, flushed_F, hr]
      have hP2 : (fst a.1).pend = [] := by rw [hf2]; rfl
      have hdata : ∀ i (hi : i < l.length), fr (fst a.1).F (1 + (t0 + size cs + i) % log) 2 = some (dataF (s0 + cs.length + 1) l.length i l[i]) := fun i hi => by
        rw [hF2]
        have := logW_there (log := log) (t := t0 + size cs) (n := l.length) hs l 0 d.read (by omega) (fun x hx => ⟨by have := (hl.2.2 x hx).1; omega, (hl.2.2 x hx).2⟩) i hi
        rw [Nat.zero_add] at this
        exact this
      have hnew := h2.good.commit hl hf hs hdata
      have hhom : ∀ i, hom (fst a.1).F log i = hom d.read log i := fun i => by
        rw [hF2]
        unfold hom
        rw [wrs_other]
        intro x hx
        obtain ⟨k, hk, rfl⟩ := logW_mem l 0 hx
        have := Nat.mod_lt (t0 + size cs + (0 + k)) hlog
        dsimp only
        omega
      generalize fst a.1 = d2 at *
      by_cases e3 : wer d2 ((1 + (t0 + size cs + l.length) % log : Nat) : Int) (sealed (endF (s0 + cs.length + 1) l.length).enc) = 0
      · rw [if_pos e3]
        obtain ⟨hw3, _⟩ := wst_go e3
        have hF3 : (wst d2 ((1 + (t0 + size cs + l.length) % log : Nat) : Int) (sealed (endF (s0 + cs.length + 1) l.length).enc)).F = d2.F := by rw [hw3]; exact DS.count_F d2
        have hP3 : (wst d2 ((1 + (t0 + size cs + l.length) % log : Nat) : Int) (sealed (endF (s0 + cs.length + 1) l.length).enc)).pend = [(((1 + (t0 + size cs + l.length) % log : Nat) : Int), sealed (endF (s0 + cs.length + 1) l.length).enc)] := by
          rw [hw3]
          show d2.count.pend ++ _ = _
          rw [DS.count_pend, hP2]
          rfl
        generalize wst d2 ((1 + (t0 + size cs + l.length) % log : Nat) : Int) (sealed (endF (s0 + cs.length + 1) l.length).enc) = d3 at *
        have hread : d3.read = wr d2.F (1 + (t0 + size cs + l.length) % log) (sealed (endF (s0 + cs.length + 1) l.length).enc) := by
          rw [read_eq, hF3, hP3, cr_cons]
          rfl
        refine ⟨fun e4 => ?_, fun e4 => ?_⟩
        · obtain ⟨hf4, _⟩ := fst_go e4
          have hF4 : (fst d3).F = d3.read := by rw [hf4, flushed_F]
          have hP4 : (fst d3).pend = [] := by rw [hf4]; rfl
          refine ⟨⟨by rw [hF4, hread]; exact hnew, fun x hx => by rw [hP4] at hx; cases hx⟩, hP4, fun i => ?_⟩
          rw [read_eq, hP4]
          show hom (fst d3).F log i = _
          rw [hF4, hread, hom_other _ _ (by omega)]
          exact hhom i
        · obtain ⟨hF4, hP4⟩ := fst_stop e4
          intro L
          have hc : ((fst d3).crashed L).F = cr d2.F (cho L [(((1 + (t0 + size cs + l.length) % log : Nat) : Int), sealed (endF (s0 + cs.length + 1) l.length).enc)] 1) := by
            show (fun i => rd (cho L (fst d3).pend (fst d3).pend.length) i ((fst d3).F i)) = _
            rw [hF4, hP4, hF3, hP3]
            rfl
          rw [hc]
          rcases cho_one L (((1 + (t0 + size cs + l.length) % log : Nat) : Int), sealed (endF (s0 + cs.length + 1) l.length).enc) with h0 | h0
          · rw [h0]
            exact .inl ⟨s0, t0, cs, h2.good, rfl⟩
          · rw [h0, cr_cons]
            exact .inr ⟨s0, t0, cs ++ [l], hnew, by simp; omega⟩
      · rw [if_neg e3]
        refine ⟨fun e => absurd e e3, fun _ => ?_⟩
        obtain ⟨hF3, hP3⟩ := wst_stop e3
        exact old ⟨by rw [hF3]; exact h2.good, by rw [hP3]; exact h2.safe⟩
    · rw [if_neg e2]
      exact ⟨fun e => absurd e e2, fun _ => old (h1.fst hlog)⟩
  · rw [if_neg e1]
    exact ⟨fun e => absurd e e1, fun _ => old h1⟩
end
end Go.Proofs.Ytcieahfhpanogaa.J
