/-
  A journal on a disk, plain: Commit and Open, whole; the disk's errors on the way. Nothing of the program is named here, but for what disk's texts have.
-/
import Derived.Test.YtcieahfhpanogaaJOps
namespace Go.Proofs.Ytcieahfhpanogaa.J
open Go.Proofs.Ytcieahfhpanogaa

/-- Writes whose blocks rise, are there, and have not too many bytes. -/
def rises (nb : Nat) : Int → List (Int × List UInt8) → Bool
  | _, [] => true
  | p, x :: r => decide (p < x.1) && decide (x.1 < (nb : Int)) && decide (x.2.length ≤ 96) && rises nb x.1 r
/-- They may be a change. -/
def okW (nb : Nat) (l : List (Int × List UInt8)) : Bool := decide (1 ≤ l.length) && decide (l.length ≤ 100) && rises nb (-1) l
def asChg (l : List (Int × List UInt8)) : Chg := l.map fun x => (x.1.toNat, x.2)
theorem asChg_length (l : List (Int × List UInt8)) : (asChg l).length = l.length := by simp [asChg]
theorem rises_mem {nb : Nat} : ∀ {l : List (Int × List UInt8)} {p : Int}, rises nb p l = true → ∀ x ∈ l, p < x.1 ∧ x.1 < (nb : Int) ∧ x.2.length ≤ 96
  | [], _, _, x, hx => by cases hx
  | y :: r, p, h, x, hx => by
    simp only [rises, Bool.and_eq_true, decide_eq_true_iff] at h
    rcases List.mem_cons.1 hx with rfl | hx
    · exact ⟨h.1.1.1, h.1.1.2, h.1.2⟩
    · obtain ⟨h1, h2, h3⟩ := rises_mem h.2 x hx
      exact ⟨by omega, h2, h3⟩
theorem okW_ok {nb : Nat} {l : List (Int × List UInt8)} (h : okW nb l = true) : ChOk nb (asChg l) := by
  simp only [okW, Bool.and_eq_true, decide_eq_true_iff] at h
  refine ⟨by rw [asChg_length]; exact h.1.1, by rw [asChg_length]; exact h.1.2, fun x hx => ?_⟩
  obtain ⟨y, hy, rfl⟩ := List.mem_map.1 hx
  obtain ⟨h1, h2, h3⟩ := rises_mem h.2 y hy
  exact ⟨by show y.1.toNat < nb; omega, h3⟩

/-- The change on a journal. -/
def JS.on (j : JS) (l : Chg) (e : Int) : JS := ⟨j.log, j.nb, apl l j.B, j.seq + 1, (j.place + l.length + 1) % j.log, j.used + l.length + 1, e⟩
/-- Commit of a change that may be, behind a checkpoint, if one was needed. -/
def commit2 (d : DS) (j : JS) (l : Chg) : DS × JS × Int :=
  if (commit1 d j.log j.place (j.seq + 1) l).2 = 0 then
    ((lays (commit1 d j.log j.place (j.seq + 1) l).1 (homeW j.log (j.seq + 1) (apl l j.B) (l.map (·.1)))).1,
      j.on l (lays (commit1 d j.log j.place (j.seq + 1) l).1 (homeW j.log (j.seq + 1) (apl l j.B) (l.map (·.1)))).2, 0)
  else ((commit1 d j.log j.place (j.seq + 1) l).1, { j with err := (commit1 d j.log j.place (j.seq + 1) l).2 }, (commit1 d j.log j.place (j.seq + 1) l).2)
/-- Commit. -/
def commitJ (d : DS) (j : JS) (l : List (Int × List UInt8)) : DS × JS × Int :=
  if j.err = 0 then
    if okW j.nb l = true then
      if l.length + 1 ≤ j.log then
        if l.length + 1 ≤ j.log - j.used then commit2 d j (asChg l)
        else if (ckpt d j).2.2 = 0 then commit2 (ckpt d j).1 (ckpt d j).2.1 (asChg l)
        else ckpt d j
      else (d, j, 21)
    else (d, j, 1)
  else (d, j, j.err)

theorem apl_len {l : Chg} {B : Nat → List UInt8} {i : Nat} (h : (B i).length ≤ 96) (hl : ∀ x ∈ l, x.2.length ≤ 96) : (apl l B i).length ≤ 96 := by
  unfold apl
  generalize B i = d at h
  induction l generalizing d with
  | nil => exact h
  | cons x l ih =>
    simp only [List.foldl_cons]
    refine ih (fun y hy => hl y (by simp [hy])) _ ?_
    split
    · exact hl x (by simp)
    · exact h

theorem commit2_inv {d : DS} {j : JS} {s0 t0 : Nat} {cs : List Chg} {l : Chg} (h : JInv d j s0 t0 cs) (he : j.err = 0) (hs : j.seq + 1 < 18446744073709551616) (hl : ChOk j.nb l) (hf : l.length + 1 ≤ j.log - j.used) :
    ((commit2 d j l).2.2 = 0 → ∃ e, JInv (commit2 d j l).1 (j.on l e) s0 t0 (cs ++ [l]) ∧ (commit2 d j l).2.1 = j.on l e) ∧
    ((commit2 d j l).2.2 ≠ 0 → (commit2 d j l).2.1 = { j with err := (commit2 d j l).2.2 } ∧ Either (commit2 d j l).1 j.log j.nb j.seq j.B (j.seq + 1) (apl l j.B)) := by
  have hlog4 := h.log4
  have hnb := h.nb400
  have hlog : 0 < j.log := by omega
  have hu := h.used
  have hsq := h.seq
  have hfit : size cs + l.length + 1 ≤ j.log := by omega
  have hc := commit1_inv (l := l) h.inv hl (by omega) hfit (by omega)
  unfold commit2
  rw [h.place, h.seq]
  generalize J.commit1 d j.log ((t0 + size cs) % j.log) (s0 + cs.length + 1) l = a at *
  by_cases e1 : a.2 = 0
  · rw [if_pos e1]
    obtain ⟨hinv, hp, hhom⟩ := hc.1 e1
    refine ⟨fun _ => ⟨_, ?_, rfl⟩, fun e => absurd rfl e⟩
    have hx : ∀ i ∈ l.map (·.1), i < j.nb ∧ ∃ x ∈ (cs ++ [l]).flatten, x.1 = i := fun i hi => by
      obtain ⟨x, hx, rfl⟩ := List.mem_map.1 hi
      exact ⟨(hl.2.2 x hx).1, x, by simp; exact .inr hx, rfl⟩
    have hlen : ∀ i, i < j.nb → (apl l j.B i).length ≤ 96 := fun i hi => apl_len (h.lens i hi) fun x hx => (hl.2.2 x hx).2
    have hinv2 := lays_inv (homeW j.log (s0 + cs.length + 1) (apl l j.B) (l.map (·.1))) hinv fun x hx' => by
      obtain ⟨i, hi, rfl⟩ := homeW_mem _ hx'
      exact safe_home _ (hx i hi).1 (hx i hi).2
    refine ⟨hinv2, ?_, ?_, ?_, fun e2 i hi => ?_, hlen, h.log4, h.log200, h.nb400⟩
    · show j.seq + 1 = _
      rw [h.seq, List.length_append]
      simp
      omega
    · show (j.place + l.length + 1) % j.log = _
      rw [h.place, size_snoc, Nat.add_assoc, Nat.mod_add_mod]
      congr 1
      omega
    · show j.used + l.length + 1 = _
      rw [h.used, size_snoc]
    · show hom _ j.log i = apl l j.B i
      obtain ⟨hr, _⟩ := lays_go _ e2
      rw [hr, homeW_there (by omega) _ _ (fun k hk => ⟨by have := (hx k hk).1; omega, hlen k (hx k hk).1⟩)]
      split
      · rfl
      · rename_i hn
        rw [hhom i, h.vol he i hi, apl_far]
        intro x hx' e
        exact hn (List.mem_map.2 ⟨x, hx', e⟩)
  · rw [if_neg e1]
    exact ⟨fun e => absurd e e1, fun _ => ⟨rfl, hc.2 e1⟩⟩

theorem Sure.either {d : DS} {log nb s s' : Nat} {B B' : Nat → List UInt8} (h : Sure d log nb s B) : Either d log nb s B s' B' := fun L => .inl (h L)
/-- What Commit of a change that may be, and that goes into the log, leaves. -/
theorem commitJ_inv {d : DS} {j : JS} {s0 t0 : Nat} {cs : List Chg} {l : List (Int × List UInt8)} (h : JInv d j s0 t0 cs) (he : j.err = 0) (hs : j.seq + 1 < 18446744073709551616) (hl : okW j.nb l = true) (hf : l.length + 1 ≤ j.log) :
    ((commitJ d j l).2.2 = 0 → ∃ s t c e u, JInv (commitJ d j l).1 (commitJ d j l).2.1 s t c ∧ (commitJ d j l).2.1 = { j.on (asChg l) e with used := u }) ∧
    ((commitJ d j l).2.2 ≠ 0 → (commitJ d j l).2.1.err = (commitJ d j l).2.2 ∧ Either (commitJ d j l).1 j.log j.nb j.seq j.B (j.seq + 1) (apl (asChg l) j.B)) := by
  unfold commitJ
  rw [if_pos he, if_pos hl, if_pos hf]
  have hok := okW_ok hl
  by_cases h1 : l.length + 1 ≤ j.log - j.used
  · rw [if_pos h1]
    have hc := commit2_inv (l := asChg l) h he hs hok (by rw [asChg_length]; exact h1)
    refine ⟨fun e => ?_, fun e => ?_⟩
    · obtain ⟨e', hi, hj⟩ := hc.1 e
      exact ⟨s0, t0, _, e', _, by rw [hj]; exact hi, by rw [hj]⟩
    · obtain ⟨hj, hr⟩ := hc.2 e
      exact ⟨by rw [hj], hr⟩
  · rw [if_neg h1]
    have hk := ckpt_inv h he (by omega)
    by_cases e1 : (ckpt d j).2.2 = 0
    · rw [if_pos e1]
      obtain ⟨⟨s, t, c, hi⟩, hj⟩ := hk.1 e1
      generalize ckpt d j = a at *
      obtain ⟨d1, j1, x⟩ := a
      dsimp only at *
      subst hj
      have hc := commit2_inv (l := asChg l) hi he hs hok (by rw [asChg_length]; show _ ≤ j.log - 0; omega)
      refine ⟨fun e => ?_, fun e => ?_⟩
      · obtain ⟨e', hi', hj'⟩ := hc.1 e
        exact ⟨s, t, _, e', _, by rw [hj']; exact hi', by rw [hj']; rfl⟩
      · obtain ⟨hj', hr⟩ := hc.2 e
        exact ⟨by rw [hj'], hr⟩
    · rw [if_neg e1]
      obtain ⟨hj, hr⟩ := hk.2 e1
      exact ⟨fun e => absurd e e1, fun _ => ⟨by rw [hj], hr.either⟩⟩

/-- The blocks that changes tell, in order. -/
def told (nb : Nat) (l : Chg) : List Nat := (List.range nb).filter fun i => l.any fun x => x.1 == i
theorem told_mem {nb : Nat} {l : Chg} {i : Nat} : i ∈ told nb l ↔ i < nb ∧ ∃ x ∈ l, x.1 = i := by
  unfold told
  simp
/-- Open, where its arguments may be. -/
def openJ (d : DS) (log nb : Nat) : DS × JS :=
  ((lays d (homeW log (run d.read log nb (log + 1) (start d.read log)).1.seq (run d.read log nb (log + 1) (start d.read log)).1.B (told nb (run d.read log nb (log + 1) (start d.read log)).2))).1,
   ⟨log, nb, (run d.read log nb (log + 1) (start d.read log)).1.B, (run d.read log nb (log + 1) (start d.read log)).1.seq, (run d.read log nb (log + 1) (start d.read log)).1.place, (run d.read log nb (log + 1) (start d.read log)).1.used,
    (lays d (homeW log (run d.read log nb (log + 1) (start d.read log)).1.seq (run d.read log nb (log + 1) (start d.read log)).1.B (told nb (run d.read log nb (log + 1) (start d.read log)).2))).2⟩)
theorem hom_len (G : Con) (log i : Nat) : (hom G log i).length ≤ 96 := by
  unfold hom
  split
  · split
    · rename_i h
      exact h.2
    · simp
  · simp
theorem Good.same {G : Con} {log nb s0 t0 : Nat} {cs : List Chg} {B B' : Nat → List UInt8} (h : Good G log nb s0 t0 cs B) (hB : ∀ i, i < nb → B' i = B i) : Good G log nb s0 t0 cs B' := ⟨h.sup, h.chain, h.chok, h.fits, h.noend, fun i hi => by rw [h.val i hi, hB i hi]⟩
/-- A disk that a journal may be on is opened: the journal is on it. -/
theorem open_inv {d : DS} {log nb s0 t0 : Nat} {cs : List Chg} {B : Nat → List UInt8} (h : Inv d log nb s0 t0 cs B) (h4 : 4 ≤ log) (h200 : log ≤ 200) (h400 : nb ≤ 400) (hs : s0 + cs.length < 18446744073709551616) :
    JInv (openJ d log nb).1 (openJ d log nb).2 s0 t0 cs ∧ ∀ i, i < nb → (openJ d log nb).2.B i = B i := by
  have hlog : 0 < log := by omega
  have hg := h.read hlog
  obtain ⟨B', hr, hB⟩ := hg.found hlog
  unfold openJ
  rw [hr]
  dsimp only
  have hx : ∀ i ∈ told nb cs.flatten, i < nb ∧ ∃ x ∈ cs.flatten, x.1 = i := fun i hi => told_mem.1 hi
  have hlen : ∀ i, i < nb → (B' i).length ≤ 96 := fun i hi => by
    rw [hB i hi, ← hg.val i hi]
    refine apl_len (hom_len _ _ _) fun x hx => ?_
    obtain ⟨c, hc, hxc⟩ := List.mem_flatten.1 hx
    exact ((hg.chok c hc).2.2 x hxc).2
  have h' : Inv d log nb s0 t0 cs B' := ⟨h.good.same hB, h.safe⟩
  have hinv := lays_inv (homeW log (s0 + cs.length) B' (told nb cs.flatten)) h' fun x hx' => by
    obtain ⟨i, hi, rfl⟩ := homeW_mem _ hx'
    exact safe_home _ (hx i hi).1 (hx i hi).2
  refine ⟨⟨hinv, rfl, rfl, rfl, fun e i hi => ?_, hlen, h4, h200, h400⟩, hB⟩
  obtain ⟨hrd, _⟩ := lays_go _ e
  rw [hrd, homeW_there hs _ _ (fun k hk => ⟨by have := (hx k hk).1; omega, hlen k (hx k hk).1⟩)]
  split
  · rfl
  · rename_i hn
    show hom d.read log i = B' i
    rw [hB i hi, ← hg.val i hi, apl_far]
    intro x hx' e
    exact hn (told_mem.2 ⟨hi, x, hx', e⟩)

/-- A disk that is up and does not stop. -/
def Calm (d : DS) : Prop := d.down = false ∧ d.left < 0
theorem Calm.count {d : DS} (h : Calm d) : d.count = d := by
  unfold DS.count
  rw [if_neg (by have := h.2; omega), if_neg (by have := h.2; omega)]
theorem Calm.wer {d : DS} (h : Calm d) {p : Nat} {b : List UInt8} (hp : p < d.n) (hb : b.length = 128) : Go.Proofs.Ytcieahfhpanogaa.wer d p b = 0 ∧ Go.Proofs.Ytcieahfhpanogaa.wst d p b = d.push p b := by
  have hr : refus d p = 0 := by unfold refus; rw [if_neg (by simp [h.1]), if_neg (by omega)]
  unfold Go.Proofs.Ytcieahfhpanogaa.wer Go.Proofs.Ytcieahfhpanogaa.wst
  rw [if_pos hr, if_pos hb, if_pos hr, if_pos hb, h.count, if_neg (by simp [h.1]), if_neg (by simp [h.1])]
  exact ⟨rfl, rfl⟩
theorem Calm.push {d : DS} (h : Calm d) (p : Int) (b : List UInt8) : Calm (d.push p b) := h
theorem Calm.fer {d : DS} (h : Calm d) : Go.Proofs.Ytcieahfhpanogaa.fer d = 0 ∧ Go.Proofs.Ytcieahfhpanogaa.fst d = d.flushed := by
  unfold Go.Proofs.Ytcieahfhpanogaa.fer Go.Proofs.Ytcieahfhpanogaa.fst
  rw [h.count, if_neg (by simp [h.1]), if_neg (by simp [h.1]), if_neg (by simp [h.1]), if_neg (by simp [h.1])]
  exact ⟨rfl, rfl⟩
theorem Calm.lays : ∀ (ws : List (Nat × Fm)) {d : DS}, Calm d → (∀ x ∈ ws, x.1 < d.n ∧ x.2.b.length ≤ 108) → (J.lays d ws).2 = 0 ∧ Calm (J.lays d ws).1 ∧ (J.lays d ws).1.n = d.n
  | [], _, h, _ => ⟨rfl, h, rfl⟩
  | (p, f) :: r, d, h, hx => by
    obtain ⟨hp, hb⟩ := hx (p, f) (by simp)
    obtain ⟨h1, h2⟩ := h.wer (b := sealed f.enc) hp (by rw [sealed_length, f.enc_length hb])
    unfold J.lays
    rw [if_pos h1, h2]
    exact Calm.lays r (h.push _ _) fun x hx' => hx x (by simp [hx'])
theorem crashed_calm (d : DS) (L : List UInt8) : Calm (d.crashed L) := ⟨rfl, by show (-1 : Int) < 0; omega⟩

/-- The disk's errors on the way: there is one alone. -/
theorem wer_20 {d : DS} {p : Nat} {b : List UInt8} (hp : p < d.n) (hb : b.length = 128) : Go.Proofs.Ytcieahfhpanogaa.wer d p b = 0 ∨ Go.Proofs.Ytcieahfhpanogaa.wer d p b = 20 := by
  unfold Go.Proofs.Ytcieahfhpanogaa.wer
  by_cases hr : refus d p = 0
  · rw [if_pos hr, if_pos hb]
    split
    · exact .inr rfl
    · exact .inl rfl
  · rw [if_neg hr]
    unfold refus at hr ⊢
    split
    · exact .inr rfl
    · rename_i hd
      rw [if_neg hd, if_neg (by omega)] at hr
      exact absurd rfl hr
theorem fer_20 (d : DS) : Go.Proofs.Ytcieahfhpanogaa.fer d = 0 ∨ Go.Proofs.Ytcieahfhpanogaa.fer d = 20 := by
  unfold Go.Proofs.Ytcieahfhpanogaa.fer
  split
  · exact .inr rfl
  · split
    · exact .inr rfl
    · exact .inl rfl
end Go.Proofs.Ytcieahfhpanogaa.J
