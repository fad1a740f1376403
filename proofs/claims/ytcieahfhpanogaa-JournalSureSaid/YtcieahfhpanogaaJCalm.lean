/-
  A journal on a disk that does not stop, and on one that stops ahead of a change's end, plain. Nothing of the program is named here, but for what disk's texts have.
-/
import Derived.Test.YtcieahfhpanogaaJWhole
namespace Go.Proofs.Ytcieahfhpanogaa.J
open Go.Proofs.Ytcieahfhpanogaa

theorem Calm.flushed {d : DS} (h : Calm d) : Calm d.flushed := h
theorem enc128 (f : Fm) (h : f.b.length ≤ 108) : (sealed f.enc).length = 128 := by rw [sealed_length, f.enc_length h]
/-- The writes of a change go to sectors that are there. -/
theorem logW_in {log t s n N : Nat} {l : Chg} (hlog : 0 < log) (hN : 1 + log ≤ N) (hl : ∀ x ∈ l, x.2.length ≤ 96) : ∀ x ∈ logW log t s n 0 l, x.1 < N ∧ x.2.b.length ≤ 108 := fun x hx => by
  obtain ⟨k, hk, rfl⟩ := logW_mem l 0 hx
  have h1 := Nat.mod_lt (t + (0 + k)) hlog
  have h2 := hl _ (List.getElem_mem hk)
  exact ⟨by dsimp only; omega, by show (l[k].2).length ≤ 108; omega⟩
theorem Calm.commit1 {d : DS} (h : Calm d) {log t s : Nat} {l : Chg} (hlog : 0 < log) (hN : 1 + log ≤ d.n) (hl : ∀ x ∈ l, x.2.length ≤ 96) : (J.commit1 d log t s l).2 = 0 ∧ Calm (J.commit1 d log t s l).1 ∧ (J.commit1 d log t s l).1.n = d.n := by
  obtain ⟨h1, h2, h3⟩ := Calm.lays (logW log t s l.length 0 l) h (logW_in hlog hN hl)
  unfold J.commit1
  generalize J.lays d (logW log t s l.length 0 l) = a at *
  obtain ⟨h4, h5⟩ := h2.fer
  have h6 : Calm a.1.flushed := h2.flushed
  have hp := Nat.mod_lt (t + l.length) hlog
  obtain ⟨h7, h8⟩ := h6.wer (p := 1 + (t + l.length) % log) (b := sealed (endF s l.length).enc) (by show _ < a.1.n; omega) (enc128 _ (by show 0 ≤ 108; omega))
  have h9 : Calm (a.1.flushed.push ((1 + (t + l.length) % log : Nat) : Int) (sealed (endF s l.length).enc)) := h6
  obtain ⟨h10, h11⟩ := h9.fer
  dsimp only
  rw [if_pos h1, if_pos h4, h5, if_pos h7, h8, h10, h11]
  exact ⟨rfl, h9.flushed, h3⟩
theorem homeW_in {log s nb N : Nat} {B : Nat → List UInt8} {ids : List Nat} (hN : 1 + log + nb ≤ N) (hi : ∀ i ∈ ids, i < nb) (hB : ∀ i, i < nb → (B i).length ≤ 96) : ∀ x ∈ homeW log s B ids, x.1 < N ∧ x.2.b.length ≤ 108 := fun x hx => by
  obtain ⟨i, hi', rfl⟩ := homeW_mem _ hx
  have h1 := hi i hi'
  exact ⟨by dsimp only; omega, by show (B i).length ≤ 108; have := hB i h1; omega⟩
theorem Calm.commit2 {d : DS} (h : Calm d) {j : JS} {l : Chg} (hlog : 0 < j.log) (hN : 1 + j.log + j.nb ≤ d.n) (hl : ChOk j.nb l) (hB : ∀ i, i < j.nb → (j.B i).length ≤ 96) :
    (J.commit2 d j l).2.2 = 0 ∧ (J.commit2 d j l).2.1 = j.on l 0 ∧ Calm (J.commit2 d j l).1 ∧ (J.commit2 d j l).1.n = d.n := by
  obtain ⟨h1, h2, h3⟩ := h.commit1 (t := j.place) (s := j.seq + 1) (l := l) hlog (by omega) (fun x hx => (hl.2.2 x hx).2)
  unfold J.commit2
  generalize J.commit1 d j.log j.place (j.seq + 1) l = a at *
  obtain ⟨h4, h5, h6⟩ := Calm.lays (homeW j.log (j.seq + 1) (apl l j.B) (l.map (·.1))) h2 (homeW_in (nb := j.nb) (by omega) (fun i hi => by
    obtain ⟨x, hx, rfl⟩ := List.mem_map.1 hi
    exact (hl.2.2 x hx).1) fun i hi => apl_len (hB i hi) fun x hx => (hl.2.2 x hx).2)
  rw [if_pos h1]
  exact ⟨rfl, by rw [h4], h5, by rw [h6, h3]⟩
theorem Calm.ckpt {d : DS} (h : Calm d) {j : JS} (he : j.err = 0) (hN : 0 < d.n) : (J.ckpt d j).2.2 = 0 ∧ (J.ckpt d j).2.1 = { j with used := 0 } ∧ Calm (J.ckpt d j).1 ∧ (J.ckpt d j).1.n = d.n := by
  unfold J.ckpt
  rw [if_pos he]
  by_cases hu : j.used = 0
  · rw [if_pos hu]
    refine ⟨rfl, ?_, h, rfl⟩
    show j = _
    cases j
    simp_all
  · rw [if_neg hu]
    obtain ⟨h4, h5⟩ := h.fer
    have h6 : Calm d.flushed := h.flushed
    obtain ⟨h7, h8⟩ := h6.wer (p := 0) (b := sealed (superF j.seq j.place).enc) hN (enc128 _ (by show 0 ≤ 108; omega))
    have h9 : Calm (d.flushed.push ((0 : Nat) : Int) (sealed (superF j.seq j.place).enc)) := h6
    obtain ⟨h10, h11⟩ := h9.fer
    have h7' : Go.Proofs.Ytcieahfhpanogaa.wer d.flushed 0 (sealed (superF j.seq j.place).enc) = 0 := h7
    have h8' : Go.Proofs.Ytcieahfhpanogaa.wst d.flushed 0 (sealed (superF j.seq j.place).enc) = d.flushed.push ((0 : Nat) : Int) (sealed (superF j.seq j.place).enc) := h8
    rw [if_pos h4, h5, if_pos h7', h8', if_pos h10, h11]
    exact ⟨rfl, rfl, h9.flushed, rfl⟩
/-- Commit on a disk that does not stop goes, and leaves a journal without an error. -/
theorem Calm.commitJ {d : DS} (h : Calm d) {j : JS} {l : List (Int × List UInt8)} (he : j.err = 0) (hlog : 0 < j.log) (hN : 1 + j.log + j.nb ≤ d.n) (hl : okW j.nb l = true) (hf : l.length + 1 ≤ j.log) (hB : ∀ i, i < j.nb → (j.B i).length ≤ 96) :
    (J.commitJ d j l).2.2 = 0 ∧ Calm (J.commitJ d j l).1 ∧ (J.commitJ d j l).1.n = d.n ∧
    (J.commitJ d j l).2.1 = if l.length + 1 ≤ j.log - j.used then j.on (asChg l) 0 else { j with used := 0 }.on (asChg l) 0 := by
  have hok := okW_ok hl
  unfold J.commitJ
  rw [if_pos he, if_pos hl, if_pos hf]
  by_cases h1 : l.length + 1 ≤ j.log - j.used
  · rw [if_pos h1, if_pos h1]
    obtain ⟨h2, h3, h4, h5⟩ := h.commit2 hlog hN hok hB
    exact ⟨h2, h4, h5, h3⟩
  · rw [if_neg h1, if_neg h1]
    obtain ⟨h2, h3, h4, h5⟩ := h.ckpt he (by omega)
    rw [if_pos h2]
    generalize J.ckpt d j = a at *
    obtain ⟨d1, j1, x⟩ := a
    dsimp only at *
    subst h3
    obtain ⟨h6, h7, h8, h9⟩ := h4.commit2 (j := { j with used := 0 }) (l := asChg l) hlog (by rw [h5]; exact hN) hok hB
    exact ⟨h6, h8, by rw [h9, h5], h7⟩
/-- Open on a disk that does not stop leaves no error. -/
theorem Calm.open {d : DS} (h : Calm d) {log nb : Nat} (hN : 1 + log + nb ≤ d.n) (hB : ∀ i, i < nb → ((openJ d log nb).2.B i).length ≤ 96) : (openJ d log nb).2.err = 0 ∧ Calm (openJ d log nb).1 ∧ (openJ d log nb).1.n = d.n := by
  have := Calm.lays (homeW log (run d.read log nb (log + 1) (start d.read log)).1.seq (run d.read log nb (log + 1) (start d.read log)).1.B (told nb (run d.read log nb (log + 1) (start d.read log)).2)) h
    (homeW_in (nb := nb) hN (fun i hi => (told_mem.1 hi).1) hB)
  exact this

/-- A disk that stops at the flush ahead of a change's end. -/
theorem lays_left : ∀ (ws : List (Nat × Fm)) {d : DS}, d.down = false → d.left = (ws.length : Int) → (∀ x ∈ ws, x.1 < d.n ∧ x.2.b.length ≤ 108) → (lays d ws).2 = 0 ∧ (lays d ws).1.down = false ∧ (lays d ws).1.left = 0
  | [], _, h, hl, _ => ⟨rfl, h, hl⟩
  | (p, f) :: r, d, h, hl, hx => by
    obtain ⟨hp, hb⟩ := hx (p, f) (by simp)
    simp only [List.length_cons] at hl
    have hc : d.count = { d with left := d.left - 1 } := by unfold DS.count; rw [if_neg (by omega), if_pos (by omega)]
    have hr : refus d p = 0 := by unfold refus; rw [if_neg (by simp [h]), if_neg (by dsimp only at hp; omega)]
    have h1 : wer d p (sealed f.enc) = 0 := by unfold wer; rw [if_pos hr, if_pos (enc128 f hb), hc, if_neg (by simp [h])]
    have h2 : wst d p (sealed f.enc) = d.count.push p (sealed f.enc) := (wst_go h1).1
    unfold lays
    rw [if_pos h1, h2, hc]
    exact lays_left r h (by show d.left - 1 = _; omega) fun x hx' => hx x (by simp [hx'])
theorem logW_length (log t s n : Nat) : ∀ (l : Chg) (i : Nat), (logW log t s n i l).length = l.length
  | [], _ => rfl
  | x :: r, i => by simp [logW, logW_length log t s n r (i + 1)]
theorem commit1_tail {d : DS} {log nb s0 t0 : Nat} {cs : List Chg} {B : Nat → List UInt8} {l : Chg} (h : Inv d log nb s0 t0 cs B) (hl : ChOk nb l) (hnb : nb ≤ 4294967295) (hf : size cs + l.length + 1 ≤ log) (hs : s0 + cs.length + 1 < 18446744073709551616)
    (hN : 1 + log ≤ d.n) (hd : d.down = false) (hleft : d.left = (l.length : Int)) :
    (commit1 d log ((t0 + size cs) % log) (s0 + cs.length + 1) l).2 = 20 ∧ Inv (commit1 d log ((t0 + size cs) % log) (s0 + cs.length + 1) l).1 log nb s0 t0 cs B := by
  have hlog : 0 < log := by omega
  have hsafe : ∀ x ∈ logW log (t0 + size cs) (s0 + cs.length + 1) l.length 0 l, Safe log nb s0 t0 cs x.1 (sealed x.2.enc) := fun x hx => by
    obtain ⟨k, hk, rfl⟩ := logW_mem l 0 hx
    have hx := hl.2.2 _ (List.getElem_mem hk)
    rw [Nat.zero_add]
    exact safe_data (by omega) hs (by omega) hx.2
  have h1 := lays_inv _ h hsafe
  obtain ⟨h2, h3, h4⟩ := lays_left (logW log (t0 + size cs) (s0 + cs.length + 1) l.length 0 l) hd (by rw [logW_length]; exact hleft) (logW_in hlog hN fun x hx => (hl.2.2 x hx).2)
  unfold commit1
  rw [logW_mod]
  generalize lays d (logW log (t0 + size cs) (s0 + cs.length + 1) l.length 0 l) = a at *
  have hc : a.1.count.down = true := by unfold DS.count; rw [if_pos h4]
  have hf20 : fer a.1 = 20 := by unfold fer; rw [if_neg (by simp [h3]), if_pos hc]
  dsimp only
  rw [if_pos h2, if_neg (by omega)]
  exact ⟨hf20, h1.fst hlog⟩
end Go.Proofs.Ytcieahfhpanogaa.J
