/-
  A journal on a disk, plain: the errors that there may be, and what stays; a crash and what is opened behind it. Nothing of the program is named here, but for what disk's texts have.
-/
import Derived.Test.YtcieahfhpanogaaJCalm
namespace Go.Proofs.Ytcieahfhpanogaa.J
open Go.Proofs.Ytcieahfhpanogaa

theorem wst_n (d : DS) (p : Int) (b : List UInt8) : (wst d p b).n = d.n := by
  unfold wst
  split
  · split
    · split
      · exact DS.count_n d
      · exact DS.count_n d
    · rfl
  · rfl
theorem fst_n (d : DS) : (fst d).n = d.n := by
  unfold fst
  split
  · rfl
  · split
    · exact DS.count_n d
    · exact DS.count_n d
theorem lays_n : ∀ (ws : List (Nat × Fm)) (d : DS), (lays d ws).1.n = d.n
  | [], _ => rfl
  | (p, f) :: r, d => by
    unfold lays
    split
    · rw [lays_n r, wst_n]
    · exact wst_n _ _ _
theorem lays_20 : ∀ (ws : List (Nat × Fm)) {d : DS}, (∀ x ∈ ws, x.1 < d.n ∧ x.2.b.length ≤ 108) → (lays d ws).2 = 0 ∨ (lays d ws).2 = 20
  | [], _, _ => .inl rfl
  | (p, f) :: r, d, hx => by
    obtain ⟨hp, hb⟩ := hx (p, f) (by simp)
    unfold lays
    split
    · exact lays_20 r fun x hx' => by rw [wst_n]; exact hx x (by simp [hx'])
    · exact wer_20 hp (enc128 f hb)
theorem commit1_n (d : DS) (log t s : Nat) (l : Chg) : (commit1 d log t s l).1.n = d.n := by
  unfold commit1
  dsimp only
  split
  · split
    · split
      · rw [fst_n, wst_n, fst_n, lays_n]
      · rw [wst_n, fst_n, lays_n]
    · rw [fst_n, lays_n]
  · exact lays_n _ _
theorem commit1_20 {d : DS} {log t s : Nat} {l : Chg} (hlog : 0 < log) (hN : 1 + log ≤ d.n) (hl : ∀ x ∈ l, x.2.length ≤ 96) : (commit1 d log t s l).2 = 0 ∨ (commit1 d log t s l).2 = 20 := by
  have hp := Nat.mod_lt (t + l.length) hlog
  unfold commit1
  dsimp only
  split
  · split
    · split
      · exact fer_20 _
      · exact wer_20 (by rw [fst_n, lays_n]; omega) (enc128 _ (by show 0 ≤ 108; omega))
    · exact fer_20 _
  · exact lays_20 _ (logW_in hlog hN hl)
theorem ckpt_n (d : DS) (j : JS) : (ckpt d j).1.n = d.n := by
  unfold ckpt
  split
  · split
    · rfl
    · split
      · split
        · split
          · rw [fst_n, wst_n, fst_n]
          · rw [fst_n, wst_n, fst_n]
        · rw [wst_n, fst_n]
      · exact fst_n d
  · rfl
theorem ckpt_20 {d : DS} {j : JS} (he : j.err = 0 ∨ j.err = 20) (hN : 0 < d.n) : (ckpt d j).2.2 = 0 ∨ (ckpt d j).2.2 = 20 := by
  unfold ckpt
  split
  · split
    · exact .inl rfl
    · split
      · split
        · split
          · exact .inl rfl
          · exact fer_20 _
        · exact wer_20 (p := 0) (by rw [fst_n]; exact hN) (enc128 _ (by show 0 ≤ 108; omega))
      · exact fer_20 _
  · exact he
theorem commit2_n (d : DS) (j : JS) (l : Chg) : (commit2 d j l).1.n = d.n := by
  unfold commit2
  split
  · show (lays _ _).1.n = d.n
    rw [lays_n, commit1_n]
  · exact commit1_n _ _ _ _ _
theorem commit2_20 {d : DS} {j : JS} {l : Chg} (hlog : 0 < j.log) (hN : 1 + j.log + j.nb ≤ d.n) (hl : ChOk j.nb l) (hB : ∀ i, i < j.nb → (j.B i).length ≤ 96) :
    ((commit2 d j l).2.2 = 0 ∨ (commit2 d j l).2.2 = 20) ∧ ((commit2 d j l).2.1.err = 0 ∨ (commit2 d j l).2.1.err = 20) := by
  have h1 := commit1_20 (d := d) (t := j.place) (s := j.seq + 1) (l := l) hlog (by omega) (fun x hx => (hl.2.2 x hx).2)
  unfold commit2
  split
  · refine ⟨.inl rfl, ?_⟩
    exact lays_20 _ (homeW_in (nb := j.nb) (by rw [commit1_n]; exact hN) (fun i hi => by
      obtain ⟨x, hx, rfl⟩ := List.mem_map.1 hi
      exact (hl.2.2 x hx).1) fun i hi => apl_len (hB i hi) fun x hx => (hl.2.2 x hx).2)
  · exact ⟨h1, h1⟩
theorem ckpt_parts (d : DS) (j : JS) : (ckpt d j).2.1.log = j.log ∧ (ckpt d j).2.1.nb = j.nb ∧ (ckpt d j).2.1.B = j.B ∧ ((ckpt d j).2.2 ≠ 0 → (ckpt d j).2.1.err = (ckpt d j).2.2) := by
  unfold ckpt
  split
  · split
    · exact ⟨rfl, rfl, rfl, fun h => absurd rfl h⟩
    · split
      · split
        · split
          · exact ⟨rfl, rfl, rfl, fun h => absurd rfl h⟩
          · exact ⟨rfl, rfl, rfl, fun _ => rfl⟩
        · exact ⟨rfl, rfl, rfl, fun _ => rfl⟩
      · exact ⟨rfl, rfl, rfl, fun _ => rfl⟩
  · exact ⟨rfl, rfl, rfl, fun _ => rfl⟩
theorem commitJ_n (d : DS) (j : JS) (l : List (Int × List UInt8)) : (commitJ d j l).1.n = d.n := by
  unfold commitJ
  split
  · split
    · split
      · split
        · exact commit2_n _ _ _
        · split
          · rw [commit2_n, ckpt_n]
          · exact ckpt_n _ _
      · rfl
    · rfl
  · rfl
/-- What Commit may say. -/
theorem commitJ_err {d : DS} {j : JS} {l : List (Int × List UInt8)} (he : j.err = 0 ∨ j.err = 20) (hlog : 0 < j.log) (hN : 1 + j.log + j.nb ≤ d.n) (hB : ∀ i, i < j.nb → (j.B i).length ≤ 96) :
    ((commitJ d j l).2.2 = 0 ∨ (commitJ d j l).2.2 = 20 ∨ ((commitJ d j l).2.2 = 1 ∨ (commitJ d j l).2.2 = 21) ∧ (commitJ d j l).1 = d ∧ (commitJ d j l).2.1 = j) ∧ ((commitJ d j l).2.1.err = 0 ∨ (commitJ d j l).2.1.err = 20) := by
  unfold commitJ
  split
  · rename_i he0
    split
    · rename_i hl
      have hok := okW_ok hl
      split
      · split
        · obtain ⟨h1, h2⟩ := commit2_20 (d := d) hlog hN hok hB
          exact ⟨h1.imp id .inl, h2⟩
        · have hk := ckpt_20 (d := d) he (by omega)
          obtain ⟨p1, p2, p3, p4⟩ := ckpt_parts d j
          split
          · obtain ⟨h1, h2⟩ := commit2_20 (d := (ckpt d j).1) (j := (ckpt d j).2.1) (l := asChg l) (by rw [p1]; exact hlog) (by rw [p1, p2, ckpt_n]; exact hN) (by rw [p2]; exact hok) (fun i hi => by rw [p3]; exact hB i (by rw [← p2]; exact hi))
            exact ⟨h1.imp id .inl, h2⟩
          · rename_i hne
            exact ⟨hk.imp id .inl, by rw [p4 hne]; exact hk⟩
      · exact ⟨.inr (.inr ⟨.inr rfl, rfl, rfl⟩), he⟩
    · exact ⟨.inr (.inr ⟨.inl rfl, rfl, rfl⟩), he⟩
  · exact ⟨he.imp id .inl, he⟩

/-- Whether it stops changes nothing of what is there. -/
theorem Inv.left {d : DS} {log nb s0 t0 : Nat} {cs : List Chg} {B : Nat → List UInt8} (h : Inv d log nb s0 t0 cs B) (k : Int) : Inv { d with left := k } log nb s0 t0 cs B := ⟨h.good, h.safe⟩
theorem JInv.left {d : DS} {j : JS} {s0 t0 : Nat} {cs : List Chg} (h : JInv d j s0 t0 cs) (k : Int) : JInv { d with left := k } j s0 t0 cs := ⟨h.inv.left k, h.seq, h.place, h.used, h.vol, h.lens, h.log4, h.log200, h.nb400⟩

/-- Behind a crash what is opened has what was sure. -/
theorem Good.opened {d : DS} {log nb s0 t0 : Nat} {cs : List Chg} {B : Nat → List UInt8} (L : List UInt8) (h : Good (d.crashed L).F log nb s0 t0 cs B) (h4 : 4 ≤ log) (h200 : log ≤ 200) (h400 : nb ≤ 400) (hs : s0 + cs.length < 18446744073709551616) (hN : 1 + log + nb ≤ d.n) :
    JInv (openJ (d.crashed L) log nb).1 (openJ (d.crashed L) log nb).2 s0 t0 cs ∧ (∀ i, i < nb → (openJ (d.crashed L) log nb).2.B i = B i) ∧ (openJ (d.crashed L) log nb).2.err = 0 ∧ Calm (openJ (d.crashed L) log nb).1 ∧ (openJ (d.crashed L) log nb).1.n = d.n := by
  have hi : Inv (d.crashed L) log nb s0 t0 cs B := ⟨h, fun x hx => by cases hx⟩
  obtain ⟨h1, h2⟩ := open_inv hi h4 h200 h400 hs
  obtain ⟨h3, h5, h6⟩ := (crashed_calm d L).open (log := log) (nb := nb) hN h1.lens
  exact ⟨h1, h2, h3, h5, h6⟩
/-- A new disk is opened: nothing is on it. -/
theorem fresh_inv (n b log nb : Nat) : Inv (DS.new n b) log nb 0 0 [] (fun _ => []) := ⟨Good.fresh log nb fun p => by
    show getE zs ≠ 0
    have : getE zs = 14 := zero_wrong
    omega, fun x hx => by cases hx⟩
end Go.Proofs.Ytcieahfhpanogaa.J
