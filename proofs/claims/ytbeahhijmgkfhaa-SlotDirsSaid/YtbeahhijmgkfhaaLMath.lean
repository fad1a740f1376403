/-
  Complete files, plain: which may be, their bytes, what bytes are of them (layer 11). No program.
-/
import Derived.Test.YtbeahhijmgkfhaaLThing
import Derived.Test.YtbeahhijmgkfhaaKMath
namespace Go.Proofs.Ytbeahhijmgkfhaa
namespace Sl
open Vl

/-- Bytes of a directory that may be, none of its entries above this cookie. -/
def dirB (dt : List UInt8) (ck : Nat) : Bool := decide (errE dt = 0) && (gotE dt).all fun e => decide (e.ck ≤ ck)
theorem dirB_iff (dt : List UInt8) (ck : Nat) : dirB dt ck = true ↔ errE dt = 0 ∧ ∀ e ∈ gotE dt, e.ck ≤ ck := by
  simp [dirB]
/-- May it be? -/
abbrev okS (s : Th) : Bool := s.okB dirB
def chkS (s : Th) : Int := if okS s then 0 else 1
theorem chkS_zero (s : Th) : chkS s = 0 ↔ okS s = true := by
  unfold chkS
  split
  · rename_i h; simp [h]
  · rename_i h; simp [h]
abbrev Ts := Nat × Nat × Nat × Nat × Nat × Nat × Nat × Nat × List UInt8
def slotC : Cd Ts := c4.seq (c4.seq (c4.seq (c4.seq (c4.seq (c8.seq (c8.seq (c8.seq (cO 768 (by decide)))))))))
def tup (s : Th) : Ts := (s.ino, s.kind, s.gen, s.links, s.mode, s.change, s.cookie, s.verf, s.dt)
def of (t : Ts) : Th := ⟨t.1, t.2.1, t.2.2.1, t.2.2.2.1, t.2.2.2.2.1, t.2.2.2.2.2.1, t.2.2.2.2.2.2.1, t.2.2.2.2.2.2.2.1, t.2.2.2.2.2.2.2.2⟩
theorem of_tup (s : Th) : of (tup s) = s := rfl
theorem tup_of (t : Ts) : tup (of t) = t := rfl
def zero : Th := ⟨0, 0, 0, 0, 0, 0, 0, 0, []⟩
theorem zero_ok : okS zero = true := rfl
def enc (s : Th) : List UInt8 := slotC.enc (tup s)
def put (s : Th) : List UInt8 := if okS s then enc s else []
def rd (l : List UInt8) : Th := of (slotC.rd (l, 0)).2
def err (l : List UInt8) : Int := if slotC.bad l ≠ 0 then slotC.bad l else if okS (rd l) then 0 else 11
def got (l : List UInt8) : Th := if err l = 0 then rd l else zero
theorem enc_eq (s : Th) : enc s = be 4 s.ino ++ (be 4 s.kind ++ (be 4 s.gen ++ (be 4 s.links ++ (be 4 s.mode ++ (be 8 s.change ++ (be 8 s.cookie ++ (be 8 s.verf ++ opq s.dt))))))) := rfl
theorem c_ok_iff (s : Th) : slotC.ok (tup s) ↔ s.ino < 4294967296 ∧ s.kind < 4294967296 ∧ s.Wide ∧ s.dt.length ≤ 768 := by
  constructor
  · rintro ⟨h1, h2, h3, h4, h5, h6, h7, h8, h9⟩
    exact ⟨h1, h2, ⟨h3, h4, h5, h6, h7, h8⟩, h9⟩
  · rintro ⟨h1, h2, ⟨h3, h4, h5, h6, h7, h8⟩, h9⟩
    exact ⟨h1, h2, h3, h4, h5, h6, h7, h8, h9⟩
theorem c_ok (s : Th) (hw : s.Wide) (h : okS s = true) : slotC.ok (tup s) := by
  obtain ⟨h1, h2, h3⟩ := okB_facts h
  exact (c_ok_iff s).2 ⟨by omega, by omega, hw, h3⟩
theorem rd_enc (s : Th) (hw : s.Wide) (h : okS s = true) : rd (enc s) = s := by
  obtain ⟨_, h2⟩ := slotC.bad_put (tup s) (c_ok s hw h)
  show of (slotC.rd (slotC.enc (tup s), 0)).2 = s
  rw [h2, of_tup]
/-- What was put is got as it was. -/
theorem got_put (s : Th) (hw : s.Wide) (h : okS s = true) : err (enc s) = 0 ∧ got (enc s) = s := by
  obtain ⟨h1, _⟩ := slotC.bad_put (tup s) (c_ok s hw h)
  have h3 := rd_enc s hw h
  have h4 : err (enc s) = 0 := by
    unfold err
    rw [show slotC.bad (enc s) = 0 from h1, if_neg (by simp), h3, if_pos h]
  exact ⟨h4, by unfold got; rw [if_pos h4, h3]⟩
theorem err_cases (l : List UInt8) (h : err l = 0) : slotC.bad l = 0 ∧ okS (rd l) = true ∧ got l = rd l := by
  have hg : got l = rd l := if_pos h
  unfold err at h
  split at h
  · rename_i h1; exact absurd h h1
  · rename_i h1
    split at h
    · rename_i h2; exact ⟨by simpa using h1, h2, hg⟩
    · cases h
/-- What was got is put as the same bytes. -/
theorem got_back (l : List UInt8) (h : err l = 0) : okS (got l) = true ∧ enc (got l) = l ∧ (got l).Wide := by
  obtain ⟨h1, h2, h3⟩ := err_cases l h
  obtain ⟨h4, h5⟩ := slotC.bad_back l h1
  rw [h3]
  exact ⟨h2, h4.symm, ((c_ok_iff (rd l)).1 h5).2.2.1⟩
theorem put_back (l : List UInt8) (h : err l = 0) : put (got l) = l := by
  obtain ⟨h1, h2, _⟩ := got_back l h
  exact (if_pos h1).trans h2
theorem got_no (l : List UInt8) (h : err l ≠ 0) : got l = zero := if_neg h
theorem err_more (s : Th) (t : List UInt8) (hw : s.Wide) (h : okS s = true) (ht : 0 < t.length) : err (enc s ++ t) = 12 := by
  have := slotC.bad_more (tup s) t (c_ok s hw h) ht
  unfold err
  rw [show slotC.bad (enc s ++ t) = 12 from this]
  rfl
theorem err_cut (s : Th) (j : Nat) (hw : s.Wide) (h : okS s = true) (hj : j < (enc s).length) : err ((enc s).take j) = 10 := by
  have := slotC.bad_cut (tup s) j (c_ok s hw h) hj
  unfold err
  rw [show slotC.bad ((enc s).take j) = 10 from this]
  rfl
theorem enc_inj (a b : Th) (ha : a.Wide) (hb : b.Wide) (h1 : okS a = true) (h2 : okS b = true) (h : enc a = enc b) : a = b := by
  have := (got_put a ha h1).2
  rw [h, (got_put b hb h2).2] at this
  exact this.symm
theorem enc_iff (a b : Th) (ha : a.Wide) (hb : b.Wide) (h1 : okS a = true) (h2 : okS b = true) : enc a = enc b ↔ a = b := ⟨enc_inj a b ha hb h1 h2, fun e => by rw [e]⟩
theorem enc_length (s : Th) : (enc s).length = 48 + s.dt.length + pad s.dt.length := by
  rw [enc_eq]
  simp only [List.length_append, be_length, opq_length]
  omega
theorem enc_mod (s : Th) : (enc s).length % 4 = 0 := by
  rw [enc_length]
  unfold pad
  omega
theorem enc_len (s : Th) (h : okS s = true) : 48 ≤ (enc s).length ∧ (enc s).length ≤ 816 := by
  obtain ⟨_, _, h3⟩ := okB_facts h
  rw [enc_length]
  unfold pad
  omega
/-- A directory: just entries that may be, none above its own cookie. -/
theorem dir_of (s : Th) (h : okS s = true) (hk : s.kind = 2) : errE s.dt = 0 ∧ (∀ e ∈ gotE s.dt, e.ck ≤ s.cookie) ∧ Go.Proofs.Ytbeahhijmgkfhaa.okB (gotE s.dt) = true ∧ putE (gotE s.dt) = s.dt := by
  simp only [okS, Th.okB, Bool.and_eq_true] at h
  have h2 := h.2
  rw [if_neg (by omega), Bool.and_eq_true, if_pos hk] at h2
  obtain ⟨h3, h4⟩ := (dirB_iff _ _).1 h2.2
  obtain ⟨h5, h6⟩ := Go.Proofs.Ytbeahhijmgkfhaa.got_back s.dt h3
  exact ⟨h3, h4, h5, h6⟩
/-- Entries that may be, put into a directory: it may be just if none is above its cookie. -/
theorem dir_put (es : List En) (hw : ∀ e ∈ es, e.Wide) (h : Go.Proofs.Ytbeahhijmgkfhaa.okB es = true) (ck : Nat) : dirB (putE es) ck = es.all fun e => decide (e.ck ≤ ck) := by
  obtain ⟨h1, h2⟩ := Go.Proofs.Ytbeahhijmgkfhaa.got_put es hw h
  unfold dirB
  rw [h1, h2]
  simp
/-- Entries rise: it is enough to look at the last one. -/
theorem all_last (es : List En) (h : Go.Proofs.Ytbeahhijmgkfhaa.okB es = true) : ∀ k, k ≤ es.length → ∀ i, i < k → (es.getD i default).ck ≤ lastAt es k := by
  intro k
  induction k with
  | zero => intro _ i hi; omega
  | succ k ih =>
    intro hk i hi
    have e1 : lastAt es (k + 1) = (es.getD k default).ck := by simp [lastAt]
    rw [e1]
    by_cases hik : i = k
    · subst hik; exact Nat.le_refl _
    · have h1 := ih (by omega) i (by omega)
      have h2 := (okB_at es h k (by omega)).2
      rw [List.getD_eq_getElem?_getD (i := k), List.getElem?_eq_getElem (by omega)]
      exact Nat.le_of_lt (Nat.lt_of_le_of_lt h1 h2)
theorem all_iff_last (es : List En) (h : Go.Proofs.Ytbeahhijmgkfhaa.okB es = true) (ck : Nat) : (∀ e ∈ es, e.ck ≤ ck) ↔ lastCk es ≤ ck := by
  constructor
  · intro h1
    unfold lastCk lastAt
    split
    · omega
    · rename_i hn
      rw [List.getD_eq_getElem?_getD, List.getElem?_eq_getElem (by omega)]
      exact h1 _ (List.getElem_mem _)
  · intro h1 e he
    obtain ⟨i, hi, rfl⟩ := List.getElem_of_mem he
    have := all_last es h es.length (Nat.le_refl _) i hi
    rw [List.getD_eq_getElem?_getD, List.getElem?_eq_getElem hi] at this
    exact Nat.le_trans this h1
/-- A free one has nothing but its number, its generation and its change. -/
theorem free_iff (s : Th) (hk : s.kind = 0) : okS s = true ↔ s.ino ≤ 23 ∧ s.links = 0 ∧ s.mode = 0 ∧ s.cookie = 0 ∧ s.verf = 0 ∧ s.dt = [] := by
  simp only [okS, Th.okB, Bool.and_eq_true, if_pos hk, decide_eq_true_eq, beq_iff_eq, List.length_eq_zero_iff]
  constructor
  · rintro ⟨⟨⟨h1, _⟩, _⟩, ⟨⟨⟨h2, h3⟩, h4⟩, h5⟩, h6⟩
    exact ⟨h1, h2, h3, h4, h5, h6⟩
  · rintro ⟨h1, h2, h3, h4, h5, h6⟩
    exact ⟨⟨⟨h1, by omega⟩, by rw [h6]; decide⟩, ⟨⟨⟨h2, h3⟩, h4⟩, h5⟩, h6⟩
/-- Another one has a link. -/
theorem used_iff (s : Th) (hk : s.kind ≠ 0) (h2 : s.kind ≠ 2) : okS s = true ↔ s.ino ≤ 23 ∧ s.kind ≤ 3 ∧ s.dt.length ≤ 768 ∧ 1 ≤ s.links := by
  simp only [okS, Th.okB, Bool.and_eq_true, if_neg hk, if_neg h2, decide_eq_true_eq, and_true, and_assoc]
  constructor
  · rintro ⟨h1, h2, h3, h4⟩; exact ⟨h1, h2, h3, by omega⟩
  · rintro ⟨h1, h2, h3, h4⟩; exact ⟨h1, h2, h3, by omega⟩
theorem dir_iff (s : Th) (hk : s.kind = 2) : okS s = true ↔ s.ino ≤ 23 ∧ s.dt.length ≤ 768 ∧ 1 ≤ s.links ∧ dirB s.dt s.cookie = true := by
  simp only [okS, Th.okB, Bool.and_eq_true, if_neg (show ¬ s.kind = 0 by omega), if_pos hk, decide_eq_true_eq, and_assoc]
  constructor
  · rintro ⟨h1, _, h3, h4, h5⟩; exact ⟨h1, h3, by omega, h5⟩
  · rintro ⟨h1, h3, h4, h5⟩; exact ⟨h1, by omega, h3, by omega, h5⟩
end Sl
end Go.Proofs.Ytbeahhijmgkfhaa
