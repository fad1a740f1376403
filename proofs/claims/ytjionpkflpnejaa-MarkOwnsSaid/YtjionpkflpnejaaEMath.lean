
/-
  Entries, plain: which names and which entries may be, their bytes, and what bytes are of them (layer 8). Nothing of the program is named here.
-/
import Derived.Test.YtjionpkflpnejaaRow4
namespace Go.Proofs.Ytjionpkflpnejaa

/-- An entry. -/
structure En where
  (ck ino gen : Nat)
  nm : List UInt8
  deriving DecidableEq, Inhabited

namespace En
/-- All numbers go into their fields. -/
structure Wide (x : En) : Prop where
  c : x.ck < 18446744073709551616
  i : x.ino < 4294967296
  g : x.gen < 4294967296
end En

/-- May these bytes be a name? -/
def nameOk (l : List UInt8) : Bool := decide (1 ≤ l.length) && decide (l.length ≤ 24) && !(l == [46]) && !(l == [46, 46]) && l.all fun b => !(b == 0) && !(b == 47)
def nameE (l : List UInt8) : Int := if nameOk l then 0 else 67
/-- The cookie ahead of place k. -/
def lastAt (es : List En) (k : Nat) : Nat := if k = 0 then 0 else (es.getD (k - 1) default).ck
def stepOk (es : List En) (k : Nat) : Bool := nameOk (es.getD k default).nm && decide (lastAt es k < (es.getD k default).ck)
def okB (es : List En) : Bool := (List.range es.length).all (stepOk es) && decide ((es.map En.nm).Nodup)
def chkE (es : List En) : Int := if okB es then 0 else 11
/-- The first place of a name, or -1. -/
def fnd (es : List En) (nm : List UInt8) : Int := if es.findIdx (fun e => e.nm == nm) < es.length then (es.findIdx (fun e => e.nm == nm) : Int) else -1
/-- The cookie of the last one. -/
def lastCk (es : List En) : Nat := lastAt es es.length
/-- One more. -/
def addE (es : List En) (e : En) : Int := if nameOk e.nm = false then 67 else if 0 ≤ fnd es e.nm then 61 else if e.ck ≤ lastCk es then 70 else 0
def addL (es : List En) (e : En) : List En := if addE es e = 0 then es ++ [e] else []
def remE (es : List En) (nm : List UInt8) : Int := if fnd es nm < 0 then 60 else 0
def remL (es : List En) (nm : List UInt8) : List En := if fnd es nm < 0 then [] else es.take (fnd es nm).toNat ++ es.drop ((fnd es nm).toNat + 1)
/-- The first place of a cookie that is greater. -/
def frm (es : List En) (c : Nat) : Nat := es.findIdx (fun e => decide (c < e.ck))
def aftL (es : List En) (c : Nat) (most : Int) : List En := (es.drop (frm es c)).take most.toNat
def aftB (es : List En) (c : Nat) (most : Int) : Bool := decide ((es.drop (frm es c)).length ≤ most.toNat)

/-- The bytes of one entry, .. -/
def enc1 (e : En) : List UInt8 := be 8 e.ck ++ be 4 e.ino ++ be 4 e.gen ++ opq e.nm
/-- .. of all of them. -/
def encs (es : List En) : List UInt8 := es.flatMap enc1
def putE (es : List En) : List UInt8 := if okB es then encs es else []

/-- What is read of one entry: what is left behind it, and the entry. -/
def r1 (l : List UInt8) := rdN 8 (l, 0)
def r2 (l : List UInt8) := rdN 4 (r1 l).1
def r3 (l : List UInt8) := rdN 4 (r2 l).1
def r4 (l : List UInt8) := rdO 24 (r3 l).1
def one (l : List UInt8) : En := ⟨(r1 l).2, (r2 l).2, (r3 l).2, (r4 l).2⟩
/-- Behind k entries: what is left, the error, the entries. -/
def reads : Nat → List UInt8 → List UInt8 × Int × List En
  | 0, l => (l, 0, [])
  | k + 1, l => if (reads k l).2.1 ≠ 0 ∨ (reads k l).1 = [] then reads k l else ((r4 (reads k l).1).1.1, (r4 (reads k l).1).1.2, (reads k l).2.2 ++ [one (reads k l).1])
/-- All that is read. -/
def all (l : List UInt8) := reads l.length l
def errE (l : List UInt8) : Int := if (all l).2.1 ≠ 0 then (all l).2.1 else chkE (all l).2.2
def gotE (l : List UInt8) : List En := if errE l = 0 then (all l).2.2 else []

/-! What is read and put. -/
theorem rdN_back (n : Nat) (s : St) (h : (rdN n s).1.2 = 0) : s.2 = 0 ∧ s.1 = be n (rdN n s).2 ++ (rdN n s).1.1 ∧ (rdN n s).2 < 256 ^ n := by
  obtain ⟨l, e⟩ := s
  unfold rdN at h ⊢
  simp only at h ⊢
  split
  · rename_i h1
    rw [if_pos h1] at h
    exact absurd h h1
  · rename_i h1
    rw [if_neg h1] at h
    split
    · rename_i h2
      rw [if_pos h2] at h
      simp at h
    · rename_i h2
      have h3 : (l.take n).length = n := by rw [List.length_take]; omega
      refine ⟨Decidable.not_not.1 h1, ?_, ?_⟩
      · simp only
        have := be_num (l.take n)
        rw [h3] at this
        rw [this, List.take_append_drop]
      · simp only
        have := num_lt (l.take n)
        rwa [h3] at this
theorem rdN_lt (n : Nat) (s : St) : (rdN n s).2 < 256 ^ n := by
  unfold rdN
  split
  · exact Nat.pow_pos (by omega)
  · split
    · exact Nat.pow_pos (by omega)
    · simp only
      have h1 := num_lt (s.1.take n)
      have h2 : (s.1.take n).length ≤ n := by rw [List.length_take]; omega
      exact Nat.lt_of_lt_of_le h1 (Nat.pow_le_pow_right (by omega) h2)
theorem one_wide (l : List UInt8) : (one l).Wide := ⟨rdN_lt 8 _, rdN_lt 4 _, rdN_lt 4 _⟩
theorem rdO_err2 (m : Int) (s : St) (h : (rdO m s).1.2 = 0) : s.2 = 0 := by
  unfold rdO at h
  by_cases h1 : (rdN 4 s).1.2 = 0
  · exact (rdN_back 4 s h1).1
  · rw [if_pos h1] at h
    exact absurd h h1
/-- What is read without an error is just what is put. -/
theorem one_back (l : List UInt8) (h : (r4 l).1.2 = 0) : l = enc1 (one l) ++ (r4 l).1.1 := by
  have h3 : (r3 l).1.2 = 0 := rdO_err2 24 _ h
  obtain ⟨h2, b3, _⟩ := rdN_back 4 _ h3
  obtain ⟨h1, b2, _⟩ := rdN_back 4 _ h2
  obtain ⟨_, b1, _⟩ := rdN_back 8 (l, 0) h1
  have b4 : (r3 l).1.1 = opq (r4 l).2 ++ (r4 l).1.1 := by
    have e : (r3 l).1 = ((r3 l).1.1, 0) := by rw [← h3]
    have := rdO_one 24 (r3 l).1.1 (by rw [← e]; exact h)
    rwa [← e] at this
  have c3 : (r2 l).1.1 = be 4 (r3 l).2 ++ (r3 l).1.1 := b3
  have c2 : (r1 l).1.1 = be 4 (r2 l).2 ++ (r2 l).1.1 := b2
  have c1 : l = be 8 (r1 l).2 ++ (r1 l).1.1 := b1
  conv => lhs; rw [c1, c2, c3, b4]
  simp [enc1, one]
theorem opq_pos (b : List UInt8) : 4 ≤ (opq b).length := by rw [opq_length]; omega
theorem enc1_length (e : En) : (enc1 e).length = 20 + e.nm.length + pad e.nm.length := by simp [enc1, be_length, opq_length]; omega
theorem reads_err (k : Nat) (l : List UInt8) (h : (reads k l).2.1 ≠ 0 ∨ (reads k l).1 = []) : reads (k + 1) l = reads k l := if_pos h
theorem reads_more (k : Nat) (l : List UInt8) (h : (reads k l).2.1 = 0) (h2 : (reads k l).1 ≠ []) : reads (k + 1) l = ((r4 (reads k l).1).1.1, (r4 (reads k l).1).1.2, (reads k l).2.2 ++ [one (reads k l).1]) := by
  show (if _ then _ else _) = _
  rw [if_neg]
  rintro (h3 | h3)
  · exact h3 h
  · exact h2 h3
theorem reads_stop (k : Nat) (l : List UInt8) (h : (reads k l).2.1 ≠ 0 ∨ (reads k l).1 = []) : ∀ m, reads (k + m) l = reads k l
  | 0 => rfl
  | m + 1 => by
    have ih := reads_stop k l h m
    rw [← Nat.add_assoc, reads_err (k + m) l (by rw [ih]; exact h), ih]
/-- Behind k entries without an error: the bytes are those of the entries and what is left. -/
theorem reads_back (l : List UInt8) : ∀ k, (reads k l).2.1 = 0 → l = encs (reads k l).2.2 ++ (reads k l).1
  | 0, _ => rfl
  | k + 1, h => by
    by_cases h1 : (reads k l).2.1 ≠ 0 ∨ (reads k l).1 = []
    · rw [reads_err k l h1] at h ⊢
      exact reads_back l k h
    · have h2 : (reads k l).2.1 = 0 := Decidable.not_not.1 fun e => h1 (.inl e)
      have h3 : (reads k l).1 ≠ [] := fun e => h1 (.inr e)
      have ih := reads_back l k h2
      rw [reads_more k l h2 h3] at h ⊢
      have := one_back _ h
      simp only [encs, List.flatMap_append, List.flatMap_cons, List.flatMap_nil, List.append_nil, List.append_assoc]
      rw [← this]
      exact ih
theorem reads_len (l : List UInt8) : ∀ k, (reads k l).2.1 = 0 → (reads k l).1 ≠ [] → (reads k l).1.length + 20 * k ≤ l.length ∧ (reads k l).2.2.length = k
  | 0, _, _ => ⟨by show l.length + 20 * 0 ≤ _; omega, rfl⟩
  | k + 1, h, hn => by
    by_cases h1 : (reads k l).2.1 ≠ 0 ∨ (reads k l).1 = []
    · rw [reads_err k l h1] at h hn
      exact absurd h1 (by rintro (h2 | h2); exact h2 h; exact hn h2)
    · have h2 : (reads k l).2.1 = 0 := Decidable.not_not.1 fun e => h1 (.inl e)
      have h3 : (reads k l).1 ≠ [] := fun e => h1 (.inr e)
      obtain ⟨i1, i2⟩ := reads_len l k h2 h3
      rw [reads_more k l h2 h3] at h hn ⊢
      have := congrArg List.length (one_back _ h)
      rw [List.length_append, enc1_length] at this
      simp only [List.length_append, List.length_cons, List.length_nil]
      omega
/-- As many rounds as there are bytes are enough. -/
theorem reads_end (l : List UInt8) : (all l).2.1 ≠ 0 ∨ (all l).1 = [] := by
  by_cases h : (all l).2.1 = 0
  · right
    by_cases h2 : (all l).1 = []
    · exact h2
    · have := (reads_len l l.length h h2).1
      have h3 : 0 < (all l).1.length := List.length_pos_iff.2 h2
      unfold all at h3
      have : l.length = 0 := by omega
      have hl : l = [] := List.eq_nil_of_length_eq_zero this
      subst hl
      exact absurd rfl h2
  · exact .inl h
theorem all_of (k : Nat) (l : List UInt8) (hk : k ≤ l.length) (h : (reads k l).2.1 ≠ 0 ∨ (reads k l).1 = []) : all l = reads k l := by
  have e : l.length = k + (l.length - k) := by omega
  unfold all
  rw [e]
  exact reads_stop k l h _
theorem reads_wide (l : List UInt8) : ∀ k, ∀ e ∈ (reads k l).2.2, e.Wide
  | 0, e, h => by cases h
  | k + 1, e, h => by
    by_cases h1 : (reads k l).2.1 ≠ 0 ∨ (reads k l).1 = []
    · rw [reads_err k l h1] at h
      exact reads_wide l k e h
    · have h2 : (reads k l).2.1 = 0 := Decidable.not_not.1 fun e => h1 (.inl e)
      have h3 : (reads k l).1 ≠ [] := fun e => h1 (.inr e)
      rw [reads_more k l h2 h3] at h
      rcases List.mem_append.1 h with h | h
      · exact reads_wide l k e h
      · rw [List.mem_singleton.1 h]
        exact one_wide _
theorem gotE_wide (l : List UInt8) : ∀ e ∈ gotE l, e.Wide := by
  unfold gotE
  split
  · exact reads_wide l l.length
  · intro e h; cases h
theorem errE_cases (l : List UInt8) (h : errE l = 0) : (all l).2.1 = 0 ∧ okB (all l).2.2 = true ∧ gotE l = (all l).2.2 := by
  have hg : gotE l = (all l).2.2 := if_pos h
  unfold errE at h
  split at h
  · rename_i h1
    exact absurd h h1
  · rename_i h1
    refine ⟨Decidable.not_not.1 h1, ?_, hg⟩
    unfold chkE at h
    split at h
    · rename_i h2
      exact h2
    · cases h
/-- What was got is put as the same bytes. -/
theorem got_back (l : List UInt8) (h : errE l = 0) : okB (gotE l) = true ∧ putE (gotE l) = l := by
  obtain ⟨h1, h2, h3⟩ := errE_cases l h
  rw [h3]
  refine ⟨h2, ?_⟩
  unfold putE
  rw [if_pos h2]
  have hb := reads_back l l.length h1
  rcases reads_end l with h4 | h4
  · exact absurd h1 h4
  · have e : l = encs (all l).2.2 ++ (all l).1 := hb
    rw [h4, List.append_nil] at e
    exact e.symm
/-- What is put is read as it was. -/
theorem one_enc (e : En) (t : List UInt8) (hw : e.Wide) (hn : e.nm.length ≤ 24) : one (enc1 e ++ t) = e ∧ (r4 (enc1 e ++ t)).1 = (t, 0) := by
  have e1 : r1 (enc1 e ++ t) = ((be 4 e.ino ++ (be 4 e.gen ++ (opq e.nm ++ t)), 0), e.ck) := by
    unfold r1 enc1
    rw [List.append_assoc, List.append_assoc, List.append_assoc]
    exact rdN_be 8 _ _ hw.c
  have e2 : r2 (enc1 e ++ t) = ((be 4 e.gen ++ (opq e.nm ++ t), 0), e.ino) := by
    unfold r2
    rw [e1]
    exact rdN_be 4 _ _ hw.i
  have e3 : r3 (enc1 e ++ t) = ((opq e.nm ++ t, 0), e.gen) := by
    unfold r3
    rw [e2]
    exact rdN_be 4 _ _ hw.g
  have e4 : r4 (enc1 e ++ t) = ((t, 0), e.nm) := by
    unfold r4
    rw [e3]
    exact rdO_opq 24 _ _ (by omega) (by omega)
  exact ⟨by unfold one; rw [e1, e2, e3, e4], by rw [e4]⟩
theorem encs_cons (e : En) (r : List En) : encs (e :: r) = enc1 e ++ encs r := rfl
theorem reads_encs (es : List En) (hw : ∀ e ∈ es, e.Wide) (hn : ∀ e ∈ es, e.nm.length ≤ 24) : ∀ k, k ≤ es.length → reads k (encs es) = (encs (es.drop k), 0, es.take k)
  | 0, _ => rfl
  | k + 1, h => by
    have ih := reads_encs es hw hn k (by omega)
    have hk : k < es.length := by omega
    have hd : es.drop k = es[k] :: es.drop (k + 1) := List.drop_eq_getElem_cons hk
    have hr : encs (es.drop k) = enc1 es[k] ++ encs (es.drop (k + 1)) := by rw [hd]; rfl
    obtain ⟨h1, h2⟩ := one_enc es[k] (encs (es.drop (k + 1))) (hw _ (List.getElem_mem hk)) (hn _ (List.getElem_mem hk))
    rw [reads_more k _ (by rw [ih]) (by
      rw [ih]
      show encs (es.drop k) ≠ []
      intro e
      rw [hr] at e
      have := congrArg List.length e
      rw [List.length_append, enc1_length] at this
      simp at this)]
    rw [ih]
    simp only
    rw [hr, h1, h2, List.take_succ_eq_append_getElem hk]
theorem okB_at (es : List En) (h : okB es = true) (k : Nat) (hk : k < es.length) : nameOk es[k].nm = true ∧ lastAt es k < es[k].ck := by
  unfold okB at h
  rw [Bool.and_eq_true, List.all_eq_true] at h
  have := h.1 k (List.mem_range.2 hk)
  unfold stepOk at this
  rw [Bool.and_eq_true, decide_eq_true_eq, List.getD_eq_getElem?_getD, List.getElem?_eq_getElem hk] at this
  exact this
theorem nameOk_len (l : List UInt8) (h : nameOk l = true) : 1 ≤ l.length ∧ l.length ≤ 24 := by
  simp only [nameOk, Bool.and_eq_true, decide_eq_true_eq] at h
  exact ⟨h.1.1.1.1, h.1.1.1.2⟩
theorem okB_names (es : List En) (h : okB es = true) : ∀ e ∈ es, e.nm.length ≤ 24 := by
  intro e he
  obtain ⟨k, hk, rfl⟩ := List.getElem_of_mem he
  exact (nameOk_len _ (okB_at es h k hk).1).2
/-- What was put is got as it was. -/
theorem got_put (es : List En) (hw : ∀ e ∈ es, e.Wide) (h : okB es = true) : errE (putE es) = 0 ∧ gotE (putE es) = es := by
  have hp : putE es = encs es := if_pos h
  rw [hp]
  have hn := okB_names es h
  have hl : es.length ≤ (encs es).length := by
    clear hw h hp hn
    induction es with
    | nil => exact Nat.zero_le _
    | cons e r ih =>
      rw [encs_cons, List.length_append, enc1_length, List.length_cons]
      omega
  have hr := reads_encs es hw hn es.length (Nat.le_refl _)
  rw [List.drop_length, List.take_length] at hr
  have ha : all (encs es) = ([], 0, es) := by
    rw [all_of es.length (encs es) hl (by rw [hr]; exact .inr rfl), hr]
    rfl
  have he : errE (encs es) = 0 := by
    unfold errE
    rw [ha]
    show (if ((0 : Int) ≠ 0) then _ else chkE es) = 0
    rw [if_neg (by simp)]
    exact if_pos h
  refine ⟨he, ?_⟩
  unfold gotE
  rw [if_pos he, ha]
theorem encs_mod (es : List En) : (encs es).length % 4 = 0 := by
  induction es with
  | nil => rfl
  | cons e r ih =>
    rw [encs_cons, List.length_append, enc1_length]
    unfold pad
    omega
end Go.Proofs.Ytjionpkflpnejaa
