
/-
  Plain mathematics of calls and replies: fields one behind the other, what is put of them, what is read (layer 9). No program.
-/
import Derived.Test.YtjionpkflpnejaaEMath
namespace Go.Proofs.Ytjionpkflpnejaa
open Go.RowKit

theorem rdO_most (m : Nat) (s : St) (h : (rdO m s).1.2 = 0) : (rdO m s).2.length ≤ m := by
  unfold rdO at h ⊢
  split at h
  · rename_i h1; exact absurd h h1
  rename_i h1
  rw [if_neg h1]
  split at h
  · cases h
  rename_i h2
  rw [if_neg h2]
  split at h
  · cases h
  rename_i h3
  rw [if_neg h3]
  split at h
  · rename_i h4
    rw [if_pos h4]
    simp only [List.length_take]
    omega
  · cases h

/-- A way to put a thing and to read it. -/
structure Cd (α : Type) where
  enc : α → List UInt8
  rd : St → St × α
  ok : α → Prop
  put : ∀ a t, ok a → rd (enc a ++ t, 0) = ((t, 0), a)
  back : ∀ s, (rd s).1.2 = 0 → s.2 = 0 ∧ s.1 = enc (rd s).2 ++ (rd s).1.1 ∧ ok (rd s).2
  cut : ∀ a j, ok a → j < (enc a).length → (rd ((enc a).take j, 0)).1.2 = 10
  err : ∀ l e, e ≠ 0 → (rd (l, e)).1 = (l, e)

/-- A number of n bytes. -/
def cN (n : Nat) : Cd Nat where
  enc := be n
  rd := rdN n
  ok x := x < 256 ^ n
  put a t h := rdN_be n a t h
  back s h := by
    obtain ⟨h1, h2, h3⟩ := rdN_back n s h
    exact ⟨h1, h2, h3⟩
  cut a j h hj := by
    rw [be_length] at hj
    rw [rdN_short]
    rw [List.length_take, be_length]
    omega
  err l e h := by rw [rdN_err n l e h]
/-- Bytes, so many at most. -/
def cO (m : Nat) (hm : m < 4294967296) : Cd (List UInt8) where
  enc := opq
  rd := rdO m
  ok b := b.length ≤ m
  put b t h := rdO_opq m b t (by omega) (by omega)
  back s h := by
    have h0 : s.2 = 0 := by
      by_cases h0 : s.2 = 0
      · exact h0
      · obtain ⟨l, e⟩ := s
        rw [rdO_err m l e h0] at h
        exact absurd h h0
    obtain ⟨l, e⟩ := s
    dsimp only at h0
    subst h0
    refine ⟨rfl, rdO_one m l h, ?_⟩
    exact rdO_most m (l, 0) h
  cut b j h hj := by
    obtain ⟨l, hl⟩ := rdO_cut m b j hj (by omega) (by omega)
    rw [hl]
  err l e h := by rw [rdO_err m l e h]
/-- A bool. -/
def cB : Cd Bool where
  enc b := be 4 (b01 b)
  rd := rdB
  ok _ := True
  put b t _ := by
    have := rdN_be 4 (b01 b) t (by cases b <;> decide)
    unfold rdB
    rw [this]
    cases b <;> rfl
  back s h := by
    unfold rdB at h ⊢
    split at h
    · cases h
    · rename_i hx
      rw [if_neg hx]
      obtain ⟨h1, h2, _⟩ := rdN_back 4 s h
      refine ⟨h1, ?_, trivial⟩
      generalize (rdN 4 s).2 = x at *
      have hb : b01 (x == 1) = x := by
        have : x = 0 ∨ x = 1 := by omega
        rcases this with rfl | rfl <;> rfl
      rw [hb]
      exact h2
  cut b j _ hj := by
    rw [be_length] at hj
    unfold rdB
    rw [rdN_short 4 _ (by rw [List.length_take, be_length]; omega)]
    rfl
  err l e h := by rw [rdB_err l e h]
/-- One behind the other. -/
def Cd.seq {α β : Type} (A : Cd α) (B : Cd β) : Cd (α × β) where
  enc x := A.enc x.1 ++ B.enc x.2
  rd s := ((B.rd (A.rd s).1).1, ((A.rd s).2, (B.rd (A.rd s).1).2))
  ok x := A.ok x.1 ∧ B.ok x.2
  put x t h := by
    have h1 := A.put x.1 (B.enc x.2 ++ t) h.1
    have h2 := B.put x.2 t h.2
    rw [List.append_assoc, h1]
    simp only [h2]
  back s h := by
    obtain ⟨h1, h2, h3⟩ := B.back (A.rd s).1 h
    obtain ⟨h4, h5, h6⟩ := A.back s h1
    refine ⟨h4, ?_, h6, h3⟩
    simp only
    rw [List.append_assoc, ← h2, ← h5]
  cut x j h hj := by
    rw [List.length_append] at hj
    simp only
    by_cases hl : j < (A.enc x.1).length
    · have h1 := A.cut x.1 j h.1 hl
      rw [List.take_append_of_le_length (by omega)]
      generalize hs : (A.rd ((A.enc x.1).take j, 0)).1 = s at *
      obtain ⟨l, e⟩ := s
      dsimp only at h1
      subst h1
      rw [B.err l 10 (by decide)]
    · rw [List.take_append, List.take_of_length_le (Nat.le_of_not_lt hl), A.put x.1 _ h.1]
      exact B.cut x.2 _ h.2 (by omega)
  err l e h := by
    have h1 := A.err l e h
    simp only [h1]
    exact B.err l e h

section
variable {α : Type} (C : Cd α)
/-- What is read of whole bytes: the error of the end. -/
def Cd.bad (l : List UInt8) : Int := endOf (C.rd (l, 0)).1.1 (C.rd (l, 0)).1.2
theorem Cd.bad_put (a : α) (h : C.ok a) : C.bad (C.enc a) = 0 ∧ (C.rd (C.enc a, 0)).2 = a := by
  have := C.put a [] h
  rw [List.append_nil] at this
  unfold Cd.bad
  rw [this]
  exact ⟨rfl, rfl⟩
theorem Cd.bad_more (a : α) (t : List UInt8) (h : C.ok a) (ht : 0 < t.length) : C.bad (C.enc a ++ t) = 12 := by
  unfold Cd.bad
  rw [C.put a t h]
  exact if_pos ⟨rfl, ht⟩
theorem Cd.bad_cut (a : α) (j : Nat) (h : C.ok a) (hj : j < (C.enc a).length) : C.bad ((C.enc a).take j) = 10 := by
  unfold Cd.bad
  have := C.cut a j h hj
  rw [this]
  exact if_neg (fun h => by cases h.1)
theorem Cd.bad_back (l : List UInt8) (h : C.bad l = 0) : l = C.enc (C.rd (l, 0)).2 ∧ C.ok (C.rd (l, 0)).2 := by
  unfold Cd.bad endOf at h
  split at h
  · cases h
  · rename_i hx
    obtain ⟨_, h2, h3⟩ := C.back (l, 0) h
    have h0 : (C.rd (l, 0)).1.1 = [] := by
      have : ¬ 0 < (C.rd (l, 0)).1.1.length := fun hp => hx ⟨h, hp⟩
      exact List.eq_nil_of_length_eq_zero (by omega)
    rw [h0, List.append_nil] at h2
    exact ⟨h2, h3⟩
end

/-! ### Calls -/
structure Cl where
  cli : Nat
  xid : Nat
  op : Nat
  ati : Nat
  atg : Nat
  nm : List UInt8
  toi : Nat
  tog : Nat
  tn : List UInt8
  off : Nat
  vf : Nat
  cnt : Nat
  md : Nat
  dt : List UInt8
  deriving DecidableEq
structure Cl.Wide (c : Cl) : Prop where
  cli : c.cli < 4294967296
  xid : c.xid < 4294967296
  op : c.op < 4294967296
  ati : c.ati < 4294967296
  atg : c.atg < 4294967296
  toi : c.toi < 4294967296
  tog : c.tog < 4294967296
  off : c.off < 18446744073709551616
  vf : c.vf < 18446744073709551616
  cnt : c.cnt < 4294967296
  md : c.md < 4294967296
def c4 : Cd Nat := cN 4
def c8 : Cd Nat := cN 8
def cH : Cd (Nat × Nat) := c4.seq c4
def Cl.zero : Cl := ⟨0, 0, 0, 0, 0, [], 0, 0, [], 0, 0, 0, 0, []⟩
abbrev Ct := Nat × Nat × Nat × (Nat × Nat) × List UInt8 × (Nat × Nat) × List UInt8 × Nat × Nat × Nat × Nat × List UInt8
def callC : Cd Ct := c4.seq (c4.seq (c4.seq (cH.seq ((cO 64 (by decide)).seq (cH.seq ((cO 64 (by decide)).seq (c8.seq (c8.seq (c4.seq (c4.seq (cO 1024 (by decide))))))))))))
def Cl.tup (c : Cl) : Ct := (c.cli, c.xid, c.op, (c.ati, c.atg), c.nm, (c.toi, c.tog), c.tn, c.off, c.vf, c.cnt, c.md, c.dt)
def Cl.of (t : Ct) : Cl := ⟨t.1, t.2.1, t.2.2.1, t.2.2.2.1.1, t.2.2.2.1.2, t.2.2.2.2.1, t.2.2.2.2.2.1.1, t.2.2.2.2.2.1.2, t.2.2.2.2.2.2.1, t.2.2.2.2.2.2.2.1, t.2.2.2.2.2.2.2.2.1, t.2.2.2.2.2.2.2.2.2.1, t.2.2.2.2.2.2.2.2.2.2.1, t.2.2.2.2.2.2.2.2.2.2.2⟩
theorem Cl.of_tup (c : Cl) : Cl.of c.tup = c := rfl
theorem Cl.tup_of (t : Ct) : (Cl.of t).tup = t := rfl
def opOk (op : Nat) : Bool := decide (1 ≤ op) && decide (op ≤ 16)
def Cl.okB (c : Cl) : Bool := opOk c.op && decide (c.nm.length ≤ 64) && decide (c.tn.length ≤ 64) && decide (c.dt.length ≤ 1024)
def Cl.enc (c : Cl) : List UInt8 := callC.enc c.tup
def Cl.errP (c : Cl) : Int := if c.okB then 0 else 1
def Cl.put (c : Cl) : List UInt8 := if c.okB then c.enc else []
def Cl.rd (l : List UInt8) : Cl := Cl.of (callC.rd (l, 0)).2
def Cl.err (l : List UInt8) : Int := if callC.bad l ≠ 0 then callC.bad l else if opOk (Cl.rd l).op then 0 else 11
def Cl.got (l : List UInt8) : Cl := if Cl.err l = 0 then Cl.rd l else Cl.zero
theorem Cl.enc_eq (c : Cl) : c.enc = be 4 c.cli ++ (be 4 c.xid ++ (be 4 c.op ++ ((be 4 c.ati ++ be 4 c.atg) ++ (opq c.nm ++ ((be 4 c.toi ++ be 4 c.tog) ++ (opq c.tn ++ (be 8 c.off ++ (be 8 c.vf ++ (be 4 c.cnt ++ (be 4 c.md ++ opq c.dt)))))))))) := rfl
theorem Cl.ok_iff (c : Cl) : callC.ok c.tup ↔ c.Wide ∧ c.nm.length ≤ 64 ∧ c.tn.length ≤ 64 ∧ c.dt.length ≤ 1024 := by
  constructor
  · rintro ⟨h1, h2, h3, ⟨h4, h5⟩, h6, ⟨h7, h8⟩, h9, h10, h11, h12, h13, h14⟩
    exact ⟨⟨h1, h2, h3, h4, h5, h7, h8, h10, h11, h12, h13⟩, h6, h9, h14⟩
  · rintro ⟨⟨h1, h2, h3, h4, h5, h7, h8, h10, h11, h12, h13⟩, h6, h9, h14⟩
    exact ⟨h1, h2, h3, ⟨h4, h5⟩, h6, ⟨h7, h8⟩, h9, h10, h11, h12, h13, h14⟩
theorem Cl.okB_iff (c : Cl) : c.okB = true ↔ opOk c.op = true ∧ c.nm.length ≤ 64 ∧ c.tn.length ≤ 64 ∧ c.dt.length ≤ 1024 := by
  simp [Cl.okB, Bool.and_eq_true, and_assoc]
theorem Cl.ok_of (c : Cl) (hw : c.Wide) (h : c.okB = true) : callC.ok c.tup := (Cl.ok_iff c).2 ⟨hw, ((Cl.okB_iff c).1 h).2⟩
theorem Cl.got_put (c : Cl) (hw : c.Wide) (h : c.okB = true) : Cl.err c.enc = 0 ∧ Cl.got c.enc = c := by
  obtain ⟨h1, h2⟩ := callC.bad_put c.tup (c.ok_of hw h)
  have h3 : Cl.rd c.enc = c := by
    show Cl.of (callC.rd (callC.enc c.tup, 0)).2 = c
    rw [h2, Cl.of_tup]
  have h4 : Cl.err c.enc = 0 := by
    unfold Cl.err
    rw [show callC.bad c.enc = 0 from h1, if_neg (by simp), h3, if_pos ((Cl.okB_iff c).1 h).1]
  exact ⟨h4, by unfold Cl.got; rw [if_pos h4, h3]⟩
theorem Cl.err_cases (l : List UInt8) (h : Cl.err l = 0) : callC.bad l = 0 ∧ opOk (Cl.rd l).op = true ∧ Cl.got l = Cl.rd l := by
  have hg : Cl.got l = Cl.rd l := if_pos h
  unfold Cl.err at h
  split at h
  · rename_i h1; exact absurd h h1
  · rename_i h1
    split at h
    · rename_i h2; exact ⟨by simpa using h1, h2, hg⟩
    · cases h
theorem Cl.got_back (l : List UInt8) (h : Cl.err l = 0) : (Cl.got l).okB = true ∧ (Cl.got l).enc = l ∧ (Cl.got l).Wide := by
  obtain ⟨h1, h2, h3⟩ := Cl.err_cases l h
  obtain ⟨h4, h5⟩ := callC.bad_back l h1
  have h6 := (Cl.ok_iff (Cl.rd l)).1 h5
  rw [h3]
  exact ⟨(Cl.okB_iff _).2 ⟨h2, h6.2⟩, h4.symm, h6.1⟩
theorem Cl.err_more (c : Cl) (t : List UInt8) (hw : c.Wide) (h : c.okB = true) (ht : 0 < t.length) : Cl.err (c.enc ++ t) = 12 := by
  have := callC.bad_more c.tup t (c.ok_of hw h) ht
  unfold Cl.err
  rw [show callC.bad (c.enc ++ t) = 12 from this]
  rfl
theorem Cl.err_cut (c : Cl) (j : Nat) (hw : c.Wide) (h : c.okB = true) (hj : j < c.enc.length) : Cl.err (c.enc.take j) = 10 := by
  have := callC.bad_cut c.tup j (c.ok_of hw h) hj
  unfold Cl.err
  rw [show callC.bad (c.enc.take j) = 10 from this]
  rfl
theorem Cl.enc_inj (a b : Cl) (ha : a.Wide) (hb : b.Wide) (h1 : a.okB = true) (h2 : b.okB = true) (h : a.enc = b.enc) : a = b := by
  have := (Cl.got_put a ha h1).2
  rw [h, (Cl.got_put b hb h2).2] at this
  exact this.symm
theorem opq_mod (b : List UInt8) : (opq b).length % 4 = 0 := by rw [opq_length]; unfold pad; omega
theorem Cl.enc_mod (c : Cl) : c.enc.length % 4 = 0 := by
  rw [Cl.enc_eq]
  have h1 := opq_mod c.nm
  have h2 := opq_mod c.tn
  have h3 := opq_mod c.dt
  simp only [List.length_append, be_length]
  omega
theorem Cl.enc_len (c : Cl) (h : c.okB = true) : 64 ≤ c.enc.length ∧ c.enc.length ≤ 2000 := by
  obtain ⟨_, h1, h2, h3⟩ := (Cl.okB_iff c).1 h
  rw [Cl.enc_eq]
  have p1 := pad_lt c.nm.length
  have p2 := pad_lt c.tn.length
  have p3 := pad_lt c.dt.length
  simp only [List.length_append, be_length, opq_length]
  omega

/-! ### Replies -/
structure Rp where
  cli : Nat
  xid : Nat
  st : Int
  ati : Nat
  atg : Nat
  kd : Nat
  md : Nat
  ln : Nat
  sz : Nat
  ch : Nat
  dt : List UInt8
  es : List En
  eof : Bool
  vf : Nat
  fr : Nat
  deriving DecidableEq
structure Rp.Wide (r : Rp) : Prop where
  cli : r.cli < 4294967296
  xid : r.xid < 4294967296
  ati : r.ati < 4294967296
  atg : r.atg < 4294967296
  kd : r.kd < 4294967296
  md : r.md < 4294967296
  ln : r.ln < 4294967296
  sz : r.sz < 4294967296
  ch : r.ch < 18446744073709551616
  vf : r.vf < 18446744073709551616
  fr : r.fr < 4294967296
  es : ∀ e ∈ r.es, e.Wide
def cA : Cd (Nat × Nat × Nat × Nat × Nat) := c4.seq (c4.seq (c4.seq (c4.seq c8)))
abbrev Rt := Nat × Nat × Nat × (Nat × Nat) × (Nat × Nat × Nat × Nat × Nat) × List UInt8 × List UInt8 × Bool × Nat × Nat
def replyC : Cd Rt := c4.seq (c4.seq (c4.seq (cH.seq (cA.seq ((cO 1024 (by decide)).seq ((cO 2048 (by decide)).seq (cB.seq (c8.seq c4))))))))
def Rp.tup (r : Rp) : Rt := (r.cli, r.xid, r.st.toNat, (r.ati, r.atg), (r.kd, r.md, r.ln, r.sz, r.ch), r.dt, encs r.es, r.eof, r.vf, r.fr)
def Rp.of (t : Rt) (es : List En) : Rp := ⟨t.1, t.2.1, (t.2.2.1 : Int), t.2.2.2.1.1, t.2.2.2.1.2, t.2.2.2.2.1.1, t.2.2.2.2.1.2.1, t.2.2.2.2.1.2.2.1, t.2.2.2.2.1.2.2.2.1, t.2.2.2.2.1.2.2.2.2, t.2.2.2.2.2.1, es, t.2.2.2.2.2.2.2.1, t.2.2.2.2.2.2.2.2.1, t.2.2.2.2.2.2.2.2.2⟩
def Rt.row (t : Rt) : List UInt8 := t.2.2.2.2.2.2.1
def Rp.zero : Rp := ⟨0, 0, 0, 0, 0, 0, 0, 0, 0, 0, [], [], false, 0, 0⟩
def stOk (z : Int) : Bool := decide (z = 0) || decide (60 ≤ z) && decide (z ≤ 71)
def Rp.okA (r : Rp) : Bool := stOk r.st && decide (r.dt.length ≤ 1024) && decide (r.es.length ≤ 24)
def Rp.okB (r : Rp) : Bool := r.okA && Go.Proofs.Ytjionpkflpnejaa.okB r.es
def Rp.enc (r : Rp) : List UInt8 := replyC.enc r.tup
def Rp.errP (r : Rp) : Int := if r.okA then chkE r.es else 1
def Rp.put (r : Rp) : List UInt8 := if r.okB then r.enc else []
def Rp.rd (l : List UInt8) : Rt := (replyC.rd (l, 0)).2
def Rp.err (l : List UInt8) : Int := if replyC.bad l ≠ 0 then replyC.bad l else if errE (Rp.rd l).row ≠ 0 then errE (Rp.rd l).row else if stOk ((Rp.rd l).2.2.1 : Int) && decide ((gotE (Rp.rd l).row).length ≤ 24) then 0 else 11
def Rp.got (l : List UInt8) : Rp := if Rp.err l = 0 then Rp.of (Rp.rd l) (gotE (Rp.rd l).row) else Rp.zero
theorem Rp.enc_eq (r : Rp) : r.enc = be 4 r.cli ++ (be 4 r.xid ++ (be 4 r.st.toNat ++ ((be 4 r.ati ++ be 4 r.atg) ++ ((be 4 r.kd ++ (be 4 r.md ++ (be 4 r.ln ++ (be 4 r.sz ++ be 8 r.ch)))) ++ (opq r.dt ++ (opq (encs r.es) ++ (be 4 (b01 r.eof) ++ (be 8 r.vf ++ be 4 r.fr)))))))) := rfl
theorem stOk_iff (z : Int) : stOk z = true ↔ z = 0 ∨ 60 ≤ z ∧ z ≤ 71 := by simp [stOk]
theorem Rp.okA_iff (r : Rp) : r.okA = true ↔ stOk r.st = true ∧ r.dt.length ≤ 1024 ∧ r.es.length ≤ 24 := by
  simp [Rp.okA, and_assoc]
theorem Rp.okB_iff (r : Rp) : r.okB = true ↔ r.okA = true ∧ Go.Proofs.Ytjionpkflpnejaa.okB r.es = true := by simp [Rp.okB]
theorem encs_len (es : List En) (h : ∀ e ∈ es, e.nm.length ≤ 24) : (encs es).length ≤ 44 * es.length := by
  induction es with
  | nil => exact Nat.zero_le _
  | cons e r ih =>
    rw [encs_cons, List.length_append, enc1_length, List.length_cons]
    have h1 := ih fun x hx => h x (List.mem_cons_of_mem _ hx)
    have h2 := h e List.mem_cons_self
    unfold pad
    omega
theorem Rp.ok_of (r : Rp) (hw : r.Wide) (h : r.okB = true) : replyC.ok r.tup := by
  obtain ⟨h1, h2⟩ := r.okB_iff.1 h
  obtain ⟨h3, h4, h5⟩ := r.okA_iff.1 h1
  have h6 := encs_len r.es (okB_names _ h2)
  have h7 := (stOk_iff _).1 h3
  have h8 : r.st.toNat < 4294967296 := by omega
  exact ⟨hw.cli, hw.xid, h8, ⟨hw.ati, hw.atg⟩, ⟨hw.kd, hw.md, hw.ln, hw.sz, hw.ch⟩, h4, by show (encs r.es).length ≤ 2048; omega, trivial, hw.vf, hw.fr⟩
theorem Rp.enc_len (r : Rp) (h : r.okB = true) : 64 ≤ r.enc.length ∧ r.enc.length ≤ 4000 := by
  obtain ⟨h1, h2⟩ := r.okB_iff.1 h
  obtain ⟨h3, h4, h5⟩ := r.okA_iff.1 h1
  have h6 := encs_len r.es (okB_names _ h2)
  rw [Rp.enc_eq]
  have p1 := pad_lt r.dt.length
  have p2 := pad_lt (encs r.es).length
  simp only [List.length_append, be_length, opq_length]
  omega
theorem Rp.got_put (r : Rp) (hw : r.Wide) (h : r.okB = true) : Rp.err r.enc = 0 ∧ Rp.got r.enc = r := by
  obtain ⟨g1, g2⟩ := r.okB_iff.1 h
  obtain ⟨g3, g4, g5⟩ := r.okA_iff.1 g1
  obtain ⟨h1, h2⟩ := replyC.bad_put r.tup (r.ok_of hw h)
  have h3 : Rp.rd r.enc = r.tup := h2
  obtain ⟨k1, k2⟩ := Go.Proofs.Ytjionpkflpnejaa.got_put r.es hw.es g2
  have hp : putE r.es = encs r.es := if_pos g2
  rw [hp] at k1 k2
  have h7 := (stOk_iff _).1 g3
  have hs : ((r.st.toNat : Nat) : Int) = r.st := by omega
  have h4 : Rp.err r.enc = 0 := by
    unfold Rp.err
    rw [show replyC.bad r.enc = 0 from h1, if_neg (by simp), h3]
    show (if errE (encs r.es) ≠ 0 then errE (encs r.es) else if stOk ((r.st.toNat : Nat) : Int) && decide ((gotE (encs r.es)).length ≤ 24) then 0 else 11) = 0
    rw [k1, k2, hs, if_neg (by simp), g3, if_pos (by simpa using g5)]
  refine ⟨h4, ?_⟩
  unfold Rp.got
  rw [if_pos h4, h3]
  show Rp.of r.tup (gotE (encs r.es)) = r
  rw [k2]
  show Rp.mk r.cli r.xid ((r.st.toNat : Nat) : Int) r.ati r.atg r.kd r.md r.ln r.sz r.ch r.dt r.es r.eof r.vf r.fr = r
  rw [hs]
theorem Rp.err_cases (l : List UInt8) (h : Rp.err l = 0) : replyC.bad l = 0 ∧ errE (Rp.rd l).row = 0 ∧ stOk ((Rp.rd l).2.2.1 : Int) = true ∧ (gotE (Rp.rd l).row).length ≤ 24 ∧ Rp.got l = Rp.of (Rp.rd l) (gotE (Rp.rd l).row) := by
  have hg : Rp.got l = _ := if_pos h
  unfold Rp.err at h
  split at h
  · rename_i h1; exact absurd h h1
  rename_i h1
  split at h
  · rename_i h2; exact absurd h h2
  rename_i h2
  split at h
  · rename_i h3
    simp only [Bool.and_eq_true, decide_eq_true_eq] at h3
    exact ⟨by simpa using h1, by simpa using h2, h3.1, h3.2, hg⟩
  · cases h
theorem Rp.got_back (l : List UInt8) (h : Rp.err l = 0) : (Rp.got l).okB = true ∧ (Rp.got l).enc = l ∧ (Rp.got l).Wide := by
  obtain ⟨h1, h2, h3, h4, h5⟩ := Rp.err_cases l h
  obtain ⟨h6, h7⟩ := replyC.bad_back l h1
  obtain ⟨k1, k2⟩ := Go.Proofs.Ytjionpkflpnejaa.got_back (Rp.rd l).row h2
  have k3 : encs (gotE (Rp.rd l).row) = (Rp.rd l).row := by
    have hp : putE (gotE (Rp.rd l).row) = encs (gotE (Rp.rd l).row) := if_pos k1
    rw [← hp]; exact k2
  have hw := gotE_wide (Rp.rd l).row
  rw [h5]
  generalize hes : gotE (Rp.rd l).row = es at *
  change replyC.ok (Rp.rd l) at h7
  change l = replyC.enc (Rp.rd l) at h6
  generalize Rp.rd l = t at *
  obtain ⟨b1, b2, b3, ⟨b4, b5⟩, ⟨b6, b7, b8, b9, b10⟩, b11, b12, _, b14, b15⟩ := h7
  have ht : (Rp.of t es).tup = t := by
    show (t.1, t.2.1, (t.2.2.1 : Int).toNat, _, _, _, encs es, _) = t
    rw [k3, Int.toNat_natCast]
    rfl
  refine ⟨(Rp.okB_iff _).2 ⟨(Rp.okA_iff _).2 ⟨h3, b11, h4⟩, k1⟩, ?_, ⟨b1, b2, b4, b5, b6, b7, b8, b9, b10, b14, b15, hw⟩⟩
  show replyC.enc (Rp.of t es).tup = l
  rw [ht, ← h6]
theorem Rp.err_more (r : Rp) (t : List UInt8) (hw : r.Wide) (h : r.okB = true) (ht : 0 < t.length) : Rp.err (r.enc ++ t) = 12 := by
  have := replyC.bad_more r.tup t (r.ok_of hw h) ht
  unfold Rp.err
  rw [show replyC.bad (r.enc ++ t) = 12 from this]
  rfl
theorem Rp.err_cut (r : Rp) (j : Nat) (hw : r.Wide) (h : r.okB = true) (hj : j < r.enc.length) : Rp.err (r.enc.take j) = 10 := by
  have := replyC.bad_cut r.tup j (r.ok_of hw h) hj
  unfold Rp.err
  rw [show replyC.bad (r.enc.take j) = 10 from this]
  rfl
end Go.Proofs.Ytjionpkflpnejaa
