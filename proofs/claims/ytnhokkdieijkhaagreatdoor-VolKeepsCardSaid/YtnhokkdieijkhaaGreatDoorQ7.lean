/-
  Plain mathematics of calls and replies: fields one behind the other, what is put of them, what is read (layer 9). No program.
  Entries that came in (layer 8).
  What package slot's texts share: blocks known whole, parts of them that are stored and loaded, cells that came in (layer 11; rows of call's texts that name no package).
  Complete files, plain: which may be, their bytes, what bytes are of them (layer 11). No program.
  Complete files as they lie in memory, the program's and the document's (layer 11).
  Contracts of package slot's unused, directory, Check, and of the conditions that Check asks (layer 11).
  Contract of package slot's Get (layer 11).
  Contracts of package slot's Handle and Same (layer 11).
  Contract of content (layer 12): the bytes of an inode's blocks, and whether they are as many as it says.
-/
import Derived.Test.YtnhokkdieijkhaaGreatDoorQ6
import Derived.ProofKit
import Derived.OpenShut
import Derived.ShutString
import Derived.ChangeOld
import Derived.Deep.Slices
import Derived.Deep.Fields
import Derived.Laws.BitsAllLaws
import Derived.Test.YtnhokkdieijkhaaGreatDoorShelf
namespace Go.Proofs.YtnhokkdieijkhaaGreatDoor
open Go.RowKit

theorem rdO_most (m : Nat) (s : St) (h : (rdO m s).1.2 = 0) : (rdO m s).2.length ≤ m := by
  unfold rdO at h ⊢
  split at h
  · rename_i h1; exact absurd h h1
  rename_i h1
  rw [if_neg h1]
  split at h
  · cases h
  rename_i h2
  rw [if_neg h2]
  split at h
  · cases h
  rename_i h3
  rw [if_neg h3]
  split at h
  · rename_i h4
    rw [if_pos h4]
    simp only [List.length_take]
    omega
  · cases h

/-- A way to put a thing and to read it. -/
structure Cd (α : Type) where
  enc : α → List UInt8
  rd : St → St × α
  ok : α → Prop
  put : ∀ a t, ok a → rd (enc a ++ t, 0) = ((t, 0), a)
  back : ∀ s, (rd s).1.2 = 0 → s.2 = 0 ∧ s.1 = enc (rd s).2 ++ (rd s).1.1 ∧ ok (rd s).2
  cut : ∀ a j, ok a → j < (enc a).length → (rd ((enc a).take j, 0)).1.2 = 10
  err : ∀ l e, e ≠ 0 → (rd (l, e)).1 = (l, e)

/-- A number of n bytes. -/
def cN (n : Nat) : Cd Nat where
  enc := be n
  rd := rdN n
  ok x := x < 256 ^ n
  put a t h := rdN_be n a t h
  back s h := by
    obtain ⟨h1, h2, h3⟩ := rdN_back n s h
    exact ⟨h1, h2, h3⟩
  cut a j h hj := by
    rw [be_length] at hj
    rw [rdN_short]
    rw [List.length_take, be_length]
    omega
  err l e h := by rw [rdN_err n l e h]
/-- Bytes, so many at most. -/
def cO (m : Nat) (hm : m < 4294967296) : Cd (List UInt8) where
  enc := opq
  rd := rdO m
  ok b := b.length ≤ m
  put b t h := rdO_opq m b t (by omega) (by omega)
  back s h := by
    have h0 : s.2 = 0 := by
      by_cases h0 : s.2 = 0
      · exact h0
      · obtain ⟨l, e⟩ := s
        rw [rdO_err m l e h0] at h
        exact absurd h h0
    obtain ⟨l, e⟩ := s
    dsimp only at h0
    subst h0
    refine ⟨rfl, rdO_one m l h, ?_⟩
    exact rdO_most m (l, 0) h
  cut b j h hj := by
    obtain ⟨l, hl⟩ := rdO_cut m b j hj (by omega) (by omega)
    rw [hl]
  err l e h := by rw [rdO_err m l e h]
/-- A bool. -/
def cB : Cd Bool where
  enc b := be 4 (b01 b)
  rd := rdB
  ok _ := True
  put b t _ := by
    have := rdN_be 4 (b01 b) t (by cases b <;> decide)
    unfold rdB
    rw [this]
    cases b <;> rfl
  back s h := by
    unfold rdB at h ⊢
    split at h
    · cases h
    · rename_i hx
      rw [if_neg hx]
      obtain ⟨h1, h2, _⟩ := rdN_back 4 s h
      refine ⟨h1, ?_, trivial⟩
      generalize (rdN 4 s).2 = x at *
      have hb : b01 (x == 1) = x := by
        have : x = 0 ∨ x = 1 := by omega
        rcases this with rfl | rfl <;> rfl
      rw [hb]
      exact h2
  cut b j _ hj := by
    rw [be_length] at hj
    unfold rdB
    rw [rdN_short 4 _ (by rw [List.length_take, be_length]; omega)]
    rfl
  err l e h := by rw [rdB_err l e h]
/-- One behind the other. -/
def Cd.seq {α β : Type} (A : Cd α) (B : Cd β) : Cd (α × β) where
  enc x := A.enc x.1 ++ B.enc x.2
  rd s := ((B.rd (A.rd s).1).1, ((A.rd s).2, (B.rd (A.rd s).1).2))
  ok x := A.ok x.1 ∧ B.ok x.2
  put x t h := by
    have h1 := A.put x.1 (B.enc x.2 ++ t) h.1
    have h2 := B.put x.2 t h.2
    rw [List.append_assoc, h1]
    simp only [h2]
  back s h := by
    obtain ⟨h1, h2, h3⟩ := B.back (A.rd s).1 h
    obtain ⟨h4, h5, h6⟩ := A.back s h1
    refine ⟨h4, ?_, h6, h3⟩
    simp only
    rw [List.append_assoc, ← h2, ← h5]
  cut x j h hj := by
    rw [List.length_append] at hj
    simp only
    by_cases hl : j < (A.enc x.1).length
    · have h1 := A.cut x.1 j h.1 hl
      rw [List.take_append_of_le_length (by omega)]
      generalize hs : (A.rd ((A.enc x.1).take j, 0)).1 = s at *
      obtain ⟨l, e⟩ := s
      dsimp only at h1
      subst h1
      rw [B.err l 10 (by decide)]
    · rw [List.take_append, List.take_of_length_le (Nat.le_of_not_lt hl), A.put x.1 _ h.1]
      exact B.cut x.2 _ h.2 (by omega)
  err l e h := by
    have h1 := A.err l e h
    simp only [h1]
    exact B.err l e h

section
variable {α : Type} (C : Cd α)
/-- What is read of whole bytes: the error of the end. -/
def Cd.bad (l : List UInt8) : Int := endOf (C.rd (l, 0)).1.1 (C.rd (l, 0)).1.2
theorem Cd.bad_put (a : α) (h : C.ok a) : C.bad (C.enc a) = 0 ∧ (C.rd (C.enc a, 0)).2 = a := by
  have := C.put a [] h
  rw [List.append_nil] at this
  unfold Cd.bad
  rw [this]
  exact ⟨rfl, rfl⟩
theorem Cd.bad_more (a : α) (t : List UInt8) (h : C.ok a) (ht : 0 < t.length) : C.bad (C.enc a ++ t) = 12 := by
  unfold Cd.bad
  rw [C.put a t h]
  exact if_pos ⟨rfl, ht⟩
theorem Cd.bad_cut (a : α) (j : Nat) (h : C.ok a) (hj : j < (C.enc a).length) : C.bad ((C.enc a).take j) = 10 := by
  unfold Cd.bad
  have := C.cut a j h hj
  rw [this]
  exact if_neg (fun h => by cases h.1)
theorem Cd.bad_back (l : List UInt8) (h : C.bad l = 0) : l = C.enc (C.rd (l, 0)).2 ∧ C.ok (C.rd (l, 0)).2 := by
  unfold Cd.bad endOf at h
  split at h
  · cases h
  · rename_i hx
    obtain ⟨_, h2, h3⟩ := C.back (l, 0) h
    have h0 : (C.rd (l, 0)).1.1 = [] := by
      have : ¬ 0 < (C.rd (l, 0)).1.1.length := fun hp => hx ⟨h, hp⟩
      exact List.eq_nil_of_length_eq_zero (by omega)
    rw [h0, List.append_nil] at h2
    exact ⟨h2, h3⟩
end

/-! ### Calls -/
structure Cl where
  cli : Nat
  xid : Nat
  op : Nat
  ati : Nat
  atg : Nat
  nm : List UInt8
  toi : Nat
  tog : Nat
  tn : List UInt8
  off : Nat
  vf : Nat
  cnt : Nat
  md : Nat
  dt : List UInt8
  deriving DecidableEq
structure Cl.Wide (c : Cl) : Prop where
  cli : c.cli < 4294967296
  xid : c.xid < 4294967296
  op : c.op < 4294967296
  ati : c.ati < 4294967296
  atg : c.atg < 4294967296
  toi : c.toi < 4294967296
  tog : c.tog < 4294967296
  off : c.off < 18446744073709551616
  vf : c.vf < 18446744073709551616
  cnt : c.cnt < 4294967296
  md : c.md < 4294967296
def c4 : Cd Nat := cN 4
def c8 : Cd Nat := cN 8
def cH : Cd (Nat × Nat) := c4.seq c4
def Cl.zero : Cl := ⟨0, 0, 0, 0, 0, [], 0, 0, [], 0, 0, 0, 0, []⟩
abbrev Ct := Nat × Nat × Nat × (Nat × Nat) × List UInt8 × (Nat × Nat) × List UInt8 × Nat × Nat × Nat × Nat × List UInt8
def callC : Cd Ct := c4.seq (c4.seq (c4.seq (cH.seq ((cO 64 (by decide)).seq (cH.seq ((cO 64 (by decide)).seq (c8.seq (c8.seq (c4.seq (c4.seq (cO 1024 (by decide))))))))))))
def Cl.tup (c : Cl) : Ct := (c.cli, c.xid, c.op, (c.ati, c.atg), c.nm, (c.toi, c.tog), c.tn, c.off, c.vf, c.cnt, c.md, c.dt)
def Cl.of (t : Ct) : Cl := ⟨t.1, t.2.1, t.2.2.1, t.2.2.2.1.1, t.2.2.2.1.2, t.2.2.2.2.1, t.2.2.2.2.2.1.1, t.2.2.2.2.2.1.2, t.2.2.2.2.2.2.1, t.2.2.2.2.2.2.2.1, t.2.2.2.2.2.2.2.2.1, t.2.2.2.2.2.2.2.2.2.1, t.2.2.2.2.2.2.2.2.2.2.1, t.2.2.2.2.2.2.2.2.2.2.2⟩
theorem Cl.of_tup (c : Cl) : Cl.of c.tup = c := rfl
theorem Cl.tup_of (t : Ct) : (Cl.of t).tup = t := rfl
def opOk (op : Nat) : Bool := decide (1 ≤ op) && decide (op ≤ 16)
def Cl.okB (c : Cl) : Bool := opOk c.op && decide (c.nm.length ≤ 64) && decide (c.tn.length ≤ 64) && decide (c.dt.length ≤ 1024)
def Cl.enc (c : Cl) : List UInt8 := callC.enc c.tup
def Cl.errP (c : Cl) : Int := if c.okB then 0 else 1
def Cl.put (c : Cl) : List UInt8 := if c.okB then c.enc else []
def Cl.rd (l : List UInt8) : Cl := Cl.of (callC.rd (l, 0)).2
def Cl.err (l : List UInt8) : Int := if callC.bad l ≠ 0 then callC.bad l else if opOk (Cl.rd l).op then 0 else 11
def Cl.got (l : List UInt8) : Cl := if Cl.err l = 0 then Cl.rd l else Cl.zero
theorem Cl.enc_eq (c : Cl) : c.enc = be 4 c.cli ++ (be 4 c.xid ++ (be 4 c.op ++ ((be 4 c.ati ++ be 4 c.atg) ++ (opq c.nm ++ ((be 4 c.toi ++ be 4 c.tog) ++ (opq c.tn ++ (be 8 c.off ++ (be 8 c.vf ++ (be 4 c.cnt ++ (be 4 c.md ++ opq c.dt)))))))))) := rfl
theorem Cl.ok_iff (c : Cl) : callC.ok c.tup ↔ c.Wide ∧ c.nm.length ≤ 64 ∧ c.tn.length ≤ 64 ∧ c.dt.length ≤ 1024 := by
  constructor
  · rintro ⟨h1, h2, h3, ⟨h4, h5⟩, h6, ⟨h7, h8⟩, h9, h10, h11, h12, h13, h14⟩
    exact ⟨⟨h1, h2, h3, h4, h5, h7, h8, h10, h11, h12, h13⟩, h6, h9, h14⟩
  · rintro ⟨⟨h1, h2, h3, h4, h5, h7, h8, h10, h11, h12, h13⟩, h6, h9, h14⟩
    exact ⟨h1, h2, h3, ⟨h4, h5⟩, h6, ⟨h7, h8⟩, h9, h10, h11, h12, h13, h14⟩
theorem Cl.okB_iff (c : Cl) : c.okB = true ↔ opOk c.op = true ∧ c.nm.length ≤ 64 ∧ c.tn.length ≤ 64 ∧ c.dt.length ≤ 1024 := by
  simp [Cl.okB, Bool.and_eq_true, and_assoc]
theorem Cl.ok_of (c : Cl) (hw : c.Wide) (h : c.okB = true) : callC.ok c.tup := (Cl.ok_iff c).2 ⟨hw, ((Cl.okB_iff c).1 h).2⟩
theorem Cl.got_put (c : Cl) (hw : c.Wide) (h : c.okB = true) : Cl.err c.enc = 0 ∧ Cl.got c.enc = c := by
  obtain ⟨h1, h2⟩ := callC.bad_put c.tup (c.ok_of hw h)
  have h3 : Cl.rd c.enc = c := by
    show Cl.of (callC.rd (callC.enc c.tup, 0)).2 = c
    rw [h2, Cl.of_tup]
  have h4 : Cl.err c.enc = 0 := by
    unfold Cl.err
    rw [show callC.bad c.enc = 0 from h1, if_neg (by simp), h3, if_pos ((Cl.okB_iff c).1 h).1]
  exact ⟨h4, by unfold Cl.got; rw [if_pos h4, h3]⟩
theorem Cl.err_cases (l : List UInt8) (h : Cl.err l = 0) : callC.bad l = 0 ∧ opOk (Cl.rd l).op = true ∧ Cl.got l = Cl.rd l := by
  have hg : Cl.got l = Cl.rd l := if_pos h
  unfold Cl.err at h
  split at h
  · rename_i h1; exact absurd h h1
  · rename_i h1
    split at h
    · rename_i h2; exact ⟨by simpa using h1, h2, hg⟩
    · cases h
theorem Cl.got_back (l : List UInt8) (h : Cl.err l = 0) : (Cl.got l).okB = true ∧ (Cl.got l).enc = l ∧ (Cl.got l).Wide := by
  obtain ⟨h1, h2, h3⟩ := Cl.err_cases l h
  obtain ⟨h4, h5⟩ := callC.bad_back l h1
  have h6 := (Cl.ok_iff (Cl.rd l)).1 h5
  rw [h3]
  exact ⟨(Cl.okB_iff _).2 ⟨h2, h6.2⟩, h4.symm, h6.1⟩
theorem Cl.err_more (c : Cl) (t : List UInt8) (hw : c.Wide) (h : c.okB = true) (ht : 0 < t.length) : Cl.err (c.enc ++ t) = 12 := by
  have := callC.bad_more c.tup t (c.ok_of hw h) ht
  unfold Cl.err
  rw [show callC.bad (c.enc ++ t) = 12 from this]
  rfl
theorem Cl.err_cut (c : Cl) (j : Nat) (hw : c.Wide) (h : c.okB = true) (hj : j < c.enc.length) : Cl.err (c.enc.take j) = 10 := by
  have := callC.bad_cut c.tup j (c.ok_of hw h) hj
  unfold Cl.err
  rw [show callC.bad (c.enc.take j) = 10 from this]
  rfl
theorem Cl.enc_inj (a b : Cl) (ha : a.Wide) (hb : b.Wide) (h1 : a.okB = true) (h2 : b.okB = true) (h : a.enc = b.enc) : a = b := by
  have := (Cl.got_put a ha h1).2
  rw [h, (Cl.got_put b hb h2).2] at this
  exact this.symm
theorem opq_mod (b : List UInt8) : (opq b).length % 4 = 0 := by rw [opq_length]; unfold pad; omega
theorem Cl.enc_mod (c : Cl) : c.enc.length % 4 = 0 := by
  rw [Cl.enc_eq]
  have h1 := opq_mod c.nm
  have h2 := opq_mod c.tn
  have h3 := opq_mod c.dt
  simp only [List.length_append, be_length]
  omega
theorem Cl.enc_len (c : Cl) (h : c.okB = true) : 64 ≤ c.enc.length ∧ c.enc.length ≤ 2000 := by
  obtain ⟨_, h1, h2, h3⟩ := (Cl.okB_iff c).1 h
  rw [Cl.enc_eq]
  have p1 := pad_lt c.nm.length
  have p2 := pad_lt c.tn.length
  have p3 := pad_lt c.dt.length
  simp only [List.length_append, be_length, opq_length]
  omega

/-! ### Replies -/
structure Rp where
  cli : Nat
  xid : Nat
  st : Int
  ati : Nat
  atg : Nat
  kd : Nat
  md : Nat
  ln : Nat
  sz : Nat
  ch : Nat
  dt : List UInt8
  es : List En
  eof : Bool
  vf : Nat
  fr : Nat
  deriving DecidableEq
structure Rp.Wide (r : Rp) : Prop where
  cli : r.cli < 4294967296
  xid : r.xid < 4294967296
  ati : r.ati < 4294967296
  atg : r.atg < 4294967296
  kd : r.kd < 4294967296
  md : r.md < 4294967296
  ln : r.ln < 4294967296
  sz : r.sz < 4294967296
  ch : r.ch < 18446744073709551616
  vf : r.vf < 18446744073709551616
  fr : r.fr < 4294967296
  es : ∀ e ∈ r.es, e.Wide
def cA : Cd (Nat × Nat × Nat × Nat × Nat) := c4.seq (c4.seq (c4.seq (c4.seq c8)))
abbrev Rt := Nat × Nat × Nat × (Nat × Nat) × (Nat × Nat × Nat × Nat × Nat) × List UInt8 × List UInt8 × Bool × Nat × Nat
def replyC : Cd Rt := c4.seq (c4.seq (c4.seq (cH.seq (cA.seq ((cO 1024 (by decide)).seq ((cO 2048 (by decide)).seq (cB.seq (c8.seq c4))))))))
def Rp.tup (r : Rp) : Rt := (r.cli, r.xid, r.st.toNat, (r.ati, r.atg), (r.kd, r.md, r.ln, r.sz, r.ch), r.dt, encs r.es, r.eof, r.vf, r.fr)
def Rp.of (t : Rt) (es : List En) : Rp := ⟨t.1, t.2.1, (t.2.2.1 : Int), t.2.2.2.1.1, t.2.2.2.1.2, t.2.2.2.2.1.1, t.2.2.2.2.1.2.1, t.2.2.2.2.1.2.2.1, t.2.2.2.2.1.2.2.2.1, t.2.2.2.2.1.2.2.2.2, t.2.2.2.2.2.1, es, t.2.2.2.2.2.2.2.1, t.2.2.2.2.2.2.2.2.1, t.2.2.2.2.2.2.2.2.2⟩
def Rt.row (t : Rt) : List UInt8 := t.2.2.2.2.2.2.1
def Rp.zero : Rp := ⟨0, 0, 0, 0, 0, 0, 0, 0, 0, 0, [], [], false, 0, 0⟩
def stOk (z : Int) : Bool := decide (z = 0) || decide (60 ≤ z) && decide (z ≤ 71)
def Rp.okA (r : Rp) : Bool := stOk r.st && decide (r.dt.length ≤ 1024) && decide (r.es.length ≤ 24)
def Rp.okB (r : Rp) : Bool := r.okA && Go.Proofs.YtnhokkdieijkhaaGreatDoor.okB r.es
def Rp.enc (r : Rp) : List UInt8 := replyC.enc r.tup
def Rp.errP (r : Rp) : Int := if r.okA then chkE r.es else 1
def Rp.put (r : Rp) : List UInt8 := if r.okB then r.enc else []
def Rp.rd (l : List UInt8) : Rt := (replyC.rd (l, 0)).2
def Rp.err (l : List UInt8) : Int := if replyC.bad l ≠ 0 then replyC.bad l else if errE (Rp.rd l).row ≠ 0 then errE (Rp.rd l).row else if stOk ((Rp.rd l).2.2.1 : Int) && decide ((gotE (Rp.rd l).row).length ≤ 24) then 0 else 11
def Rp.got (l : List UInt8) : Rp := if Rp.err l = 0 then Rp.of (Rp.rd l) (gotE (Rp.rd l).row) else Rp.zero
theorem Rp.enc_eq (r : Rp) : r.enc = be 4 r.cli ++ (be 4 r.xid ++ (be 4 r.st.toNat ++ ((be 4 r.ati ++ be 4 r.atg) ++ ((be 4 r.kd ++ (be 4 r.md ++ (be 4 r.ln ++ (be 4 r.sz ++ be 8 r.ch)))) ++ (opq r.dt ++ (opq (encs r.es) ++ (be 4 (b01 r.eof) ++ (be 8 r.vf ++ be 4 r.fr)))))))) := rfl
theorem stOk_iff (z : Int) : stOk z = true ↔ z = 0 ∨ 60 ≤ z ∧ z ≤ 71 := by simp [stOk]
theorem Rp.okA_iff (r : Rp) : r.okA = true ↔ stOk r.st = true ∧ r.dt.length ≤ 1024 ∧ r.es.length ≤ 24 := by
  simp [Rp.okA, and_assoc]
theorem Rp.okB_iff (r : Rp) : r.okB = true ↔ r.okA = true ∧ Go.Proofs.YtnhokkdieijkhaaGreatDoor.okB r.es = true := by simp [Rp.okB]
theorem encs_len (es : List En) (h : ∀ e ∈ es, e.nm.length ≤ 24) : (encs es).length ≤ 44 * es.length := by
  induction es with
  | nil => exact Nat.zero_le _
  | cons e r ih =>
    rw [encs_cons, List.length_append, enc1_length, List.length_cons]
    have h1 := ih fun x hx => h x (List.mem_cons_of_mem _ hx)
    have h2 := h e List.mem_cons_self
    unfold pad
    omega
theorem Rp.ok_of (r : Rp) (hw : r.Wide) (h : r.okB = true) : replyC.ok r.tup := by
  obtain ⟨h1, h2⟩ := r.okB_iff.1 h
  obtain ⟨h3, h4, h5⟩ := r.okA_iff.1 h1
  have h6 := encs_len r.es (okB_names _ h2)
  have h7 := (stOk_iff _).1 h3
  have h8 : r.st.toNat < 4294967296 := by omega
  exact ⟨hw.cli, hw.xid, h8, ⟨hw.ati, hw.atg⟩, ⟨hw.kd, hw.md, hw.ln, hw.sz, hw.ch⟩, h4, by show (encs r.es).length ≤ 2048; omega, trivial, hw.vf, hw.fr⟩
theorem Rp.enc_len (r : Rp) (h : r.okB = true) : 64 ≤ r.enc.length ∧ r.enc.length ≤ 4000 := by
  obtain ⟨h1, h2⟩ := r.okB_iff.1 h
  obtain ⟨h3, h4, h5⟩ := r.okA_iff.1 h1
  have h6 := encs_len r.es (okB_names _ h2)
  rw [Rp.enc_eq]
  have p1 := pad_lt r.dt.length
  have p2 := pad_lt (encs r.es).length
  simp only [List.length_append, be_length, opq_length]
  omega
theorem Rp.got_put (r : Rp) (hw : r.Wide) (h : r.okB = true) : Rp.err r.enc = 0 ∧ Rp.got r.enc = r := by
  obtain ⟨g1, g2⟩ := r.okB_iff.1 h
  obtain ⟨g3, g4, g5⟩ := r.okA_iff.1 g1
  obtain ⟨h1, h2⟩ := replyC.bad_put r.tup (r.ok_of hw h)
  have h3 : Rp.rd r.enc = r.tup := h2
  obtain ⟨k1, k2⟩ := Go.Proofs.YtnhokkdieijkhaaGreatDoor.got_put r.es hw.es g2
  have hp : putE r.es = encs r.es := if_pos g2
  rw [hp] at k1 k2
  have h7 := (stOk_iff _).1 g3
  have hs : ((r.st.toNat : Nat) : Int) = r.st := by omega
  have h4 : Rp.err r.enc = 0 := by
    unfold Rp.err
    rw [show replyC.bad r.enc = 0 from h1, if_neg (by simp), h3]
    show (if errE (encs r.es) ≠ 0 then errE (encs r.es) else if stOk ((r.st.toNat : Nat) : Int) && decide ((gotE (encs r.es)).length ≤ 24) then 0 else 11) = 0
    rw [k1, k2, hs, if_neg (by simp), g3, if_pos (by simpa using g5)]
  refine ⟨h4, ?_⟩
  unfold Rp.got
  rw [if_pos h4, h3]
  show Rp.of r.tup (gotE (encs r.es)) = r
  rw [k2]
  show Rp.mk r.cli r.xid ((r.st.toNat : Nat) : Int) r.ati r.atg r.kd r.md r.ln r.sz r.ch r.dt r.es r.eof r.vf r.fr = r
  rw [hs]
theorem Rp.err_cases (l : List UInt8) (h : Rp.err l = 0) : replyC.bad l = 0 ∧ errE (Rp.rd l).row = 0 ∧ stOk ((Rp.rd l).2.2.1 : Int) = true ∧ (gotE (Rp.rd l).row).length ≤ 24 ∧ Rp.got l = Rp.of (Rp.rd l) (gotE (Rp.rd l).row) := by
  have hg : Rp.got l = _ := if_pos h
  unfold Rp.err at h
  split at h
  · rename_i h1; exact absurd h h1
  rename_i h1
  split at h
  · rename_i h2; exact absurd h h2
  rename_i h2
  split at h
  · rename_i h3
    simp only [Bool.and_eq_true, decide_eq_true_eq] at h3
    exact ⟨by simpa using h1, by simpa using h2, h3.1, h3.2, hg⟩
  · cases h
theorem Rp.got_back (l : List UInt8) (h : Rp.err l = 0) : (Rp.got l).okB = true ∧ (Rp.got l).enc = l ∧ (Rp.got l).Wide := by
  obtain ⟨h1, h2, h3, h4, h5⟩ := Rp.err_cases l h
  obtain ⟨h6, h7⟩ := replyC.bad_back l h1
  obtain ⟨k1, k2⟩ := Go.Proofs.YtnhokkdieijkhaaGreatDoor.got_back (Rp.rd l).row h2
  have k3 : encs (gotE (Rp.rd l).row) = (Rp.rd l).row := by
    have hp : putE (gotE (Rp.rd l).row) = encs (gotE (Rp.rd l).row) := if_pos k1
    rw [← hp]; exact k2
  have hw := gotE_wide (Rp.rd l).row
  rw [h5]
  generalize hes : gotE (Rp.rd l).row = es at *
  change replyC.ok (Rp.rd l) at h7
  change l = replyC.enc (Rp.rd l) at h6
  generalize Rp.rd l = t at *
  obtain ⟨b1, b2, b3, ⟨b4, b5⟩, ⟨b6, b7, b8, b9, b10⟩, b11, b12, _, b14, b15⟩ := h7
  have ht : (Rp.of t es).tup = t := by
    show (t.1, t.2.1, (t.2.2.1 : Int).toNat, _, _, _, encs es, _) = t
    rw [k3, Int.toNat_natCast]
    rfl
  refine ⟨(Rp.okB_iff _).2 ⟨(Rp.okA_iff _).2 ⟨h3, b11, h4⟩, k1⟩, ?_, ⟨b1, b2, b4, b5, b6, b7, b8, b9, b10, b14, b15, hw⟩⟩
  show replyC.enc (Rp.of t es).tup = l
  rw [ht, ← h6]
theorem Rp.err_more (r : Rp) (t : List UInt8) (hw : r.Wide) (h : r.okB = true) (ht : 0 < t.length) : Rp.err (r.enc ++ t) = 12 := by
  have := replyC.bad_more r.tup t (r.ok_of hw h) ht
  unfold Rp.err
  rw [show replyC.bad (r.enc ++ t) = 12 from this]
  rfl
theorem Rp.err_cut (r : Rp) (j : Nat) (hw : r.Wide) (h : r.okB = true) (hj : j < r.enc.length) : Rp.err (r.enc.take j) = 10 := by
  have := replyC.bad_cut r.tup j (r.ok_of hw h) hj
  unfold Rp.err
  rw [show replyC.bad (r.enc.take j) = 10 from this]
  rfl
end Go.Proofs.YtnhokkdieijkhaaGreatDoor

namespace Go.Proofs.YtnhokkdieijkhaaGreatDoor
open Go.ChangeShapes Go.WideShapes Go.ChangeAt Go.RowKit

theorem wf_u64 {n : Int} (h : (Lit.int .u64 n).wf = true) : 0 ≤ n ∧ n < 18446744073709551616 := by
  simp [Lit.wf, IntKind.min, IntKind.max, IntKind.bits, IntKind.signed] at h
  omega
theorem wf_u32 {n : Int} (h : (Lit.int .u32 n).wf = true) : 0 ≤ n ∧ n < 4294967296 := by
  simp [Lit.wf, IntKind.min, IntKind.max, IntKind.bits, IntKind.signed] at h
  omega
theorem wf_i64 {n : Int} (h : (Lit.int .i64 n).wf = true) : -9223372036854775808 ≤ n ∧ n ≤ 9223372036854775807 := by
  simp [Lit.wf, IntKind.min, IntKind.max, IntKind.bits, IntKind.signed] at h
  omega
theorem four_at {cs : List Value} (h : cs.length = 4) : ∃ a b c d, cs = [a, b, c, d] := by
  match cs, h with
  | [a, b, c, d], _ => exact ⟨a, b, c, d, rfl⟩
theorem list_of {α : Type} {P : Nat → α → Prop} : ∀ n : Nat, (∀ j, j < n → ∃ a, P j a) → ∃ l : List α, l.length = n ∧ ∀ j (hj : j < l.length), P j l[j]
  | 0, _ => ⟨[], rfl, fun j hj => absurd hj (Nat.not_lt_zero _)⟩
  | n + 1, h => by
    obtain ⟨l, h1, h2⟩ := list_of n fun j hj => h j (by omega)
    obtain ⟨a, ha⟩ := h n (by omega)
    refine ⟨l ++ [a], by simp [h1], fun j hj => ?_⟩
    simp only [List.length_append, List.length_cons, List.length_nil] at hj
    rcases Nat.lt_or_ge j l.length with h3 | h3
    · rw [List.getElem_append_left h3]; exact h2 j h3
    · obtain rfl : j = l.length := by omega
      rw [List.getElem_append_right (Nat.le_refl _)]
      simp only [Nat.sub_self, List.getElem_cons_zero]
      rw [h1]; exact ha
theorem txt_data (s : ByteArray) : txt s.data.toList = s := by
  obtain ⟨⟨l⟩⟩ := s
  rfl
set_option maxRecDepth 100000 in
/-- The cells of an entry, as they came in. -/
theorem entry_cs {H : Type} {enc : TypeId × Value → H} {W : World} {m : Nat} {v0 v1 v2 v3 : Value} {d : DataW H} {p : List MemPlace} (h : DataW.trod enc Tryz.prog W 0 (fun _ => true) true m 102 [v0, v1, v2, v3] = some (d, p)) :
    ∃ e : En, [v0, v1, v2, v3] = ec e ∧ e.Wide ∧ e.nm.length ≤ maxLen := by
  obtain ⟨ys, n', _, _, _, hyl, hg⟩ := DataW.trod_struct Tryz.underlying102 h
  have k0 : DataW.trod enc Tryz.prog W 0 (fun _ => true) true n' 29 [v0] = ys[0]? := hg 0 _ rfl
  have k1 : DataW.trod enc Tryz.prog W 0 (fun _ => true) true n' 72 [v1, v2] = ys[1]? := hg 1 _ rfl
  have k2 : DataW.trod enc Tryz.prog W 0 (fun _ => true) true n' 9 [v3] = ys[2]? := hg 2 _ rfl
  have hys : ys.length = 3 := hyl
  obtain ⟨y0, e0⟩ : ∃ y, ys[0]? = some y := ⟨_, List.getElem?_eq_getElem (by omega)⟩
  obtain ⟨⟨y1, q1⟩, e1⟩ : ∃ y, ys[1]? = some y := ⟨_, List.getElem?_eq_getElem (by omega)⟩
  obtain ⟨y2, e2⟩ : ∃ y, ys[2]? = some y := ⟨_, List.getElem?_eq_getElem (by omega)⟩
  obtain ⟨zs, n2, _, _, _, hzl, hg2⟩ := DataW.trod_struct Tryz.underlying72 (k1.trans e1)
  have j0 : DataW.trod enc Tryz.prog W 0 (fun _ => true) true n2 28 [v1] = zs[0]? := hg2 0 _ rfl
  have j1 : DataW.trod enc Tryz.prog W 0 (fun _ => true) true n2 28 [v2] = zs[1]? := hg2 1 _ rfl
  have hzs : zs.length = 2 := hzl
  obtain ⟨z0, f0⟩ : ∃ y, zs[0]? = some y := ⟨_, List.getElem?_eq_getElem (by omega)⟩
  obtain ⟨z1, f1⟩ : ∃ y, zs[1]? = some y := ⟨_, List.getElem?_eq_getElem (by omega)⟩
  obtain ⟨a0, h0, _, w0⟩ := DataW.trod_int Tryz.underlying29 (k0.trans e0)
  obtain ⟨a1, h1, _, w1⟩ := DataW.trod_int Tryz.underlying28 (j0.trans f0)
  obtain ⟨a2, h2, _, w2⟩ := DataW.trod_int Tryz.underlying28 (j1.trans f1)
  obtain ⟨s, h3, w3⟩ : ∃ s : ByteArray, v3 = .string s ∧ s.size ≤ maxLen := by
    obtain ⟨s, h3, _, w3⟩ := DataW.trod_string Tryz.underlying9 (k2.trans e2)
    simp only [List.cons.injEq, and_true] at h3
    exact ⟨s, h3, w3⟩
  simp only [List.cons.injEq, and_true] at h0 h1 h2
  subst h0 h1 h2 h3
  have b0 := wf_u64 w0
  have b1 := wf_u32 w1
  have b2 := wf_u32 w2
  obtain ⟨a0, rfl⟩ := Int.eq_ofNat_of_zero_le b0.1
  obtain ⟨a1, rfl⟩ := Int.eq_ofNat_of_zero_le b1.1
  obtain ⟨a2, rfl⟩ := Int.eq_ofNat_of_zero_le b2.1
  refine ⟨⟨a0, a1, a2, s.data.toList⟩, ?_, ⟨by simp only; omega, by simp only; omega, by simp only; omega⟩, ?_⟩
  · unfold ec
    rw [txt_data]
  · have := Lib.size_eq s
    simp only
    omega
/-- Entries, as they came in. -/
structure EI (W : World) (A : Option Addr) (n : Nat) (cap : Nat) (es : List En) : Prop where
  row : ES W A n es
  wide : ∀ e ∈ es, e.Wide
  names : ∀ e ∈ es, e.nm.length ≤ maxLen
  le : n ≤ cap
  few : cap ≤ maxLen
set_option maxRecDepth 100000 in
theorem entries_in {H : Type} {enc : TypeId × Value → H} {W : World} {A : Option Addr} {n cap : Nat} {d : DataW H} {p : List MemPlace} (h : DataW.Trod enc Tryz.prog W 0 (fun _ => true) true 98 (.slice A n cap) d p) : ∃ es, EI W A n cap es := by
  obtain ⟨fuel, hf⟩ := h
  rcases Go.Deep.open_slice (e := 102) Tryz.underlying98 hf with ⟨hcs, _⟩ | ⟨a, len, c, m, n', D, Pl, hcs, _, hl, hm, hmm, _, hi⟩
  · simp [Value.cells] at hcs
    obtain ⟨rfl, rfl, rfl⟩ := hcs
    exact ⟨[], ES.nil, (fun x hx => by cases hx), (fun x hx => by cases hx), Nat.le_refl _, Nat.zero_le _⟩
  · simp [Value.cells] at hcs
    obtain ⟨rfl, rfl, rfl⟩ := hcs
    simp only [if_true] at hmm
    subst hmm
    have h4 : Tryz.prog.cellsOf 102 = 4 := by kernel_rfl
    rw [h4] at hi
    have main : ∀ j, j < n → ∃ e : En, (∀ i v, (ec e)[i]? = some v → W.cell? (a.add (j * 4 + i)) = some v) ∧ e.Wide ∧ e.nm.length ≤ maxLen := fun j hj => by
      obtain ⟨cs', hc, ht⟩ := hi j (by omega)
      obtain ⟨_, hlen, hat⟩ := World.cells?_some hc
      obtain ⟨v0, v1, v2, v3, rfl⟩ := four_at hlen
      obtain ⟨e, he, hw, hn⟩ := entry_cs ht
      rw [he] at hat
      refine ⟨e, fun i v hv => ?_, hw, hn⟩
      have hlt := (List.getElem?_eq_some_iff.1 hv).1
      rw [ec_length] at hlt
      have := hat i (by omega)
      rw [Go.Deep.add_add] at this
      rw [this]
      exact hv
    obtain ⟨es, he1, he2⟩ := list_of n main
    refine ⟨es, ⟨he1, fun hn => ?_⟩, fun x hx => ?_, fun x hx => ?_, hl, hm⟩
    · obtain ⟨b, o, sp⟩ := a
      obtain ⟨e0, h0, _⟩ := main 0 hn
      have h00 := h0 0 _ rfl
      have hs : sp = none := by simpa [Addr.add] using World.cell?_spot h00
      subst hs
      refine ⟨b, o, rfl, fun j hj i v hv => ?_⟩
      have := (he2 j hj).1 i v hv
      rw [add_plain] at this
      rw [Nat.add_assoc]
      exact this
    · obtain ⟨i, hi', rfl⟩ := List.getElem_of_mem hx
      exact (he2 i hi').2.1
    · obtain ⟨i, hi', rfl⟩ := List.getElem_of_mem hx
      exact (he2 i hi').2.2
set_option maxRecDepth 100000 in
/-- An entry, as it came in. -/
theorem entry_in {H : Type} {enc : TypeId × Value → H} {W : World} {base : Nat} {v : Value} {d : DataW H} {p : List MemPlace} (hv : Value.okWide Tryz.prog W .any base 102 v)
    (h : DataW.Trod enc Tryz.prog W 0 (fun _ => true) true 102 v d p) : ∃ e : En, v = .agg (ec e).toArray ∧ e.Wide ∧ e.nm.length ≤ maxLen := by
  obtain ⟨cs, rfl, hsz⟩ := okWide_struct Tryz.underlying102 hv
  have h4 : Tryz.prog.cellsOf 102 = 4 := by kernel_rfl
  obtain ⟨cl⟩ := cs
  obtain ⟨v0, v1, v2, v3, rfl⟩ := four_at (cs := cl) (by simpa using hsz.trans h4)
  obtain ⟨fuel, ht⟩ := h
  obtain ⟨e, he, hw, hn⟩ := entry_cs (enc := enc) (W := W) (v0 := v0) (v1 := v1) (v2 := v2) (v3 := v3) ht
  exact ⟨e, by rw [he], hw, hn⟩
end Go.Proofs.YtnhokkdieijkhaaGreatDoor

namespace Go.Proofs.YtnhokkdieijkhaaGreatDoor
open Go.RowKit Go.Shelf

/-- A block known whole. -/
def Bw (w : World) (g : Nat) (cs : List Value) (t : TypeId) : Prop := w.heap[g]? = some (.cells cs.toArray t (0, 0))
section
variable {w w' : World} {g : Nat} {cs : List Value} {t : TypeId}
theorem Bw.lt (h : Bw w g cs t) : g < w.heap.size := (Array.getElem?_eq_some_iff.1 h).1
theorem Bw.froz (h : Bw w g cs t) (o : Nat) : w.frozen? ⟨g, o, none⟩ = false := by unfold Bw at h; simp [World.frozen?, h]
theorem Bw.grown {row : Option Nat} (h : Bw w g cs t) (hg : w.grownBy w' row) (hr : row ≠ some g) : Bw w' g cs t := (hg.block g h.lt (fun e => hr e.symm)).trans h
theorem Bw.below (h : Bw w g cs t) (hb : Below w.heap.size w w') : Bw w' g cs t := (hb.block g h.lt).trans h
theorem Bw.keep {K : Nat → Prop} (h : Bw w g cs t) (hb : Keep K w w') (hk : K g) : Bw w' g cs t := (hb.block g hk).trans h
theorem Bw.cell (h : Bw w g cs t) (o : Nat) (v : Value) (hv : cs[o]? = some v) : w.cell? ⟨g, o, none⟩ = some v := by
  rw [cell_of_row w g o _ _ (0, 0) h]
  simpa using hv
/-- Some cells of it, as a load asks for them. -/
theorem Bw.part (h : Bw w g cs t) (k : Nat) (l : List Value) (hl : ∀ j u, l[j]? = some u → cs[k + j]? = some u) : ∀ j u, l[j]? = some u → w.cell? ((⟨g, k, none⟩ : Addr).add j) = some u := fun j u hu => by
  rw [add_plain]
  exact h.cell _ _ (hl j u hu)
end
section
variable {P : Program} {o : Oper} {a : Act} {w : World} {ops : Array Oper} {rest : List Oper} {Q : Exit → Act → World → Prop}
theorem wpList_store_part (hgd : o.guard = none) (ty : TypeId) (x y : Operand) (ho : o.op = .store ty x y) (g k : Nat) (vs : List Value) (hx : a.eval x = .pointer (some ⟨g, k, none⟩)) (hy : a.eval y = .agg vs.toArray)
    (t : TypeId) (cs : List Value) (hg : Bw w g cs t) (hi : (P.info? ty).map (·.size) = some vs.length) (hfit : k + vs.length ≤ cs.length) (h1 : ∀ v ∈ vs, v.oneCell' = true)
    (h : ∀ w', Bw w' g (cs.take k ++ vs ++ cs.drop (k + vs.length)) t → w'.heap.size = w.heap.size → Keep (· ≠ g) w w' → wpList P ops Q rest (a.put o.dst undef) w') : wpList P ops Q (o :: rest) a w := by
  have hr := run_storeCells_at P g k t vs 0 cs.toArray w hg (by simpa using hfit) h1
  simp only [Nat.add_zero] at hr
  refine Did.list hgd (v := undef) (w' := w.setRow g (cs.take k ++ vs ++ cs.drop (k + vs.length)).toArray) (.inr ⟨?_, rfl⟩) (h _ (setRow_heap w g _ _ t _ hg) (by simp) (setRow_keep g _))
  cases hq : P.info? ty with
  | none => simp [hq] at hi
  | some i =>
    have hs : vs.length = i.size := by simp [hq] at hi; omega
    have hsv : (storeVar ty ⟨g, k, none⟩ (.agg vs.toArray)).run P w = .ok () (w.setRow g (cs.take k ++ vs ++ cs.drop (k + vs.length)).toArray) := by
      simp [storeVar, sizeOf, typeInfo, hq, Value.cells, hs.symm, hr]
    unfold execOp
    simp only [ho, hx, hy, Instr.storeAt, Instr.sureAddr, Sem.run_bind, Sem.run_pure, Result.andThen_ok, hsv]
theorem wpList_store_cell (hgd : o.guard = none) (ty : TypeId) (x y : Operand) (ho : o.op = .store ty x y) (g k : Nat) (v : Value) (hx : a.eval x = .pointer (some ⟨g, k, none⟩)) (hy : a.eval y = v)
    (t : TypeId) (cs : List Value) (hg : Bw w g cs t) (hi : (P.info? ty).map (·.size) = some 1) (hv : v.cells = #[v]) (hfit : k < cs.length) (h1 : v.oneCell' = true)
    (h : ∀ w', Bw w' g (cs.take k ++ [v] ++ cs.drop (k + 1)) t → w'.heap.size = w.heap.size → Keep (· ≠ g) w w' → wpList P ops Q rest (a.put o.dst undef) w') : wpList P ops Q (o :: rest) a w := by
  have hr := run_storeCells_at P g k t [v] 0 cs.toArray w hg (by simp; omega) (by simpa using h1)
  simp only [Nat.add_zero, List.length_singleton] at hr
  refine Did.list hgd (v := undef) (w' := w.setRow g (cs.take k ++ [v] ++ cs.drop (k + 1)).toArray) (.inr ⟨?_, rfl⟩) (h _ (setRow_heap w g _ _ t _ hg) (by simp) (setRow_keep g _))
  cases hq : P.info? ty with
  | none => simp [hq] at hi
  | some i =>
    have hs : 1 = i.size := by simp [hq] at hi; omega
    have hsv : (storeVar ty ⟨g, k, none⟩ v).run P w = .ok () (w.setRow g (cs.take k ++ [v] ++ cs.drop (k + 1)).toArray) := by
      simpa [storeVar, sizeOf, typeInfo, hq, hv, hs.symm] using hr
    unfold execOp
    simp only [ho, hx, hy, Instr.storeAt, Instr.sureAddr, Sem.run_bind, Sem.run_pure, Result.andThen_ok, hsv]
/-- A struct or an array out of a part of a block. -/
theorem wpList_load_part (hgd : o.guard = none) (ty : TypeId) (x : Operand) (ho : o.op = .load ty x) (g k : Nat) (hx : a.eval x = .pointer (some ⟨g, k, none⟩)) (d : TypeDesc) (hu : P.underlying ty = some d)
    (hd : (match d with | .struct _ | .array _ _ => true | _ => false) = true) (l : List Value) (t : TypeId) (cs : List Value) (hg : Bw w g cs t) (hi : (P.info? ty).map (·.size) = some l.length) (hl : ∀ j u, l[j]? = some u → cs[k + j]? = some u)
    (h : wpList P ops Q rest (a.put o.dst (.agg l.toArray)) w) : wpList P ops Q (o :: rest) a w :=
  Did.list hgd (did_load ty x ho ⟨g, k, none⟩ hx d hu hd l hi (hg.part k l hl)) h
end
/-- A change of one block, known whole before. -/
theorem grown_keep {w w' : World} {g : Nat} (h : Keep (· ≠ g) w w') : w.grownBy w' (some g) := ⟨h.os, h.tape, h.output, h.size, fun k _ hk => h.block k (fun e => hk (by rw [e]))⟩

/-- The result that lies in a block of its own, and a number. -/
theorem results_cell {t : TypeId} {fs : Array Field} {cs : List Value} {fn : Func} {p q : Tmp} (h : fn.results = #[.cell p t, .tmp q]) (tmps : Array Value) (w : World) (g : Nat) (v : Value) (hg : Bw w g cs t) (hi : (Tryz.prog.info? t).map (·.size) = some cs.length)
    (hp : tmps.getD p undef = .pointer (some ⟨g, 0, none⟩)) (hq : tmps.getD q undef = v) (hu : Tryz.prog.underlying t = some (.struct fs)) : (results fn tmps).run Tryz.prog w = .ok (.tuple #[.agg cs.toArray, v]) w := by
  have hp' : tmps[p]?.getD undef = .pointer (some ⟨g, 0, none⟩) := by simpa using hp
  have hq' : tmps[q]?.getD undef = v := by simpa using hq
  have hl := run_loadVar_row (P := Tryz.prog) w g t t cs.toArray (0, 0) _ hg hu rfl (by simpa using hi)
  simp [results, h, hp', hq', asAddr, hl]
/-- The result that lies in a block of its own, alone. -/
theorem results_one {t : TypeId} {fs : Array Field} {cs : List Value} {fn : Func} {p : Tmp} (h : fn.results = #[.cell p t]) (tmps : Array Value) (w : World) (g : Nat) (hg : Bw w g cs t) (hi : (Tryz.prog.info? t).map (·.size) = some cs.length)
    (hp : tmps.getD p undef = .pointer (some ⟨g, 0, none⟩)) (hu : Tryz.prog.underlying t = some (.struct fs)) : (results fn tmps).run Tryz.prog w = .ok (.agg cs.toArray) w := by
  have hp' : tmps[p]?.getD undef = .pointer (some ⟨g, 0, none⟩) := by simpa using hp
  have hl := run_loadVar_row (P := Tryz.prog) w g t t cs.toArray (0, 0) _ hg hu rfl (by simpa using hi)
  simp [results, h, hp', asAddr, hl]

/-- The cells of a handle, of attributes. -/
def hc (a b : Nat) : List Value := [.int .u32 (a : Int), .int .u32 (b : Int)]
theorem size_H : (Tryz.prog.info? 72).map (·.size) = some 2 := by kernel_rfl
theorem zero_H : (Tryz.prog.info? 72).bind (·.zero) = some (.agg (hc 0 0).toArray) := by kernel_rfl
theorem hc_one (a b : Nat) : ∀ v ∈ hc a b, v.oneCell' = true := by
  intro v hv
  simp only [hc, List.mem_cons, List.not_mem_nil, or_false] at hv
  rcases hv with rfl | rfl <;> rfl
theorem Bw.ne_rd {w : World} {q g : Nat} {l : List UInt8} {e : Int} {cs : List Value} {t : TypeId} (h : Bw w g cs t) (hr : Rd w q l e) (ht : t ≠ 118) : q ≠ g := by
  rintro rfl
  obtain ⟨A, c, h1, _⟩ := hr
  unfold Bw at h
  rw [h] at h1
  injection h1 with h1
  injection h1 with _ h1 _
  exact ht h1
/-- What a Put hands back: bytes of its own. -/
def PutQ (b : List UInt8) (z : Int) (w : World) (e : Ending) (w' : World) : Prop := ∃ A n cp, e = .returned (.tuple #[.slice A n cp, .int .i64 z]) ∧ Own w w' A n cp b
theorem PutQ.no {z : Int} {w w' : World} (h : Below w.heap.size w w') : PutQ [] z w (.returned (.tuple #[.slice none 0 0, .int .i64 z])) w' := ⟨none, 0, 0, rfl, World.ownsRow_nil _ _ _ _, h⟩
theorem own_base {w : World} {b b' : Nat} {t : TypeId} {k n : Nat} {v : Value} {xs : List Value} (h : w.ownsRow b t k v n xs) (hb : b' ≤ b) : w.ownsRow b' t k v n xs := by
  refine ⟨h.1, ?_⟩
  rcases h.2 with h1 | ⟨g, cap, cur, h1, h2, h3⟩
  · exact .inl h1
  · exact .inr ⟨g, cap, cur, h1, Nat.le_trans hb h2, h3⟩

/-- While a call or a reply is read: the result's block r, the variable's block g, the Reader q. -/
structure GG (w : World) (q r g : Nat) (t : TypeId) (z cs : List Value) (s : St) (W : World) : Prop where
  rd : Rd W q s.1 s.2
  res : Bw W r z t
  var : Bw W g cs t
  bel : Below w.heap.size w W
  lr : w.heap.size ≤ r
  lg : w.heap.size ≤ g
  lq : w.heap.size ≤ q
  rg : r ≠ g
  qr : q ≠ r
  qg : q ≠ g
  nt : t ≠ 5
section
variable {w W W' : World} {q r g : Nat} {t : TypeId} {z cs cs' : List Value} {s s' : St}
theorem GG.read (h : GG w q r g t z cs s W) (hr : Rd W' q s'.1 s'.2) (hg : W.grownBy W' (some q)) : GG w q r g t z cs s' W' :=
  ⟨hr, h.res.grown hg (fun e => h.qr (by injection e)), h.var.grown hg (fun e => h.qg (by injection e)),
    h.bel.trans ⟨hg.os, hg.tape, hg.output, hg.size, fun k hk => hg.block k (Nat.lt_of_lt_of_le hk h.bel.size) (fun e => by injection e with e; have := h.lq; omega)⟩, h.lr, h.lg, h.lq, h.rg, h.qr, h.qg, h.nt⟩
theorem GG.set (h : GG w q r g t z cs s W) (hb : Bw W' g cs' t) (hk : Keep (· ≠ g) W W') : GG w q r g t z cs' s W' := by
  have lg := h.lg
  exact ⟨h.rd.off h.var h.nt h.qg (fun k _ hn => hk.block k hn), h.res.keep hk h.rg, hb, h.bel.trans (hk.below2 (fun k hk => by omega)), h.lr, h.lg, h.lq, h.rg, h.qr, h.qg, h.nt⟩
theorem GG.below (h : GG w q r g t z cs s W) (hb : Below W.heap.size W W') : GG w q r g t z cs s W' :=
  ⟨h.rd.kept hb, h.res.below hb, h.var.below hb, h.bel.trans (hb.mono h.bel.size), h.lr, h.lg, h.lq, h.rg, h.qr, h.qg, h.nt⟩
theorem GG.start {w1 w2 w3 : World} {l : List UInt8} (h1 : w1.heap[w.heap.size]? = some (.cells z.toArray t (0, 0))) (s1 : w1.heap.size = w.heap.size + 1) (b1 : Below w.heap.size w w1)
    (h2 : w2.heap[w1.heap.size]? = some (.cells z.toArray t (0, 0))) (s2 : w2.heap.size = w1.heap.size + 1) (b2 : Below w1.heap.size w1 w2) (h : Rd w3 q l 0) (b3 : Below w2.heap.size w2 w3) (hq : w2.heap.size ≤ q) (hn : t ≠ 5) : GG w q w.heap.size w1.heap.size t z z (l, 0) w3 := by
  exact ⟨h, (b3.block _ (by omega)).trans ((b2.block _ (by omega)).trans h1), (b3.block _ (by omega)).trans h2, b1.trans ((b2.mono (by omega)).trans (b3.mono (by omega))), Nat.le_refl _, by omega, by omega, by omega, by omega, by omega, hn⟩
end

theorem seq_rd {α β : Type} (A : Cd α) (B : Cd β) (s : St) : (A.seq B).rd s = ((B.rd (A.rd s).1).1, ((A.rd s).2, (B.rd (A.rd s).1).2)) := rfl
/-- A struct out of a part of a block, as a region that draws its order asks for it. -/
theorem run_load_part {P : Program} {o : Oper} {a : Act} {w : World} (ty : TypeId) (x : Operand) (ho : o.op = .load ty x) (g k : Nat) (hx : a.eval x = .pointer (some ⟨g, k, none⟩)) (d : TypeDesc) (hu : P.underlying ty = some d)
    (hd : (match d with | .struct _ | .array _ _ => true | _ => false) = true) (l : List Value) (t : TypeId) (cs : List Value) (hg : Bw w g cs t) (hi : (P.info? ty).map (·.size) = some l.length) (hl : ∀ j u, l[j]? = some u → cs[k + j]? = some u) :
    (execOp a.eval o).run P w = .ok (.value (.agg l.toArray)) w := by
  have hl2 := run_loadCells_list (P := P) w ⟨g, k, none⟩ l (hg.part k l hl)
  cases hq : P.info? ty with
  | none => simp [hq] at hi
  | some i =>
    have hs : i.size = l.length := by simpa [hq] using hi
    have hagg : (isAgg ty).run P w = .ok true w := by
      unfold isAgg
      rw [Sem.run_bind, run_underlying hu w]
      cases d <;> simp_all
    unfold execOp
    simp [ho, hx, Instr.loadAt, Instr.sureAddr, loadVar, Sem.run_bind, hagg, sizeOf, typeInfo, hq, hs, hl2]

section
open Go.ChangeShapes Go.WideShapes Go.ChangeAt
section
variable {H : Type} {enc : TypeId × Value → H} {W : World} {m : Nat} {v : Value} {y : DataW H × List MemPlace}
theorem u32_cell {t : TypeId} (ht : Tryz.prog.underlying t = some (.int .u32)) (h : DataW.trod enc Tryz.prog W 0 (fun _ => true) true m t [v] = some y) : ∃ a : Nat, v = .int .u32 (a : Int) ∧ a < 4294967296 := by
  obtain ⟨a, h1, _, w1⟩ := DataW.trod_int ht h
  simp only [List.cons.injEq, and_true] at h1
  subst h1
  have b := wf_u32 w1
  obtain ⟨a, rfl⟩ := Int.eq_ofNat_of_zero_le b.1
  exact ⟨a, rfl, by omega⟩
theorem u64_cell {t : TypeId} (ht : Tryz.prog.underlying t = some (.int .u64)) (h : DataW.trod enc Tryz.prog W 0 (fun _ => true) true m t [v] = some y) : ∃ a : Nat, v = .int .u64 (a : Int) ∧ a < 18446744073709551616 := by
  obtain ⟨a, h1, _, w1⟩ := DataW.trod_int ht h
  simp only [List.cons.injEq, and_true] at h1
  subst h1
  have b := wf_u64 w1
  obtain ⟨a, rfl⟩ := Int.eq_ofNat_of_zero_le b.1
  exact ⟨a, rfl, by omega⟩
theorem i64_cell {t : TypeId} (ht : Tryz.prog.underlying t = some (.int .i64)) (h : DataW.trod enc Tryz.prog W 0 (fun _ => true) true m t [v] = some y) : ∃ a : Int, v = .int .i64 a ∧ -9223372036854775808 ≤ a ∧ a ≤ 9223372036854775807 := by
  obtain ⟨a, h1, _, w1⟩ := DataW.trod_int ht h
  simp only [List.cons.injEq, and_true] at h1
  subst h1
  exact ⟨a, rfl, wf_i64 w1⟩
theorem bool_cell {t : TypeId} (ht : Tryz.prog.underlying t = some .bool) (h : DataW.trod enc Tryz.prog W 0 (fun _ => true) true m t [v] = some y) : ∃ b : Bool, v = .bool b := by
  obtain ⟨a, h1, _⟩ := DataW.trod_bool ht h
  simp only [List.cons.injEq, and_true] at h1
  exact ⟨a, h1⟩
theorem str_cell {t : TypeId} (ht : Tryz.prog.underlying t = some .string) (h : DataW.trod enc Tryz.prog W 0 (fun _ => true) true m t [v] = some y) : ∃ l : List UInt8, v = .string (txt l) ∧ l.length ≤ maxLen := by
  obtain ⟨s, h1, _, w1⟩ := DataW.trod_string ht h
  simp only [List.cons.injEq, and_true] at h1
  subst h1
  refine ⟨s.data.toList, by rw [txt_data], ?_⟩
  have := Lib.size_eq s
  omega
theorem bytes_cell (h : DataW.trod enc Tryz.prog W 0 (fun _ => true) true m 30 [v] = some y) : ∃ (A : Option Addr) (n cp : Nat) (l : List UInt8), v = .slice A n cp ∧ BS W A n l ∧ n ≤ maxLen := by
  rcases open_ints Tryz.underlying30 Tryz.underlying5 (by kernel_rfl) h with ⟨hcs, _⟩ | ⟨x, l, cap, zs, hcs, _, hl, hm, hz, _, hcell, hwz⟩
  · simp only [List.cons.injEq, and_true] at hcs
    exact ⟨none, 0, 0, [], hcs, BS.nil, Nat.zero_le _⟩
  · simp only [List.cons.injEq, and_true] at hcs
    have hr : IsRow .u8 W (some x) l cap zs := .inr ⟨_, rfl, hl, hm, by simpa using hz, hcell, hwz⟩
    obtain ⟨xs, h1⟩ := hr.bs
    exact ⟨some x, l, cap, xs, hcs, h1, Nat.le_trans hl hm⟩
end
end
/-- The cells of the reference's reader. -/
def rv (s : St) : List Value := [.string (txt s.1), .int .i64 s.2]
theorem rv_one (s : St) : ∀ v ∈ rv s, v.oneCell' = true := by
  intro v hv
  simp only [rv, List.mem_cons, List.not_mem_nil, or_false] at hv
  rcases hv with rfl | rfl <;> rfl
section
variable {w W W' : World} {r g k : Nat} {t : TypeId} {z cs cs' : List Value} {s s' : St}
end
end Go.Proofs.YtnhokkdieijkhaaGreatDoor

namespace Go.Proofs.YtnhokkdieijkhaaGreatDoor
namespace Sl
open Vl

/-- Bytes of a directory that may be, none of its entries above this cookie. -/
def dirB (dt : List UInt8) (ck : Nat) : Bool := decide (errE dt = 0) && (gotE dt).all fun e => decide (e.ck ≤ ck)
theorem dirB_iff (dt : List UInt8) (ck : Nat) : dirB dt ck = true ↔ errE dt = 0 ∧ ∀ e ∈ gotE dt, e.ck ≤ ck := by
  simp [dirB]
/-- May it be? -/
abbrev okS (s : Th) : Bool := s.okB dirB
def chkS (s : Th) : Int := if okS s then 0 else 1
theorem chkS_zero (s : Th) : chkS s = 0 ↔ okS s = true := by
  unfold chkS
  split
  · rename_i h; simp [h]
  · rename_i h; simp [h]
abbrev Ts := Nat × Nat × Nat × Nat × Nat × Nat × Nat × Nat × List UInt8
def slotC : Cd Ts := c4.seq (c4.seq (c4.seq (c4.seq (c4.seq (c8.seq (c8.seq (c8.seq (cO 768 (by decide)))))))))
def tup (s : Th) : Ts := (s.ino, s.kind, s.gen, s.links, s.mode, s.change, s.cookie, s.verf, s.dt)
def of (t : Ts) : Th := ⟨t.1, t.2.1, t.2.2.1, t.2.2.2.1, t.2.2.2.2.1, t.2.2.2.2.2.1, t.2.2.2.2.2.2.1, t.2.2.2.2.2.2.2.1, t.2.2.2.2.2.2.2.2⟩
theorem of_tup (s : Th) : of (tup s) = s := rfl
theorem tup_of (t : Ts) : tup (of t) = t := rfl
def zero : Th := ⟨0, 0, 0, 0, 0, 0, 0, 0, []⟩
theorem zero_ok : okS zero = true := rfl
def enc (s : Th) : List UInt8 := slotC.enc (tup s)
def put (s : Th) : List UInt8 := if okS s then enc s else []
def rd (l : List UInt8) : Th := of (slotC.rd (l, 0)).2
def err (l : List UInt8) : Int := if slotC.bad l ≠ 0 then slotC.bad l else if okS (rd l) then 0 else 11
def got (l : List UInt8) : Th := if err l = 0 then rd l else zero
theorem enc_eq (s : Th) : enc s = be 4 s.ino ++ (be 4 s.kind ++ (be 4 s.gen ++ (be 4 s.links ++ (be 4 s.mode ++ (be 8 s.change ++ (be 8 s.cookie ++ (be 8 s.verf ++ opq s.dt))))))) := rfl
theorem c_ok_iff (s : Th) : slotC.ok (tup s) ↔ s.ino < 4294967296 ∧ s.kind < 4294967296 ∧ s.Wide ∧ s.dt.length ≤ 768 := by
  constructor
  · rintro ⟨h1, h2, h3, h4, h5, h6, h7, h8, h9⟩
    exact ⟨h1, h2, ⟨h3, h4, h5, h6, h7, h8⟩, h9⟩
  · rintro ⟨h1, h2, ⟨h3, h4, h5, h6, h7, h8⟩, h9⟩
    exact ⟨h1, h2, h3, h4, h5, h6, h7, h8, h9⟩
theorem c_ok (s : Th) (hw : s.Wide) (h : okS s = true) : slotC.ok (tup s) := by
  obtain ⟨h1, h2, h3⟩ := okB_facts h
  exact (c_ok_iff s).2 ⟨by omega, by omega, hw, h3⟩
theorem rd_enc (s : Th) (hw : s.Wide) (h : okS s = true) : rd (enc s) = s := by
  obtain ⟨_, h2⟩ := slotC.bad_put (tup s) (c_ok s hw h)
  show of (slotC.rd (slotC.enc (tup s), 0)).2 = s
  rw [h2, of_tup]
/-- What was put is got as it was. -/
theorem got_put (s : Th) (hw : s.Wide) (h : okS s = true) : err (enc s) = 0 ∧ got (enc s) = s := by
  obtain ⟨h1, _⟩ := slotC.bad_put (tup s) (c_ok s hw h)
  have h3 := rd_enc s hw h
  have h4 : err (enc s) = 0 := by
    unfold err
    rw [show slotC.bad (enc s) = 0 from h1, if_neg (by simp), h3, if_pos h]
  exact ⟨h4, by unfold got; rw [if_pos h4, h3]⟩
theorem err_cases (l : List UInt8) (h : err l = 0) : slotC.bad l = 0 ∧ okS (rd l) = true ∧ got l = rd l := by
  have hg : got l = rd l := if_pos h
  unfold err at h
  split at h
  · rename_i h1; exact absurd h h1
  · rename_i h1
    split at h
    · rename_i h2; exact ⟨by simpa using h1, h2, hg⟩
    · cases h
/-- What was got is put as the same bytes. -/
theorem got_back (l : List UInt8) (h : err l = 0) : okS (got l) = true ∧ enc (got l) = l ∧ (got l).Wide := by
  obtain ⟨h1, h2, h3⟩ := err_cases l h
  obtain ⟨h4, h5⟩ := slotC.bad_back l h1
  rw [h3]
  exact ⟨h2, h4.symm, ((c_ok_iff (rd l)).1 h5).2.2.1⟩
theorem put_back (l : List UInt8) (h : err l = 0) : put (got l) = l := by
  obtain ⟨h1, h2, _⟩ := got_back l h
  exact (if_pos h1).trans h2
theorem got_no (l : List UInt8) (h : err l ≠ 0) : got l = zero := if_neg h
theorem err_more (s : Th) (t : List UInt8) (hw : s.Wide) (h : okS s = true) (ht : 0 < t.length) : err (enc s ++ t) = 12 := by
  have := slotC.bad_more (tup s) t (c_ok s hw h) ht
  unfold err
  rw [show slotC.bad (enc s ++ t) = 12 from this]
  rfl
theorem err_cut (s : Th) (j : Nat) (hw : s.Wide) (h : okS s = true) (hj : j < (enc s).length) : err ((enc s).take j) = 10 := by
  have := slotC.bad_cut (tup s) j (c_ok s hw h) hj
  unfold err
  rw [show slotC.bad ((enc s).take j) = 10 from this]
  rfl
theorem enc_inj (a b : Th) (ha : a.Wide) (hb : b.Wide) (h1 : okS a = true) (h2 : okS b = true) (h : enc a = enc b) : a = b := by
  have := (got_put a ha h1).2
  rw [h, (got_put b hb h2).2] at this
  exact this.symm
theorem enc_iff (a b : Th) (ha : a.Wide) (hb : b.Wide) (h1 : okS a = true) (h2 : okS b = true) : enc a = enc b ↔ a = b := ⟨enc_inj a b ha hb h1 h2, fun e => by rw [e]⟩
theorem enc_length (s : Th) : (enc s).length = 48 + s.dt.length + pad s.dt.length := by
  rw [enc_eq]
  simp only [List.length_append, be_length, opq_length]
  omega
theorem enc_mod (s : Th) : (enc s).length % 4 = 0 := by
  rw [enc_length]
  unfold pad
  omega
theorem enc_len (s : Th) (h : okS s = true) : 48 ≤ (enc s).length ∧ (enc s).length ≤ 816 := by
  obtain ⟨_, _, h3⟩ := okB_facts h
  rw [enc_length]
  unfold pad
  omega
/-- A directory: just entries that may be, none above its own cookie. -/
theorem dir_of (s : Th) (h : okS s = true) (hk : s.kind = 2) : errE s.dt = 0 ∧ (∀ e ∈ gotE s.dt, e.ck ≤ s.cookie) ∧ Go.Proofs.YtnhokkdieijkhaaGreatDoor.okB (gotE s.dt) = true ∧ putE (gotE s.dt) = s.dt := by
  simp only [okS, Th.okB, Bool.and_eq_true] at h
  have h2 := h.2
  rw [if_neg (by omega), Bool.and_eq_true, if_pos hk] at h2
  obtain ⟨h3, h4⟩ := (dirB_iff _ _).1 h2.2
  obtain ⟨h5, h6⟩ := Go.Proofs.YtnhokkdieijkhaaGreatDoor.got_back s.dt h3
  exact ⟨h3, h4, h5, h6⟩
/-- Entries that may be, put into a directory: it may be just if none is above its cookie. -/
theorem dir_put (es : List En) (hw : ∀ e ∈ es, e.Wide) (h : Go.Proofs.YtnhokkdieijkhaaGreatDoor.okB es = true) (ck : Nat) : dirB (putE es) ck = es.all fun e => decide (e.ck ≤ ck) := by
  obtain ⟨h1, h2⟩ := Go.Proofs.YtnhokkdieijkhaaGreatDoor.got_put es hw h
  unfold dirB
  rw [h1, h2]
  simp
/-- Entries rise: it is enough to look at the last one. -/
theorem all_last (es : List En) (h : Go.Proofs.YtnhokkdieijkhaaGreatDoor.okB es = true) : ∀ k, k ≤ es.length → ∀ i, i < k → (es.getD i default).ck ≤ lastAt es k := by
  intro k
  induction k with
  | zero => intro _ i hi; omega
  | succ k ih =>
    intro hk i hi
    have e1 : lastAt es (k + 1) = (es.getD k default).ck := by simp [lastAt]
    rw [e1]
    by_cases hik : i = k
    · subst hik; exact Nat.le_refl _
    · have h1 := ih (by omega) i (by omega)
      have h2 := (okB_at es h k (by omega)).2
      rw [List.getD_eq_getElem?_getD (i := k), List.getElem?_eq_getElem (by omega)]
      exact Nat.le_of_lt (Nat.lt_of_le_of_lt h1 h2)
theorem all_iff_last (es : List En) (h : Go.Proofs.YtnhokkdieijkhaaGreatDoor.okB es = true) (ck : Nat) : (∀ e ∈ es, e.ck ≤ ck) ↔ lastCk es ≤ ck := by
  constructor
  · intro h1
    unfold lastCk lastAt
    split
    · omega
    · rename_i hn
      rw [List.getD_eq_getElem?_getD, List.getElem?_eq_getElem (by omega)]
      exact h1 _ (List.getElem_mem _)
  · intro h1 e he
    obtain ⟨i, hi, rfl⟩ := List.getElem_of_mem he
    have := all_last es h es.length (Nat.le_refl _) i hi
    rw [List.getD_eq_getElem?_getD, List.getElem?_eq_getElem hi] at this
    exact Nat.le_trans this h1
/-- A free one has nothing but its number, its generation and its change. -/
theorem free_iff (s : Th) (hk : s.kind = 0) : okS s = true ↔ s.ino ≤ 23 ∧ s.links = 0 ∧ s.mode = 0 ∧ s.cookie = 0 ∧ s.verf = 0 ∧ s.dt = [] := by
  simp only [okS, Th.okB, Bool.and_eq_true, if_pos hk, decide_eq_true_eq, beq_iff_eq, List.length_eq_zero_iff]
  constructor
  · rintro ⟨⟨⟨h1, _⟩, _⟩, ⟨⟨⟨h2, h3⟩, h4⟩, h5⟩, h6⟩
    exact ⟨h1, h2, h3, h4, h5, h6⟩
  · rintro ⟨h1, h2, h3, h4, h5, h6⟩
    exact ⟨⟨⟨h1, by omega⟩, by rw [h6]; decide⟩, ⟨⟨⟨h2, h3⟩, h4⟩, h5⟩, h6⟩
/-- Another one has a link. -/
theorem used_iff (s : Th) (hk : s.kind ≠ 0) (h2 : s.kind ≠ 2) : okS s = true ↔ s.ino ≤ 23 ∧ s.kind ≤ 3 ∧ s.dt.length ≤ 768 ∧ 1 ≤ s.links := by
  simp only [okS, Th.okB, Bool.and_eq_true, if_neg hk, if_neg h2, decide_eq_true_eq, and_true, and_assoc]
  constructor
  · rintro ⟨h1, h2, h3, h4⟩; exact ⟨h1, h2, h3, by omega⟩
  · rintro ⟨h1, h2, h3, h4⟩; exact ⟨h1, h2, h3, by omega⟩
theorem dir_iff (s : Th) (hk : s.kind = 2) : okS s = true ↔ s.ino ≤ 23 ∧ s.dt.length ≤ 768 ∧ 1 ≤ s.links ∧ dirB s.dt s.cookie = true := by
  simp only [okS, Th.okB, Bool.and_eq_true, if_neg (show ¬ s.kind = 0 by omega), if_pos hk, decide_eq_true_eq, and_assoc]
  constructor
  · rintro ⟨h1, _, h3, h4, h5⟩; exact ⟨h1, h3, by omega, h5⟩
  · rintro ⟨h1, h3, h4, h5⟩; exact ⟨h1, by omega, h3, by omega, h5⟩
end Sl
end Go.Proofs.YtnhokkdieijkhaaGreatDoor

namespace Go.Proofs.YtnhokkdieijkhaaGreatDoor
open Go.RowKit Go.Shelf

/-- The cells of one whose data is v. -/
def sc (s : Vl.Th) (v : Value) : List Value := [.int .u32 (s.ino : Int), .int .u32 (s.kind : Int), .int .u32 (s.gen : Int), .int .u32 (s.links : Int), .int .u32 (s.mode : Int), .int .u64 (s.change : Int), .int .u64 (s.cookie : Int), .int .u64 (s.verf : Int), v]
theorem sc_str (s : Vl.Th) (b : ByteArray) : ∀ v ∈ sc s (.string b), v.oneCell' = true := by
  intro v hv
  simp only [sc, List.mem_cons, List.not_mem_nil, or_false] at hv
  rcases hv with rfl | rfl | rfl | rfl | rfl | rfl | rfl | rfl | rfl <;> rfl
theorem sc_row (s : Vl.Th) (A : Option Addr) (n c : Nat) : ∀ v ∈ sc s (.slice A n c), v.oneCell' = true := by
  intro v hv
  simp only [sc, List.mem_cons, List.not_mem_nil, or_false] at hv
  rcases hv with rfl | rfl | rfl | rfl | rfl | rfl | rfl | rfl | rfl <;> rfl
theorem size_Sl : (Tryz.prog.info? 32).map (·.size) = some 9 := by kernel_rfl
theorem zero_Sl : (Tryz.prog.info? 32).bind (·.zero) = some (.agg (sc Sl.zero (.slice none 0 0)).toArray) := by kernel_rfl
theorem built_Slz : Tryz.prog.built 32 [] = some (sc Sl.zero (.slice none 0 0)).toArray := by kernel_rfl
/-- What Get hands back. -/
def GetSQ (s : Vl.Th) (z : Int) (w : World) (e : Ending) (w' : World) : Prop := ∃ A n cp, e = .returned (.tuple #[.agg (sc s (.slice A n cp)).toArray, .int .i64 z]) ∧ BS w' A n s.dt ∧ Below w.heap.size w w'
/-- The numbers fit their fields. -/
structure Fits (s : Vl.Th) : Prop where
  ino : s.ino < 4294967296
  kind : s.kind < 4294967296
  wide : s.Wide
theorem Fits.of_ok {s : Vl.Th} (h : Sl.okS s = true) (hw : s.Wide) : Fits s := by
  obtain ⟨h1, h2, _⟩ := Vl.okB_facts h
  exact ⟨by omega, by omega, hw⟩
theorem Sl.opq_len (b : List UInt8) : (opq b).length ≤ 7 + b.length := by rw [opq_length]; unfold pad; omega
end Go.Proofs.YtnhokkdieijkhaaGreatDoor

namespace Go.Proofs.YtnhokkdieijkhaaGreatDoor
open Go.RowKit Go.Shelf

set_option maxRecDepth 100000 in
set_option maxHeartbeats 400000 in
theorem check1_any (s : Vl.Th) (v : Value) (B : Nat) (w : World) (h : Bw w B (sc s v) 32) :
    Calls Tryz.prog 26 #[.pointer (some ⟨B, 0, none⟩)] w fun e w' => e = .returned (.bool (decide (s.ino ≤ 23))) ∧ w = w' := by
  have e0 := h.cell 0 _ rfl
  clear h
  have hd : decide (s.ino < 24) = decide (s.ino ≤ 23) := by congr 1; apply propext; omega
  go_enter Tryz.func26, Tryz.ntmps26
  go_wp2
  go_ret
  exact ⟨by rw [← hd]; simp; omega, rfl⟩
set_option maxRecDepth 100000 in
set_option maxHeartbeats 400000 in
theorem check2_any (s : Vl.Th) (v : Value) (B : Nat) (w : World) (h : Bw w B (sc s v) 32) :
    Calls Tryz.prog 27 #[.pointer (some ⟨B, 0, none⟩)] w fun e w' => e = .returned (.bool (decide (s.kind ≤ 3))) ∧ w = w' := by
  have e0 := h.cell 1 _ rfl
  clear h
  go_enter Tryz.func27, Tryz.ntmps27
  go_wp2
  go_ret
  exact ⟨by simp; omega, rfl⟩
set_option maxRecDepth 100000 in
set_option maxHeartbeats 400000 in
theorem check3_any (s : Vl.Th) (A : Option Addr) (n cp : Nat) (B : Nat) (w : World) (h : Bw w B (sc s (.slice A n cp)) 32) (hn : s.dt.length = n) :
    Calls Tryz.prog 28 #[.pointer (some ⟨B, 0, none⟩)] w fun e w' => e = .returned (.bool (decide (s.dt.length ≤ 768))) ∧ w = w' := by
  have e0 := h.cell 8 _ rfl
  rw [hn]
  clear h hn
  go_enter Tryz.func28, Tryz.ntmps28
  go_wp2
  go_ret
  exact ⟨by simp; omega, rfl⟩
set_option maxRecDepth 100000 in
set_option maxHeartbeats 400000 in
theorem check5_any (s : Vl.Th) (v : Value) (B : Nat) (w : World) (h : Bw w B (sc s v) 32) :
    Calls Tryz.prog 31 #[.pointer (some ⟨B, 0, none⟩)] w fun e w' => e = .returned (.bool (decide (s.kind = 0) || decide (s.links ≠ 0))) ∧ w = w' := by
  have e1 := h.cell 1 _ rfl
  have e3 := h.cell 3 _ rfl
  clear h
  by_cases hk : s.kind = 0
  · have hz : ((s.kind : Int) == 0) = true := by simp [hk]
    go_enter Tryz.func31, Tryz.ntmps31
    go_wp2
    go_ret
    exact ⟨by simp [hk], rfl⟩
  · have hz : ((s.kind : Int) == 0) = false := by simp; omega
    go_enter Tryz.func31, Tryz.ntmps31
    go_wp2
    go_ret
    exact ⟨by simp [hk, Nat.pos_iff_ne_zero], rfl⟩

theorem or_zero {x y : Nat} : (x ||| y = 0) ↔ x = 0 ∧ y = 0 := by simp
theorem bits32_zero (a b : Nat) (ha : a < 4294967296) (hb : b < 4294967296) : (bits .or .u32 (a : Int) (b : Int) == 0) = (a == 0 && b == 0) := by
  rw [u32_or_nat _ _ ha hb, Bool.eq_iff_iff]
  have := @or_zero a b
  simp only [beq_iff_eq, Bool.and_eq_true]
  omega
theorem bits64_zero (a b : Nat) (ha : a < 18446744073709551616) (hb : b < 18446744073709551616) : (bits .or .u64 (a : Int) (b : Int) == 0) = (a == 0 && b == 0) := by
  rw [u64_or_nat _ _ ha hb, Bool.eq_iff_iff]
  have := @or_zero a b
  simp only [beq_iff_eq, Bool.and_eq_true]
  omega
set_option maxRecDepth 100000 in
set_option maxHeartbeats 400000 in
theorem unused_any (s : Vl.Th) (A : Option Addr) (n cp : Nat) (w : World) (hf : Fits s) (hn : s.dt.length = n) :
    Calls Tryz.prog 30 #[.agg (sc s (.slice A n cp)).toArray] w fun e w' => e = .returned (.bool (s.links == 0 && s.mode == 0 && s.cookie == 0 && s.verf == 0 && s.dt.length == 0)) ∧ Below w.heap.size w w' := by
  have h1 := bits32_zero s.links s.mode hf.wide.links hf.wide.mode
  have h2 := bits64_zero s.cookie s.verf hf.wide.cookie hf.wide.verf
  have HR : Hid ((s.links == 0 && s.mode == 0 && s.cookie == 0 && s.verf == 0 && s.dt.length == 0) = ((s.links == 0 && s.mode == 0) && (s.cookie == 0 && s.verf == 0) && decide (n = 0))) := by
    show _ = _
    rw [hn]
    simp only [Bool.and_assoc]
    rfl
  rw [HR.out]
  clear HR hn hf
  generalize (s.links == 0 && s.mode == 0) = x at *
  generalize (s.cookie == 0 && s.verf == 0) = y at *
  go_enter Tryz.func30, Tryz.ntmps30
  go_upto_region 1 with fail
  have HB0 : Hid (Bw (w.alloc (.cells (sc s (.slice A n cp)).toArray 32)) w.heap.size (sc s (.slice A n cp)) 32) := heap_alloc_new w _
  have HW0 : Hid (Below w.heap.size w (w.alloc (.cells (sc s (.slice A n cp)).toArray 32))) := (Below.refl _ w).alloc (Nat.le_refl _) _
  generalize w.alloc (.cells (sc s (.slice A n cp)).toArray 32) = w0 at *
  have e3 := HB0.out.cell 3 _ rfl
  have e4 := HB0.out.cell 4 _ rfl
  have e6 := HB0.out.cell 6 _ rfl
  have e7 := HB0.out.cell 7 _ rfl
  have e8 := HB0.out.cell 8 _ rfl
  cases x with
  | false =>
    go_wp2_with fail
    go_ret
    exact ⟨rfl, HW0.out⟩
  | true =>
    cases y with
    | false =>
      go_wp2_with fail
      go_ret
      exact ⟨rfl, HW0.out⟩
    | true =>
      go_wp2_with fail
      go_ret
      exact ⟨by simp; rw [Bool.eq_iff_iff]; simp, HW0.out⟩

set_option maxRecDepth 100000 in
set_option maxHeartbeats 400000 in
theorem check4_any (s : Vl.Th) (A : Option Addr) (n cp : Nat) (B : Nat) (w : World) (h : Bw w B (sc s (.slice A n cp)) 32) (hf : Fits s) (hn : s.dt.length = n) :
    Calls Tryz.prog 29 #[.pointer (some ⟨B, 0, none⟩)] w fun e w' => e = .returned (.bool (decide (s.kind ≠ 0) || (s.links == 0 && s.mode == 0 && s.cookie == 0 && s.verf == 0 && s.dt.length == 0))) ∧ Below w.heap.size w w' := by
  have e1 := h.cell 1 _ rfl
  have HB := Lib.hid h
  have HU := Lib.hid (unused_any s A n cp w hf hn)
  clear h hf hn
  generalize (s.links == 0 && s.mode == 0 && s.cookie == 0 && s.verf == 0 && s.dt.length == 0) = z at *
  by_cases hk : s.kind = 0
  · have hz : ((s.kind : Int) != 0) = false := by simp [hk]
    have HK : Hid (decide (s.kind ≠ 0) = false) := by simp [Hid, hk]
    rw [HK.out]
    clear hk HK
    go_enter Tryz.func29, Tryz.ntmps29
    have c0 := HB.out.cell 0 _ rfl
    have c2 := HB.out.cell 2 _ rfl
    have c3 := HB.out.cell 3 _ rfl
    have c4 := HB.out.cell 4 _ rfl
    have c5 := HB.out.cell 5 _ rfl
    have c6 := HB.out.cell 6 _ rfl
    have c7 := HB.out.cell 7 _ rfl
    have c8 := HB.out.cell 8 _ rfl
    go_wp2_with fail
    refine HU.out.mono ?_
    rintro e w1 ⟨rfl, hb⟩
    go_wp2_with fail
    go_ret
    exact ⟨by simp, hb⟩
  · have hz : ((s.kind : Int) != 0) = true := by simp; omega
    have HK : Hid (decide (s.kind ≠ 0) = true) := by simp [Hid, hk]
    rw [HK.out]
    clear hk HK
    go_enter Tryz.func29, Tryz.ntmps29
    go_wp2_with fail
    go_ret
    exact ⟨by simp, Below.refl _ _⟩

set_option maxRecDepth 100000 in
set_option maxHeartbeats 400000 in
theorem later_any (e : En) (B c : Nat) (w : World) (hc : w.cell? ⟨B, 6, none⟩ = some (.int .u64 (c : Int))) :
    Calls Tryz.prog 63 #[.agg (ec e).toArray, .pointer (some ⟨B, 0, none⟩)] w fun en w' => en = .returned (.bool (decide (c < e.ck))) ∧ Below w.heap.size w w' := by
  have c0 := (EB.new w 102 e).c0
  have cB : (w.alloc (.cells (ec e).toArray 102)).cell? ⟨B, 6, none⟩ = some (.int .u64 (c : Int)) := (World.cell?_alloc_lt _ _ _ (World.block_lt_of_cell? w _ hc)).trans hc
  clear hc
  go_enter Tryz.func63, Tryz.ntmps63
  go_wp2
  go_ret
  exact ⟨by simp, (Below.refl _ _).alloc (Nat.le_refl _) _⟩
theorem fndP_dec (p : En → Bool) (es : List En) : decide (0 ≤ fndP p es) = es.any p := by
  unfold fndP
  split
  · rename_i h
    have h1 : es.any p = true := by
      rw [List.any_eq_true]
      exact ⟨_, List.getElem_mem h, List.findIdx_getElem⟩
    rw [h1]
    simp
  · rename_i h
    have h1 : es.any p = false := by
      rw [List.any_eq_false]
      intro x hx hp
      exact h (List.findIdx_lt_length_of_exists ⟨x, hx, hp⟩)
    rw [h1]
    rfl
theorem dirB_any (dt : List UInt8) (ck : Nat) : Sl.dirB dt ck = (decide (errE dt = 0) && !((gotE dt).any fun e => decide (ck < e.ck))) := by
  unfold Sl.dirB
  congr 1
  rw [List.not_any_eq_all_not]
  congr 1
  funext e
  rw [← decide_not]
  congr 1
  apply propext
  omega
set_option maxRecDepth 100000 in
set_option maxHeartbeats 1000000 in
theorem containsE_any (A : Option Addr) (n cp : Nat) (es : List En) (w : World) (h : ES w A n es) (hn : n ≤ 100000000) (B c : Nat) (hc : w.cell? ⟨B, 6, none⟩ = some (.int .u64 (c : Int))) :
    Calls Tryz.prog 64 #[.slice A n cp, .func (.func 63) #[] #[.pointer (some ⟨B, 0, none⟩)]] w fun en w' => en = .returned (.bool (es.any fun e => decide (c < e.ck))) ∧ Below w.heap.size w w' := by
  have HC := Lib.hid (indexFunc_any A n cp es w h hn 63 (.pointer (some ⟨B, 0, none⟩)) (fun e => decide (c < e.ck)) (enters_of Tryz.func63 (by kernel_rfl) rfl)
    (fun W e hW => later_any e B c W ((hW.cell (World.block_lt_of_cell? w _ hc)).trans hc)))
  have hd := fndP_dec (fun e => decide (c < e.ck)) es
  rw [← hd]
  clear hd h hc
  generalize fndP (fun e => decide (c < e.ck)) es = z at *
  go_enter Tryz.func64, Tryz.ntmps64
  go_wp2_with fail
  refine HC.out.mono ?_
  rintro e w1 ⟨rfl, hb⟩
  go_wp2_with fail
  go_ret
  exact ⟨rfl, hb⟩
theorem gotE_len (l : List UInt8) : 20 * (gotE l).length ≤ l.length := by
  by_cases h : errE l = 0
  · obtain ⟨h1, h2⟩ := Go.Proofs.YtnhokkdieijkhaaGreatDoor.got_back l h
    have h3 := encs_min (gotE l)
    rw [show putE (gotE l) = encs (gotE l) from if_pos h1] at h2
    rw [h2] at h3
    exact h3
  · rw [show gotE l = [] from if_neg h]
    exact Nat.zero_le _
set_option maxRecDepth 100000 in
set_option maxHeartbeats 1000000 in
theorem directory_any (s : Vl.Th) (A : Option Addr) (n cp : Nat) (w : World) (h : BS w A n s.dt) (hn : n ≤ 1000) :
    Calls Tryz.prog 33 #[.agg (sc s (.slice A n cp)).toArray] w fun e w' => e = .returned (.bool (Sl.dirB s.dt s.cookie)) ∧ Below w.heap.size w w' := by
  have HX := Lib.hid h
  have HL := gotE_len s.dt
  rw [h.1] at HL
  have HG : Hid (∀ W, BS W A n s.dt → Calls Tryz.prog 62 #[.slice A n cp] W (EsQ (gotE s.dt) (errE s.dt) W)) := fun W hW => get_any A n cp s.dt W hW (by omega)
  rw [dirB_any]
  clear h
  generalize gotE s.dt = es at *
  generalize errE s.dt = er at *
  go_enter Tryz.func33, Tryz.ntmps33
  go_upto_region 1 with fail
  have HB0 : Hid (Bw (w.alloc (.cells (sc s (.slice A n cp)).toArray 32)) w.heap.size (sc s (.slice A n cp)) 32) := heap_alloc_new w _
  have HW0 : Hid (Below w.heap.size w (w.alloc (.cells (sc s (.slice A n cp)).toArray 32))) := (Below.refl _ w).alloc (Nat.le_refl _) _
  generalize w.alloc (.cells (sc s (.slice A n cp)).toArray 32) = w0 at *
  have e8 := HB0.out.cell 8 _ rfl
  go_wp2_with fail
  refine (HG.out w0 (HX.out.below HW0.out)).mono ?_
  rintro e w1 ⟨A1, n1, c1, rfl, hes, _, hb1⟩
  have HB1 := Lib.hid (HB0.out.below hb1)
  have HW1 := Lib.hid (HW0.out.trans (hb1.mono HW0.out.size))
  have HES := Lib.hid hes
  have hn1 : n1 ≤ 100000000 := by
    have h2 := hes.1
    omega
  clear hb1 hes HB0 HW0 HX hn e8 HL HG
  by_cases he : er = 0
  · subst he
    go_wp2_with fail
    refine (containsE_any A1 n1 c1 es w1 HES.out hn1 w.heap.size s.cookie (HB1.out.cell 6 _ rfl)).mono ?_
    rintro e w2 ⟨rfl, hb2⟩
    go_wp2_with fail
    go_ret
    exact ⟨by simp, HW1.out.trans (hb2.mono HW1.out.size)⟩
  · have hz : (er == 0) = false := by simpa using he
    go_wp2_with fail
    go_ret
    exact ⟨by simp [he], HW1.out⟩

set_option maxRecDepth 100000 in
set_option maxHeartbeats 400000 in
theorem check6_any (s : Vl.Th) (A : Option Addr) (n cp : Nat) (B : Nat) (w : World) (h : Bw w B (sc s (.slice A n cp)) 32) (hx : BS w A n s.dt) (hn : n ≤ 1000) :
    Calls Tryz.prog 32 #[.pointer (some ⟨B, 0, none⟩)] w fun e w' => e = .returned (.bool (decide (s.kind ≠ 2) || Sl.dirB s.dt s.cookie)) ∧ Below w.heap.size w w' := by
  have e1 := h.cell 1 _ rfl
  have HB := Lib.hid h
  have HU := Lib.hid (directory_any s A n cp w hx hn)
  clear h hx hn
  generalize Sl.dirB s.dt s.cookie = z at *
  by_cases hk : s.kind = 2
  · have hz : ((s.kind : Int) != 2) = false := by simp [hk]
    have HK : Hid (decide (s.kind ≠ 2) = false) := by simp [Hid, hk]
    rw [HK.out]
    clear hk HK
    have c0 := HB.out.cell 0 _ rfl
    have c2 := HB.out.cell 2 _ rfl
    have c3 := HB.out.cell 3 _ rfl
    have c4 := HB.out.cell 4 _ rfl
    have c5 := HB.out.cell 5 _ rfl
    have c6 := HB.out.cell 6 _ rfl
    have c7 := HB.out.cell 7 _ rfl
    have c8 := HB.out.cell 8 _ rfl
    go_enter Tryz.func32, Tryz.ntmps32
    go_wp2_with fail
    refine HU.out.mono ?_
    rintro e w1 ⟨rfl, hb⟩
    go_wp2_with fail
    go_ret
    exact ⟨by simp, hb⟩
  · have hz : ((s.kind : Int) != 2) = true := by simp; omega
    have HK : Hid (decide (s.kind ≠ 2) = true) := by simp [Hid, hk]
    rw [HK.out]
    clear hk HK
    go_enter Tryz.func32, Tryz.ntmps32
    go_wp2_with fail
    go_ret
    exact ⟨by simp, Below.refl _ _⟩

def checkFs (B : Nat) : List (Nat × Array Value) := [(26, #[.pointer (some ⟨B, 0, none⟩)]), (27, #[.pointer (some ⟨B, 0, none⟩)]), (28, #[.pointer (some ⟨B, 0, none⟩)]), (29, #[.pointer (some ⟨B, 0, none⟩)]), (31, #[.pointer (some ⟨B, 0, none⟩)]), (32, #[.pointer (some ⟨B, 0, none⟩)])]
def checkBs (s : Vl.Th) : List Bool := [decide (s.ino ≤ 23), decide (s.kind ≤ 3), decide (s.dt.length ≤ 768), decide (s.kind ≠ 0) || (s.links == 0 && s.mode == 0 && s.cookie == 0 && s.verf == 0 && s.dt.length == 0),
    decide (s.kind = 0) || decide (s.links ≠ 0), decide (s.kind ≠ 2) || Sl.dirB s.dt s.cookie]
theorem okS_bools (s : Vl.Th) : (checkBs s).all id = Sl.okS s := by
  simp only [checkBs, Sl.okS, Vl.Th.okB, List.all_cons, List.all_nil, Bool.and_true, id_eq]
  by_cases h0 : s.kind = 0
  · simp [h0, Bool.and_assoc]
  · by_cases h2 : s.kind = 2
    · simp [h2, Bool.and_assoc]
    · simp [h0, h2, Bool.and_assoc]
theorem still_below {F : Nat} {args : Array Value} {W : World} {b : Bool} (h : Calls Tryz.prog F args W fun e w' => e = .returned (.bool b) ∧ W = w') : Calls Tryz.prog F args W fun e w' => e = .returned (.bool b) ∧ Below W.heap.size W w' :=
  h.mono fun e w' hh => by obtain ⟨rfl, rfl⟩ := hh; exact ⟨rfl, Below.refl _ _⟩
theorem check_asked (s : Vl.Th) (A : Option Addr) (n cp : Nat) (B : Nat) (w : World) (hB : Bw w B (sc s (.slice A n cp)) 32) (hf : Fits s) (h : BS w A n s.dt) (hn : n ≤ 1000) : Asked w (checkFs B) (checkBs s) := by
  refine ⟨rfl, fun j hj hb _ W hW => ?_⟩
  have hBW := hB.below hW
  have hXW := h.below hW
  rcases j with _ | _ | _ | _ | _ | _ | j
  · exact ⟨enters_of Tryz.func26 (by kernel_rfl) rfl, still_below (check1_any s _ B W hBW)⟩
  · exact ⟨enters_of Tryz.func27 (by kernel_rfl) rfl, still_below (check2_any s _ B W hBW)⟩
  · exact ⟨enters_of Tryz.func28 (by kernel_rfl) rfl, still_below (check3_any s A n cp B W hBW h.1)⟩
  · exact ⟨enters_of Tryz.func29 (by kernel_rfl) rfl, check4_any s A n cp B W hBW hf h.1⟩
  · exact ⟨enters_of Tryz.func31 (by kernel_rfl) rfl, still_below (check5_any s _ B W hBW)⟩
  · exact ⟨enters_of Tryz.func32 (by kernel_rfl) rfl, check6_any s A n cp B W hBW hXW hn⟩
  · exact absurd hj (by simp [checkFs])
/-- A new block of functions. -/
theorem FS.new (w : World) (fs : List (Nat × Array Value)) (cs : Array Value) (t : TypeId) (hc : cs = (fs.map fun f => fnV f.1 f.2).toArray) : FS (w.alloc (.cells cs t)) w.heap.size fs.length fs := by
  subst hc
  refine ⟨rfl, fun j hj => ?_⟩
  rw [cell_of_row _ _ _ _ _ _ (heap_alloc_new w _)]
  simp [hj]
set_option maxRecDepth 100000 in
set_option maxHeartbeats 1000000 in
theorem checkS_any (s : Vl.Th) (A : Option Addr) (n cp : Nat) (w : World) (hf : Fits s) (h : BS w A n s.dt) (hn : n ≤ 1000) :
    Calls Tryz.prog 12 #[.agg (sc s (.slice A n cp)).toArray] w fun e w' => e = .returned (.int .i64 (Sl.chkS s)) ∧ Below w.heap.size w w' := by
  have HX := Lib.hid h
  have HF := Lib.hid hf
  have HOK := Lib.hid (okS_bools s)
  obtain ⟨ok, hok⟩ : ∃ b, Sl.okS s = b := ⟨_, rfl⟩
  obtain ⟨z, hz⟩ : ∃ z, Sl.chkS s = z := ⟨_, rfl⟩
  have HCK : Hid ((ok = true → z = 0) ∧ (ok = false → z = 1)) := by
    constructor
    · rintro rfl; rw [← hz]; exact if_pos hok
    · rintro rfl; rw [← hz]; exact if_neg (by simp [hok])
  rw [hok] at HOK
  rw [hz]
  clear h hf hok hz
  have hmf : ∀ (fn : Fn) (first cap : Array Value) (w : World), (Instr.makeFunc fn first cap).run Tryz.prog w = .ok (.func fn first cap) w := fun _ _ _ _ => rfl
  go_enter Tryz.func12, Tryz.ntmps12
  go_upto_region 1 with fail
  have HB0 : Hid (Bw (w.alloc (.cells (sc s (.slice A n cp)).toArray 32)) w.heap.size (sc s (.slice A n cp)) 32) := heap_alloc_new w _
  have HW0 : Hid (Below w.heap.size w (w.alloc (.cells (sc s (.slice A n cp)).toArray 32))) := (Below.refl _ w).alloc (Nat.le_refl _) _
  generalize w.alloc (.cells (sc s (.slice A n cp)).toArray 32) = w0 at *
  go_wp2_with fail
  refine (all_any w0.heap.size 6 6 (checkFs w.heap.size) (checkBs s) _ (FS.new w0 (checkFs w.heap.size) _ _ rfl) (by omega) ?_).mono ?_
  · exact check_asked s A n cp w.heap.size _ (HB0.out.below ((Below.refl _ _).alloc (Nat.le_refl _) _)) HF.out ((HX.out.below HW0.out).alloc _) hn
  rintro e w1 ⟨rfl, hb1⟩
  have HW1 : Hid (Below w.heap.size w w1) := HW0.out.trans (((Below.refl w0.heap.size w0).alloc (Nat.le_refl _) _).trans (hb1.mono (by simp)) |>.mono HW0.out.size)
  clear hb1
  rw [HOK.out]
  clear HOK
  cases ok with
  | true =>
    obtain rfl := HCK.out.1 rfl
    clear HCK
    go_wp2_with fail
    go_ret
    exact ⟨rfl, HW1.out⟩
  | false =>
    obtain rfl := HCK.out.2 rfl
    clear HCK
    go_wp2_with fail
    go_ret
    exact ⟨rfl, HW1.out⟩
end Go.Proofs.YtnhokkdieijkhaaGreatDoor

namespace Go.Proofs.YtnhokkdieijkhaaGreatDoor
open Go.RowKit Go.Shelf

section
variable (l : List UInt8)
def Sl.p1 := rdN 4 (l, 0)
def Sl.p2 := rdN 4 (Sl.p1 l).1
def Sl.p3 := rdN 4 (Sl.p2 l).1
def Sl.p4 := rdN 4 (Sl.p3 l).1
def Sl.p5 := rdN 4 (Sl.p4 l).1
def Sl.p6 := rdN 8 (Sl.p5 l).1
def Sl.p7 := rdN 8 (Sl.p6 l).1
def Sl.p8 := rdN 8 (Sl.p7 l).1
def Sl.p9 := rdO 768 (Sl.p8 l).1
theorem Sl.all_p : Sl.slotC.rd (l, 0) = ((Sl.p9 l).1, Sl.tup ⟨(Sl.p1 l).2, (Sl.p2 l).2, (Sl.p3 l).2, (Sl.p4 l).2, (Sl.p5 l).2, (Sl.p6 l).2, (Sl.p7 l).2, (Sl.p8 l).2, (Sl.p9 l).2⟩) := by
  unfold Sl.slotC
  simp only [seq_rd]
  rfl
theorem Sl.bad_p : Sl.slotC.bad l = endOf (Sl.p9 l).1.1 (Sl.p9 l).1.2 := by
  unfold Cd.bad
  rw [Sl.all_p l]
theorem Sl.rd_p : Sl.rd l = ⟨(Sl.p1 l).2, (Sl.p2 l).2, (Sl.p3 l).2, (Sl.p4 l).2, (Sl.p5 l).2, (Sl.p6 l).2, (Sl.p7 l).2, (Sl.p8 l).2, (Sl.p9 l).2⟩ := by
  unfold Sl.rd
  rw [Sl.all_p l]
  rfl
end
theorem BS.keepS {K : Nat → Prop} {w w' : World} {A : Option Addr} {n : Nat} {l : List UInt8} (h : BS w A n l) (hk : Keep K w w') (hA : 0 < n → ∀ ad, A = some ad → K ad.block) : BS w' A n l := by
  refine ⟨h.1, fun hn => ?_⟩
  obtain ⟨b, o, rfl, hc⟩ := h.2 hn
  refine ⟨b, o, rfl, fun j hj => ?_⟩
  rw [← hc j hj]
  exact World.cell?_of_block (hk.block b (hA hn _ rfl))
theorem Sl.rd_wide (l : List UInt8) (h : Sl.slotC.bad l = 0) : Fits (Sl.rd l) := by
  obtain ⟨_, h5⟩ := Sl.slotC.bad_back l h
  obtain ⟨h1, h2, h3, _⟩ := (Sl.c_ok_iff (Sl.rd l)).1 h5
  exact ⟨h1, h2, h3⟩

end Go.Proofs.YtnhokkdieijkhaaGreatDoor

namespace Go.Proofs.YtnhokkdieijkhaaGreatDoor
open Go.RowKit Go.Shelf

theorem built_Hd (a b : Int) : Tryz.prog.built 72 [(0, .int .u32 a), (1, .int .u32 b)] = some #[.int .u32 a, .int .u32 b] := by kernel_rfl
set_option maxRecDepth 100000 in
set_option maxHeartbeats 1000000 in
theorem handleS_any (s : Vl.Th) (v : Value) (w : World) :
    Calls Tryz.prog 44 #[.agg (sc s v).toArray] w fun e w' => e = .returned (.agg (hc s.ino s.gen).toArray) ∧ Below w.heap.size w w' := by
  have HB0 : Hid (Bw (w.alloc (.cells (sc s v).toArray 32)) w.heap.size (sc s v) 32) := heap_alloc_new w _
  have HW0 : Hid (Below w.heap.size w (w.alloc (.cells (sc s v).toArray 32))) := (Below.refl _ w).alloc (Nat.le_refl _) _
  go_enter Tryz.func44, Tryz.ntmps44
  go_upto_region 1 with (refine wpList_alloc_any rfl 72 rfl _ zero_H ?_; intro w1 hb1 hs1 hw1)
  have HB1 := Lib.hid (HB0.out.below hw1)
  have HW1 := Lib.hid (HW0.out.trans (hw1.mono HW0.out.size))
  have HR1 : Hid (Bw w1 (w.alloc (.cells (sc s v).toArray 32)).heap.size (hc 0 0) 72) := hb1
  have HS0 : Hid (w.heap.size ≤ (w.alloc (.cells (sc s v).toArray 32)).heap.size) := HW0.out.size
  clear hb1 hs1 hw1 HB0 HW0
  generalize (w.alloc (.cells (sc s v).toArray 32)).heap.size = g at *
  have c0 := HB1.out.cell 0 _ rfl
  have c2 := HB1.out.cell 2 _ rfl
  clear HB1
  go_wp2_with (refine wpList_store_part rfl 72 (.tmp 2) (.tmp 7) rfl g 0 (hc s.ino s.gen) rfl rfl 72 _ HR1.out size_H (by simp [hc]) (hc_one _ _) ?_
               intro y hb _ hk
               have HB := Lib.hid hb
               have HK := Lib.hid hk
               clear hb hk)
  exact bodyPost_ret (results_one rfl _ y g HB.out size_H (by rfl) Tryz.underlying72) rfl ⟨rfl, HW1.out.trans (HK.out.below2 (fun k hk => by have := HS0.out; omega))⟩

/-- Two of them, in blocks. -/
structure SB (p q : Nat) (s t : Vl.Th) (v u : Value) (w W : World) : Prop where
  one : Bw W p (sc s v) 32
  two : Bw W q (sc t u) 32
  bel : Below w.heap.size w W
theorem SB.below {p q : Nat} {s t : Vl.Th} {v u : Value} {w W W' : World} (h : SB p q s t v u w W) (hb : Below W.heap.size W W') : SB p q s t v u w W' := ⟨h.one.below hb, h.two.below hb, h.bel.trans (hb.mono h.bel.size)⟩
theorem SB.drew {p q : Nat} {s t : Vl.Th} {v u : Value} {w W : World} (h : SB p q s t v u w W) : SB p q s t v u w W.drew := ⟨h.one, h.two, h.bel.drew⟩
theorem hEqS (a b c d : Nat) (w : World) : (binOp .eql 72 (.agg (hc a b).toArray) (.agg (hc c d).toArray)).run Tryz.prog w = .ok (.bool (decide (a = c) && decide (b = d))) w := by
  unfold hc
  by_cases h1 : a = c
  · subst h1
    by_cases h2 : b = d
    · subst h2
      go_simp
    · have hb : ((b : Int) == (d : Int)) = false := by simp; omega
      go_simp
  · have hb : ((a : Int) == (c : Int)) = false := by simp; omega
    go_simp
theorem run_hEq {o : Oper} {a : Act} {x y : Operand} (ho : o.op = .binOp .eql 72 x y 72) (A B C D : Nat) (hx : a.eval x = .agg (hc A B).toArray) (hy : a.eval y = .agg (hc C D).toArray) (w : World) :
    (execOp a.eval o).run Tryz.prog w = .ok (.value (.bool (decide (A = C) && decide (B = D)))) w := by
  unfold execOp
  simp [eqGuard, ho, hx, hy, hEqS]

set_option maxRecDepth 100000 in
set_option maxHeartbeats 2000000 in
theorem same1_any (s t : Vl.Th) (v u : Value) (p q : Nat) (w : World) (h1 : Bw w p (sc s v) 32) (h2 : Bw w q (sc t u) 32) :
    Calls Tryz.prog 43 #[.pointer (some ⟨p, 0, none⟩), .pointer (some ⟨q, 0, none⟩)] w fun e w' => e = .returned (.bool (decide (s.ino = t.ino) && decide (s.gen = t.gen))) ∧ Below w.heap.size w w' := by
  have HGd : Hid (SB p q s t v u w w.drew) := ⟨h1, h2, (Below.refl _ _).drew⟩
  have HSd : Hid ((fun W : World => Bw W p (sc s v) 32 ∧ Bw W q (sc t u) 32) w.drew) := ⟨h1, h2⟩
  clear h1 h2
  go_enter Tryz.func43, Tryz.ntmps43
  go_upto_region 1 with fail
  refine wp_region_held_drew (S := fun W : World => Bw W p (sc s v) 32 ∧ Bw W q (sc t u) 32) (by kernel_rfl) HSd.out (fun _ => ?_)
  change wpAnyH _ _ _ _ _ 6 (Array.replicate 6 false) _ _
  refine takeH (i := 0) 3 (.agg (sc s v).toArray) rfl rfl (by kernel_rfl) (by kernel_rfl) (by kernel_rfl) (fun _ _ _ h => h) (.inl ⟨by rfl, fun W hW => by (exact run_load_part 32 (.tmp 0) rfl p 0 rfl _ Tryz.underlying32 rfl (sc s v) 32 _ hW.1 size_Sl (fun j u hu => by rw [Nat.zero_add]; exact hu))⟩) HSd.out ?_
  simp only [Act.put, List.setIfInBounds_toArray, List.set_cons_zero, List.set_cons_succ]
  refine takeH (i := 2) 5 (.agg (sc t u).toArray) rfl rfl (by kernel_rfl) (by kernel_rfl) (by kernel_rfl) (fun _ _ _ h => h) (.inl ⟨by rfl, fun W hW => by (exact run_load_part 32 (.tmp 1) rfl q 0 rfl _ Tryz.underlying32 rfl (sc t u) 32 _ hW.2 size_Sl (fun j u hu => by rw [Nat.zero_add]; exact hu))⟩) HSd.out ?_
  simp only [Act.put, List.setIfInBounds_toArray, List.set_cons_zero, List.set_cons_succ]
  refine wpAnyH_ready (rs := [1]) (by kernel_rfl) (by simp) ?_
  refine AllReadyH.cons rfl (fun K hK => ?_) AllReadyH.nil
  go_simp
  refine (handleS_any s v _).mono ?_
  rintro e y1 ⟨rfl, hb⟩
  have HG1 := Lib.hid (HGd.out.below hb)
  have HS1 : Hid ((fun W : World => Bw W p (sc s v) 32 ∧ Bw W q (sc t u) 32) y1) := ⟨HG1.out.one, HG1.out.two⟩
  refine hK.out _ _ HS1.out fun _ => ?_
  clear hK K hb HGd HSd
  refine wpAnyH_ready (rs := [3]) (by kernel_rfl) (by simp) ?_
  refine AllReadyH.cons rfl (fun K hK => ?_) AllReadyH.nil
  go_simp
  refine (handleS_any t u _).mono ?_
  rintro e y2 ⟨rfl, hb⟩
  have HG2 := Lib.hid (HG1.out.below hb)
  have HS2 : Hid ((fun W : World => Bw W p (sc s v) 32 ∧ Bw W q (sc t u) 32) y2) := ⟨HG2.out.one, HG2.out.two⟩
  refine hK.out _ _ HS2.out fun _ => ?_
  clear hK K hb HG1 HS1
  refine takeH (i := 4) 7 (.bool (decide (s.ino = t.ino) && decide (s.gen = t.gen))) rfl rfl (by kernel_rfl) (by kernel_rfl) (by kernel_rfl) (fun _ _ _ h => h) (.inl ⟨by rfl, fun W hW => by (exact run_hEq (x := .tmp 4) (y := .tmp 6) rfl s.ino s.gen t.ino t.gen rfl rfl W)⟩) HS2.out ?_
  simp only [Act.put, List.setIfInBounds_toArray, List.set_cons_zero, List.set_cons_succ]
  refine takeH (i := 5) 2 (.bool (decide (s.ino = t.ino) && decide (s.gen = t.gen))) rfl rfl (by kernel_rfl) (by kernel_rfl) (by kernel_rfl) (fun _ _ _ h => h) (.inl ⟨by rfl, fun W hW => by go_simp⟩) HS2.out ?_
  simp only [Act.put, List.setIfInBounds_toArray, List.set_cons_zero, List.set_cons_succ]
  refine wpAnyH_done (by kernel_rfl) ?_ _
  go_wp2_with fail
  go_ret
  exact ⟨rfl, HG2.out.bel⟩

set_option maxRecDepth 100000 in
set_option maxHeartbeats 1000000 in
theorem same2_any (s t : Vl.Th) (v u : Value) (p q : Nat) (w : World) (h1 : Bw w p (sc s v) 32) (h2 : Bw w q (sc t u) 32) :
    Calls Tryz.prog 45 #[.pointer (some ⟨p, 0, none⟩), .pointer (some ⟨q, 0, none⟩)] w fun e w' => e = .returned (.bool (decide (s.kind = t.kind) && decide (s.links = t.links) && decide (s.mode = t.mode))) ∧ w = w' := by
  have a1 := h1.cell 1 _ rfl
  have a2 := h1.cell 3 _ rfl
  have a3 := h1.cell 4 _ rfl
  have b1 := h2.cell 1 _ rfl
  have b2 := h2.cell 3 _ rfl
  have b3 := h2.cell 4 _ rfl
  clear h1 h2
  by_cases g1 : s.kind = t.kind
  rotate_left
  · have hb : ((s.kind : Int) == (t.kind : Int)) = false := by simp; omega
    rw [decide_eq_false g1]
    clear g1
    go_enter Tryz.func45, Tryz.ntmps45
    go_wp2
    go_ret
    exact ⟨rfl, rfl⟩
  have hb : ((s.kind : Int) == (t.kind : Int)) = true := by simp; omega
  rw [decide_eq_true g1]
  clear g1
  by_cases g2 : s.links = t.links
  rotate_left
  · have hc : ((s.links : Int) == (t.links : Int)) = false := by simp; omega
    rw [decide_eq_false g2]
    clear g2
    go_enter Tryz.func45, Tryz.ntmps45
    go_wp2
    go_ret
    exact ⟨rfl, rfl⟩
  have hc : ((s.links : Int) == (t.links : Int)) = true := by simp; omega
  rw [decide_eq_true g2]
  clear g2
  by_cases g3 : s.mode = t.mode
  rotate_left
  · have hd : ((s.mode : Int) == (t.mode : Int)) = false := by simp; omega
    rw [decide_eq_false g3]
    clear g3
    go_enter Tryz.func45, Tryz.ntmps45
    go_wp2
    go_ret
    exact ⟨rfl, rfl⟩
  have hd : ((s.mode : Int) == (t.mode : Int)) = true := by simp; omega
  rw [decide_eq_true g3]
  clear g3
  go_enter Tryz.func45, Tryz.ntmps45
  go_wp2
  go_ret
  exact ⟨rfl, rfl⟩

set_option maxRecDepth 100000 in
set_option maxHeartbeats 1000000 in
theorem same3_any (s t : Vl.Th) (v u : Value) (p q : Nat) (w : World) (h1 : Bw w p (sc s v) 32) (h2 : Bw w q (sc t u) 32) :
    Calls Tryz.prog 46 #[.pointer (some ⟨p, 0, none⟩), .pointer (some ⟨q, 0, none⟩)] w fun e w' => e = .returned (.bool (decide (s.change = t.change) && decide (s.cookie = t.cookie) && decide (s.verf = t.verf))) ∧ w = w' := by
  have a1 := h1.cell 5 _ rfl
  have a2 := h1.cell 6 _ rfl
  have a3 := h1.cell 7 _ rfl
  have b1 := h2.cell 5 _ rfl
  have b2 := h2.cell 6 _ rfl
  have b3 := h2.cell 7 _ rfl
  clear h1 h2
  by_cases g1 : s.change = t.change
  rotate_left
  · have hb : ((s.change : Int) == (t.change : Int)) = false := by simp; omega
    rw [decide_eq_false g1]
    clear g1
    go_enter Tryz.func46, Tryz.ntmps46
    go_wp2
    go_ret
    exact ⟨rfl, rfl⟩
  have hb : ((s.change : Int) == (t.change : Int)) = true := by simp; omega
  rw [decide_eq_true g1]
  clear g1
  by_cases g2 : s.cookie = t.cookie
  rotate_left
  · have hc : ((s.cookie : Int) == (t.cookie : Int)) = false := by simp; omega
    rw [decide_eq_false g2]
    clear g2
    go_enter Tryz.func46, Tryz.ntmps46
    go_wp2
    go_ret
    exact ⟨rfl, rfl⟩
  have hc : ((s.cookie : Int) == (t.cookie : Int)) = true := by simp; omega
  rw [decide_eq_true g2]
  clear g2
  by_cases g3 : s.verf = t.verf
  rotate_left
  · have hd : ((s.verf : Int) == (t.verf : Int)) = false := by simp; omega
    rw [decide_eq_false g3]
    clear g3
    go_enter Tryz.func46, Tryz.ntmps46
    go_wp2
    go_ret
    exact ⟨rfl, rfl⟩
  have hd : ((s.verf : Int) == (t.verf : Int)) = true := by simp; omega
  rw [decide_eq_true g3]
  clear g3
  go_enter Tryz.func46, Tryz.ntmps46
  go_wp2
  go_ret
  exact ⟨rfl, rfl⟩

set_option maxRecDepth 100000 in
set_option maxHeartbeats 1000000 in
theorem same4_any (s t : Vl.Th) (A : Option Addr) (n cp : Nat) (B : Option Addr) (m cq : Nat) (p q : Nat) (w : World) (h1 : Bw w p (sc s (.slice A n cp)) 32) (h2 : Bw w q (sc t (.slice B m cq)) 32) (hx : BS w A n s.dt) (hy : BS w B m t.dt) :
    Calls Tryz.prog 47 #[.pointer (some ⟨p, 0, none⟩), .pointer (some ⟨q, 0, none⟩)] w fun e w' => e = .returned (.bool (decide (s.dt = t.dt))) ∧ w = w' := by
  have a8 := h1.cell 8 _ rfl
  have b8 := h2.cell 8 _ rfl
  have HC := Lib.hid (Tryz.bytes_Equal_strs (.slice A n cp) (.slice B m cq) (txt s.dt) (txt t.dt) w (run_convert_bs _ _ _ _ _ hx) (run_convert_bs _ _ _ _ _ hy))
  have HE : Hid (((txt s.dt).toList == (txt t.dt).toList) = decide (s.dt = t.dt)) := by
    show _ = _
    rw [txt_toList, txt_toList, Bool.eq_iff_iff]
    simp
  rw [HE.out] at HC
  clear h1 h2 hx hy HE
  go_enter Tryz.func47, Tryz.ntmps47
  go_wp2_with fail
  refine HC.out.mono ?_
  rintro e w1 ⟨rfl, rfl⟩
  go_wp2_with fail
  go_ret
  exact ⟨rfl, rfl⟩

def sameFs (p q : Nat) : List (Nat × Array Value) := [(43, #[.pointer (some ⟨p, 0, none⟩), .pointer (some ⟨q, 0, none⟩)]), (45, #[.pointer (some ⟨p, 0, none⟩), .pointer (some ⟨q, 0, none⟩)]), (46, #[.pointer (some ⟨p, 0, none⟩), .pointer (some ⟨q, 0, none⟩)]), (47, #[.pointer (some ⟨p, 0, none⟩), .pointer (some ⟨q, 0, none⟩)])]
def sameBs (s t : Vl.Th) : List Bool := [decide (s.ino = t.ino) && decide (s.gen = t.gen), decide (s.kind = t.kind) && decide (s.links = t.links) && decide (s.mode = t.mode), decide (s.change = t.change) && decide (s.cookie = t.cookie) && decide (s.verf = t.verf), decide (s.dt = t.dt)]
theorem same_bools (s t : Vl.Th) : (sameBs s t).all id = decide (s = t) := by
  obtain ⟨a0, a1, a2, a3, a4, a5, a6, a7, a8⟩ := s
  obtain ⟨b0, b1, b2, b3, b4, b5, b6, b7, b8⟩ := t
  rw [Bool.eq_iff_iff]
  simp only [sameBs, List.all_cons, List.all_nil, Bool.and_true, id_eq, Bool.and_eq_true, decide_eq_true_eq, Vl.Th.mk.injEq]
  constructor
  · rintro ⟨⟨h0, h2⟩, ⟨⟨h1, h3⟩, h4⟩, ⟨⟨h5, h6⟩, h7⟩, h8⟩
    exact ⟨h0, h1, h2, h3, h4, h5, h6, h7, h8⟩
  · rintro ⟨h0, h1, h2, h3, h4, h5, h6, h7, h8⟩
    exact ⟨⟨h0, h2⟩, ⟨⟨h1, h3⟩, h4⟩, ⟨⟨h5, h6⟩, h7⟩, h8⟩
theorem same_asked (s t : Vl.Th) (A : Option Addr) (n cp : Nat) (B : Option Addr) (m cq : Nat) (p q : Nat) (w : World) (h1 : Bw w p (sc s (.slice A n cp)) 32) (h2 : Bw w q (sc t (.slice B m cq)) 32) (hx : BS w A n s.dt) (hy : BS w B m t.dt) : Asked w (sameFs p q) (sameBs s t) := by
  refine ⟨rfl, fun j hj hb _ W hW => ?_⟩
  have h1W := h1.below hW
  have h2W := h2.below hW
  rcases j with _ | _ | _ | _ | j
  · exact ⟨enters_of Tryz.func43 (by kernel_rfl) rfl, same1_any s t _ _ p q W h1W h2W⟩
  · exact ⟨enters_of Tryz.func45 (by kernel_rfl) rfl, still_below (same2_any s t _ _ p q W h1W h2W)⟩
  · exact ⟨enters_of Tryz.func46 (by kernel_rfl) rfl, still_below (same3_any s t _ _ p q W h1W h2W)⟩
  · exact ⟨enters_of Tryz.func47 (by kernel_rfl) rfl, still_below (same4_any s t A n cp B m cq p q W h1W h2W (hx.below hW) (hy.below hW))⟩
  · exact absurd hj (by simp [sameFs])
set_option maxRecDepth 100000 in
set_option maxHeartbeats 1000000 in
theorem sameS_any (s t : Vl.Th) (A : Option Addr) (n cp : Nat) (B : Option Addr) (m cq : Nat) (w : World) (hx : BS w A n s.dt) (hy : BS w B m t.dt) :
    Calls Tryz.prog 16 #[.agg (sc s (.slice A n cp)).toArray, .agg (sc t (.slice B m cq)).toArray] w fun e w' => e = .returned (.bool (decide (s = t))) ∧ Below w.heap.size w w' := by
  have HX := Lib.hid hx
  have HY := Lib.hid hy
  have HB0 : Hid (Bw ((w.alloc (.cells (sc s (.slice A n cp)).toArray 32)).alloc (.cells (sc t (.slice B m cq)).toArray 32)) w.heap.size (sc s (.slice A n cp)) 32) := (Below.heap_alloc _ _ _ (by simp)).trans (heap_alloc_new w _)
  have HD0 : Hid (Bw ((w.alloc (.cells (sc s (.slice A n cp)).toArray 32)).alloc (.cells (sc t (.slice B m cq)).toArray 32)) (w.heap.size + 1) (sc t (.slice B m cq)) 32) := by
    have := heap_alloc_new (w.alloc (.cells (sc s (.slice A n cp)).toArray 32)) (.cells (sc t (.slice B m cq)).toArray 32)
    show Bw _ _ _ _
    unfold Bw
    simpa using this
  have HW0 : Hid (Below w.heap.size w ((w.alloc (.cells (sc s (.slice A n cp)).toArray 32)).alloc (.cells (sc t (.slice B m cq)).toArray 32))) := ((Below.refl _ _).alloc (Nat.le_refl _) _).alloc (by simp) _
  have HOK := Lib.hid (same_bools s t)
  clear hx hy
  have hmf : ∀ (fn : Fn) (first cap : Array Value) (w : World), (Instr.makeFunc fn first cap).run Tryz.prog w = .ok (.func fn first cap) w := fun _ _ _ _ => rfl
  go_enter Tryz.func16, Tryz.ntmps16
  go_upto_region 1 with fail
  generalize (w.alloc (.cells (sc s (.slice A n cp)).toArray 32)).alloc (.cells (sc t (.slice B m cq)).toArray 32) = w0 at *
  go_wp2_with fail
  refine (all_any w0.heap.size 4 4 (sameFs w.heap.size (w.heap.size + 1)) (sameBs s t) _ (FS.new w0 (sameFs w.heap.size (w.heap.size + 1)) _ _ rfl) (by omega) ?_).mono ?_
  · have hal : Below w0.heap.size w0 (w0.alloc (.cells ((sameFs w.heap.size (w.heap.size + 1)).map fun f => fnV f.1 f.2).toArray 23)) := (Below.refl _ _).alloc (Nat.le_refl _) _
    exact same_asked s t A n cp B m cq _ _ _ (HB0.out.below hal) (HD0.out.below hal) ((HX.out.below HW0.out).alloc _) ((HY.out.below HW0.out).alloc _)
  rintro e w1 ⟨rfl, hb1⟩
  have HW1 : Hid (Below w.heap.size w w1) := HW0.out.trans (((Below.refl w0.heap.size w0).alloc (Nat.le_refl _) _).trans (hb1.mono (by simp)) |>.mono HW0.out.size)
  clear hb1
  rw [HOK.out]
  clear HOK
  go_wp2_with fail
  go_ret
  exact ⟨rfl, HW1.out⟩
end Go.Proofs.YtnhokkdieijkhaaGreatDoor

namespace Go.Proofs.YtnhokkdieijkhaaGreatDoor
open Go.RowKit

/-- The cells of an inode whose blocks are v. -/
def nic (x : Nd) (v : Value) : List Value := [.int .u32 (x.kind : Int), .int .u32 (x.gen : Int), .int .u32 (x.links : Int), .int .u32 (x.mode : Int), .int .u32 (x.size : Int), .int .u64 (x.change : Int), .int .u64 (x.cookie : Int), .int .u64 (x.verf : Int), v]
theorem Vl.fil_len {B : Nat → List UInt8} (h : ∀ i, (B i).length ≤ 96) (size : Nat) : ∀ (l : List Nat) (s : List UInt8 × Bool), (Vl.fil B size l s).1.length ≤ s.1.length + 96 * l.length
  | [], s => by simp [Vl.fil]
  | b :: r, s => by
    have h1 := Vl.fil_len h size r (s.1 ++ B (35 + b), s.2 && decide (((B (35 + b)).length : Int) = min ((size : Int) - (s.1.length : Int)) 96))
    have h2 := h (35 + b)
    show (Vl.fil B size r _).1.length ≤ _
    rw [List.length_append] at h1
    rw [List.length_cons]
    omega
theorem own_beneath {B : Nat} {e : TypeId} {k : Nat} {v : Value} {n : Nat} {xs : List Value} {w w' : World} (h : w.ownsRow B e k v n xs) (hb : Below w.heap.size w w') : w'.ownsRow B e k v n xs :=
  h.kept (row := none) ⟨hb.os, hb.tape, hb.output, hb.size, fun k hk _ => hb.block k hk⟩ (by cases v.ownBlock <;> simp)
theorem Bw.set {w : World} {g : Nat} {cs : List Value} {t : TypeId} (h : Bw w g cs t) (o : Nat) (v : Value) : Bw (w.setCell ⟨g, o, none⟩ v) g (cs.set o v) t := by
  unfold Bw at h ⊢
  rw [setCell_eq_setRow _ _ _ _ _ _ _ h, setRow_heap _ _ _ _ _ _ h]
  simp
theorem Bw.off {w : World} {g : Nat} {cs : List Value} {t : TypeId} (h : Bw w g cs t) {a : Addr} (ha : g ≠ a.block) (v : Value) : Bw (w.setCell a v) g cs t := by
  unfold Bw at h ⊢
  rw [Below.heap_setCell _ _ _ _ ha]
  exact h
/-- A row of one kind is no block of another kind. -/
theorem Bw.no_row {w : World} {g : Nat} {cs : List Value} {t e : TypeId} (h : Bw w g cs t) {base k n : Nat} {v : Value} {xs : List Value} (ho : w.ownsRow base e k v n xs) (ht : t ≠ e) : v.ownBlock ≠ some g := by
  intro he
  rcases ho.2 with ⟨h1, _⟩ | ⟨g', cap, cur, h1, _, h3, _⟩
  · rw [h1] at he; cases he
  · rw [h1] at he
    simp only [Value.ownBlock, Option.some.injEq] at he
    subst he
    unfold Bw at h
    rw [h3] at h
    simp only [Option.some.injEq, Obj.cells.injEq] at h
    exact ht h.2.1.symm
/-- While the bytes of an inode's blocks are gathered: four boxes from block b on. -/
structure CI (w : World) (p : Nat) (B : Nat → List UInt8) (x : Nd) (v : Value) (pre : List Nat) (W : World) : Prop where
  bel : Below w.heap.size w W
  bt : Bw W w.heap.size [.pointer (some ⟨p, 0, none⟩)] 24
  bn : Bw W (w.heap.size + 1) (nic x v) 85
  bd : ∃ A c, Bw W (w.heap.size + 2) [.slice A (Vl.fil B x.size pre ([], true)).1.length c] 30 ∧ W.ownsRow w.heap.size 5 1 (.slice A (Vl.fil B x.size pre ([], true)).1.length c) (Vl.fil B x.size pre ([], true)).1.length (bc (Vl.fil B x.size pre ([], true)).1)
  bf : Bw W (w.heap.size + 3) [.bool (Vl.fil B x.size pre ([], true)).2] 4
theorem CI.below {w W W' : World} {p : Nat} {B : Nat → List UInt8} {x : Nd} {v : Value} {pre : List Nat} (h : CI w p B x v pre W) (hb : Below W.heap.size W W') : CI w p B x v pre W' := by
  obtain ⟨A, c, h1, h2⟩ := h.bd
  exact ⟨h.bel.trans (hb.mono h.bel.size), h.bt.below hb, h.bn.below hb, ⟨A, c, h1.below hb, own_beneath h2 hb⟩, h.bf.below hb⟩
theorem CI.next {w W w1 w2 : World} {p : Nat} {B : Nat → List UInt8} {x : Nd} {v : Value} {pre : List Nat} {b : Nat} (h : CI w p B x v pre W) (hw : Below W.heap.size W w1) {A A2 : Option Addr} {c c2 n2 : Nat} {f2 : Bool}
    (hb : Bw w1 (w.heap.size + 2) [.slice A (Vl.fil B x.size pre ([], true)).1.length c] 30) (ho : w1.ownsRow w.heap.size 5 1 (.slice A (Vl.fil B x.size pre ([], true)).1.length c) (Vl.fil B x.size pre ([], true)).1.length (bc (Vl.fil B x.size pre ([], true)).1))
    (hf : (Vl.fil B x.size (pre ++ [b]) ([], true)).2 = f2) (hn : n2 = (Vl.fil B x.size (pre ++ [b]) ([], true)).1.length) (ho2 : w2.ownsRow w.heap.size 5 1 (.slice A2 n2 c2) n2 (bc (Vl.fil B x.size (pre ++ [b]) ([], true)).1))
    (hg : (w1.setCell ⟨w.heap.size + 3, 0, none⟩ (.bool f2)).grownBy w2 (Value.slice A (Vl.fil B x.size pre ([], true)).1.length c).ownBlock) :
    CI w p B x v (pre ++ [b]) (w2.setCell ⟨w.heap.size + 2, 0, none⟩ (.slice A2 n2 c2)) := by
  subst hf hn
  have ht := h.bt.below hw
  have hn := h.bn.below hw
  have hF := h.bf.below hw
  have ht1 := (ht.off (a := ⟨w.heap.size + 3, 0, none⟩) (by show w.heap.size ≠ w.heap.size + 3; omega) (.bool (Vl.fil B x.size (pre ++ [b]) ([], true)).2)).grown hg (by have := ht.no_row ho (by decide); exact this)
  have hn1 := (hn.off (a := ⟨w.heap.size + 3, 0, none⟩) (by show w.heap.size + 1 ≠ w.heap.size + 3; omega) (.bool (Vl.fil B x.size (pre ++ [b]) ([], true)).2)).grown hg (hn.no_row ho (by decide))
  have hb1 := (hb.off (a := ⟨w.heap.size + 3, 0, none⟩) (by show w.heap.size + 2 ≠ w.heap.size + 3; omega) (.bool (Vl.fil B x.size (pre ++ [b]) ([], true)).2)).grown hg (hb.no_row ho (by decide))
  have hf1 := (hF.set 0 (.bool (Vl.fil B x.size (pre ++ [b]) ([], true)).2)).grown hg (hF.no_row ho (by decide))
  have hbel : Below w.heap.size w w2 := ((h.bel.trans (hw.mono h.bel.size)).setCell (p := ⟨w.heap.size + 3, 0, none⟩) (by show w.heap.size ≤ w.heap.size + 3; omega) _).grown hg (by have := h.bel.size; have := hw.size; simp [World.setCell]; omega) fun k hk => (ho.lt k hk).1
  refine ⟨hbel.setCell (p := ⟨w.heap.size + 2, 0, none⟩) (by show w.heap.size ≤ w.heap.size + 2; omega) _, ht1.off (by show w.heap.size ≠ w.heap.size + 2; omega) _, hn1.off (by show w.heap.size + 1 ≠ w.heap.size + 2; omega) _, ⟨A2, c2, hb1.set 0 _, ?_⟩, hf1.off (by show w.heap.size + 3 ≠ w.heap.size + 2; omega) _⟩
  exact ownsRow_setCell_other ho2 (a := ⟨w.heap.size + 2, 0, none⟩) (hb1.no_row ho2 (by decide)) _

section
variable {w : World} {p m : Nat} {x : Sl} {S : Nat → Prop} {X : TX}
set_option maxRecDepth 100000 in
set_option maxHeartbeats 2000000 in
theorem content1_any (h : Tq w p m x S X) (hN : 36 ≤ x.n) (hN2 : x.n ≤ 803) (hs : ∀ i, (X.get i).length ≤ 96) (nd : Nd) (hz : nd.size ≤ 768) (v : Value) (pre : List Nat) (b : Nat) (W : World) (hI : CI w p X.get nd v pre W) (hb : b < x.n - 35) (hpre : pre.length ≤ 8) :
    Calls Tryz.prog 81 #[.int .i64 (b : Int), .pointer (some ⟨w.heap.size, 0, none⟩), .pointer (some ⟨w.heap.size + 3, 0, none⟩), .pointer (some ⟨w.heap.size + 1, 0, none⟩), .pointer (some ⟨w.heap.size + 2, 0, none⟩)] W
      fun e w' => e = .returned (.tuple #[]) ∧ CI w p X.get nd v (pre ++ [b]) w' := by
  obtain ⟨i0, hi0, hz0, hz1, hz2⟩ := info_parts info_u8
  have HG := Lib.hid (get_ok (h.below hI.bel) (35 + b) (by omega))
  have HL := Lib.hid (Vl.fil_len hs nd.size pre ([], true))
  have HSN := Lib.hid (Vl.fil_snoc X.get nd.size pre b ([], true))
  have HLB := Lib.hid (hs (35 + b))
  have HI := Lib.hid hI
  have hsz := HI.out.bel.size
  obtain ⟨A, c, hd1, hd2⟩ := hI.bd
  have k0 : W.cell? ⟨w.heap.size, 0, none⟩ = some (.pointer (some ⟨p, 0, none⟩)) := hI.bt.cell 0 _ rfl
  have HBD := Lib.hid hd1
  have HRO := Lib.hid hd2
  have HBT := Lib.hid hI.bt
  have HBN := Lib.hid hI.bn
  have HBF := Lib.hid hI.bf
  have HW0 := Lib.hid hI.bel
  clear h hI hs hd1 hd2
  obtain ⟨s1, hs1⟩ : ∃ s1, Vl.fil X.get nd.size pre ([], true) = s1 := ⟨_, rfl⟩
  rw [hs1] at HBD HRO HBF HSN HL
  have HS1 := Lib.hid hs1
  clear hs1
  obtain ⟨l, f⟩ := s1
  go_enter Tryz.func81, Tryz.ntmps81
  go_wp2_with fail
  rw [show (35 : Int) + (b : Int) = ((35 + b : Nat) : Int) by omega]
  refine HG.out.mono ?_
  rintro e w1 ⟨A1, n1, c1, rfl, hb1, -, -, -, hw1, -⟩
  have HB1 := Lib.hid hb1
  have HW1 := Lib.hid hw1
  have HLn : Hid ((X.get (35 + b)).length = n1) := hb1.1
  have HBD1 := Lib.hid (HBD.out.below hw1)
  have HRO1 := Lib.hid (own_beneath HRO.out hw1)
  have HBF1 := Lib.hid (HBF.out.below hw1)
  have kf := HBF1.out.cell 0 _ rfl
  have kd := HBD1.out.cell 0 _ rfl
  have ks := (HBN.out.below hw1).cell 4 (.int .u32 (nd.size : Int)) rfl
  have ff := HBF1.out.froz 0
  have fd := HBD1.out.froz 0
  have hl8 : l.length ≤ 768 := by have := HL.out; simp at this; omega
  have hn8 : n1 ≤ 96 := by rw [← HLn.out]; exact HLB.out
  clear hb1 hw1 HG k0
  have HXS : ∀ f2, Hid (BS (w1.setCell ⟨w.heap.size + 3, 0, none⟩ (.bool f2)) A1 n1 (X.get (35 + b))) := fun f2 => HB1.out.off (q := w.heap.size + 3) (fun o z e => by
      rw [cell_of_row _ _ _ _ _ _ HBF1.out] at e
      match o with
      | 0 => simp at e
      | n + 1 => simp at e) (fun k _ hk => Below.heap_setCell _ _ _ _ hk)
  have HRS : ∀ f2, Hid ((w1.setCell ⟨w.heap.size + 3, 0, none⟩ (.bool f2)).ownsRow w.heap.size 5 1 (.slice A l.length c) l.length (bc l)) := fun f2 => ownsRow_setCell_other HRO1.out (a := ⟨w.heap.size + 3, 0, none⟩) (HBF1.out.no_row HRO1.out (by decide)) _
  have HDS : ∀ f2, Hid (Bw (w1.setCell ⟨w.heap.size + 3, 0, none⟩ (.bool f2)) (w.heap.size + 2) [.slice A l.length c] 30) := fun f2 => HBD1.out.off (by show w.heap.size + 2 ≠ w.heap.size + 3; omega) _
  have HSZ : ∀ f2, Hid (w.heap.size ≤ (w1.setCell ⟨w.heap.size + 3, 0, none⟩ (.bool f2)).heap.size) := fun f2 => by show _ ≤ _; have := HW1.out.size; simp [World.setCell]; omega
  cases f with
  | false =>
    go_wp2_with (at_builtin; refine wpList_append_bytes _ rfl _ _ 30 rfl w.heap.size 5 i0 Tryz.underlying30 hi0 hz0 hz1 hz2 A l.length c l rfl (HRS false).out A1 n1 c1 (X.get (35 + b)) rfl (HXS false).out (by omega) (HSZ false).out ?_; intro A2 c2 w2 ho2 hg2 _; have hBD2 := (HDS false).out.grown hg2 ((HDS false).out.no_row (HRS false).out (by decide)); have kd2 := hBD2.cell 0 _ rfl; have fd2 := hBD2.froz 0; clear hBD2)
    refine bodyPost_end (results_none rfl _ _ _) rfl ⟨rfl, ?_⟩
    refine HI.out.next HW1.out (A := A) (c := c) (f2 := false) (by rw [HS1.out]; exact HBD1.out) (by rw [HS1.out]; exact HRO1.out) (by rw [HSN.out]; rfl) (by rw [HSN.out]; simp [HLn.out]) (by rw [HSN.out]; exact ho2) (by rw [HS1.out]; exact hg2)
  | true =>
    go_wp2_with (at_builtin; refine wpList_append_bytes _ rfl _ _ 30 rfl w.heap.size 5 i0 Tryz.underlying30 hi0 hz0 hz1 hz2 A l.length c l rfl (HRS ((n1 : Int) == min ((nd.size : Int) - (l.length : Int)) 96)).out A1 n1 c1 (X.get (35 + b)) rfl (HXS ((n1 : Int) == min ((nd.size : Int) - (l.length : Int)) 96)).out (by omega) (HSZ ((n1 : Int) == min ((nd.size : Int) - (l.length : Int)) 96)).out ?_; intro A2 c2 w2 ho2 hg2 _; have hBD2 := (HDS ((n1 : Int) == min ((nd.size : Int) - (l.length : Int)) 96)).out.grown hg2 ((HDS ((n1 : Int) == min ((nd.size : Int) - (l.length : Int)) 96)).out.no_row (HRS ((n1 : Int) == min ((nd.size : Int) - (l.length : Int)) 96)).out (by decide)); have kd2 := hBD2.cell 0 _ rfl; have fd2 := hBD2.froz 0; clear hBD2)
    refine bodyPost_end (results_none rfl _ _ _) rfl ⟨rfl, ?_⟩
    refine HI.out.next HW1.out (A := A) (c := c) (f2 := ((n1 : Int) == min ((nd.size : Int) - (l.length : Int)) 96)) (by rw [HS1.out]; exact HBD1.out) (by rw [HS1.out]; exact HRO1.out) (by rw [HSN.out, HLn.out]; rfl) (by rw [HSN.out]; simp [HLn.out]) (by rw [HSN.out]; exact ho2) (by rw [HS1.out]; exact hg2)
theorem CI.start (X : TX) (nd : Nd) (v : Value) : CI w p X.get nd v [] ((((w.alloc (.cells #[.pointer (some ⟨p, 0, none⟩)] 24)).alloc (.cells (nic nd v).toArray 85)).alloc (.cells #[.slice none 0 0] 30)).alloc (.cells #[.bool true] 4)) := by
  have e1 := heap_alloc_new w (.cells #[.pointer (some ⟨p, 0, none⟩)] 24)
  have e2 := heap_alloc_new (w.alloc (.cells #[.pointer (some ⟨p, 0, none⟩)] 24)) (.cells (nic nd v).toArray 85)
  have e3 := heap_alloc_new ((w.alloc (.cells #[.pointer (some ⟨p, 0, none⟩)] 24)).alloc (.cells (nic nd v).toArray 85)) (.cells #[.slice none 0 0] 30)
  have e4 := heap_alloc_new (((w.alloc (.cells #[.pointer (some ⟨p, 0, none⟩)] 24)).alloc (.cells (nic nd v).toArray 85)).alloc (.cells #[.slice none 0 0] 30)) (.cells #[.bool true] 4)
  simp only [World.size_alloc] at e2 e3 e4
  refine ⟨((((Below.refl _ _).alloc (Nat.le_refl _) _).alloc (by simp) _).alloc (by simp; omega) _).alloc (by simp; omega) _, ?_, ?_, ⟨none, 0, ?_, World.ownsRow_nil _ _ _ _⟩, e4⟩
  · show _ = _
    rw [Below.heap_alloc _ _ _ (by simp; omega), Below.heap_alloc _ _ _ (by simp; omega), Below.heap_alloc _ _ _ (by simp)]
    exact e1
  · show _ = _
    rw [Below.heap_alloc _ _ _ (by simp), Below.heap_alloc _ _ _ (by simp)]
    exact e2
  · show _ = _
    rw [Below.heap_alloc _ _ _ (by simp)]
    exact e3
theorem own_new {w : World} {base : Nat} {e : TypeId} {k n c : Nat} {A : Option Addr} {xs : List Value} (h : w.ownsRow base e k (.slice A n c) n xs) : ∀ ad, A = some ad → base ≤ ad.block := by
  intro ad e
  rcases h.2 with ⟨h1, _⟩ | ⟨g, cap, cur, h1, h2, _⟩
  · injection h1 with h1 _ _
    rw [h1] at e
    cases e
  · injection h1 with h1 _ _
    rw [h1] at e
    cases e
    exact h2
/-- What content hands back. -/
def ContQ (n : Nat) (B : Nat → List UInt8) (x : Nd) (w : World) (e : Ending) (w' : World) : Prop :=
  ∃ A k c d, e = .returned (.tuple #[.slice A k c, .bool (Vl.bsOk n B x.size x.bl 0)]) ∧ BS w' A k d ∧ k ≤ 768 ∧ Below w.heap.size w w' ∧ (Vl.bsOk n B x.size x.bl 0 = true → d = Vl.dtOf B x) ∧ (∀ ad, A = some ad → w.heap.size ≤ ad.block) ∧ k ≤ c
set_option maxRecDepth 100000 in
set_option maxHeartbeats 2000000 in
theorem content_any (h : Tq w p m x S X) (hN : 36 ≤ x.n) (hN2 : x.n ≤ 803) (hs : ∀ i, (X.get i).length ≤ 96) (nd : Nd) (hok : nd.okB = true) (hw : nd.Wide) (A : Option Addr) (cp : Nat) (hA : NS .u32 w A nd.bl.length nd.bl) :
    Calls Tryz.prog 56 #[.pointer (some ⟨p, 0, none⟩), .agg #[.int .u32 (nd.kind : Int), .int .u32 (nd.gen : Int), .int .u32 (nd.links : Int), .int .u32 (nd.mode : Int), .int .u32 (nd.size : Int), .int .u64 (nd.change : Int), .int .u64 (nd.cookie : Int), .int .u64 (nd.verf : Int), .slice A nd.bl.length cp]] w
      (ContQ x.n X.get nd w) := by
  have hz : nd.size ≤ 768 := by
    simp only [Nd.okB, Nd.fits, Bool.and_eq_true, decide_eq_true_eq] at hok
    exact hok.1.1.1.2
  have hbl := Nd.okB_len nd hok
  have HFL := Lib.hid (Vl.fil_load hok x.n X.get)
  have hI0 := CI.start (w := w) (p := p) X nd (.slice A nd.bl.length cp)
  have HE : Each 81 #[.pointer (some ⟨w.heap.size, 0, none⟩), .pointer (some ⟨w.heap.size + 3, 0, none⟩), .pointer (some ⟨w.heap.size + 1, 0, none⟩), .pointer (some ⟨w.heap.size + 2, 0, none⟩)] p x.n A nd.bl (CI w p X.get nd (.slice A nd.bl.length cp)) :=
    ⟨enters_of Tryz.func81 (by kernel_rfl) rfl, fun pre W hI => room_any (h.below hI.bel) hN hN2, fun pre W hI => hA.below hI.bel, fun pre W W' hI hb => hI.below hb,
      fun pre b W hI hb hlt _ => content1_any h hN hN2 hs nd hz _ pre b W hI hb (by have := List.length_filter_le (fun b => decide (b < x.n - 35)) nd.bl; omega)⟩
  have HC := Lib.hid (each_any _ _ p x.n A nd cp _ _ HE hI0 hN hN2 (by omega) hw.b)
  have HB0 := Lib.hid hI0
  have HL : Hid ((Vl.fil X.get nd.size (nd.bl.filter fun b => decide (b < x.n - 35)) ([], true)).1.length ≤ 768) := by
    have h1 := Vl.fil_len hs nd.size (nd.bl.filter fun b => decide (b < x.n - 35)) ([], true)
    have h2 := List.length_filter_le (fun b => decide (b < x.n - 35)) nd.bl
    show _ ≤ _
    simp only [List.length_nil] at h1
    omega
  clear h hs hok hw hA hI0 HE
  unfold nic fnV at *
  go_enter Tryz.func56, Tryz.ntmps56
  go_wp2_with fail
  refine HC.out.mono ?_
  rintro e w2 ⟨rfl, hI⟩
  obtain ⟨A2, c2, h1, h2⟩ := hI.bd
  have hf := hI.bf
  have HW2 := Lib.hid hI.bel
  obtain ⟨s1, hs1⟩ : ∃ s1, Vl.fil X.get nd.size (nd.bl.filter fun b => decide (b < x.n - 35)) ([], true) = s1 := ⟨_, rfl⟩
  rw [hs1] at h1 h2 hf HFL HL
  obtain ⟨l, f⟩ := s1
  have kd : w2.cell? ⟨w.heap.size + 1 + 1, 0, none⟩ = some (.slice A2 l.length c2) := h1.cell 0 _ rfl
  have kf : w2.cell? ⟨w.heap.size + 1 + 1 + 1, 0, none⟩ = some (.bool f) := hf.cell 0 _ rfl
  have HO := Lib.hid (BS.of_own h2)
  have HNW := Lib.hid (own_new h2)
  have HCP : Hid (l.length ≤ c2) := own_cap h2
  have HQ : Hid (∀ z, z = Vl.bsOk x.n X.get nd.size nd.bl 0 → ∀ W, (∃ d, W = w2.drewN d) → ContQ x.n X.get nd w (.returned (.tuple #[.slice A2 l.length c2, .bool z])) W) := by
    show ∀ _, _
    rintro z rfl W ⟨d, rfl⟩
    exact ⟨A2, l.length, c2, l, rfl, HO.out.drewN d, HL.out, below_drewN HW2.out d, HFL.out.2, HNW.out, HCP.out⟩
  clear hI h1 h2 hf hs1
  have HZ : Hid (((nd.bl.all fun b => decide (b < x.n - 35)) && f) = Vl.bsOk x.n X.get nd.size nd.bl 0) := HFL.out.1
  generalize (nd.bl.all fun b => decide (b < x.n - 35)) = t at *
  cases t with
  | false =>
    go_wp2_with (go_quiet (fail))
    refine bodyPost_ret (results_tmp2 rfl _ _ _) rfl ?_
    exact HQ.out false (by rw [← HZ.out]; rfl) _ ⟨_, rfl⟩
  | true =>
    go_wp2_with (go_quiet (fail))
    refine bodyPost_ret (results_tmp2 rfl _ _ _) rfl ?_
    exact HQ.out f (by rw [← HZ.out]; rfl) _ ⟨_, rfl⟩
end
end Go.Proofs.YtnhokkdieijkhaaGreatDoor
