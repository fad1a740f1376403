/-
  Plain mathematics of calls and replies: fields one behind the other, what is put of them, what is read (layer 9). No program.
  Replies that are kept, plain: which may be, their bytes, what bytes are of them, what a client's block tells (layer 14). No program.
  Contracts of the document's answers for what is put: U32, U64, Bool, Opaque (as texts).
  Contracts of the document's answers for what is read: raw, number, Read32, Read64, ReadBool, ReadOpaque, End (over values).
  Plain laws on memory for the proofs over layer 3 (disk): an operation by what it did, aggregates that are loaded and stored whole, maps from integers to bytes. Nothing of the program is named here.
  Entries in memory: slices that read as entries, blocks that hold one (layer 8).
  Contracts of slices.IndexFunc at entries, and of package dir's Find and lastCookie (layer 8).
  Contracts of strings.IndexRune, strings.IndexAny and strings.ContainsAny at the two bytes that part names, for every string, ASCII or not (layer 8).
  Contract of package dir's Name (layer 8).
  Contract of package dir's valid: names that may be, no two the same, cookies that rise (layer 8).
  Contract of package dir's Put (layer 8).
  The table of ops, parts of blocks that are stored, and the small functions of package call (layer 9).
  Blocks known whole, parts of them that are stored and loaded, and package call's putHandle, putAttr, getHandle, getAttr (layer 9).
-/
import Derived.Test.YtjgmboleiaehaaaYQ1
import Derived.Deep.RegionWith
import Derived.Deep.RegionHeld3
import Derived.Deep.Cut
import Derived.Laws.Tables
import Derived.Laws.Rows
import Derived.Laws.CopyRow
import Derived.Great.BuildSlice
import Derived.RegionTactic
import Derived.StillTail
import Derived.MapKept
import Derived.TacticsIn
import Derived.OrdersIn
import Derived.IntWalk
import Derived.Deep.LoopGhost
import Derived.Shelf.Abstract
import Derived.Test.YtjgmboleiaehaaaShelf
import Derived.Laws.RangeAny
import Derived.Lib.IndexAny
import Derived.Lib.TrimU
import Derived.BigQuiet
import Derived.Deep.QuietTactic
import Derived.Lib.Hide
import Derived.WalkKit
import Derived.Maps.OwnSet
import Derived.StringKeys
import Derived.Lib.ConvBytes
namespace Go.Proofs.Ytjgmboleiaehaaa
open Go.RowKit

theorem rdO_most (m : Nat) (s : St) (h : (rdO m s).1.2 = 0) : (rdO m s).2.length ≤ m := by
  unfold rdO at h ⊢
  split at h
  · rename_i h1; exact absurd h h1
  rename_i h1
  rw [if_neg h1]
  split at h
  · cases h
  rename_i h2
  rw [if_neg h2]
  split at h
  · cases h
  rename_i h3
  rw [if_neg h3]
  split at h
  · rename_i h4
    rw [if_pos h4]
    simp only [List.length_take]
    omega
  · cases h

/-- A way to put a thing and to read it. -/
structure Cd (α : Type) where
  enc : α → List UInt8
  rd : St → St × α
  ok : α → Prop
  put : ∀ a t, ok a → rd (enc a ++ t, 0) = ((t, 0), a)
  back : ∀ s, (rd s).1.2 = 0 → s.2 = 0 ∧ s.1 = enc (rd s).2 ++ (rd s).1.1 ∧ ok (rd s).2
  cut : ∀ a j, ok a → j < (enc a).length → (rd ((enc a).take j, 0)).1.2 = 10
  err : ∀ l e, e ≠ 0 → (rd (l, e)).1 = (l, e)

/-- A number of n bytes. -/
def cN (n : Nat) : Cd Nat where
  enc := be n
  rd := rdN n
  ok x := x < 256 ^ n
  put a t h := rdN_be n a t h
  back s h := by
    obtain ⟨h1, h2, h3⟩ := rdN_back n s h
    exact ⟨h1, h2, h3⟩
  cut a j h hj := by
    rw [be_length] at hj
    rw [rdN_short]
    rw [List.length_take, be_length]
    omega
  err l e h := by rw [rdN_err n l e h]
/-- Bytes, so many at most. -/
def cO (m : Nat) (hm : m < 4294967296) : Cd (List UInt8) where
  enc := opq
  rd := rdO m
  ok b := b.length ≤ m
  put b t h := rdO_opq m b t (by omega) (by omega)
  back s h := by
    have h0 : s.2 = 0 := by
      by_cases h0 : s.2 = 0
      · exact h0
      · obtain ⟨l, e⟩ := s
        rw [rdO_err m l e h0] at h
        exact absurd h h0
    obtain ⟨l, e⟩ := s
    dsimp only at h0
    subst h0
    refine ⟨rfl, rdO_one m l h, ?_⟩
    exact rdO_most m (l, 0) h
  cut b j h hj := by
    obtain ⟨l, hl⟩ := rdO_cut m b j hj (by omega) (by omega)
    rw [hl]
  err l e h := by rw [rdO_err m l e h]
/-- A bool. -/
def cB : Cd Bool where
  enc b := be 4 (b01 b)
  rd := rdB
  ok _ := True
  put b t _ := by
    have := rdN_be 4 (b01 b) t (by cases b <;> decide)
    unfold rdB
    rw [this]
    cases b <;> rfl
  back s h := by
    unfold rdB at h ⊢
    split at h
    · cases h
    · rename_i hx
      rw [if_neg hx]
      obtain ⟨h1, h2, _⟩ := rdN_back 4 s h
      refine ⟨h1, ?_, trivial⟩
      generalize (rdN 4 s).2 = x at *
      have hb : b01 (x == 1) = x := by
        have : x = 0 ∨ x = 1 := by omega
        rcases this with rfl | rfl <;> rfl
      rw [hb]
      exact h2
  cut b j _ hj := by
    rw [be_length] at hj
    unfold rdB
    rw [rdN_short 4 _ (by rw [List.length_take, be_length]; omega)]
    rfl
  err l e h := by rw [rdB_err l e h]
/-- One behind the other. -/
def Cd.seq {α β : Type} (A : Cd α) (B : Cd β) : Cd (α × β) where
  enc x := A.enc x.1 ++ B.enc x.2
  rd s := ((B.rd (A.rd s).1).1, ((A.rd s).2, (B.rd (A.rd s).1).2))
  ok x := A.ok x.1 ∧ B.ok x.2
  put x t h := by
    have h1 := A.put x.1 (B.enc x.2 ++ t) h.1
    have h2 := B.put x.2 t h.2
    rw [List.append_assoc, h1]
    simp only [h2]
  back s h := by
    obtain ⟨h1, h2, h3⟩ := B.back (A.rd s).1 h
    obtain ⟨h4, h5, h6⟩ := A.back s h1
    refine ⟨h4, ?_, h6, h3⟩
    simp only
    rw [List.append_assoc, ← h2, ← h5]
  cut x j h hj := by
    rw [List.length_append] at hj
    simp only
    by_cases hl : j < (A.enc x.1).length
    · have h1 := A.cut x.1 j h.1 hl
      rw [List.take_append_of_le_length (by omega)]
      generalize hs : (A.rd ((A.enc x.1).take j, 0)).1 = s at *
      obtain ⟨l, e⟩ := s
      dsimp only at h1
      subst h1
      rw [B.err l 10 (by decide)]
    · rw [List.take_append, List.take_of_length_le (Nat.le_of_not_lt hl), A.put x.1 _ h.1]
      exact B.cut x.2 _ h.2 (by omega)
  err l e h := by
    have h1 := A.err l e h
    simp only [h1]
    exact B.err l e h

section
variable {α : Type} (C : Cd α)
/-- What is read of whole bytes: the error of the end. -/
def Cd.bad (l : List UInt8) : Int := endOf (C.rd (l, 0)).1.1 (C.rd (l, 0)).1.2
theorem Cd.bad_put (a : α) (h : C.ok a) : C.bad (C.enc a) = 0 ∧ (C.rd (C.enc a, 0)).2 = a := by
  have := C.put a [] h
  rw [List.append_nil] at this
  unfold Cd.bad
  rw [this]
  exact ⟨rfl, rfl⟩
theorem Cd.bad_more (a : α) (t : List UInt8) (h : C.ok a) (ht : 0 < t.length) : C.bad (C.enc a ++ t) = 12 := by
  unfold Cd.bad
  rw [C.put a t h]
  exact if_pos ⟨rfl, ht⟩
theorem Cd.bad_cut (a : α) (j : Nat) (h : C.ok a) (hj : j < (C.enc a).length) : C.bad ((C.enc a).take j) = 10 := by
  unfold Cd.bad
  have := C.cut a j h hj
  rw [this]
  exact if_neg (fun h => by cases h.1)
theorem Cd.bad_back (l : List UInt8) (h : C.bad l = 0) : l = C.enc (C.rd (l, 0)).2 ∧ C.ok (C.rd (l, 0)).2 := by
  unfold Cd.bad endOf at h
  split at h
  · cases h
  · rename_i hx
    obtain ⟨_, h2, h3⟩ := C.back (l, 0) h
    have h0 : (C.rd (l, 0)).1.1 = [] := by
      have : ¬ 0 < (C.rd (l, 0)).1.1.length := fun hp => hx ⟨h, hp⟩
      exact List.eq_nil_of_length_eq_zero (by omega)
    rw [h0, List.append_nil] at h2
    exact ⟨h2, h3⟩
end

/-! ### Calls -/
structure Cl where
  cli : Nat
  xid : Nat
  op : Nat
  ati : Nat
  atg : Nat
  nm : List UInt8
  toi : Nat
  tog : Nat
  tn : List UInt8
  off : Nat
  vf : Nat
  cnt : Nat
  md : Nat
  dt : List UInt8
  deriving DecidableEq
structure Cl.Wide (c : Cl) : Prop where
  cli : c.cli < 4294967296
  xid : c.xid < 4294967296
  op : c.op < 4294967296
  ati : c.ati < 4294967296
  atg : c.atg < 4294967296
  toi : c.toi < 4294967296
  tog : c.tog < 4294967296
  off : c.off < 18446744073709551616
  vf : c.vf < 18446744073709551616
  cnt : c.cnt < 4294967296
  md : c.md < 4294967296
def c4 : Cd Nat := cN 4
def c8 : Cd Nat := cN 8
def cH : Cd (Nat × Nat) := c4.seq c4
def Cl.zero : Cl := ⟨0, 0, 0, 0, 0, [], 0, 0, [], 0, 0, 0, 0, []⟩
abbrev Ct := Nat × Nat × Nat × (Nat × Nat) × List UInt8 × (Nat × Nat) × List UInt8 × Nat × Nat × Nat × Nat × List UInt8
def callC : Cd Ct := c4.seq (c4.seq (c4.seq (cH.seq ((cO 64 (by decide)).seq (cH.seq ((cO 64 (by decide)).seq (c8.seq (c8.seq (c4.seq (c4.seq (cO 1024 (by decide))))))))))))
def Cl.tup (c : Cl) : Ct := (c.cli, c.xid, c.op, (c.ati, c.atg), c.nm, (c.toi, c.tog), c.tn, c.off, c.vf, c.cnt, c.md, c.dt)
def Cl.of (t : Ct) : Cl := ⟨t.1, t.2.1, t.2.2.1, t.2.2.2.1.1, t.2.2.2.1.2, t.2.2.2.2.1, t.2.2.2.2.2.1.1, t.2.2.2.2.2.1.2, t.2.2.2.2.2.2.1, t.2.2.2.2.2.2.2.1, t.2.2.2.2.2.2.2.2.1, t.2.2.2.2.2.2.2.2.2.1, t.2.2.2.2.2.2.2.2.2.2.1, t.2.2.2.2.2.2.2.2.2.2.2⟩
theorem Cl.of_tup (c : Cl) : Cl.of c.tup = c := rfl
theorem Cl.tup_of (t : Ct) : (Cl.of t).tup = t := rfl
def opOk (op : Nat) : Bool := decide (1 ≤ op) && decide (op ≤ 16)
def Cl.okB (c : Cl) : Bool := opOk c.op && decide (c.nm.length ≤ 64) && decide (c.tn.length ≤ 64) && decide (c.dt.length ≤ 1024)
def Cl.enc (c : Cl) : List UInt8 := callC.enc c.tup
def Cl.errP (c : Cl) : Int := if c.okB then 0 else 1
def Cl.put (c : Cl) : List UInt8 := if c.okB then c.enc else []
def Cl.rd (l : List UInt8) : Cl := Cl.of (callC.rd (l, 0)).2
def Cl.err (l : List UInt8) : Int := if callC.bad l ≠ 0 then callC.bad l else if opOk (Cl.rd l).op then 0 else 11
def Cl.got (l : List UInt8) : Cl := if Cl.err l = 0 then Cl.rd l else Cl.zero
theorem Cl.enc_eq (c : Cl) : c.enc = be 4 c.cli ++ (be 4 c.xid ++ (be 4 c.op ++ ((be 4 c.ati ++ be 4 c.atg) ++ (opq c.nm ++ ((be 4 c.toi ++ be 4 c.tog) ++ (opq c.tn ++ (be 8 c.off ++ (be 8 c.vf ++ (be 4 c.cnt ++ (be 4 c.md ++ opq c.dt)))))))))) := rfl
theorem Cl.ok_iff (c : Cl) : callC.ok c.tup ↔ c.Wide ∧ c.nm.length ≤ 64 ∧ c.tn.length ≤ 64 ∧ c.dt.length ≤ 1024 := by
  constructor
  · rintro ⟨h1, h2, h3, ⟨h4, h5⟩, h6, ⟨h7, h8⟩, h9, h10, h11, h12, h13, h14⟩
    exact ⟨⟨h1, h2, h3, h4, h5, h7, h8, h10, h11, h12, h13⟩, h6, h9, h14⟩
  · rintro ⟨⟨h1, h2, h3, h4, h5, h7, h8, h10, h11, h12, h13⟩, h6, h9, h14⟩
    exact ⟨h1, h2, h3, ⟨h4, h5⟩, h6, ⟨h7, h8⟩, h9, h10, h11, h12, h13, h14⟩
theorem Cl.okB_iff (c : Cl) : c.okB = true ↔ opOk c.op = true ∧ c.nm.length ≤ 64 ∧ c.tn.length ≤ 64 ∧ c.dt.length ≤ 1024 := by
  simp [Cl.okB, Bool.and_eq_true, and_assoc]
theorem Cl.ok_of (c : Cl) (hw : c.Wide) (h : c.okB = true) : callC.ok c.tup := (Cl.ok_iff c).2 ⟨hw, ((Cl.okB_iff c).1 h).2⟩
theorem Cl.got_put (c : Cl) (hw : c.Wide) (h : c.okB = true) : Cl.err c.enc = 0 ∧ Cl.got c.enc = c := by
  obtain ⟨h1, h2⟩ := callC.bad_put c.tup (c.ok_of hw h)
  have h3 : Cl.rd c.enc = c := by
    show Cl.of (callC.rd (callC.enc c.tup, 0)).2 = c
    rw [h2, Cl.of_tup]
  have h4 : Cl.err c.enc = 0 := by
    unfold Cl.err
    rw [show callC.bad c.enc = 0 from h1, if_neg (by simp), h3, if_pos ((Cl.okB_iff c).1 h).1]
  exact ⟨h4, by unfold Cl.got; rw [if_pos h4, h3]⟩
theorem Cl.err_cases (l : List UInt8) (h : Cl.err l = 0) : callC.bad l = 0 ∧ opOk (Cl.rd l).op = true ∧ Cl.got l = Cl.rd l := by
  have hg : Cl.got l = Cl.rd l := if_pos h
  unfold Cl.err at h
  split at h
  · rename_i h1; exact absurd h h1
  · rename_i h1
    split at h
    · rename_i h2; exact ⟨by simpa using h1, h2, hg⟩
    · cases h
theorem Cl.got_back (l : List UInt8) (h : Cl.err l = 0) : (Cl.got l).okB = true ∧ (Cl.got l).enc = l ∧ (Cl.got l).Wide := by
  obtain ⟨h1, h2, h3⟩ := Cl.err_cases l h
  obtain ⟨h4, h5⟩ := callC.bad_back l h1
  have h6 := (Cl.ok_iff (Cl.rd l)).1 h5
  rw [h3]
  exact ⟨(Cl.okB_iff _).2 ⟨h2, h6.2⟩, h4.symm, h6.1⟩
theorem Cl.err_more (c : Cl) (t : List UInt8) (hw : c.Wide) (h : c.okB = true) (ht : 0 < t.length) : Cl.err (c.enc ++ t) = 12 := by
  have := callC.bad_more c.tup t (c.ok_of hw h) ht
  unfold Cl.err
  rw [show callC.bad (c.enc ++ t) = 12 from this]
  rfl
theorem Cl.err_cut (c : Cl) (j : Nat) (hw : c.Wide) (h : c.okB = true) (hj : j < c.enc.length) : Cl.err (c.enc.take j) = 10 := by
  have := callC.bad_cut c.tup j (c.ok_of hw h) hj
  unfold Cl.err
  rw [show callC.bad (c.enc.take j) = 10 from this]
  rfl
theorem Cl.enc_inj (a b : Cl) (ha : a.Wide) (hb : b.Wide) (h1 : a.okB = true) (h2 : b.okB = true) (h : a.enc = b.enc) : a = b := by
  have := (Cl.got_put a ha h1).2
  rw [h, (Cl.got_put b hb h2).2] at this
  exact this.symm
theorem opq_mod (b : List UInt8) : (opq b).length % 4 = 0 := by rw [opq_length]; unfold pad; omega
theorem Cl.enc_mod (c : Cl) : c.enc.length % 4 = 0 := by
  rw [Cl.enc_eq]
  have h1 := opq_mod c.nm
  have h2 := opq_mod c.tn
  have h3 := opq_mod c.dt
  simp only [List.length_append, be_length]
  omega
theorem Cl.enc_len (c : Cl) (h : c.okB = true) : 64 ≤ c.enc.length ∧ c.enc.length ≤ 2000 := by
  obtain ⟨_, h1, h2, h3⟩ := (Cl.okB_iff c).1 h
  rw [Cl.enc_eq]
  have p1 := pad_lt c.nm.length
  have p2 := pad_lt c.tn.length
  have p3 := pad_lt c.dt.length
  simp only [List.length_append, be_length, opq_length]
  omega

/-! ### Replies -/
structure Rp where
  cli : Nat
  xid : Nat
  st : Int
  ati : Nat
  atg : Nat
  kd : Nat
  md : Nat
  ln : Nat
  sz : Nat
  ch : Nat
  dt : List UInt8
  es : List En
  eof : Bool
  vf : Nat
  fr : Nat
  deriving DecidableEq
structure Rp.Wide (r : Rp) : Prop where
  cli : r.cli < 4294967296
  xid : r.xid < 4294967296
  ati : r.ati < 4294967296
  atg : r.atg < 4294967296
  kd : r.kd < 4294967296
  md : r.md < 4294967296
  ln : r.ln < 4294967296
  sz : r.sz < 4294967296
  ch : r.ch < 18446744073709551616
  vf : r.vf < 18446744073709551616
  fr : r.fr < 4294967296
  es : ∀ e ∈ r.es, e.Wide
def cA : Cd (Nat × Nat × Nat × Nat × Nat) := c4.seq (c4.seq (c4.seq (c4.seq c8)))
abbrev Rt := Nat × Nat × Nat × (Nat × Nat) × (Nat × Nat × Nat × Nat × Nat) × List UInt8 × List UInt8 × Bool × Nat × Nat
def replyC : Cd Rt := c4.seq (c4.seq (c4.seq (cH.seq (cA.seq ((cO 1024 (by decide)).seq ((cO 2048 (by decide)).seq (cB.seq (c8.seq c4))))))))
def Rp.tup (r : Rp) : Rt := (r.cli, r.xid, r.st.toNat, (r.ati, r.atg), (r.kd, r.md, r.ln, r.sz, r.ch), r.dt, encs r.es, r.eof, r.vf, r.fr)
def Rp.of (t : Rt) (es : List En) : Rp := ⟨t.1, t.2.1, (t.2.2.1 : Int), t.2.2.2.1.1, t.2.2.2.1.2, t.2.2.2.2.1.1, t.2.2.2.2.1.2.1, t.2.2.2.2.1.2.2.1, t.2.2.2.2.1.2.2.2.1, t.2.2.2.2.1.2.2.2.2, t.2.2.2.2.2.1, es, t.2.2.2.2.2.2.2.1, t.2.2.2.2.2.2.2.2.1, t.2.2.2.2.2.2.2.2.2⟩
def Rt.row (t : Rt) : List UInt8 := t.2.2.2.2.2.2.1
def Rp.zero : Rp := ⟨0, 0, 0, 0, 0, 0, 0, 0, 0, 0, [], [], false, 0, 0⟩
def stOk (z : Int) : Bool := decide (z = 0) || decide (60 ≤ z) && decide (z ≤ 71)
def Rp.okA (r : Rp) : Bool := stOk r.st && decide (r.dt.length ≤ 1024) && decide (r.es.length ≤ 24)
def Rp.okB (r : Rp) : Bool := r.okA && Go.Proofs.Ytjgmboleiaehaaa.okB r.es
def Rp.enc (r : Rp) : List UInt8 := replyC.enc r.tup
def Rp.errP (r : Rp) : Int := if r.okA then chkE r.es else 1
def Rp.put (r : Rp) : List UInt8 := if r.okB then r.enc else []
def Rp.rd (l : List UInt8) : Rt := (replyC.rd (l, 0)).2
def Rp.err (l : List UInt8) : Int := if replyC.bad l ≠ 0 then replyC.bad l else if errE (Rp.rd l).row ≠ 0 then errE (Rp.rd l).row else if stOk ((Rp.rd l).2.2.1 : Int) && decide ((gotE (Rp.rd l).row).length ≤ 24) then 0 else 11
def Rp.got (l : List UInt8) : Rp := if Rp.err l = 0 then Rp.of (Rp.rd l) (gotE (Rp.rd l).row) else Rp.zero
theorem Rp.enc_eq (r : Rp) : r.enc = be 4 r.cli ++ (be 4 r.xid ++ (be 4 r.st.toNat ++ ((be 4 r.ati ++ be 4 r.atg) ++ ((be 4 r.kd ++ (be 4 r.md ++ (be 4 r.ln ++ (be 4 r.sz ++ be 8 r.ch)))) ++ (opq r.dt ++ (opq (encs r.es) ++ (be 4 (b01 r.eof) ++ (be 8 r.vf ++ be 4 r.fr)))))))) := rfl
theorem stOk_iff (z : Int) : stOk z = true ↔ z = 0 ∨ 60 ≤ z ∧ z ≤ 71 := by simp [stOk]
theorem Rp.okA_iff (r : Rp) : r.okA = true ↔ stOk r.st = true ∧ r.dt.length ≤ 1024 ∧ r.es.length ≤ 24 := by
  simp [Rp.okA, and_assoc]
theorem Rp.okB_iff (r : Rp) : r.okB = true ↔ r.okA = true ∧ Go.Proofs.Ytjgmboleiaehaaa.okB r.es = true := by simp [Rp.okB]
theorem encs_len (es : List En) (h : ∀ e ∈ es, e.nm.length ≤ 24) : (encs es).length ≤ 44 * es.length := by
  induction es with
  | nil => exact Nat.zero_le _
  | cons e r ih =>
    rw [encs_cons, List.length_append, enc1_length, List.length_cons]
    have h1 := ih fun x hx => h x (List.mem_cons_of_mem _ hx)
    have h2 := h e List.mem_cons_self
    unfold pad
    omega
theorem Rp.ok_of (r : Rp) (hw : r.Wide) (h : r.okB = true) : replyC.ok r.tup := by
  obtain ⟨h1, h2⟩ := r.okB_iff.1 h
  obtain ⟨h3, h4, h5⟩ := r.okA_iff.1 h1
  have h6 := encs_len r.es (okB_names _ h2)
  have h7 := (stOk_iff _).1 h3
  have h8 : r.st.toNat < 4294967296 := by omega
  exact ⟨hw.cli, hw.xid, h8, ⟨hw.ati, hw.atg⟩, ⟨hw.kd, hw.md, hw.ln, hw.sz, hw.ch⟩, h4, by show (encs r.es).length ≤ 2048; omega, trivial, hw.vf, hw.fr⟩
theorem Rp.enc_len (r : Rp) (h : r.okB = true) : 64 ≤ r.enc.length ∧ r.enc.length ≤ 4000 := by
  obtain ⟨h1, h2⟩ := r.okB_iff.1 h
  obtain ⟨h3, h4, h5⟩ := r.okA_iff.1 h1
  have h6 := encs_len r.es (okB_names _ h2)
  rw [Rp.enc_eq]
  have p1 := pad_lt r.dt.length
  have p2 := pad_lt (encs r.es).length
  simp only [List.length_append, be_length, opq_length]
  omega
theorem Rp.got_put (r : Rp) (hw : r.Wide) (h : r.okB = true) : Rp.err r.enc = 0 ∧ Rp.got r.enc = r := by
  obtain ⟨g1, g2⟩ := r.okB_iff.1 h
  obtain ⟨g3, g4, g5⟩ := r.okA_iff.1 g1
  obtain ⟨h1, h2⟩ := replyC.bad_put r.tup (r.ok_of hw h)
  have h3 : Rp.rd r.enc = r.tup := h2
  obtain ⟨k1, k2⟩ := Go.Proofs.Ytjgmboleiaehaaa.got_put r.es hw.es g2
  have hp : putE r.es = encs r.es := if_pos g2
  rw [hp] at k1 k2
  have h7 := (stOk_iff _).1 g3
  have hs : ((r.st.toNat : Nat) : Int) = r.st := by omega
  have h4 : Rp.err r.enc = 0 := by
    unfold Rp.err
    rw [show replyC.bad r.enc = 0 from h1, if_neg (by simp), h3]
    show (if errE (encs r.es) ≠ 0 then errE (encs r.es) else if stOk ((r.st.toNat : Nat) : Int) && decide ((gotE (encs r.es)).length ≤ 24) then 0 else 11) = 0
    rw [k1, k2, hs, if_neg (by simp), g3, if_pos (by simpa using g5)]
  refine ⟨h4, ?_⟩
  unfold Rp.got
  rw [if_pos h4, h3]
  show Rp.of r.tup (gotE (encs r.es)) = r
  rw [k2]
  show Rp.mk r.cli r.xid ((r.st.toNat : Nat) : Int) r.ati r.atg r.kd r.md r.ln r.sz r.ch r.dt r.es r.eof r.vf r.fr = r
  rw [hs]
theorem Rp.err_cases (l : List UInt8) (h : Rp.err l = 0) : replyC.bad l = 0 ∧ errE (Rp.rd l).row = 0 ∧ stOk ((Rp.rd l).2.2.1 : Int) = true ∧ (gotE (Rp.rd l).row).length ≤ 24 ∧ Rp.got l = Rp.of (Rp.rd l) (gotE (Rp.rd l).row) := by
  have hg : Rp.got l = _ := if_pos h
  unfold Rp.err at h
  split at h
  · rename_i h1; exact absurd h h1
  rename_i h1
  split at h
  · rename_i h2; exact absurd h h2
  rename_i h2
  split at h
  · rename_i h3
    simp only [Bool.and_eq_true, decide_eq_true_eq] at h3
    exact ⟨by simpa using h1, by simpa using h2, h3.1, h3.2, hg⟩
  · cases h
theorem Rp.got_back (l : List UInt8) (h : Rp.err l = 0) : (Rp.got l).okB = true ∧ (Rp.got l).enc = l ∧ (Rp.got l).Wide := by
  obtain ⟨h1, h2, h3, h4, h5⟩ := Rp.err_cases l h
  obtain ⟨h6, h7⟩ := replyC.bad_back l h1
  obtain ⟨k1, k2⟩ := Go.Proofs.Ytjgmboleiaehaaa.got_back (Rp.rd l).row h2
  have k3 : encs (gotE (Rp.rd l).row) = (Rp.rd l).row := by
    have hp : putE (gotE (Rp.rd l).row) = encs (gotE (Rp.rd l).row) := if_pos k1
    rw [← hp]; exact k2
  have hw := gotE_wide (Rp.rd l).row
  rw [h5]
  generalize hes : gotE (Rp.rd l).row = es at *
  change replyC.ok (Rp.rd l) at h7
  change l = replyC.enc (Rp.rd l) at h6
  generalize Rp.rd l = t at *
  obtain ⟨b1, b2, b3, ⟨b4, b5⟩, ⟨b6, b7, b8, b9, b10⟩, b11, b12, _, b14, b15⟩ := h7
  have ht : (Rp.of t es).tup = t := by
    show (t.1, t.2.1, (t.2.2.1 : Int).toNat, _, _, _, encs es, _) = t
    rw [k3, Int.toNat_natCast]
    rfl
  refine ⟨(Rp.okB_iff _).2 ⟨(Rp.okA_iff _).2 ⟨h3, b11, h4⟩, k1⟩, ?_, ⟨b1, b2, b4, b5, b6, b7, b8, b9, b10, b14, b15, hw⟩⟩
  show replyC.enc (Rp.of t es).tup = l
  rw [ht, ← h6]
theorem Rp.err_more (r : Rp) (t : List UInt8) (hw : r.Wide) (h : r.okB = true) (ht : 0 < t.length) : Rp.err (r.enc ++ t) = 12 := by
  have := replyC.bad_more r.tup t (r.ok_of hw h) ht
  unfold Rp.err
  rw [show replyC.bad (r.enc ++ t) = 12 from this]
  rfl
theorem Rp.err_cut (r : Rp) (j : Nat) (hw : r.Wide) (h : r.okB = true) (hj : j < r.enc.length) : Rp.err (r.enc.take j) = 10 := by
  have := replyC.bad_cut r.tup j (r.ok_of hw h) hj
  unfold Rp.err
  rw [show replyC.bad (r.enc.take j) = 10 from this]
  rfl
end Go.Proofs.Ytjgmboleiaehaaa

namespace Go.Proofs.Ytjgmboleiaehaaa
namespace Ry

abbrev Ts := Nat × Nat × Nat × Nat × Nat × Nat × Nat × Nat × Nat × Nat × Nat
def keptC : Cd Ts := c4.seq (c4.seq (c4.seq (c4.seq (c4.seq (c4.seq (c4.seq (c4.seq (c8.seq (c8.seq c4)))))))))
def tup (r : Rp) : Ts := (r.xid, r.st.toNat, r.ati, r.atg, r.kd, r.md, r.ln, r.sz, r.ch, r.vf, r.fr)
/-- The reply of a client and what was read. -/
def of (c : Nat) (t : Ts) : Rp := ⟨c, t.1, (t.2.1 : Int), t.2.2.1, t.2.2.2.1, t.2.2.2.2.1, t.2.2.2.2.2.1, t.2.2.2.2.2.2.1, t.2.2.2.2.2.2.2.1, t.2.2.2.2.2.2.2.2.1, [], [], false, t.2.2.2.2.2.2.2.2.2.1, t.2.2.2.2.2.2.2.2.2.2⟩
/-- May it be kept? -/
def okB (r : Rp) : Bool := decide (r.cli < 8) && stOk r.st && decide (r.dt = []) && decide (r.es = []) && !r.eof
def chk (r : Rp) : Int := if okB r = true then 0 else 1
theorem okB_iff (r : Rp) : okB r = true ↔ r.cli < 8 ∧ stOk r.st = true ∧ r.dt = [] ∧ r.es = [] ∧ r.eof = false := by
  simp [okB, and_assoc]
def enc (r : Rp) : List UInt8 := keptC.enc (tup r)
theorem enc_eq (r : Rp) : enc r = be 4 r.xid ++ (be 4 r.st.toNat ++ (be 4 r.ati ++ (be 4 r.atg ++ (be 4 r.kd ++ (be 4 r.md ++ (be 4 r.ln ++ (be 4 r.sz ++ (be 8 r.ch ++ (be 8 r.vf ++ be 4 r.fr))))))))) := rfl
theorem enc_length (r : Rp) : (enc r).length = 52 := by
  rw [enc_eq]
  simp only [List.length_append, be_length]
theorem enc_ne (r : Rp) : enc r ≠ [] := by
  intro h
  have := enc_length r
  rw [h] at this
  cases this
def rdT (l : List UInt8) : Ts := (keptC.rd (l, 0)).2
/-- The error of bytes. -/
def err (l : List UInt8) : Int := if keptC.bad l ≠ 0 then keptC.bad l else if stOk ((rdT l).2.1 : Int) = true then 0 else 11
def got (c : Nat) (l : List UInt8) : Rp := if err l = 0 then of c (rdT l) else Rp.zero
theorem st_back {z : Int} (h : stOk z = true) : ((z.toNat : Nat) : Int) = z := by
  rw [stOk_iff] at h
  omega
theorem st_lt {z : Int} (h : stOk z = true) : z.toNat < 4294967296 := by
  rw [stOk_iff] at h
  omega
theorem ok_of (r : Rp) (hw : r.Wide) (h : stOk r.st = true) : keptC.ok (tup r) := ⟨hw.xid, st_lt h, hw.ati, hw.atg, hw.kd, hw.md, hw.ln, hw.sz, hw.ch, hw.vf, hw.fr⟩
theorem of_tup (r : Rp) (h : okB r = true) : of r.cli (tup r) = r := by
  obtain ⟨_, h2, h3, h4, h5⟩ := (okB_iff r).1 h
  obtain ⟨c, x, s, a, b, d, e, f, g, i, dt, es, eo, vf, fr⟩ := r
  dsimp only at h2 h3 h4 h5
  subst h3 h4 h5
  simp only [of, tup, st_back h2]
/-- What was kept is told. -/
theorem got_enc (r : Rp) (hw : r.Wide) (h : okB r = true) : err (enc r) = 0 ∧ got r.cli (enc r) = r := by
  have h2 := ((okB_iff r).1 h).2.1
  obtain ⟨g1, g2⟩ := keptC.bad_put (tup r) (ok_of r hw h2)
  have h3 : rdT (enc r) = tup r := g2
  have h4 : err (enc r) = 0 := by
    unfold err
    rw [show keptC.bad (enc r) = 0 from g1, if_neg (by simp), h3, show (((tup r).2.1 : Nat) : Int) = r.st from st_back h2, if_pos h2]
  refine ⟨h4, ?_⟩
  unfold got
  rw [if_pos h4, h3, of_tup r h]
theorem err_more (r : Rp) (t : List UInt8) (hw : r.Wide) (h : stOk r.st = true) (ht : 0 < t.length) : err (enc r ++ t) = 12 := by
  have := keptC.bad_more (tup r) t (ok_of r hw h) ht
  unfold err
  rw [show keptC.bad (enc r ++ t) = 12 from this]
  rfl
theorem err_cut (r : Rp) (j : Nat) (hw : r.Wide) (h : stOk r.st = true) (hj : j < (enc r).length) : err ((enc r).take j) = 10 := by
  have := keptC.bad_cut (tup r) j (ok_of r hw h) hj
  unfold err
  rw [show keptC.bad ((enc r).take j) = 10 from this]
  rfl
theorem got_no (c : Nat) (l : List UInt8) (h : err l ≠ 0) : got c l = Rp.zero := if_neg h
theorem err_nil : err [] = 10 := by decide +kernel
/-- What Get tells of client c by its block b: an error, whether there is one, the reply. -/
def gErr (c : Nat) (b : List UInt8) : Int := if c < 8 then (if b = [] then 0 else err b) else 1
def gIs (c : Nat) (b : List UInt8) : Bool := decide (c < 8) && decide (b ≠ []) && decide (err b = 0)
def gRep (c : Nat) (b : List UInt8) : Rp := if gIs c b = true then of c (rdT b) else Rp.zero
/-- What Ask tells. -/
def aKnown (c x : Nat) (b : List UInt8) : Int := if gIs c b = true then (if (gRep c b).xid < x then 0 else if (gRep c b).xid = x then 1 else 2) else 0
def aRep (c x : Nat) (b : List UInt8) : Rp := if aKnown c x b = 1 then gRep c b else Rp.zero
/-- What SetRaw says ahead of its put. -/
def sErr (c : Nat) (b : List UInt8) : Int := if c < 8 then (if b ≠ [] ∧ err b ≠ 0 then 11 else 0) else 1
theorem gIs_iff (c : Nat) (b : List UInt8) : gIs c b = true ↔ c < 8 ∧ b ≠ [] ∧ err b = 0 := by simp [gIs, and_assoc]
theorem of_wide (c : Nat) (hc : c < 4294967296) (l : List UInt8) (h : keptC.bad l = 0) : (of c (rdT l)).Wide := by
  obtain ⟨_, h1, h2, h3, h4, h5, h6, h7, h8, h9, h10, h11⟩ := keptC.bad_back l h
  exact ⟨hc, h1, h3, h4, h5, h6, h7, h8, h9, h10, h11, fun e he => by cases he⟩
theorem err_cases (l : List UInt8) (h : err l = 0) : keptC.bad l = 0 ∧ stOk ((rdT l).2.1 : Int) = true := by
  unfold err at h
  split at h
  · rename_i h1; exact absurd h h1
  · rename_i h1
    split at h
    · rename_i h2; exact ⟨by simpa using h1, h2⟩
    · cases h
/-- What is told of a client's block is that block. -/
theorem enc_of (c : Nat) (l : List UInt8) (h : err l = 0) : enc (of c (rdT l)) = l := by
  obtain ⟨h1, _⟩ := err_cases l h
  obtain ⟨h2, _⟩ := keptC.bad_back l h1
  exact h2.symm
end Ry
end Go.Proofs.Ytjgmboleiaehaaa

namespace Go.Proofs.Ytjgmboleiaehaaa
open Go.RowKit

theorem txt_append (a b : List UInt8) : txt a ++ txt b = txt (a ++ b) := by
  apply ByteArray.ext
  simp [txt]

theorem txt_size (l : List UInt8) : (txt l).size = l.length := by simp [txt, ByteArray.size]
theorem txt_be (n x : Nat) : (txt (be n x)).size = n := by rw [txt_size, be_length]

theorem be4_bytes (x : Int) (h : 0 ≤ x) (h1 : x < 4294967296) : ∃ b3 b2 b1 b0 : UInt8, be 4 x.toNat = [b3, b2, b1, b0] ∧ x / 16777216 = (b3.toNat : Int) ∧ (x / 65536) % 256 = (b2.toNat : Int) ∧ (x / 256) % 256 = (b1.toNat : Int) ∧ x % 256 = (b0.toNat : Int) := by
  obtain ⟨y, rfl⟩ := Int.eq_ofNat_of_zero_le h
  refine ⟨_, _, _, _, rfl, ?_, ?_, ?_, ?_⟩
  · simp
    omega
  · simp
  · simp
  · simp

set_option maxRecDepth 100000 in
set_option maxHeartbeats 1000000 in
theorem refU32 (x : Int) (w : World) (h0 : 0 ≤ x) (h1 : x < 4294967296) :
    Calls Try.prog 48 #[.int .u32 x] w fun e w' => e = .returned (.string (txt (be 4 x.toNat))) ∧ Below w.heap.size w w' := by
  obtain ⟨b3, b2, b1, b0, hbe, e3, e2, e1, e0⟩ := be4_bytes x h0 h1
  have HBE := Lib.hid hbe
  clear hbe
  have v := run_convert_bs (w.alloc (.cells (bc [b3, b2, b1, b0]).toArray 5)) (some ⟨w.heap.size, 0, none⟩) 4 4 [b3, b2, b1, b0] (BS.of_block (heap_alloc_new w _))
  simp only [bc, List.map_cons, List.map_nil] at v
  go_enter Try.func48, Try.ntmps48
  go_wp2_with fail
  go_ret
  exact ⟨by rw [HBE.out]; rfl, (Below.refl _ _).alloc (Nat.le_refl _) _⟩

def hi32 (x : Nat) : Nat := x / 4294967296
def lo32 (x : Nat) : Nat := x % 4294967296
theorem be8_split (x : Nat) : be 4 (hi32 x) ++ be 4 (lo32 x) = be 8 x := by
  unfold hi32 lo32
  have e : ∀ k, k < 4 → UInt8.ofNat (x % 4294967296 / 2 ^ (8 * k)) = UInt8.ofNat (x / 2 ^ (8 * k)) := by
    intro k hk
    apply UInt8.toNat_inj.1
    have h : k = 0 ∨ k = 1 ∨ k = 2 ∨ k = 3 := by omega
    rcases h with rfl | rfl | rfl | rfl <;> simp <;> omega
  simp only [be, List.cons_append, List.nil_append, Nat.div_div_eq_div_mul]
  rw [e 3 (by omega), e 2 (by omega), e 1 (by omega), e 0 (by omega)]
theorem refU64 (x : Nat) (w : World) (h1 : x < 18446744073709551616) :
    Calls Try.prog 34 #[.int .u64 x] w fun e w' => e = .returned (.string (txt (be 8 x))) ∧ Below w.heap.size w w' := by
  have HS := Lib.hid (be8_split x)
  have HE1 : Hid (((x : Int) / 4294967296).toNat = hi32 x) := by show _ = x / 4294967296; omega
  have HE2 : Hid (((x : Int) % 4294967296).toNat = lo32 x) := by show _ = x % 4294967296; omega
  have hq0 : (x : Int) / 4294967296 < 4294967296 := by omega
  have H1 := Lib.hid h1
  clear h1
  go_enter Try.func34, Try.ntmps34
  go_wp2_with fail
  refine (refU32 _ w (by omega) (by omega)).mono ?_
  rw [HE1.out]
  rintro e w1 ⟨rfl, h1⟩
  have HB1 := Lib.hid h1
  clear h1
  go_wp2_with fail
  refine (refU32 _ w1 (by omega) (by omega)).mono ?_
  rw [HE2.out]
  rintro e w2 ⟨rfl, h2⟩
  have HB2 := Lib.hid (HB1.out.trans (h2.mono HB1.out.size))
  clear h2 HB1
  have z1 := txt_be 4 (hi32 x)
  have z2 := txt_be 4 (lo32 x)
  go_wp2_with fail
  go_ret
  refine ⟨?_, HB2.out⟩
  rw [← HS.out, ← txt_append]
  rfl

end Go.Proofs.Ytjgmboleiaehaaa

namespace Go.Proofs.Ytjgmboleiaehaaa
open Go.RowKit

/-- The document's reader as a value. -/
def RV (l : List UInt8) (e : Int) : Value := .agg #[.string (txt l), .int .i64 e]

theorem txt_take (l : List UInt8) (n : Nat) : (txt l).extract 0 n = txt (l.take n) := by
  apply ByteArray.ext
  simp [txt]
theorem txt_drop (l : List UInt8) (n : Nat) : (txt l).extract n l.length = txt (l.drop n) := by
  apply ByteArray.ext
  simp [txt]
  exact List.take_of_length_le (by simp)
theorem txt_get (l : List UInt8) (k : Nat) (h : k < (txt l).size) : ((txt l)[k]'h).toNat = (l[k]'(by rwa [txt_size] at h)).toNat := rfl
theorem mul_add_u64 (a b : Nat) (h : a * 256 + b < 18446744073709551616) : IntKind.u64.wrap (IntKind.u64.wrap ((a : Int) * 256) + IntKind.u64.wrap (b : Int)) = ((a * 256 + b : Nat) : Int) := by
  rw [IntKind.wrap_u64, IntKind.wrap_u64, IntKind.wrap_u64]
  omega

/-- The next n bytes. -/
def rdRaw (n : Nat) (s : St) : St × List UInt8 := if s.2 ≠ 0 then (s, []) else if s.1.length < n then ((s.1, 10), []) else ((s.1.drop n, 0), s.1.take n)
theorem rdN_raw (n : Nat) (s : St) : rdN n s = ((rdRaw n s).1, num (rdRaw n s).2) := by
  unfold rdN rdRaw
  split
  · rfl
  · split
    · rfl
    · rfl
theorem rdRaw_len (n : Nat) (s : St) : (rdRaw n s).2.length ≤ n := by
  unfold rdRaw
  split
  · simp
  · split
    · simp
    · simp; omega

set_option maxRecDepth 100000 in
set_option maxHeartbeats 1000000 in
theorem refRaw (l : List UInt8) (e : Int) (n : Nat) (w : World) (hn : n ≤ 1000000000000) :
    Calls Try.prog 63 #[RV l e, .int .i64 n] w fun en w' => en = .returned (.tuple #[RV (rdRaw n (l, e)).1.1 (rdRaw n (l, e)).1.2, .string (txt (rdRaw n (l, e)).2)]) ∧ Below w.heap.size w w' := by
  have hsz := txt_size l
  unfold RV
  by_cases he : e = 0
  · subst he
    by_cases hs : l.length < n
    · have HR : Hid (rdRaw n (l, 0) = ((l, 10), [])) := by show _ = _; simp [rdRaw, hs]
      rw [HR.out]
      clear HR
      have hd : decide ((l.length : Int) < (n : Int)) = true := by simp; omega
      go_enter Try.func63, Try.ntmps63
      go_wp2_with fail
      exact bodyPost_ret (v := .tuple #[.agg #[.string (txt l), .int .i64 10], .string (txt [])]) (by simp [results, Try.results63, go_sem, txt]) rfl ⟨rfl, ((Below.refl _ _).alloc (Nat.le_refl _) _).alloc (by simp) _⟩
    · have HR : Hid (rdRaw n (l, 0) = ((l.drop n, 0), l.take n)) := by show _ = _; simp [rdRaw]; omega
      rw [HR.out]
      clear HR
      have hd : decide ((l.length : Int) < (n : Int)) = false := by simp; omega
      have x1 := txt_take l n
      have x2 := txt_drop l n
      go_enter Try.func63, Try.ntmps63
      go_wp2_with fail
      exact bodyPost_ret (v := .tuple #[.agg #[.string (txt (l.drop n)), .int .i64 0], .string (txt (l.take n))]) (by simp [results, Try.results63, go_sem]) rfl ⟨rfl, ((Below.refl _ _).alloc (Nat.le_refl _) _).alloc (by simp) _⟩
  · have HR : Hid (rdRaw n (l, e) = ((l, e), [])) := if_pos he
    rw [HR.out]
    clear HR
    have he' : (e != 0) = true := by simp [he]
    clear he
    go_enter Try.func63, Try.ntmps63
    go_wp2_with fail
    exact bodyPost_ret (v := .tuple #[.agg #[.string (txt l), .int .i64 e], .string (txt [])]) (by simp [results, Try.results63, go_sem, txt]) rfl ⟨rfl, ((Below.refl _ _).alloc (Nat.le_refl _) _).alloc (by simp) _⟩

set_option maxRecDepth 100000 in
set_option maxHeartbeats 1000000 in
theorem refNumber (l : List UInt8) (w : World) (hl : l.length ≤ 8) :
    Calls Try.prog 64 #[.string (txt l)] w fun en w' => en = .returned (.int .u64 (num l)) ∧ w = w' := by
  have hsz := txt_size l
  go_enter Try.func64, Try.ntmps64
  go_wp2_with fail
  go_loop [3, 4] (fun x i => ∃ k : Nat, k ≤ l.length ∧ i = .int .i64 k ∧ x = .int .u64 (num (l.take k) : Int)) (fun _ i => l.length - (intOf i).toNat)
  case atStart => exact ⟨0, by omega, rfl, rfl⟩
  case round =>
    obtain ⟨k, hk, rfl, rfl⟩ := hrel
    by_cases hlt : k < l.length
    · have hlt' : k < (txt l).size := by rw [hsz]; exact hlt
      have hn := num_lt (l.take k)
      have hkl : (l.take k).length ≤ 7 := by rw [List.length_take]; omega
      have hn7 := Nat.pow_le_pow_right (n := 256) (by omega) hkl
      have hb : l[k].toNat < 256 := l[k].toNat_lt
      have HX := Lib.hid (mul_add_u64 (num (l.take k)) l[k].toNat (by omega))
      have HS := Lib.hid (num_take_snoc l k hlt)
      clear hn hn7 hb hkl
      generalize hx : num (l.take k) = x at *
      clear hx
      go_wp2_with fail
      refine ⟨⟨k + 1, by omega, by go_num, ?_⟩, by simp [intOf]; omega⟩
      exact congrArg (Value.int .u64) (HX.out.trans (congrArg (fun z : Nat => (z : Int)) HS.out.symm))
    · have hkl : k = l.length := by omega
      subst hkl
      rw [List.take_length]
      go_wp2_with fail
      go_ret
      exact ⟨rfl, rfl⟩

/-- Block g is just the two cells a, b. -/
def Two (w : World) (g : Nat) (a b : Value) : Prop := w.heap[g]? = some (.cells #[a, b] 123 (0, 0))
section
variable {w w' : World} {g : Nat} {a b a' b' : Value}
theorem Two.c0 (h : Two w g a b) : w.cell? ⟨g, 0, none⟩ = some a := cell_of_row w g 0 _ _ (0, 0) h
theorem Two.c1 (h : Two w g a b) : w.cell? ⟨g, 1, none⟩ = some b := cell_of_row w g 1 _ _ (0, 0) h
theorem Two.fr (h : Two w g a b) (o : Nat) : w.frozen? ⟨g, o, none⟩ = false := by unfold Two at h; simp [World.frozen?, h]
theorem Two.lt (h : Two w g a b) : g < w.heap.size := World.block_lt_of_cell? w _ h.c0
theorem Two.below {B : Nat} (h : Two w g a b) (hb : Below B w w') (hg : g < B) : Two w' g a b := (hb.block g hg).trans h
theorem Two.set2 (h : Two w g a b) : Two ((w.setCell ⟨g, 0, none⟩ a').setCell ⟨g, 1, none⟩ b') g a' b' := by
  unfold Two at *
  simp [World.setCell, Array.getElem?_modify, h]
theorem Two.set1 (h : Two w g a b) : Two (w.setCell ⟨g, 1, none⟩ b') g a b' := by
  unfold Two at *
  simp [World.setCell, Array.getElem?_modify, h]
theorem Two.far {p : Addr} {u : Value} (h : Two w g a b) (hp : g ≠ p.block) : Two (w.setCell p u) g a b := (Below.heap_setCell w p u g hp).trans h
theorem Two.drew (h : Two w g a b) : Two w.drew g a b := h
/-- Two blocks that were laid, behind a call that keeps what was there. -/
theorem two_new {x y u v : Value} {w1 : World} (hb : Below ((w.alloc (.cells #[x, y] 123)).alloc (.cells #[u, v] 123)).heap.size ((w.alloc (.cells #[x, y] 123)).alloc (.cells #[u, v] 123)) w1) :
    Two w1 w.heap.size x y ∧ Two w1 (w.heap.size + 1) u v ∧ Below w.heap.size w w1 := by
  have h1 : Two ((w.alloc (.cells #[x, y] 123)).alloc (.cells #[u, v] 123)) w.heap.size x y :=
    (Below.heap_alloc _ _ _ (by simp)).trans (heap_alloc_new w _)
  have h2 : Two ((w.alloc (.cells #[x, y] 123)).alloc (.cells #[u, v] 123)) (w.heap.size + 1) u v := by
    have := heap_alloc_new (w.alloc (.cells #[x, y] 123)) (.cells #[u, v] 123)
    simpa [Two] using this
  exact ⟨h1.below hb h1.lt, h2.below hb h2.lt, (((Below.refl _ _).alloc (Nat.le_refl _) _).alloc (by simp) _).trans (hb.mono (by simp; omega))⟩
end

set_option maxRecDepth 100000 in
set_option maxHeartbeats 1000000 in
theorem refRead32 (l : List UInt8) (e : Int) (w : World) :
    Calls Try.prog 53 #[RV l e] w fun en w' => en = .returned (.tuple #[RV (rdN 4 (l, e)).1.1 (rdN 4 (l, e)).1.2, .int .u32 ((rdN 4 (l, e)).2 : Int)]) ∧ Below w.heap.size w w' := by
  have HC := Lib.hid (fun W => refRaw l e 4 W (by omega))
  have hrl := rdRaw_len 4 (l, e)
  rw [rdN_raw]
  generalize rdRaw 4 (l, e) = r at *
  obtain ⟨⟨l', e'⟩, b⟩ := r
  simp only at hrl
  have hnb : num b < 4294967296 := by
    have h1 := num_lt b
    have := Nat.pow_le_pow_right (n := 256) (by omega) hrl
    omega
  have wr : IntKind.u32.wrap (num b : Int) = (num b : Int) := by rw [IntKind.wrap_u32]; omega
  have Hrl := Lib.hid hrl
  unfold RV at *
  go_enter Try.func53, Try.ntmps53
  go_wp2_with fail
  refine (HC.out _).mono ?_
  rintro en w1 ⟨rfl, hb1⟩
  obtain ⟨t1, t2, hbb⟩ := two_new hb1
  have T1 := Lib.hid t1
  have T2 := Lib.hid t2
  have HB1 := Lib.hid hbb
  have c0 := t1.c0
  have c1 := t1.c1
  have f0 := t1.fr 0
  have f1 := t1.fr 1
  clear t1 t2 hbb hb1
  go_wp2_with fail
  have T1' : Hid (Two ((w1.setCell ⟨w.heap.size, 0, none⟩ (.string (txt l'))).setCell ⟨w.heap.size, 1, none⟩ (.int .i64 e')) w.heap.size (.string (txt l')) (.int .i64 e')) := T1.out.set2
  have T2' : Hid (Two ((w1.setCell ⟨w.heap.size, 0, none⟩ (.string (txt l'))).setCell ⟨w.heap.size, 1, none⟩ (.int .i64 e')) (w.heap.size + 1) _ _) := (T2.out.far (by simp)).far (by simp)
  have HB2 : Hid (Below w.heap.size w ((w1.setCell ⟨w.heap.size, 0, none⟩ (.string (txt l'))).setCell ⟨w.heap.size, 1, none⟩ (.int .i64 e'))) := (HB1.out.setCell (by simp) _).setCell (by simp) _
  clear c0 c1 f0 f1 T1 T2 HB1
  generalize (w1.setCell ⟨w.heap.size, 0, none⟩ (.string (txt l'))).setCell ⟨w.heap.size, 1, none⟩ (.int .i64 e') = w2 at *
  have d0 := T1'.out.c0
  have d1 := T1'.out.c1
  have g0 := T2'.out.c0
  have g1 := T2'.out.c1
  have m0 := T2'.out.fr 0
  have m1 := T2'.out.fr 1
  go_region_held3 (fun W => W.cell? ⟨w.heap.size, 0, none⟩ = some (.string (txt l')) ∧ W.cell? ⟨w.heap.size, 1, none⟩ = some (.int .i64 e'))
    (first | go_keep | exact ⟨d0, d1⟩)
    (first
      | (go_at_call 64
         refine (refNumber b _ (by have := Hrl.out; omega)).mono ?_
         rintro en w3 ⟨rfl, rfl⟩))
  go_wp2_with fail
  refine bodyPost_ret (v := .tuple #[.agg #[.string (txt l'), .int .i64 e'], .int .u32 (num b)]) (by simp [results, Try.results53, go_sem, g0, g1]) rfl ⟨rfl, ?_⟩
  exact (HB2.out.drew.setCell (by simp) _).setCell (by simp) _

set_option maxRecDepth 100000 in
set_option maxHeartbeats 1000000 in
theorem refRead64 (l : List UInt8) (e : Int) (w : World) :
    Calls Try.prog 54 #[RV l e] w fun en w' => en = .returned (.tuple #[RV (rdN 8 (l, e)).1.1 (rdN 8 (l, e)).1.2, .int .u64 ((rdN 8 (l, e)).2 : Int)]) ∧ Below w.heap.size w w' := by
  have HC := Lib.hid (fun W => refRaw l e 8 W (by omega))
  have hrl := rdRaw_len 8 (l, e)
  rw [rdN_raw]
  generalize rdRaw 8 (l, e) = r at *
  obtain ⟨⟨l', e'⟩, b⟩ := r
  simp only at hrl
  have Hrl := Lib.hid hrl
  unfold RV at *
  go_enter Try.func54, Try.ntmps54
  go_wp2_with fail
  refine (HC.out _).mono ?_
  rintro en w1 ⟨rfl, hb1⟩
  obtain ⟨t1, t2, hbb⟩ := two_new hb1
  have T1 := Lib.hid t1
  have T2 := Lib.hid t2
  have HB1 := Lib.hid hbb
  have c0 := t1.c0
  have c1 := t1.c1
  have f0 := t1.fr 0
  have f1 := t1.fr 1
  clear t1 t2 hbb hb1
  go_wp2_with fail
  have T1' : Hid (Two ((w1.setCell ⟨w.heap.size, 0, none⟩ (.string (txt l'))).setCell ⟨w.heap.size, 1, none⟩ (.int .i64 e')) w.heap.size (.string (txt l')) (.int .i64 e')) := T1.out.set2
  have T2' : Hid (Two ((w1.setCell ⟨w.heap.size, 0, none⟩ (.string (txt l'))).setCell ⟨w.heap.size, 1, none⟩ (.int .i64 e')) (w.heap.size + 1) _ _) := (T2.out.far (by simp)).far (by simp)
  have HB2 : Hid (Below w.heap.size w ((w1.setCell ⟨w.heap.size, 0, none⟩ (.string (txt l'))).setCell ⟨w.heap.size, 1, none⟩ (.int .i64 e'))) := (HB1.out.setCell (by simp) _).setCell (by simp) _
  clear c0 c1 f0 f1 T1 T2 HB1
  generalize (w1.setCell ⟨w.heap.size, 0, none⟩ (.string (txt l'))).setCell ⟨w.heap.size, 1, none⟩ (.int .i64 e') = w2 at *
  have d0 := T1'.out.c0
  have d1 := T1'.out.c1
  have g0 := T2'.out.c0
  have g1 := T2'.out.c1
  have m0 := T2'.out.fr 0
  have m1 := T2'.out.fr 1
  go_region_held3 (fun W => W.cell? ⟨w.heap.size, 0, none⟩ = some (.string (txt l')) ∧ W.cell? ⟨w.heap.size, 1, none⟩ = some (.int .i64 e'))
    (first | go_keep | exact ⟨d0, d1⟩)
    (first
      | (go_at_call 64
         refine (refNumber b _ (by have := Hrl.out; omega)).mono ?_
         rintro en w3 ⟨rfl, rfl⟩))
  go_wp2_with fail
  refine bodyPost_ret (v := .tuple #[.agg #[.string (txt l'), .int .i64 e'], .int .u64 (num b)]) (by simp [results, Try.results54, go_sem, g0, g1]) rfl ⟨rfl, ?_⟩
  exact (HB2.out.drew.setCell (by simp) _).setCell (by simp) _


theorem txt_toList (l : List UInt8) : (txt l).toList = l := by
  rw [ByteArray.toList_eq]
  rfl
set_option maxRecDepth 100000 in
set_option maxHeartbeats 1000000 in
theorem refEnd (l : List UInt8) (e : Int) (w : World) :
    Calls Try.prog 55 #[RV l e] w fun en w' => en = .returned (.int .i64 (endOf l e)) ∧ Below w.heap.size w w' := by
  unfold RV
  have hb : Below w.heap.size w (w.alloc (.cells #[.string (txt l), .int .i64 e] 123)) := (Below.refl _ _).alloc (Nat.le_refl _) _
  have HB := Lib.hid hb
  clear hb
  by_cases he : e = 0
  · subst he
    by_cases hl : 0 < l.length
    · have Hf : Hid (endOf l 0 = 12) := if_pos ⟨rfl, hl⟩
      have ht : (txt l).toList.isEmpty = false := by rw [txt_toList]; cases l with | nil => simp at hl | cons => rfl
      go_enter Try.func55, Try.ntmps55
      go_wp2_with fail
      go_ret
      exact ⟨ret_int Hf.out.symm, HB.out⟩
    · have Hf : Hid (endOf l 0 = 0) := if_neg (fun h => hl h.2)
      have ht : (txt l).toList.isEmpty = true := by rw [txt_toList]; cases l with | nil => rfl | cons => simp at hl
      go_enter Try.func55, Try.ntmps55
      go_wp2_with fail
      go_ret
      exact ⟨ret_int Hf.out.symm, HB.out⟩
  · have Hf : Hid (endOf l e = e) := if_neg (fun h => he h.1)
    have he' : (e == 0) = false := by simp [he]
    clear he
    go_enter Try.func55, Try.ntmps55
    go_wp2_with fail
    go_ret
    exact ⟨ret_int Hf.out.symm, HB.out⟩
end Go.Proofs.Ytjgmboleiaehaaa

namespace Go.Proofs.Ytjgmboleiaehaaa
open Go.RowKit

/-- The operation o yields v and leaves w'. -/
def Did (P : Program) (o : Oper) (a : Act) (w : World) (v : Value) (w' : World) : Prop :=
  (execOp a.eval o).run P w = .ok (.value v) w' ∨ ((execOp a.eval o).run P w = .ok .skip w' ∧ v = undef)

section
variable {P : Program} {o : Oper} {a : Act} {w w' : World} {v : Value}
theorem Did.wp {K : Act → World → Prop} {Q : Exit → Act → World → Prop} (h : Did P o a w v w') (hK : K (a.put o.dst v) w') : o.wp P a w K Q := by
  unfold Oper.wp
  rcases h with h | ⟨h, rfl⟩
  · rw [h]; exact hK
  · rw [h]; exact hK
theorem Did.list {ops : Array Oper} {rest : List Oper} {Q : Exit → Act → World → Prop} (hg : o.guard = none) (h : Did P o a w v w') (hK : wpList P ops Q rest (a.put o.dst v) w') : wpList P ops Q (o :: rest) a w :=
  wpList_plain hg fun _ hk => h.wp (hk _ _ hK)
theorem Did.step {ops : Array Oper} {K : Act → World → Prop} {Q : Exit → Act → World → Prop} {E : Prop} (hg : o.guard = none) (h : Did P o a w v w') (hK : K (a.put o.dst v) w') :
    if Region.wanted o (yielded ops a.tmps) = true then Oper.wp P o a w K Q else E := by
  have hw : Region.wanted o (yielded ops a.tmps) = true := by simp [Region.wanted, hg]
  rw [if_pos hw]
  exact h.wp hK
theorem Did.wpIn {F : Fence} {n : Nat} {K : Act → World → Prop} {Q : Exit → Act → World → Prop} (hc : ∀ c, o.op ≠ .call c) (hd : ∀ c, o.op ≠ .defer c) (h : Did P o a w v w') (hK : K (a.put o.dst v) w') : o.wpIn F n P a w K Q := by
  refine ⟨fun f hf => ?_, ?_⟩
  · unfold Oper.about at hf
    split at hf
    · exact absurd (by assumption) (hc _)
    · cases hf
  · rw [Oper.semAt_eq _ _ _ hd]
    rcases h with h | ⟨h, rfl⟩
    · rw [h]; exact hK
    · rw [h]; exact hK
end

section
variable {P : Program} {o : Oper} {a : Act} {w : World}
/-- A whole aggregate is loaded. -/
theorem did_load (ty : TypeId) (x : Operand) (ho : o.op = .load ty x) (ad : Addr) (hx : a.eval x = .pointer (some ad)) (d : TypeDesc) (hu : P.underlying ty = some d)
    (hd : (match d with | .struct _ | .array _ _ => true | _ => false) = true) (l : List Value) (hi : (P.info? ty).map (·.size) = some l.length) (hc : ∀ j u, l[j]? = some u → w.cell? (ad.add j) = some u) :
    Did P o a w (.agg l.toArray) w := by
  left
  have hl := run_loadCells_list (P := P) w ad l hc
  cases hq : P.info? ty with
  | none => simp [hq] at hi
  | some i =>
    have hs : i.size = l.length := by simpa [hq] using hi
    have hagg : (isAgg ty).run P w = .ok true w := by
      unfold isAgg
      rw [Sem.run_bind, run_underlying hu w]
      cases d <;> simp_all
    unfold execOp
    simp [ho, hx, Instr.loadAt, Instr.sureAddr, loadVar, Sem.run_bind, hagg, sizeOf, typeInfo, hq, hs, hl]
/-- A whole block is stored. -/
theorem did_store (ty : TypeId) (x y : Operand) (ho : o.op = .store ty x y) (g : Nat) (cells : Array Value) (hx : a.eval x = .pointer (some ⟨g, 0, none⟩)) (hy : a.eval y = .agg cells)
    (t : TypeId) (old : Array Value) (hg : w.heap[g]? = some (.cells old t (0, 0))) (hi : (P.info? ty).map (·.size) = some cells.size) (hold : old.size = cells.size) (h1 : cells.all (·.oneCell') = true) :
    Did P o a w undef (w.setRow g cells) := by
  right
  refine ⟨?_, rfl⟩
  unfold execOp
  simp only [ho, hx, hy, Instr.storeAt, Instr.sureAddr, Sem.run_bind, Sem.run_pure, Result.andThen_ok, run_storeVar_row w g t ty old cells hg hi hold h1]
/-- A new block of noughts. -/
theorem did_alloc (ty : TypeId) (ho : o.op = .alloc ty) (z : Value) (hz : (P.info? ty).bind (·.zero) = some z) : Did P o a w (.pointer (some ⟨w.heap.size, 0, none⟩)) (w.alloc (.cells z.cells ty)) := by
  left
  cases hq : P.info? ty with
  | none => simp [hq] at hz
  | some i =>
    have hz' : i.zero = some z := by simpa [hq] using hz
    unfold execOp
    simp [ho, Instr.alloc, zeroValue, typeInfo, hq, hz', newVar, newRow]
theorem did_build (t : TypeId) (parts : Array (Nat × Operand)) (ho : o.op = .build t parts) (cells : Array Value) (hf : P.built t (parts.map fun (i, x) => (i, a.eval x)).toList = some cells) : Did P o a w (.agg cells) w := by
  left
  unfold execOp
  simp only [ho, Sem.run_bind, run_build w t _ cells hf, Result.andThen_ok]
  rfl
theorem did_build_one (t : TypeId) (j : Nat) (x : Operand) (ho : o.op = .build t #[(j, x)]) (v : Value) (hx : a.eval x = v) (cells : Array Value) (hf : P.built t [(j, v)] = some cells) : Did P o a w (.agg cells) w :=
  did_build t #[(j, x)] ho cells (by simpa [hx] using hf)
/-- A slice of one element, whatever cells that has. -/
theorem did_buildSlice_one (t e : TypeId) (x : Operand) (ho : o.op = .buildSlice t 1 #[(0, x)]) (cells : Array Value) (hx : a.eval x = .agg cells) (hu : P.underlying t = some (.slice e)) (z : Value)
    (hz : (P.info? e).map (fun i => (i.zero, i.size)) = some (some z, cells.size)) (hpos : 0 < cells.size) (hsmall : cells.size ≤ 2 ^ 24) :
    Did P o a w (.slice (some ⟨w.heap.size, 0, none⟩) 1 1) (w.alloc (.cells cells e)) := by
  left
  cases hq : P.info? e with
  | none => simp [hq] at hz
  | some i =>
    simp only [hq, Option.map_some, Option.some.injEq, Prod.mk.injEq] at hz
    obtain ⟨hz1, hz2⟩ := hz
    have hfold : ∀ (cs acc : List Value) (k : Nat), acc.length = k + cs.length → (cs.zipIdx k).foldl (fun (A : Array Value) x => A.setIfInBounds (0 + x.2) x.1) acc.toArray = (acc.take k ++ cs).toArray := by
      intro cs
      induction cs with
      | nil => intro acc k hk; simp at hk; subst hk; simp
      | cons c cs ih =>
        intro acc k hk
        simp only [List.zipIdx_cons, List.foldl_cons, Nat.zero_add]
        have : (acc.toArray.setIfInBounds k c) = (acc.set k c).toArray := by simp
        rw [this]
        have h2 := ih (acc.set k c) (k + 1) (by simp at hk ⊢; omega)
        simp only [Nat.zero_add] at h2
        rw [h2]
        congr 1
        rw [List.take_succ_eq_append_getElem (by simp at hk ⊢; omega)]
        simp
        exact List.take_set_of_le (Nat.le_refl _)
    have hfill : Instr.fill (fun i' => some (i' * i.size, i.size)) ((Array.range (1 * i.size)).map (z.cells[· % z.cells.size]!)) [(0, .agg cells)] = some cells := by
      generalize z.cells = zc
      simp only [Instr.fill, Value.cells, hz2, Nat.zero_mul, Nat.one_mul, Array.size_map, Array.size_range]
      simp
      have := hfold cells.toList ((Array.range cells.size).map (zc[· % zc.size]!)).toList 0 (by simp)
      simp only [List.take_zero, List.nil_append, Nat.zero_add] at this
      have e1 : cells.zipIdx = (cells.toList.zipIdx 0).toArray := by
        apply Array.ext'
        simp
      rw [e1]
      have e2 : Array.map (fun x => zc[x % zc.size]!) (Array.range cells.size) = (List.map (fun x => zc[x % zc.size]!) (List.range cells.size)).toArray := by
        apply Array.ext'
        simp
      rw [e2]
      simpa using this
    unfold execOp
    simp only [ho, Sem.run_bind]
    have := run_buildSlice (P := P) w t e 1 #[(0, .agg cells)] cells i z hu hq hz1 (by rw [hz2]; omega) (by rw [hz2]; omega) hfill
    simp [hx, this]
end

section
variable {P : Program} {o : Oper} {a : Act} {w : World} {ops : Array Oper} {rest : List Oper} {Q : Exit → Act → World → Prop}
/-- A new block of noughts, the world under a name of its own. -/
theorem wpList_alloc_any (hg : o.guard = none) (ty : TypeId) (ho : o.op = .alloc ty) (z : Value) (hz : (P.info? ty).bind (·.zero) = some z)
    (h : ∀ w', w'.heap[w.heap.size]? = some (.cells z.cells ty (0, 0)) → w'.heap.size = w.heap.size + 1 → Below w.heap.size w w' → wpList P ops Q rest (a.put o.dst (.pointer (some ⟨w.heap.size, 0, none⟩))) w') : wpList P ops Q (o :: rest) a w :=
  (did_alloc ty ho z hz).list hg (h _ (heap_alloc_new w _) (by simp) ((Below.refl _ _).alloc (Nat.le_refl _) _))
theorem setRow_keep (g : Nat) (cells : Array Value) : Keep (· ≠ g) w (w.setRow g cells) := ⟨rfl, rfl, rfl, by simp, fun k hk => setRow_other w g k cells hk⟩
/-- A whole block is stored, the world under a name of its own. -/
theorem wpList_store_any (hgd : o.guard = none) (ty : TypeId) (x y : Operand) (ho : o.op = .store ty x y) (g : Nat) (cells : Array Value) (hx : a.eval x = .pointer (some ⟨g, 0, none⟩)) (hy : a.eval y = .agg cells)
    (t : TypeId) (old : Array Value) (hg : w.heap[g]? = some (.cells old t (0, 0))) (hi : (P.info? ty).map (·.size) = some cells.size) (hold : old.size = cells.size) (h1 : cells.all (·.oneCell') = true)
    (h : ∀ w', w'.heap[g]? = some (.cells cells t (0, 0)) → w'.heap.size = w.heap.size → Keep (· ≠ g) w w' → wpList P ops Q rest (a.put o.dst undef) w') : wpList P ops Q (o :: rest) a w :=
  (did_store ty x y ho g cells hx hy t old hg hi hold h1).list hgd (h _ (setRow_heap w g old cells t _ hg) (by simp) (setRow_keep g cells))
/-- copy of a slice of one-cell elements into a part of a block, the world under a name of its own. -/
theorem wpList_copy_any (hgd : o.guard = none) (s x : Operand) (dT sT : TypeId) (ho : o.op = .call { callee := .builtin .copy, args := #[s, x], argTypes := #[dT, sT] }) (elem : TypeId) (g k dLen dCap : Nat) (ad : Addr) (sLen sCap : Nat)
    (hs : a.eval s = .slice (some ⟨g, k, none⟩) dLen dCap) (hx : a.eval x = .slice (some ad) sLen sCap) (cur : List Value) (t : TypeId) (cs : List Value) (hu : P.underlying dT = some (.slice elem)) (hsz : (P.info? elem).map (·.size) = some 1)
    (hg : w.heap[g]? = some (.cells cur.toArray t (0, 0))) (hn : cs.length = Nat.min sLen dLen) (hsrc : ∀ j v, cs[j]? = some v → w.cell? (ad.add j) = some v) (hfit : k + cs.length ≤ cur.length) (h1 : ∀ v ∈ cs, v.oneCell' = true)
    (h : ∀ w', w'.heap[g]? = some (.cells (cur.take k ++ cs ++ cur.drop (k + cs.length)).toArray t (0, 0)) → w'.heap.size = w.heap.size → Keep (· ≠ g) w w' → wpList P ops Q rest (a.put o.dst (goInt cs.length)) w') : wpList P ops Q (o :: rest) a w := by
  have hr := run_copy_row P w dT sT o.type elem g k dLen dCap ad sLen sCap cur.toArray t cs hu hsz hg hn hsrc (by simpa using hfit) h1
  refine Did.list hgd (v := goInt cs.length) (w' := w.setRow g (cur.take k ++ cs ++ cur.drop (k + cs.length)).toArray) (.inl ?_) (h _ (setRow_heap w g _ _ t _ hg) (by simp) (setRow_keep g _))
  unfold execOp
  simp only [ho, resolve, invoke, builtin, Sem.run_bind, Sem.run_pure, Result.andThen_ok, List.map_toArray, List.map_cons, List.map_nil, hs, hx, hr]
end

section
variable {P : Program} {md : Region.Mode} {ops : Array Oper} {Q : Exit → Act → World → Prop} {o : Oper} {a : Act} {w w' : World} {v : Value}
theorem Did.op {i : Nat} {K : Act → World → Prop} (hi : ops[i]? = some o) (hg : o.guard = none) (h : Did P o a w v w') (hK : K (a.put o.dst v) w') : wpOp P ops Q i K a w :=
  wpOp_step hi fun _ hk => h.step hg (hk _ _ hK)
/-- One that alone is ready. -/
theorem wpAny_one {i fuel : Nat} {listed : Array Bool} (hi : ops[i]? = some o) (hg : o.guard = none) (r : Region.ready md ops listed = [i]) (d : Did P o a w v w')
    (h : wpAny P md ops Q fuel (listed.setIfInBounds i true) (a.put o.dst v) w') : wpAny P md ops Q (fuel + 1) listed a w :=
  wpAny_all r (by simp) fun j hj => by
    obtain rfl : j = i := by simpa using hj
    exact d.op hi hg h
/-- The rest goes one by one. -/
theorem wpAny_tail {k fuel : Nat} {listed : Array Bool} (hf : (ops.toList.drop k).length = fuel) (hB : Region.seqB md ops fuel k listed = true) (h : wpList P ops Q (ops.toList.drop k) a w) : wpAny P md ops Q fuel listed a w := by
  subst hf
  exact wpAny_of_seq _ k listed a w (fun j => by simp) hB h
theorem put_comm (a : Act) {d d' : Option Tmp} (h : d ≠ d') (v v' : Value) : (a.put d v).put d' v' = (a.put d' v').put d v := by
  rcases d with _ | d <;> rcases d' with _ | d' <;> simp [Act.put]
  exact Array.setIfInBounds_comm _ _ (fun e => h (by rw [e]))
/-- Two that read, one of which a third, which makes memory, waits for. -/
theorem wpAny_three {i j k fuel : Nat} {listed : Array Bool} {oi oj ok : Oper} {vi vj vk : Value} (hi : ops[i]? = some oi) (hj : ops[j]? = some oj) (hk : ops[k]? = some ok) (gi : oi.guard = none) (gj : oj.guard = none) (gk : ok.guard = none)
    (r0 : Region.ready md ops listed = [i, j]) (r1 : Region.ready md ops (listed.setIfInBounds i true) = [j]) (r2 : Region.ready md ops (listed.setIfInBounds j true) = [i, k])
    (r3 : Region.ready md ops ((listed.setIfInBounds i true).setIfInBounds j true) = [k]) (r4 : Region.ready md ops ((listed.setIfInBounds j true).setIfInBounds k true) = [i])
    (hij : i ≠ j) (hik : i ≠ k)
    (d1 : Did P oi a w vi w) (d2 : Did P oj (a.put oi.dst vi) w vj w) (d2' : Did P oj a w vj w) (d1' : Did P oi (a.put oj.dst vj) w vi w) (d3 : Did P ok ((a.put oi.dst vi).put oj.dst vj) w vk w') (d3' : Did P ok (a.put oj.dst vj) w vk w')
    (d1'' : Did P oi ((a.put oj.dst vj).put ok.dst vk) w' vi w') (n1 : oi.dst ≠ oj.dst) (n2 : oi.dst ≠ ok.dst)
    (h : wpAny P md ops Q fuel (((listed.setIfInBounds i true).setIfInBounds j true).setIfInBounds k true) (((a.put oi.dst vi).put oj.dst vj).put ok.dst vk) w') : wpAny P md ops Q (fuel + 3) listed a w := by
  have c1 : (listed.setIfInBounds j true).setIfInBounds i true = (listed.setIfInBounds i true).setIfInBounds j true := Array.setIfInBounds_comm _ _ (Ne.symm hij)
  have c2 : ((listed.setIfInBounds j true).setIfInBounds k true).setIfInBounds i true = ((listed.setIfInBounds i true).setIfInBounds j true).setIfInBounds k true := by
    rw [Array.setIfInBounds_comm _ _ (Ne.symm hik), c1]
  have e1 : (a.put oj.dst vj).put oi.dst vi = (a.put oi.dst vi).put oj.dst vj := put_comm a (Ne.symm n1) _ _
  have e2 : ((a.put oj.dst vj).put ok.dst vk).put oi.dst vi = ((a.put oi.dst vi).put oj.dst vj).put ok.dst vk := by rw [put_comm _ (Ne.symm n2), e1]
  refine wpAny_all r0 (by simp) fun n hn => ?_
  rcases List.mem_cons.1 hn with rfl | hn
  · exact d1.op hi gi (wpAny_one hj gj r1 d2 (wpAny_one hk gk r3 d3 h))
  · obtain rfl : n = j := by simpa using hn
    refine d2'.op hj gj (wpAny_all r2 (by simp) fun n2 hn2 => ?_)
    rcases List.mem_cons.1 hn2 with rfl | hn2
    · refine d1'.op hi gi (wpAny_one hk gk (by rw [c1]; exact r3) (by rw [e1]; exact d3) ?_)
      rw [c1, e1]
      exact h
    · obtain rfl : n2 = k := by simpa using hn2
      refine d3'.op hk gk (wpAny_one hi gi r4 d1'' ?_)
      rw [c2, e2]
      exact h
/-- The same with the slots said. -/
theorem wpAny_threeTo {i j k fuel : Nat} {listed : Array Bool} {oi oj ok : Oper} {vi vj vk : Value} (di dj dk : Tmp) (hi : ops[i]? = some oi) (hj : ops[j]? = some oj) (hk : ops[k]? = some ok) (gi : oi.guard = none) (gj : oj.guard = none) (gk : ok.guard = none)
    (ei : oi.dst = some di) (ej : oj.dst = some dj) (ek : ok.dst = some dk)
    (r0 : Region.ready md ops listed = [i, j]) (r1 : Region.ready md ops (listed.setIfInBounds i true) = [j]) (r2 : Region.ready md ops (listed.setIfInBounds j true) = [i, k])
    (r3 : Region.ready md ops ((listed.setIfInBounds i true).setIfInBounds j true) = [k]) (r4 : Region.ready md ops ((listed.setIfInBounds j true).setIfInBounds k true) = [i])
    (hij : i ≠ j) (hik : i ≠ k)
    (d1 : Did P oi a w vi w) (d2 : Did P oj (a.put (some di) vi) w vj w) (d2' : Did P oj a w vj w) (d1' : Did P oi (a.put (some dj) vj) w vi w) (d3 : Did P ok ((a.put (some di) vi).put (some dj) vj) w vk w') (d3' : Did P ok (a.put (some dj) vj) w vk w')
    (d1'' : Did P oi ((a.put (some dj) vj).put (some dk) vk) w' vi w') (n1 : di ≠ dj) (n2 : di ≠ dk)
    (h : wpAny P md ops Q fuel (((listed.setIfInBounds i true).setIfInBounds j true).setIfInBounds k true) (((a.put (some di) vi).put (some dj) vj).put (some dk) vk) w') : wpAny P md ops Q (fuel + 3) listed a w := by
  have m1 : oi.dst ≠ oj.dst := by rw [ei, ej]; exact fun e => n1 (by cases e; rfl)
  have m2 : oi.dst ≠ ok.dst := by rw [ei, ek]; exact fun e => n2 (by cases e; rfl)
  rw [← ei] at d2 d3 h
  rw [← ej] at d1' d3 d3' d1'' h
  rw [← ek] at d1'' h
  exact wpAny_three hi hj hk gi gj gk r0 r1 r2 r3 r4 hij hik d1 d2 d2' d1' d3 d3' d1'' m1 m2 h
theorem wpAny_takeTo {i fuel : Nat} {listed : Array Bool} {oi : Oper} (d : Tmp) (v : Value) (hi : ops[i]? = some oi) (hd : oi.dst = some d) (hs : Region.noSelect ops = true) (hf : Region.free md ops listed i = true) (hr : (Region.ready md ops listed).contains i = true)
    (hQ : ∀ c a w, Q (.panic c) (a.put (some d) v) w → Q (.panic c) a w) (hy : Yields P ops oi v a)
    (h : wpAny P md ops Q fuel (listed.setIfInBounds i true) (a.put (some d) v) w) : wpAny P md ops Q (fuel + 1) listed a w := by
  rw [← hd] at hQ h
  exact wpAny_take hi hs hf hr hQ hy h
theorem did_load_one (ty : TypeId) (x : Operand) (ho : o.op = .load ty x) (ad : Addr) (hx : a.eval x = .pointer (some ad)) (hu : (P.underlying ty).map (fun d => match d with | .struct _ | .array _ _ => true | _ => false) = some false)
    (hc : w.cell? ad = some v) : Did P o a w v w := by
  left
  have hagg : (isAgg ty).run P w = .ok false w := by
    unfold isAgg
    cases hq : P.underlying ty with
    | none => simp [hq] at hu
    | some d =>
      rw [Sem.run_bind, run_underlying hq w]
      cases d <;> simp_all
  unfold execOp
  simp [ho, hx, Instr.loadAt, Instr.sureAddr, loadVar, Sem.run_bind, hagg, run_load, hc]
end

/-! ### Maps from integers to bytes -/
/-- An integer that is a key. -/
def keyI : Value → Option Int
  | .int .i64 i => some i
  | _ => none
theorem keyI_inv {v : Value} {i : Int} (h : keyI v = some i) : v = .int .i64 i := by
  unfold keyI at h
  split at h
  · cases h; rfl
  · cases h
/-- The value under a key. -/
def look : List MapEntry → Int → Option Value
  | [], _ => none
  | e :: es, i => if keyI e.key = some i then some e.val else look es i
/-- Block b is a map from integers to bytes: F, whose default is the bytes z. -/
def IsMap (w : World) (b : Nat) (z : List UInt8) (F : Int → List UInt8) : Prop :=
  ∃ es clock, w.heap[b]? = some (.map es clock) ∧ (∀ e ∈ es.toList, ∃ i : Int, e.key = .int .i64 i) ∧ ∀ i, (look es.toList i).getD (.agg (bc z).toArray) = .agg (bc (F i)).toArray

theorem IsMap.lt {w : World} {b : Nat} {z : List UInt8} {F : Int → List UInt8} (h : IsMap w b z F) : b < w.heap.size := by
  obtain ⟨es, c, h, _⟩ := h
  exact (Array.getElem?_eq_some_iff.1 h).1
theorem IsMap.keep {w w' : World} {b : Nat} {z : List UInt8} {F : Int → List UInt8} (h : IsMap w b z F) (hb : w'.heap[b]? = w.heap[b]?) : IsMap w' b z F := by
  obtain ⟨es, c, h, k⟩ := h
  exact ⟨es, c, hb.trans h, k⟩
theorem IsMap.new (w : World) (z : List UInt8) : IsMap (w.alloc (.map #[] 0)) w.heap.size z (fun _ => z) := ⟨#[], 0, heap_alloc_new w _, by simp, fun i => by simp [look]⟩

theorem findNow_spec (i : Int) : ∀ (es : List MapEntry) (k : Nat), (∀ e ∈ es, ∃ j : Int, e.key = .int .i64 j) →
    (look es i = none ∧ Instr.findNow (.int .i64) (.int .i64 i) es k = some none) ∨ (∃ n v, look es i = some v ∧ Instr.findNow (.int .i64) (.int .i64 i) es k = some (some (k + n, v)) ∧ n < es.length ∧ (es[n]?).map (·.key) = some (.int .i64 i) ∧
      ∀ x j, look (es.modify n fun e => { e with key := .int .i64 i, val := x }) j = if j = i then some x else look es j)
  | [], k, _ => .inl ⟨rfl, rfl⟩
  | e :: es, k, h => by
    obtain ⟨j, hj⟩ := h e (by simp)
    have hk : keyI e.key = some j := by rw [hj]; rfl
    by_cases hij : j = i
    · subst hij
      refine .inr ⟨0, e.val, by simp [look, hk], by simp [Instr.findNow, Instr.sameNow, hj], by simp, by simp [hj], fun x j' => ?_⟩
      simp only [List.modify_zero_cons, look, hk]
      by_cases e1 : j' = j
      · subst e1; simp [keyI]
      · have : ¬ j = j' := fun e => e1 e.symm
        simp [e1, this, keyI]
    · have hb : (i == j) = false := by simp; exact fun e => hij e.symm
      rcases findNow_spec i es (k + 1) (fun e he => h e (by simp [he])) with ⟨h1, h2⟩ | ⟨n, v, h1, h2, h3, h4, h5⟩
      · exact .inl ⟨by simp [look, hk, hij, h1], by simp [Instr.findNow, Instr.sameNow, hj, hb, h2]⟩
      · refine .inr ⟨n + 1, v, by simp [look, hk, hij, h1], by simp [Instr.findNow, Instr.sameNow, hj, hb, h2]; omega, by simp; omega, by simpa using h4, fun x j' => ?_⟩
        simp only [List.modify_succ_cons, look, hk, h5]
        by_cases e1 : j' = i
        · subst e1; simp [hij]
        · by_cases e2 : j = j'
          · subst e2; simp [e1]
          · simp [e1, e2]

section
variable {P : Program} {w : World} {b : Nat} {z : List UInt8} {F : Int → List UInt8}
/-- m[i]. -/
theorem IsMap.lookup (h : IsMap w b z F) {t k e : TypeId} (ht : P.underlying t = some (.map k e)) (hk : P.underlying k = some (.int .i64)) (hz : (P.info? e).bind (·.zero) = some (.agg (bc z).toArray)) (i : Int) :
    (Instr.lookup t (.map (some b)) (.int .i64 i) false).run P w = .ok (.agg (bc (F i)).toArray) w := by
  obtain ⟨es, c, hb, hkeys, hF⟩ := h
  have hFi := hF i
  have hik : MapKept.IsKey (.int .i64) (.int .i64 i) := by simp [MapKept.IsKey]
  cases hq : P.info? e with
  | none => simp [hq] at hz
  | some ie =>
    have hz' : ie.zero = some (.agg (bc z).toArray) := by simpa [hq] using hz
    rcases findNow_spec i es.toList 0 hkeys with ⟨h1, h2⟩ | ⟨n, v, h1, h2, _⟩
    · rw [h1] at hFi
      simp only [Option.getD_none] at hFi
      rw [← hFi]
      simp [Instr.lookup, run_underlying ht, MapKept.run_getObj_map hb, MapKept.run_checkKey hk hik, MapKept.run_findKey hk h2, zeroValue, typeInfo, hq, hz', Result.andThen]
    · rw [h1] at hFi
      simp only [Option.getD_some] at hFi
      rw [← hFi]
      simp [Instr.lookup, run_underlying ht, MapKept.run_getObj_map hb, MapKept.run_checkKey hk hik, MapKept.run_findKey hk h2, Result.andThen]
/-- m[i] = l. -/
theorem IsMap.update (h : IsMap w b z F) {t k e : TypeId} (ht : P.underlying t = some (.map k e)) (hk : P.underlying k = some (.int .i64)) (i : Int) (l : List UInt8) :
    ∃ w', (Instr.mapUpdate t (.map (some b)) (.int .i64 i) (.agg (bc l).toArray)).run P w = .ok () w' ∧ IsMap w' b z (fun j => if j = i then l else F j) ∧ w.grownBy w' (some b) ∧ w'.heap.size = w.heap.size := by
  obtain ⟨es, c, hb, hkeys, hF⟩ := h
  have hik : MapKept.IsKey (.int .i64) (.int .i64 i) := by simp [MapKept.IsKey]
  have gb : ∀ o : Obj, w.grownBy { w with heap := w.heap.setIfInBounds b o } (some b) := fun o => ⟨rfl, rfl, rfl, by simp, fun j _ hj => by
    simp only [Array.getElem?_setIfInBounds]
    rw [if_neg (fun e => hj (by rw [e]))]⟩
  rcases findNow_spec i es.toList 0 hkeys with ⟨h1, h2⟩ | ⟨n, v, h1, h2, h3, h4, h5⟩
  · refine ⟨{ w with heap := w.heap.setIfInBounds b (.map (es.push { key := .int .i64 i, val := .agg (bc l).toArray, born := c }) (c + 1)) }, ?_, ⟨_, _, (MapKept.heap_set hb).1, ?_, ?_⟩, gb _, by simp⟩
    · simp [Instr.mapUpdate, run_underlying ht, MapKept.run_getObj_map hb, MapKept.run_checkKey hk hik, MapKept.run_findKey hk h2, MapKept.run_setObj_map _ hb, Result.andThen]
    · intro e he
      simp only [Array.toList_push, List.mem_append, List.mem_singleton] at he
      rcases he with he | rfl
      · exact hkeys e he
      · exact ⟨i, rfl⟩
    · intro j
      have happ : ∀ (A : List MapEntry) (x : MapEntry), look (A ++ [x]) j = (look A j).or (if keyI x.key = some j then some x.val else none) := by
        intro A x
        induction A with
        | nil => simp [look]
        | cons y A ih => simp only [List.cons_append, look, ih]; split <;> simp
      rw [Array.toList_push, happ]
      by_cases e1 : j = i
      · subst e1
        simp [h1, keyI]
      · have e2 : ¬ i = j := fun e => e1 e.symm
        simp [e1, e2, keyI]
        exact hF j
  · have hes : ((es[n]?).map (·.key)).getD (.int .i64 i) = .int .i64 i := by
      have : es[n]? = es.toList[n]? := by simp
      rw [this, h4]
      rfl
    refine ⟨{ w with heap := w.heap.setIfInBounds b (.map (es.modify n fun e => { e with key := .int .i64 i, val := .agg (bc l).toArray }) c) }, ?_, ⟨_, _, (MapKept.heap_set hb).1, ?_, ?_⟩, gb _, by simp⟩
    · simp [Instr.mapUpdate, run_underlying ht, MapKept.run_getObj_map hb, MapKept.run_checkKey hk hik, MapKept.run_findKey hk h2, MapKept.run_setObj_map _ hb, Result.andThen, hes, MapKept.run_keyThatStays hik]
    · intro e he
      rw [Array.toList_modify] at he
      obtain ⟨j, hj⟩ := List.mem_iff_getElem?.1 he
      rw [List.getElem?_modify] at hj
      obtain ⟨x, hx, rfl⟩ := Option.map_eq_some_iff.1 hj
      by_cases hnj : n = j
      · rw [if_pos hnj]
        exact ⟨i, rfl⟩
      · rw [if_neg hnj]
        exact hkeys x (List.mem_of_getElem? hx)
    · intro j
      rw [Array.toList_modify, h5]
      by_cases e1 : j = i
      · subst e1
        simp
      · simp only [e1, if_false]
        exact hF j
theorem IsMap.did_lookup {o : Oper} {a : Act} (h : IsMap w b z F) {t k e : TypeId} (m x : Operand) (ho : o.op = .lookup t m x false) (ht : P.underlying t = some (.map k e)) (hk : P.underlying k = some (.int .i64)) (hz : (P.info? e).bind (·.zero) = some (.agg (bc z).toArray)) (i : Int)
    (hm : a.eval m = .map (some b)) (hx : a.eval x = .int .i64 i) : Did P o a w (.agg (bc (F i)).toArray) w := by
  left
  unfold execOp
  simp only [ho, hm, hx, Sem.run_bind, h.lookup ht hk hz i, Result.andThen_ok]
  rfl
theorem IsMap.did_update {o : Oper} {a : Act} (h : IsMap w b z F) {t k e : TypeId} (m x y : Operand) (ho : o.op = .mapUpdate t m x y) (ht : P.underlying t = some (.map k e)) (hk : P.underlying k = some (.int .i64)) (i : Int) (l : List UInt8)
    (hm : a.eval m = .map (some b)) (hx : a.eval x = .int .i64 i) (hy : a.eval y = .agg (bc l).toArray) :
    ∃ w', Did P o a w undef w' ∧ IsMap w' b z (fun j => if j = i then l else F j) ∧ w.grownBy w' (some b) ∧ w'.heap.size = w.heap.size := by
  obtain ⟨w', hr, h1, h2, h3⟩ := h.update (P := P) ht hk i l
  refine ⟨w', .inr ⟨?_, rfl⟩, h1, h2, h3⟩
  unfold execOp
  simp only [ho, hm, hx, hy, Sem.run_bind, hr, Result.andThen_ok]
  rfl
end
theorem bc_all (l : List UInt8) : (bc l).toArray.all (·.oneCell') = true := by
  simp only [List.all_toArray, List.all_eq_true]
  exact fun u hu => bc_one l u hu
end Go.Proofs.Ytjgmboleiaehaaa

namespace Go.Proofs.Ytjgmboleiaehaaa
open Go.RowKit

/-- The cells of an entry, .. -/
def ec (e : En) : List Value := [.int .u64 (e.ck : Int), .int .u32 (e.ino : Int), .int .u32 (e.gen : Int), .string (txt e.nm)]
/-- .. of all of them. -/
def ecs (es : List En) : List Value := es.flatMap ec
theorem ec_length (e : En) : (ec e).length = 4 := rfl
theorem ec_size (e : En) : (ec e).toArray.size = 4 := rfl
theorem ec_one (e : En) : (ec e).toArray.all (·.oneCell') = true := by simp [ec, Value.oneCell']
theorem ec_one' (e : En) : ∀ u ∈ ec e, u.oneCell' = true := by
  intro u hu
  simp only [ec, List.mem_cons, List.not_mem_nil, or_false] at hu
  rcases hu with rfl | rfl | rfl | rfl <;> rfl
theorem ecs_length (es : List En) : (ecs es).length = es.length * 4 := by
  induction es with
  | nil => rfl
  | cons e r ih => show (ec e ++ ecs r).length = _; rw [List.length_append, ih, ec_length, List.length_cons]; omega
theorem ecs_append (a b : List En) : ecs (a ++ b) = ecs a ++ ecs b := by simp [ecs]
theorem ecs_single (e : En) : ecs [e] = ec e := by simp [ecs]
theorem ecs_one (es : List En) : ∀ u ∈ ecs es, u.oneCell' = true := by
  intro u hu
  unfold ecs at hu
  obtain ⟨e, _, h⟩ := List.mem_flatMap.1 hu
  exact ec_one' e u h
theorem ecs_get (es : List En) : ∀ (j : Nat) (hj : j < es.length) (i : Nat) (v : Value), (ec es[j])[i]? = some v → (ecs es)[j * 4 + i]? = some v := by
  induction es with
  | nil => intro j hj; exact absurd hj (Nat.not_lt_zero _)
  | cons e r ih =>
    intro j hj i v hv
    show (ec e ++ ecs r)[j * 4 + i]? = _
    cases j with
    | zero =>
      have hv' : (ec e)[i]? = some v := hv
      have hi := (List.getElem?_eq_some_iff.1 hv').1
      rw [Nat.zero_mul, Nat.zero_add, List.getElem?_append_left hi]
      exact hv'
    | succ j =>
      rw [List.getElem?_append_right (by rw [ec_length]; omega), ec_length, show (j + 1) * 4 + i - 4 = j * 4 + i by omega]
      exact ih j (by simpa using hj) i v hv
theorem info_E : (Try.prog.info? 91).map (fun i => (i.zero, i.size, i.bytes)) = some (some (.agg (ec ⟨0, 0, 0, []⟩).toArray), 4, 32) := by kernel_rfl
theorem size_E : (Try.prog.info? 91).map (·.size) = some 4 := by kernel_rfl
theorem zero_E : (Try.prog.info? 91).bind (·.zero) = some (.agg (ec ⟨0, 0, 0, []⟩).toArray) := by kernel_rfl
theorem info_F : (Try.prog.info? 92).map (fun i => (i.zero, i.size, i.bytes)) = some (some (.agg (ec ⟨0, 0, 0, []⟩).toArray), 4, 32) := by kernel_rfl
theorem size_F : (Try.prog.info? 92).map (·.size) = some 4 := by kernel_rfl
theorem zero_F : (Try.prog.info? 92).bind (·.zero) = some (.agg (ec ⟨0, 0, 0, []⟩).toArray) := by kernel_rfl

/-- The slice (A, n, ..) reads as the entries es. -/
def ES (w : World) (A : Option Addr) (n : Nat) (es : List En) : Prop :=
  es.length = n ∧ (0 < n → ∃ b o, A = some ⟨b, o, none⟩ ∧ ∀ j (hj : j < es.length) i v, (ec es[j])[i]? = some v → w.cell? ⟨b, o + j * 4 + i, none⟩ = some v)
section
variable {w w' : World} {A : Option Addr} {n : Nat} {es : List En}
theorem ES.nil : ES w A 0 [] := ⟨rfl, fun h => absurd h (by omega)⟩
theorem ES.keep (h : ES w A n es) (hk : ∀ p : Addr, p.block < w.heap.size → w'.cell? p = w.cell? p) : ES w' A n es :=
  ⟨h.1, fun hn => by
    obtain ⟨b, o, e, hc⟩ := h.2 hn
    exact ⟨b, o, e, fun j hj i v hv => (hk _ (World.block_lt_of_cell? w _ (hc j hj i v hv))).trans (hc j hj i v hv)⟩⟩
theorem ES.below (h : ES w A n es) (hb : Below w.heap.size w w') : ES w' A n es := h.keep fun _ hp => hb.cell hp
theorem ES.alloc (h : ES w A n es) (o : Obj) : ES (w.alloc o) A n es := h.keep fun p hp => World.cell?_alloc_lt w o p hp
theorem ES.drew (h : ES w A n es) : ES w.drew A n es := h
theorem ES.drewN (h : ES w A n es) (k : Nat) : ES (w.drewN k) A n es := h
theorem ES.at (h : ES w A n es) {k : Nat} (hk : k < n) : ∃ b o, A = some ⟨b, o, none⟩ ∧ b < w.heap.size ∧ ∃ hj : k < es.length, ∀ i v, (ec es[k])[i]? = some v → w.cell? ⟨b, o + k * 4 + i, none⟩ = some v := by
  obtain ⟨b, o, e, hc⟩ := h.2 (by omega)
  have hj : k < es.length := by rw [h.1]; exact hk
  exact ⟨b, o, e, World.block_lt_of_cell? w _ (hc k hj 0 _ rfl), hj, hc k hj⟩
theorem ES.lt_block (h : ES w A n es) (hn : 0 < n) (ad : Addr) (ha : A = some ad) : ad.block < w.heap.size := by
  obtain ⟨b, o, e, hb, _⟩ := h.at hn
  rw [ha] at e
  injection e with e
  subst e
  exact hb
theorem ES.take (h : ES w A n es) {k : Nat} (hk : k ≤ n) : ES w A k (es.take k) :=
  ⟨by rw [List.length_take, h.1]; omega, fun hn => by
    obtain ⟨b, o, e, hc⟩ := h.2 (by omega)
    refine ⟨b, o, e, fun j hj i v hv => ?_⟩
    have hjl : j < es.length := by rw [List.length_take] at hj; omega
    rw [List.getElem_take] at hv
    exact hc j hjl i v hv⟩
theorem ES.drop (h : ES w A n es) {k c : Nat} (hk : k ≤ n) (hc : n ≤ c) : ES w (if c = k then A else A.map (·.add (k * 4))) (n - k) (es.drop k) :=
  ⟨by rw [List.length_drop, h.1], fun hn => by
    obtain ⟨b, o, rfl, hcell⟩ := h.2 (by omega)
    rw [if_neg (by omega)]
    refine ⟨b, o + k * 4, ?_, fun j hj i v hv => ?_⟩
    · simp only [Option.map_some]
      unfold Addr.add
      split
      · simp_all
      · rfl
    · rw [List.length_drop] at hj
      rw [List.getElem_drop] at hv
      rw [show o + k * 4 + j * 4 + i = o + (k + j) * 4 + i by omega]
      exact hcell (k + j) (by omega) i v hv⟩
theorem ES.of_own {base : Nat} {t : TypeId} {c : Nat} (h : w.ownsRow base t 4 (.slice A n c) n (ecs es)) : ES w A n es := by
  have hl : es.length = n := by have := h.1; rw [ecs_length] at this; omega
  refine ⟨hl, fun hn => ?_⟩
  obtain ⟨g, cap, hv, _, hlt⟩ := h.form hn
  injection hv with hA _ _
  subst hA
  refine ⟨g, 0, rfl, fun j hj i v hv => ?_⟩
  have := h.cells (g := g) rfl (j * 4 + i) _ (ecs_get es j hj i v hv)
  rw [add_plain] at this
  rw [Nat.add_assoc]
  exact this
/-- The cells of one, as a load asks for them. -/
theorem ES.load (h : ES w A n es) {k : Nat} (hk : k < n) : ∃ b o, A = some ⟨b, o, none⟩ ∧ b < w.heap.size ∧ ∃ hj : k < es.length, ∀ j u, (ec es[k])[j]? = some u → w.cell? ((⟨b, o + k * 4, none⟩ : Addr).add j) = some u := by
  obtain ⟨b, o, e, hb, hj, hc⟩ := h.at hk
  exact ⟨b, o, e, hb, hj, fun j u hu => by rw [add_plain]; exact hc j u hu⟩
/-- All cells, as the laws on append ask for them. -/
theorem ecs_get_inv (es : List En) (q : Nat) (u : Value) (h : (ecs es)[q]? = some u) : ∃ j i, ∃ hj : j < es.length, q = j * 4 + i ∧ (ec es[j])[i]? = some u := by
  have hq := (List.getElem?_eq_some_iff.1 h).1
  rw [ecs_length] at hq
  have hj : q / 4 < es.length := by omega
  have hi : q % 4 < (ec es[q / 4]).length := by rw [ec_length]; omega
  have := ecs_get es (q / 4) hj (q % 4) _ (List.getElem?_eq_getElem hi)
  rw [show q / 4 * 4 + q % 4 = q by omega, h] at this
  injection this with this
  exact ⟨q / 4, q % 4, hj, by omega, by rw [List.getElem?_eq_getElem hi, this]⟩
theorem ES.news (h : ES w A n es) {ad : Addr} (hA : A = some ad) : ∀ j u, (ecs es)[j]? = some u → w.cell? (ad.add j) = some u := by
  intro q u hu
  obtain ⟨j, i, hj, rfl, hv⟩ := ecs_get_inv es q u hu
  obtain ⟨b, o, e, hc⟩ := h.2 (by rw [← h.1]; omega)
  rw [hA] at e
  injection e with e
  subst e
  rw [add_plain, ← Nat.add_assoc]
  exact hc j hj i u hv
end

/-- Block g holds one entry. -/
def EB (w : World) (g : Nat) (t : TypeId) (e : En) : Prop := w.heap[g]? = some (.cells (ec e).toArray t (0, 0))
section
variable {w w' : World} {g : Nat} {t : TypeId} {e : En}
theorem EB.cell (h : EB w g t e) (k : Nat) (v : Value) (hv : (ec e)[k]? = some v) : w.cell? ⟨g, k, none⟩ = some v := by
  rw [cell_of_row w g k _ _ _ h]
  simpa using hv
theorem EB.c0 (h : EB w g t e) : w.cell? ⟨g, 0, none⟩ = some (.int .u64 (e.ck : Int)) := h.cell 0 _ rfl
theorem EB.c1 (h : EB w g t e) : w.cell? ⟨g, 1, none⟩ = some (.int .u32 (e.ino : Int)) := h.cell 1 _ rfl
theorem EB.c2 (h : EB w g t e) : w.cell? ⟨g, 2, none⟩ = some (.int .u32 (e.gen : Int)) := h.cell 2 _ rfl
theorem EB.c3 (h : EB w g t e) : w.cell? ⟨g, 3, none⟩ = some (.string (txt e.nm)) := h.cell 3 _ rfl
theorem EB.froz (h : EB w g t e) (k : Nat) : w.frozen? ⟨g, k, none⟩ = false := by simp [World.frozen?, show w.heap[g]? = _ from h]
theorem EB.lt (h : EB w g t e) : g < w.heap.size := World.block_lt_of_cell? w _ h.c0
theorem EB.below {B : Nat} (h : EB w g t e) (hb : Below B w w') (hg : g < B) : EB w' g t e := (hb.block g hg).trans h
theorem EB.below' (h : EB w g t e) (hb : Below w.heap.size w w') : EB w' g t e := h.below hb h.lt
theorem EB.new (w : World) (t : TypeId) (e : En) : EB (w.alloc (.cells (ec e).toArray t)) w.heap.size t e := heap_alloc_new w _
theorem EB.es (h : EB w g t e) : ES w (some ⟨g, 0, none⟩) 1 [e] :=
  ⟨rfl, fun _ => ⟨g, 0, rfl, fun j hj i v hv => by
    obtain rfl : j = 0 := by simpa using hj
    rw [Nat.zero_mul, Nat.zero_add]
    try rw [Nat.zero_add]
    exact h.cell i v hv⟩⟩
end
end Go.Proofs.Ytjgmboleiaehaaa

namespace Go.Proofs.Ytjgmboleiaehaaa
open Go.RowKit Go.Shelf

/-- The first place at which p holds, or -1. -/
def fndP (p : En → Bool) (es : List En) : Int := if es.findIdx p < es.length then (es.findIdx p : Int) else -1
theorem fnd_eq (es : List En) (nm : List UInt8) : fnd es nm = fndP (fun e => e.nm == nm) es := rfl
theorem fndP_hit (p : En → Bool) (es : List En) (k : Nat) (hk : k < es.length) (hp : p es[k] = true) (hno : ∀ j, (h : j < es.length) → j < k → p es[j] = false) : fndP p es = (k : Int) := by
  have h : es.findIdx p = k := by
    rw [List.findIdx_eq hk]
    exact ⟨hp, fun j hj => hno j (by omega) hj⟩
  unfold fndP
  rw [h, if_pos hk]
theorem fndP_miss (p : En → Bool) (es : List En) (hno : ∀ j, (h : j < es.length) → p es[j] = false) : fndP p es = -1 := by
  unfold fndP
  rw [if_neg]
  intro h
  have := List.findIdx_getElem (w := h)
  rw [hno _ h] at this
  cases this

theorem lastCk_nil : lastCk [] = 0 := rfl
theorem lastCk_pos (es : List En) (h : 0 < es.length) : lastCk es = (es[es.length - 1]'(by omega)).ck := by
  unfold lastCk lastAt
  rw [if_neg (by omega), List.getD_eq_getElem?_getD, List.getElem?_eq_getElem (by omega)]
  rfl
end Go.Proofs.Ytjgmboleiaehaaa

namespace Go.Proofs.Ytjgmboleiaehaaa
open Go.RowKit

/-- 0 and '/'. -/
def sep : ByteArray := ⟨#[0, 47]⟩
theorem sep_size : sep.size = 2 := rfl
theorem sep_list : sep.data.toList = [0, 47] := rfl

/-! Runes of a string that is no ASCII. -/
theorem enc_high (c : Nat) (h : 128 ≤ c) (h2 : c ≤ 1114111) : 2 ≤ (Utf8.encode (c : Int)).size ∧ (Utf8.encode (c : Int)).size ≤ 4 ∧ ∀ i (hi : i < (Utf8.encode (c : Int)).size), 128 ≤ ((Utf8.encode (c : Int))[i]).toNat := by
  have main : ∀ d : Nat, 128 ≤ d → d ≤ 1114111 → ∀ u : ByteArray, u = (if d < 0x80 then ⟨#[UInt8.ofNat d]⟩ else if d < 0x800 then ⟨#[UInt8.ofNat (0xC0 + d / 64), UInt8.ofNat (0x80 + d % 64)]⟩
      else if d < 0x10000 then ⟨#[UInt8.ofNat (0xE0 + d / 4096), UInt8.ofNat (0x80 + d / 64 % 64), UInt8.ofNat (0x80 + d % 64)]⟩
      else ⟨#[UInt8.ofNat (0xF0 + d / 262144), UInt8.ofNat (0x80 + d / 4096 % 64), UInt8.ofNat (0x80 + d / 64 % 64), UInt8.ofNat (0x80 + d % 64)]⟩) → 2 ≤ u.size ∧ u.size ≤ 4 ∧ ∀ i (hi : i < u.size), 128 ≤ (u[i]).toNat := by
    intro d hd hd2 u hu
    rw [if_neg (by omega)] at hu
    have hz : ∀ k : Nat, k < 128 → 128 ≤ (UInt8.ofNat (128 + k)).toNat := fun k hk => by simp; omega
    have hk : ∀ k : Nat, 128 ≤ k → k < 256 → 128 ≤ (UInt8.ofNat k).toNat := fun k h1 h2 => by simp; omega
    split at hu
    · subst hu
      refine ⟨?_, ?_, fun i hi => ?_⟩
      · simp [ByteArray.size]
      · simp [ByteArray.size]
      match i, hi with
      | 0, _ => exact hk _ (by omega) (by omega)
      | 1, _ => exact hk _ (by omega) (by omega)
    · split at hu
      · subst hu
        refine ⟨?_, ?_, fun i hi => ?_⟩
        · simp [ByteArray.size]
        · simp [ByteArray.size]
        match i, hi with
        | 0, _ => exact hk _ (by omega) (by omega)
        | 1, _ => exact hk _ (by omega) (by omega)
        | 2, _ => exact hk _ (by omega) (by omega)
      · subst hu
        refine ⟨?_, ?_, fun i hi => ?_⟩
        · simp [ByteArray.size]
        · simp [ByteArray.size]
        match i, hi with
        | 0, _ => exact hk _ (by omega) (by omega)
        | 1, _ => exact hk _ (by omega) (by omega)
        | 2, _ => exact hk _ (by omega) (by omega)
        | 3, _ => exact hk _ (by omega) (by omega)
  refine main (if Utf8.valid (c : Int) then (c : Int).toNat else Utf8.runeError) ?_ ?_ _ rfl
  · split
    · simpa using h
    · decide
  · split
    · simpa using h2
    · decide
/-- What a byte that is no ASCII is part of holds none. -/
theorem decode_span (s : ByteArray) (pos : Nat) (h : pos < s.size) (ha : 128 ≤ (s[pos]'h).toNat) : ∀ j b, pos ≤ j → j < pos + (Utf8.decode s pos).2 → s.data.toList[j]? = some b → 128 ≤ b.toNat := by
  have hg : ∀ k b, s.data.toList[pos + k]? = some b → s.get! (pos + k) = b := by
    intro k b hb
    have hk : pos + k < s.data.toList.length := (List.getElem?_eq_some_iff.1 hb).1
    have hk' : pos + k < s.size := by have := Lib.size_eq s; omega
    have e : s.data.toList[pos + k] = b := (List.getElem?_eq_some_iff.1 hb).2
    have e2 : s.get! (pos + k) = s[pos + k]'hk' := get_at s (pos + k) hk'
    rw [e2, ← e]
    rfl
  have h0 : (s.get! (pos + 0)).toNat = (s[pos]'h).toNat := by rw [get_at s pos h]
  intro j b hj1 hj2 hb
  obtain ⟨k, rfl⟩ : ∃ k, j = pos + k := ⟨j - pos, by omega⟩
  have hgk := hg k b hb
  rw [← hgk]
  have hd : k < (Utf8.decode s pos).2 := by omega
  have hn : ¬ (s.get! (pos + 0)).toNat < 128 := by omega
  have two : ∀ x : Nat, x / 64 = 2 → 128 ≤ x := fun x hx => by omega
  simp only [Utf8.decode, hn, if_false] at hd
  match k with
  | 0 => omega
  | 1 =>
    split at hd
    · rename_i h1
      simp only [Bool.and_eq_true, beq_iff_eq, decide_eq_true_eq] at h1
      exact two _ h1.2.2
    · split at hd
      · rename_i h1
        simp only [Bool.and_eq_true, beq_iff_eq, decide_eq_true_eq] at h1
        exact two _ h1.1.2.2
      · split at hd
        · rename_i h1
          simp only [Bool.and_eq_true, beq_iff_eq, decide_eq_true_eq] at h1
          exact two _ h1.1.1.2.2
        · simp at hd
  | 2 =>
    split at hd
    · split at hd <;> simp at hd
    · split at hd
      · rename_i h1
        simp only [Bool.and_eq_true, beq_iff_eq, decide_eq_true_eq] at h1
        exact two _ h1.2.2
      · split at hd
        · rename_i h1
          simp only [Bool.and_eq_true, beq_iff_eq, decide_eq_true_eq] at h1
          exact two _ h1.1.2.2
        · simp at hd
  | 3 =>
    split at hd
    · split at hd <;> simp at hd
    · split at hd
      · split at hd <;> simp at hd
      · split at hd
        · rename_i h1
          simp only [Bool.and_eq_true, beq_iff_eq, decide_eq_true_eq] at h1
          exact two _ h1.2.2
        · simp at hd
  | k + 4 =>
    split at hd
    · split at hd <;> simp at hd <;> omega
    · split at hd
      · split at hd <;> simp at hd <;> omega
      · split at hd
        · split at hd <;> simp at hd <;> omega
        · simp at hd

/-- A string's next rune, in whatever world. -/
theorem next_in {P : Program} (W : World) (k : Nat) (s : ByteArray) (pos : Nat) (hk : W.heap[k]? = some (.stringIter s pos)) (h : pos < s.size) :
    ∃ W', (∀ ty, (Instr.next (.pointer (some ⟨k, 0, none⟩)) true ty).run P W = .ok (.tuple #[.bool true, .int .i64 pos, .int .i32 (Utf8.decode s pos).1]) W') ∧ W'.heap[k]? = some (.stringIter s (pos + (Utf8.decode s pos).2)) ∧ Below k W W' ∧ W'.heap.size = W.heap.size := by
  have hlt : k < W.heap.size := (Array.getElem?_eq_some_iff.1 hk).1
  refine ⟨{ W with heap := W.heap.setIfInBounds k (.stringIter s (pos + (Utf8.decode s pos).2)) }, fun ty => ?_, ?_, ⟨rfl, rfl, rfl, by simp, fun j hj => ?_⟩, by simp⟩
  · simp only [Instr.next, getObj, setObj, Sem.run_bind, Sem.run, hk, Result.andThen, h, if_true]
    simp [goInt]
  · simp [hlt]
  · have : k ≠ j := by omega
    simp [this]
theorem next_out {P : Program} (W : World) (k : Nat) (s : ByteArray) (pos : Nat) (hk : W.heap[k]? = some (.stringIter s pos)) (h : ¬ pos < s.size) :
    ∀ ty, (Instr.next (.pointer (some ⟨k, 0, none⟩)) true ty).run P W = .ok (.tuple #[.bool false]) W := fun ty => by
  simp [Instr.next, getObj, Sem.run, hk, h]

theorem noAny_span {s : ByteArray} {i : Nat} (h : Lib.NoAny s.data.toList [0, 47] i) (hi : i < s.size) (hx : 128 ≤ (s[i]'hi).toNat) : Lib.NoAny s.data.toList [0, 47] (i + (Utf8.decode s i).2) := by
  intro j b hj hb
  rcases Nat.lt_or_ge j i with h1 | h1
  · exact h j b h1 hb
  · have := decode_span s i hi hx j b h1 hj hb
    simp
    refine ⟨?_, ?_⟩
    · rintro rfl
      exact absurd this (by decide)
    · rintro rfl
      exact absurd this (by decide)
/-- Is one of the two in these bytes? -/
def parts (l : List UInt8) : Bool := l.any fun b => b == 0 || b == 47
theorem parts_any : ∀ l : List UInt8, decide (0 ≤ Lib.indexAny l [0, 47]) = parts l
  | [] => rfl
  | b :: l => by
    have ih := parts_any l
    have hg := Lib.indexAny_ge [0, 47] l
    have e1 : parts (b :: l) = ((b == 0 || b == 47) || parts l) := rfl
    have e2 : ([0, 47] : List UInt8).contains b = (b == 0 || b == 47) := by simp only [List.contains_cons, List.contains_nil, Bool.or_false]
    rw [e1, ← ih, show Lib.indexAny (b :: l) [0, 47] = (if ([0, 47] : List UInt8).contains b then 0 else if Lib.indexAny l [0, 47] == -1 then -1 else Lib.indexAny l [0, 47] + 1) from rfl, e2]
    cases h : (b == 0 || b == 47)
    · simp only [Bool.false_or, Bool.false_eq_true, if_false]
      split
      · rename_i h1
        have h1' := beq_iff_eq.1 h1
        rw [h1']
      · rename_i h1
        have h1' : ¬ Lib.indexAny l [0, 47] = -1 := fun e => h1 (beq_iff_eq.2 e)
        simp only [decide_eq_decide]
        omega
    · simp
end Go.Proofs.Ytjgmboleiaehaaa

namespace Go.Proofs.Ytjgmboleiaehaaa
open Go.RowKit Go.Shelf

theorem nameOk_eq (l : List UInt8) : nameOk l = (!decide (l.length < 1) && !decide (24 < l.length) && !(l == [46]) && !(l == [46, 46]) && !parts l) := by
  unfold nameOk parts
  have e1 : decide (1 ≤ l.length) = !decide (l.length < 1) := by
    rw [← decide_not]
    exact decide_eq_decide.2 (by omega)
  have e2 : decide (l.length ≤ 24) = !decide (24 < l.length) := by
    rw [← decide_not]
    exact decide_eq_decide.2 (by omega)
  have e3 : (l.all fun b => !(b == 0) && !(b == 47)) = !l.any fun b => b == 0 || b == 47 := by
    rw [List.not_any_eq_all_not]
    simp [Bool.not_or]
  rw [e1, e2, e3]

end Go.Proofs.Ytjgmboleiaehaaa

namespace Go.Proofs.Ytjgmboleiaehaaa
open Go.RowKit Go.Maps Go.Shelf

theorem lawS : Keyed Try.prog 9 := string_keyed Try.underlying9
/-- The set of the first k names. -/
def keysS (xs : List (List UInt8)) (k : Nat) : List Lit := (xs.take k).map Lit.string
def setS (xs : List (List UInt8)) (k : Nat) : DataW Unit := setOf (.agg []) (keysS xs k)
theorem setS_zero (xs : List (List UInt8)) : setS xs 0 = .map [] := by simp [setS, keysS, setOf]
theorem setS_succ (xs : List (List UInt8)) (k : Nat) (h : k < xs.length) : setS xs (k + 1) = (setS xs k).put (.string xs[k]) (.agg []) := by
  unfold setS keysS
  rw [List.take_succ_eq_append_getElem h, List.map_append, List.map_singleton, setOf_snoc]
theorem same_S (a b : List UInt8) : (Lit.string a).sameKey (.string b) = decide (a = b) := by
  show (a == b) = decide (a = b)
  by_cases h : a = b
  · subst h; simp
  · simp [h]
theorem any_S (x : List UInt8) : ∀ l : List (List UInt8), (l.map Lit.string).any (fun y => y.sameKey (.string x)) = decide (x ∈ l)
  | [] => by simp
  | a :: r => by
    rw [List.map_cons, List.any_cons, any_S x r, same_S]
    by_cases h : a = x
    · subst h; simp
    · have h' : ¬ x = a := fun e => h e.symm
      simp [h, h']
/-- The different ones, in order. -/
def difS (l : List (List UInt8)) : List (List UInt8) := l.foldl (fun acc x => if x ∈ acc then acc else acc ++ [x]) []
theorem fold_difS : ∀ (l acc : List (List UInt8)), (l.map Lit.string).foldl addKey (acc.map Lit.string) = (l.foldl (fun acc x => if x ∈ acc then acc else acc ++ [x]) acc).map Lit.string
  | [], acc => rfl
  | a :: r, acc => by
    rw [List.map_cons, List.foldl_cons, List.foldl_cons]
    have e : addKey (acc.map Lit.string) (.string a) = (if a ∈ acc then acc else acc ++ [a]).map Lit.string := by
      unfold addKey
      rw [any_S]
      by_cases h : a ∈ acc
      · simp [h]
      · simp [h]
    rw [e, fold_difS r]
theorem dif_lenS : ∀ (l acc : List (List UInt8)), acc.Nodup → (l.foldl (fun acc x => if x ∈ acc then acc else acc ++ [x]) acc).length ≤ acc.length + l.length ∧ ((l.foldl (fun acc x => if x ∈ acc then acc else acc ++ [x]) acc).length = acc.length + l.length ↔ (acc ++ l).Nodup)
  | [], acc, h => by simp [h]
  | a :: r, acc, h => by
    rw [List.foldl_cons]
    by_cases ha : a ∈ acc
    · rw [if_pos ha]
      obtain ⟨h1, _⟩ := dif_lenS r acc h
      refine ⟨by rw [List.length_cons]; omega, ⟨fun e => by rw [List.length_cons] at e; omega, fun hn => ?_⟩⟩
      rw [List.nodup_append] at hn
      exact absurd rfl (hn.2.2 a ha a (by simp))
    · rw [if_neg ha]
      have hn : (acc ++ [a]).Nodup := by
        rw [List.nodup_append]
        refine ⟨h, by simp, fun x hx y hy => ?_⟩
        rw [List.mem_singleton] at hy
        subst hy
        intro e
        subst e
        exact ha hx
      obtain ⟨h1, h2⟩ := dif_lenS r (acc ++ [a]) hn
      rw [List.length_append, List.length_singleton] at h1
      rw [List.length_append, List.length_singleton, List.append_assoc, List.singleton_append] at h2
      rw [List.length_cons]
      exact ⟨by omega, ⟨fun e => h2.1 (by omega), fun e => by have := h2.2 e; omega⟩⟩
theorem size_setS (xs : List (List UInt8)) : Maps.size (setS xs xs.length) ≤ xs.length ∧ (Maps.size (setS xs xs.length) = xs.length ↔ xs.Nodup) := by
  have h1 : Maps.size (setS xs xs.length) = (difS xs).length := by
    unfold setS
    rw [size_setOf _ _ (fun x hx => by unfold keysS at hx; obtain ⟨_, _, rfl⟩ := List.mem_map.1 hx; trivial)]
    unfold keysS
    rw [List.take_length]
    have := fold_difS xs []
    rw [List.map_nil] at this
    rw [this, List.length_map]
    rfl
  obtain ⟨h2, h3⟩ := dif_lenS xs [] List.nodup_nil
  rw [h1]
  unfold difS
  simp only [List.length_nil, Nat.zero_add, List.nil_append] at h2 h3
  exact ⟨h2, h3⟩
theorem run_makeMap2 {P : Program} (t k e : TypeId) (ht : P.underlying t = some (.map k e)) (n : Nat) (w : World) : (Instr.makeMap t (some (.int .i64 (n : Int)))).run P w = .ok (.map (some w.heap.size)) (w.alloc (.map #[] 0)) := by
  simp [Instr.makeMap, run_underlying ht, asInt]
  rfl
theorem below_grown {w w' : World} (h : Below w.heap.size w w') : w.grownBy w' none := ⟨h.os, h.tape, h.output, h.size, fun k hk _ => h.block k hk⟩

theorem stepOk_eq (es : List En) (k : Nat) (h : k < es.length) : stepOk es k = (nameOk es[k].nm && decide (lastAt es k < es[k].ck)) := by
  unfold stepOk
  rw [List.getD_eq_getElem?_getD, List.getElem?_eq_getElem h]
  rfl
theorem lastAt_succ (es : List En) (k : Nat) (h : k < es.length) : lastAt es (k + 1) = es[k].ck := by
  unfold lastAt
  rw [if_neg (by omega), Nat.add_sub_cancel, List.getD_eq_getElem?_getD, List.getElem?_eq_getElem h]
  rfl
theorem lastAt_lt (es : List En) (hw : ∀ e ∈ es, e.Wide) (k : Nat) : lastAt es k < 18446744073709551616 := by
  unfold lastAt
  split
  · decide
  · rw [List.getD_eq_getElem?_getD]
    rcases Nat.lt_or_ge (k - 1) es.length with h | h
    · rw [List.getElem?_eq_getElem h]
      exact (hw _ (List.getElem_mem h)).c
    · rw [List.getElem?_eq_none h]
      decide
theorem okB_no (es : List En) (k : Nat) (h : k < es.length) (hs : stepOk es k = false) : okB es = false := by
  unfold okB
  rw [Bool.and_eq_false_iff]
  left
  rw [List.all_eq_false]
  exact ⟨k, List.mem_range.2 h, by rw [hs]; simp⟩
theorem okB_all (es : List En) (h : ∀ j, j < es.length → stepOk es j = true) : okB es = decide ((es.map En.nm).Nodup) := by
  unfold okB
  have : (List.range es.length).all (stepOk es) = true := by
    rw [List.all_eq_true]
    exact fun j hj => h j (List.mem_range.1 hj)
  rw [this, Bool.true_and]

/-- An entry that a loop holds in a block of its own. -/
theorem box_E {w w1 w2 : World} {e : En} {t : TypeId} (hw1 : Below w.heap.size w w1) (hb2 : w2.heap[w.heap.size]? = some (.cells (ec e).toArray t (0, 0))) (hw2 : Keep (· ≠ w.heap.size) w1 w2) : EB w2 w.heap.size t e ∧ Below w.heap.size w w2 :=
  ⟨hb2, hw1.trans (Keep.below (hw2.mono fun k hk => by omega))⟩

end Go.Proofs.Ytjgmboleiaehaaa

namespace Go.Proofs.Ytjgmboleiaehaaa
open Go.RowKit Go.Shelf

theorem run_bytes_txt (w : World) (l : List UInt8) : ∃ c w', (convert 9 38 (.string (txt l))).run Try.prog w = .ok (.slice (some ⟨w.heap.size, 0, none⟩) l.length c) w' ∧ BS w' (some ⟨w.heap.size, 0, none⟩) l.length l ∧ Below w.heap.size w w' ∧ l.length ≤ c ∧ w.heap.size < w'.heap.size := by
  have hr := Lib.run_convert_string_bytes (P := Try.prog) w 9 38 5 (txt l) Try.underlying9 Try.underlying38 Try.underlying5
  rw [txt_size] at hr
  refine ⟨_, _, hr, ⟨rfl, fun _ => ⟨w.heap.size, 0, rfl, fun j hj => ?_⟩⟩, ⟨rfl, rfl, rfl, ?_, fun k hk => Lib.bytesWorld_at_old w _ _ k hk⟩, ?_, ?_⟩
  · rw [Nat.zero_add, Lib.bytesWorld_cell w _ _ j (by rw [txt_size]; exact hj)]
    simp [txt, hj]
  · rw [Lib.bytesWorld_size]
    omega
  · exact grownCap_ge _ _ _ _
  · rw [Lib.bytesWorld_size]
    omega
theorem Wr.less {K K' : Nat → Prop} {w : World} {p : Nat} {l : List UInt8} (h : Wr K w p l) (hk : ∀ k, K' k → K k) : Wr K' w p l := by
  obtain ⟨A, c, h1, h2, h3, h4, h5⟩ := h
  exact ⟨A, c, h1, h2, fun hp => h3 (hk _ hp), fun k hk1 hk2 => h4 k hk1 (hk _ hk2), fun k hk1 => h5 k (hk _ hk1)⟩
/-- A new block may be added to what is left alone, in any later world. -/
theorem Wr.grow {K : Nat → Prop} {w w' : World} {p : Nat} {l : List UInt8} (h : Wr K w p l) (hb : Below w.heap.size w w') (hlt : w.heap.size < w'.heap.size) : Wr (fun k => K k ∨ k = w.heap.size) w' p l := by
  obtain ⟨A, c, h⟩ := h
  refine ⟨A, c, (hb.block p h.lt).trans h.1, ?_, ?_, fun k hk => ?_, ?_⟩
  · exact h.2.1.kept (below_grown hb) (Classical.em _)
  · rintro (hk | hk)
    · exact h.2.2.1 hk
    · have := h.lt; omega
  · rintro (h1 | h1)
    · exact h.2.2.2.1 k hk h1
    · have := (h.2.1.lt k hk).2; omega
  · rintro k (hk | rfl)
    · exact Nat.lt_of_lt_of_le (h.2.2.2.2 k hk) hb.size
    · exact hlt
theorem Keep.below2 {K : Nat → Prop} {B : Nat} {w w' : World} (h : Keep K w w') (hK : ∀ k, k < B → K k) : Below B w w' := ⟨h.os, h.tape, h.output, h.size, fun k hk => h.block k (hK k hk)⟩

theorem encs_succ (es : List En) (k : Nat) (h : k < es.length) : encs (es.take (k + 1)) = encs (es.take k) ++ enc1 es[k] := by
  unfold encs
  rw [List.take_succ_eq_append_getElem h, List.flatMap_append, List.flatMap_singleton]
theorem encs_le (es : List En) (k : Nat) : (encs (es.take k)).length ≤ (encs es).length := by
  have : encs es = encs (es.take k) ++ encs (es.drop k) := by
    unfold encs
    rw [← List.flatMap_append, List.take_append_drop]
  rw [this, List.length_append]
  omega
/-- What Put hands back. -/
def PutP (es : List En) (w : World) (e : Ending) (w' : World) : Prop := ∃ A n cp, e = .returned (.tuple #[.slice A n cp, .int .i64 (chkE es)]) ∧ BS w' A n (putE es) ∧ Below w.heap.size w w'

end Go.Proofs.Ytjgmboleiaehaaa

namespace Go.Proofs.Ytjgmboleiaehaaa
theorem no_table : True := trivial
end Go.Proofs.Ytjgmboleiaehaaa

namespace Go.Proofs.Ytjgmboleiaehaaa
open Go.RowKit

/-- A block known whole. -/
def Bw (w : World) (g : Nat) (cs : List Value) (t : TypeId) : Prop := w.heap[g]? = some (.cells cs.toArray t (0, 0))
section
variable {w w' : World} {g : Nat} {cs : List Value} {t : TypeId}
theorem Bw.lt (h : Bw w g cs t) : g < w.heap.size := (Array.getElem?_eq_some_iff.1 h).1
theorem Bw.froz (h : Bw w g cs t) (o : Nat) : w.frozen? ⟨g, o, none⟩ = false := by unfold Bw at h; simp [World.frozen?, h]
theorem Bw.grown {row : Option Nat} (h : Bw w g cs t) (hg : w.grownBy w' row) (hr : row ≠ some g) : Bw w' g cs t := (hg.block g h.lt (fun e => hr e.symm)).trans h
theorem Bw.below (h : Bw w g cs t) (hb : Below w.heap.size w w') : Bw w' g cs t := (hb.block g h.lt).trans h
theorem Bw.keep {K : Nat → Prop} (h : Bw w g cs t) (hb : Keep K w w') (hk : K g) : Bw w' g cs t := (hb.block g hk).trans h
theorem Bw.cell (h : Bw w g cs t) (o : Nat) (v : Value) (hv : cs[o]? = some v) : w.cell? ⟨g, o, none⟩ = some v := by
  rw [cell_of_row w g o _ _ (0, 0) h]
  simpa using hv
/-- Some cells of it, as a load asks for them. -/
theorem Bw.part (h : Bw w g cs t) (k : Nat) (l : List Value) (hl : ∀ j u, l[j]? = some u → cs[k + j]? = some u) : ∀ j u, l[j]? = some u → w.cell? ((⟨g, k, none⟩ : Addr).add j) = some u := fun j u hu => by
  rw [add_plain]
  exact h.cell _ _ (hl j u hu)
end
section
variable {P : Program} {o : Oper} {a : Act} {w : World} {ops : Array Oper} {rest : List Oper} {Q : Exit → Act → World → Prop}
theorem wpList_store_part (hgd : o.guard = none) (ty : TypeId) (x y : Operand) (ho : o.op = .store ty x y) (g k : Nat) (vs : List Value) (hx : a.eval x = .pointer (some ⟨g, k, none⟩)) (hy : a.eval y = .agg vs.toArray)
    (t : TypeId) (cs : List Value) (hg : Bw w g cs t) (hi : (P.info? ty).map (·.size) = some vs.length) (hfit : k + vs.length ≤ cs.length) (h1 : ∀ v ∈ vs, v.oneCell' = true)
    (h : ∀ w', Bw w' g (cs.take k ++ vs ++ cs.drop (k + vs.length)) t → w'.heap.size = w.heap.size → Keep (· ≠ g) w w' → wpList P ops Q rest (a.put o.dst undef) w') : wpList P ops Q (o :: rest) a w := by
  have hr := run_storeCells_at P g k t vs 0 cs.toArray w hg (by simpa using hfit) h1
  simp only [Nat.add_zero] at hr
  refine Did.list hgd (v := undef) (w' := w.setRow g (cs.take k ++ vs ++ cs.drop (k + vs.length)).toArray) (.inr ⟨?_, rfl⟩) (h _ (setRow_heap w g _ _ t _ hg) (by simp) (setRow_keep g _))
  cases hq : P.info? ty with
  | none => simp [hq] at hi
  | some i =>
    have hs : vs.length = i.size := by simp [hq] at hi; omega
    have hsv : (storeVar ty ⟨g, k, none⟩ (.agg vs.toArray)).run P w = .ok () (w.setRow g (cs.take k ++ vs ++ cs.drop (k + vs.length)).toArray) := by
      simp [storeVar, sizeOf, typeInfo, hq, Value.cells, hs.symm, hr]
    unfold execOp
    simp only [ho, hx, hy, Instr.storeAt, Instr.sureAddr, Sem.run_bind, Sem.run_pure, Result.andThen_ok, hsv]
theorem wpList_store_cell (hgd : o.guard = none) (ty : TypeId) (x y : Operand) (ho : o.op = .store ty x y) (g k : Nat) (v : Value) (hx : a.eval x = .pointer (some ⟨g, k, none⟩)) (hy : a.eval y = v)
    (t : TypeId) (cs : List Value) (hg : Bw w g cs t) (hi : (P.info? ty).map (·.size) = some 1) (hv : v.cells = #[v]) (hfit : k < cs.length) (h1 : v.oneCell' = true)
    (h : ∀ w', Bw w' g (cs.take k ++ [v] ++ cs.drop (k + 1)) t → w'.heap.size = w.heap.size → Keep (· ≠ g) w w' → wpList P ops Q rest (a.put o.dst undef) w') : wpList P ops Q (o :: rest) a w := by
  have hr := run_storeCells_at P g k t [v] 0 cs.toArray w hg (by simp; omega) (by simpa using h1)
  simp only [Nat.add_zero, List.length_singleton] at hr
  refine Did.list hgd (v := undef) (w' := w.setRow g (cs.take k ++ [v] ++ cs.drop (k + 1)).toArray) (.inr ⟨?_, rfl⟩) (h _ (setRow_heap w g _ _ t _ hg) (by simp) (setRow_keep g _))
  cases hq : P.info? ty with
  | none => simp [hq] at hi
  | some i =>
    have hs : 1 = i.size := by simp [hq] at hi; omega
    have hsv : (storeVar ty ⟨g, k, none⟩ v).run P w = .ok () (w.setRow g (cs.take k ++ [v] ++ cs.drop (k + 1)).toArray) := by
      simpa [storeVar, sizeOf, typeInfo, hq, hv, hs.symm] using hr
    unfold execOp
    simp only [ho, hx, hy, Instr.storeAt, Instr.sureAddr, Sem.run_bind, Sem.run_pure, Result.andThen_ok, hsv]
/-- A struct or an array out of a part of a block. -/
theorem wpList_load_part (hgd : o.guard = none) (ty : TypeId) (x : Operand) (ho : o.op = .load ty x) (g k : Nat) (hx : a.eval x = .pointer (some ⟨g, k, none⟩)) (d : TypeDesc) (hu : P.underlying ty = some d)
    (hd : (match d with | .struct _ | .array _ _ => true | _ => false) = true) (l : List Value) (t : TypeId) (cs : List Value) (hg : Bw w g cs t) (hi : (P.info? ty).map (·.size) = some l.length) (hl : ∀ j u, l[j]? = some u → cs[k + j]? = some u)
    (h : wpList P ops Q rest (a.put o.dst (.agg l.toArray)) w) : wpList P ops Q (o :: rest) a w :=
  Did.list hgd (did_load ty x ho ⟨g, k, none⟩ hx d hu hd l hi (hg.part k l hl)) h
end
/-- A change of one block, known whole before. -/
theorem grown_keep {w w' : World} {g : Nat} (h : Keep (· ≠ g) w w') : w.grownBy w' (some g) := ⟨h.os, h.tape, h.output, h.size, fun k _ hk => h.block k (fun e => hk (by rw [e]))⟩

/-- The result that lies in a block of its own, and a number. -/
theorem results_cell {t : TypeId} {fs : Array Field} {cs : List Value} {fn : Func} {p q : Tmp} (h : fn.results = #[.cell p t, .tmp q]) (tmps : Array Value) (w : World) (g : Nat) (v : Value) (hg : Bw w g cs t) (hi : (Try.prog.info? t).map (·.size) = some cs.length)
    (hp : tmps.getD p undef = .pointer (some ⟨g, 0, none⟩)) (hq : tmps.getD q undef = v) (hu : Try.prog.underlying t = some (.struct fs)) : (results fn tmps).run Try.prog w = .ok (.tuple #[.agg cs.toArray, v]) w := by
  have hp' : tmps[p]?.getD undef = .pointer (some ⟨g, 0, none⟩) := by simpa using hp
  have hq' : tmps[q]?.getD undef = v := by simpa using hq
  have hl := run_loadVar_row (P := Try.prog) w g t t cs.toArray (0, 0) _ hg hu rfl (by simpa using hi)
  simp [results, h, hp', hq', asAddr, hl]
/-- The result that lies in a block of its own, alone. -/
theorem results_one {t : TypeId} {fs : Array Field} {cs : List Value} {fn : Func} {p : Tmp} (h : fn.results = #[.cell p t]) (tmps : Array Value) (w : World) (g : Nat) (hg : Bw w g cs t) (hi : (Try.prog.info? t).map (·.size) = some cs.length)
    (hp : tmps.getD p undef = .pointer (some ⟨g, 0, none⟩)) (hu : Try.prog.underlying t = some (.struct fs)) : (results fn tmps).run Try.prog w = .ok (.agg cs.toArray) w := by
  have hp' : tmps[p]?.getD undef = .pointer (some ⟨g, 0, none⟩) := by simpa using hp
  have hl := run_loadVar_row (P := Try.prog) w g t t cs.toArray (0, 0) _ hg hu rfl (by simpa using hi)
  simp [results, h, hp', asAddr, hl]

/-- The cells of a handle, of attributes. -/
def hc (a b : Nat) : List Value := [.int .u32 (a : Int), .int .u32 (b : Int)]
def ac (k m l s c : Nat) : List Value := [.int .u32 (k : Int), .int .u32 (m : Int), .int .u32 (l : Int), .int .u32 (s : Int), .int .u64 (c : Int)]
theorem size_H : (Try.prog.info? 34).map (·.size) = some 2 := by kernel_rfl
theorem size_At : (Try.prog.info? 37).map (·.size) = some 5 := by kernel_rfl
theorem zero_H : (Try.prog.info? 34).bind (·.zero) = some (.agg (hc 0 0).toArray) := by kernel_rfl
theorem zero_At : (Try.prog.info? 37).bind (·.zero) = some (.agg (ac 0 0 0 0 0).toArray) := by kernel_rfl
theorem hc_one (a b : Nat) : ∀ v ∈ hc a b, v.oneCell' = true := by
  intro v hv
  simp only [hc, List.mem_cons, List.not_mem_nil, or_false] at hv
  rcases hv with rfl | rfl <;> rfl
theorem ac_one (k m l s c : Nat) : ∀ v ∈ ac k m l s c, v.oneCell' = true := by
  intro v hv
  simp only [ac, List.mem_cons, List.not_mem_nil, or_false] at hv
  rcases hv with rfl | rfl | rfl | rfl | rfl <;> rfl

/-- While a handle or attributes are read: the result's block r, the variable's block g, the Reader. -/
structure GS (w : World) (q r g : Nat) (t : TypeId) (z cs : List Value) (s : St) (W : World) : Prop where
  rd : Rd W q s.1 s.2
  res : Bw W r z t
  var : Bw W g cs t
  but : w.grownBy W (some q)
  lr : w.heap.size ≤ r
  lg : w.heap.size ≤ g
  rg : r ≠ g
  qr : q ≠ r
  qg : q ≠ g
  nt : t ≠ 5
theorem Bw.ne_rd {w : World} {q g : Nat} {l : List UInt8} {e : Int} {cs : List Value} {t : TypeId} (h : Bw w g cs t) (hr : Rd w q l e) (ht : t ≠ 134) : q ≠ g := by
  rintro rfl
  obtain ⟨A, c, h1, _⟩ := hr
  unfold Bw at h
  rw [h] at h1
  injection h1 with h1
  injection h1 with _ h1 _
  exact ht h1
section
variable {w W W' : World} {q r g : Nat} {t : TypeId} {z cs cs' : List Value} {s s' : St}
theorem GS.read (h : GS w q r g t z cs s W) (hr : Rd W' q s'.1 s'.2) (hg : W.grownBy W' (some q)) : GS w q r g t z cs s' W' :=
  ⟨hr, h.res.grown hg (fun e => h.qr (by injection e)), h.var.grown hg (fun e => h.qg (by injection e)),
    ⟨hg.os.trans h.but.os, hg.tape.trans h.but.tape, hg.output.trans h.but.output, Nat.le_trans h.but.size hg.size, fun k hk hn => (hg.block k (Nat.lt_of_lt_of_le hk h.but.size) hn).trans (h.but.block k hk hn)⟩, h.lr, h.lg, h.rg, h.qr, h.qg, h.nt⟩
theorem GS.set (h : GS w q r g t z cs s W) (hb : Bw W' g cs' t) (hs : W'.heap.size = W.heap.size) (hk : Keep (· ≠ g) W W') : GS w q r g t z cs' s W' := by
  have lg := h.lg
  exact ⟨h.rd.off h.var h.nt h.qg (fun k _ hn => hk.block k hn), h.res.keep hk h.rg, hb,
    ⟨hk.os.trans h.but.os, hk.tape.trans h.but.tape, hk.output.trans h.but.output, by rw [hs]; exact h.but.size, fun k hk1 hn => (hk.block k (by omega)).trans (h.but.block k hk1 hn)⟩, h.lr, h.lg, h.rg, h.qr, h.qg, h.nt⟩
theorem GS.start (h : Rd w q s.1 s.2) (h1 : W.heap[w.heap.size]? = some (.cells z.toArray t (0, 0))) (s1 : W.heap.size = w.heap.size + 1) (b1 : Below w.heap.size w W)
    (h2 : W'.heap[W.heap.size]? = some (.cells z.toArray t (0, 0))) (b2 : Below W.heap.size W W') (hn : t ≠ 5) : GS w q w.heap.size W.heap.size t z z s W' := by
  have hq := h.lt
  have hb := b1.trans (b2.mono (by omega))
  exact ⟨h.kept hb, (b2.block _ (by omega)).trans h1, h2, ⟨hb.os, hb.tape, hb.output, hb.size, fun k hk _ => hb.block k hk⟩, Nat.le_refl _, by omega, by omega, by omega, by omega, hn⟩
end

end Go.Proofs.Ytjgmboleiaehaaa
