/-
  What calls do to things, plain: the document's words (layer 13). Nothing of the program is named here.
  Entries, plain, by what they are: one removed, one more (layer 13). Nothing of the program is named here.
  Things that are sound, plain: each entry's thing is there, each thing has as many links as entries but for so many that are missing (layer 13). Nothing of the program is named here.
  Sound things, plain: an entry goes, one more comes, a link goes, a new thing, a change (layer 13). Nothing of the program is named here.
  Sound things, plain: a link goes, one more, a new thing, a change (layer 13). Nothing of the program is named here.
  Calls leave sound things sound, plain (layer 13). Nothing of the program is named here.
  Renames leave sound things sound, and so does each call, plain (layer 13). Nothing of the program is named here.
  Calls one by one, as they can be reckoned (layer 13). Nothing of the program is named here.
  Renames as they can be reckoned (layer 13): which directories lie below one. Nothing of the program is named here.
-/
import Derived.Test.YtpbpdnjlomhkdaaGreatQ5
namespace Go.Proofs.YtpbpdnjlomhkdaaGreat
namespace Op

/-- All things: which they are, how often there were changes, how many blocks there are. -/
structure TT where
  s : Nat → Vl.Th
  ch : Nat
  rm : Int
abbrev Res := Except Int (TT × Rp)
section
variable (t : TT)
/-- May these be things? -/
structure May : Prop where
  ino : ∀ i, i < 24 → (t.s i).ino = i
  ok : ∀ i, i < 24 → Sl.okS (t.s i) = true
def ents (d : Nat) : List En := gotE (t.s d).dt
/-- The thing of a handle, a directory's, a file's: the error. -/
def thingE (i g : Nat) : Int := if i ≤ 23 ∧ (t.s i).kind ≠ 0 ∧ (t.s i).gen = g then 0 else 69
def folderE (i g : Nat) : Int := if thingE t i g ≠ 0 then 69 else if (t.s i).kind ≠ 2 then 62 else 0
def fileE (i g : Nat) : Int := if thingE t i g ≠ 0 then 69 else if (t.s i).kind = 2 then 63 else if (t.s i).kind ≠ 1 then 64 else 0
/-- A name's entry. -/
def look (d : Nat) (nm : List UInt8) : Option En := (ents t d).find? fun e => e.nm == nm
def set (k : Nat) (s : Vl.Th) : TT := ⟨Vl.upd t.s k s, t.ch, t.rm⟩
def told (r : Rp) (k : Nat) : Rp := { r with ati := (t.s k).ino, atg := (t.s k).gen, kd := (t.s k).kind, md := (t.s k).mode, ln := (t.s k).links, sz := (t.s k).dt.length % 4294967296, ch := (t.s k).change }
def bump : Nat := (t.ch + 1) % 18446744073709551616
def stamp (ch : Nat) (S : Nat → Vl.Th) (k : Nat) : Nat → Vl.Th := Vl.upd S k { S k with change := ch }
/-- A change that touches things. -/
def touch (l : List Nat) : TT := ⟨l.foldl (stamp (bump t)) t.s, bump t, t.rm⟩
/-- .. and what is told of it: k. -/
def fin (r : Rp) (l : List Nat) (k : Nat) : Res := if t.rm < (Vl.tot (touch t l).s : Int) then .error 66 else .ok (touch t l, told (touch t l) r k)
/-- One more entry. -/
def newE (d : Nat) (nm : List UInt8) (i g : Nat) : En := ⟨(t.s d).cookie + 1, i, g, nm⟩
def enter (d : Nat) (nm : List UInt8) (i g : Nat) : Except Int TT :=
  if ((t.s d).cookie + 1) % 18446744073709551616 = 0 then .error 70
  else if addE (ents t d) (newE t d nm i g) ≠ 0 then .error (addE (ents t d) (newE t d nm i g))
  else if 768 < (putE (ents t d ++ [newE t d nm i g])).length then .error 66
  else .ok (set t d { t.s d with cookie := (t.s d).cookie + 1, dt := putE (ents t d ++ [newE t d nm i g]) })
def leave (d : Nat) (nm : List UInt8) : TT := set t d { t.s d with dt := putE (remL (ents t d) nm) }
def less (n : Nat) : Nat := (n + 4294967295) % 4294967296
def unlink (k : Nat) : TT := set t k (if less (t.s k).links = 0 then ⟨(t.s k).ino, 0, (t.s k).gen, 0, 0, (t.s k).change, 0, 0, []⟩ else { t.s k with links := less (t.s k).links })
/-- k, and the directories below it. -/
inductive Und (k : Nat) : Nat → Prop
  | self : Und k k
  | step {i : Nat} {e : En} (h : Und k i) (hi : i < 24) (he : e ∈ ents t i) (hf : folderE t e.ino e.gen = 0) : Und k e.ino
/-- The lowest number that is free. -/
def lowest : Option Nat := (List.range 24).find? fun k => (t.s k).kind == 0
/-- Bytes as so many, noughts behind. -/
def sized (l : List UInt8) (n : Nat) : List UInt8 := l.take n ++ List.replicate (n - l.length) 0
end
/-- A reply that tells nothing yet. -/
def rep0 (c : Cl) : Rp := { Rp.zero with cli := c.cli, xid := c.xid }
section
variable (t : TT) (c : Cl)
def lookup : Res :=
  if folderE t c.ati c.atg ≠ 0 then .error (folderE t c.ati c.atg)
  else if nameOk c.nm = false then .error 67
  else match look t c.ati c.nm with
    | none => .error 60
    | some e => if thingE t e.ino e.gen ≠ 0 then .error 69 else .ok (t, told t (rep0 c) e.ino)
def getattr : Res := if thingE t c.ati c.atg ≠ 0 then .error 69 else .ok (t, told t (rep0 c) c.ati)
def setattr : Res :=
  if thingE t c.ati c.atg ≠ 0 then .error 69
  else if c.off = 1 ∧ fileE t c.ati c.atg ≠ 0 then .error (fileE t c.ati c.atg)
  else if c.off = 1 ∧ 768 < c.cnt then .error 65
  else if 1 < c.off then .error 64
  else fin (set t c.ati { t.s c.ati with mode := c.md % 512, dt := if c.off = 1 then sized (t.s c.ati).dt c.cnt else (t.s c.ati).dt }) (rep0 c) [c.ati] c.ati
def read : Res :=
  if fileE t c.ati c.atg ≠ 0 then .error (fileE t c.ati c.atg)
  else .ok (t, told t { rep0 c with dt := ((t.s c.ati).dt.drop c.off).take c.cnt, eof := decide ((t.s c.ati).dt.length ≤ c.off + c.cnt) } c.ati)
def write : Res :=
  if fileE t c.ati c.atg ≠ 0 then .error (fileE t c.ati c.atg)
  else if 768 < c.off ∨ 768 < c.off + c.dt.length then .error 65
  else if c.dt = [] then .ok (t, told t (rep0 c) c.ati)
  else fin (set t c.ati { t.s c.ati with dt := sized (t.s c.ati).dt c.off ++ c.dt ++ (t.s c.ati).dt.drop (c.off + c.dt.length) }) (rep0 c) [c.ati] c.ati
def readlink : Res :=
  if thingE t c.ati c.atg ≠ 0 then .error 69
  else if (t.s c.ati).kind ≠ 3 then .error 64
  else .ok (t, told t { rep0 c with dt := (t.s c.ati).dt } c.ati)
def most (n : Nat) : Int := if n < 24 then (n : Int) else 24
def readdir : Res :=
  if folderE t c.ati c.atg ≠ 0 then .error (folderE t c.ati c.atg)
  else if c.cnt = 0 then .error 64
  else if c.off ≠ 0 ∧ c.vf ≠ (t.s c.ati).gen then .error 70
  else .ok (t, told t { rep0 c with es := aftL (ents t c.ati) c.off (most c.cnt), eof := aftB (ents t c.ati) c.off (most c.cnt), vf := (t.s c.ati).gen } c.ati)
def fsstat : Res :=
  if thingE t c.ati c.atg ≠ 0 then .error 69
  else .ok (t, told t { rep0 c with fr := ((t.rm - (Vl.tot t.s : Int)).toNat) % 4294967296 } c.ati)
def commit : Res := if thingE t c.ati c.atg ≠ 0 then .error 69 else .ok (t, told t { rep0 c with vf := 1 } c.ati)
/-- A new thing in the directory of At: its kind, its number, its bytes. -/
def fresh (kind vf : Nat) (dt : List UInt8) : Res :=
  match lowest t with
  | none => .error 66
  | some k =>
    match enter (set t k ⟨k, kind, ((t.s k).gen + 1) % 4294967296, 1, c.md % 512, 0, 0, vf, dt⟩) c.ati c.nm k (((t.s k).gen + 1) % 4294967296) with
    | .error e => .error e
    | .ok u => fin u (rep0 c) [k, c.ati] k
def create : Res :=
  if folderE t c.ati c.atg ≠ 0 then .error (folderE t c.ati c.atg)
  else if nameOk c.nm = false then .error 67
  else if 2 < c.cnt then .error 64
  else match look t c.ati c.nm with
    | some e =>
      if thingE t e.ino e.gen ≠ 0 then .error 69
      else if (t.s e.ino).kind = 1 ∧ (c.cnt = 0 ∨ c.cnt = 1 ∧ c.vf ≠ 0 ∧ c.vf = (t.s e.ino).verf) then .ok (t, told t (rep0 c) e.ino)
      else .error 61
    | none => fresh t c 1 (if c.cnt = 1 then c.vf else 0) []
def mkdir : Res :=
  if folderE t c.ati c.atg ≠ 0 then .error (folderE t c.ati c.atg)
  else if nameOk c.nm = false then .error 67
  else match look t c.ati c.nm with
    | some _ => .error 61
    | none => fresh t c 2 0 []
def symlink : Res :=
  if folderE t c.ati c.atg ≠ 0 then .error (folderE t c.ati c.atg)
  else if nameOk c.nm = false then .error 67
  else match look t c.ati c.nm with
    | some _ => .error 61
    | none => if c.dt = [] ∨ 768 < c.dt.length then .error 64 else fresh t c 3 0 c.dt
/-- Remove, Rmdir. -/
def out (isDir : Bool) : Res :=
  if folderE t c.ati c.atg ≠ 0 then .error (folderE t c.ati c.atg)
  else if nameOk c.nm = false then .error 67
  else match look t c.ati c.nm with
    | none => .error 60
    | some e =>
      if thingE t e.ino e.gen ≠ 0 then .error 69
      else if isDir = false ∧ (t.s e.ino).kind = 2 then .error 63
      else if isDir = true ∧ (t.s e.ino).kind ≠ 2 then .error 62
      else if isDir = true ∧ ents t e.ino ≠ [] then .error 68
      else fin (unlink (leave t c.ati c.nm) e.ino) (rep0 c) [c.ati, e.ino] c.ati
def link : Res :=
  if thingE t c.ati c.atg ≠ 0 then .error 69
  else if (t.s c.ati).kind = 2 then .error 63
  else if folderE t c.toi c.tog ≠ 0 then .error (folderE t c.toi c.tog)
  else if nameOk c.tn = false then .error 67
  else match look t c.toi c.tn with
    | some _ => .error 61
    | none =>
      match enter t c.toi c.tn (t.s c.ati).ino (t.s c.ati).gen with
      | .error e => .error e
      | .ok u => fin (set u c.ati { u.s c.ati with links := ((u.s c.ati).links + 1) % 4294967296 }) (rep0 c) [c.ati, c.toi] c.ati
/-- What a rename does, behind all questions: k's entry goes; old: the thing that goes. -/
def moved (k : Nat) (old : Option Nat) : Res :=
  match enter (leave (match old with | some o => unlink (leave t c.toi c.tn) o | none => t) c.ati c.nm) c.toi c.tn (t.s k).ino (t.s k).gen with
  | .error e => .error e
  | .ok u => fin u (rep0 c) (match old with | some o => [c.ati, c.toi, k, o] | none => [c.ati, c.toi, k]) k
/-- f: does the directory of To lie in this one? -/
def renameBy (f : Nat → Bool) : Res :=
  if folderE t c.ati c.atg ≠ 0 then .error (folderE t c.ati c.atg)
  else if folderE t c.toi c.tog ≠ 0 then .error (folderE t c.toi c.tog)
  else if nameOk c.nm = false then .error 67
  else if nameOk c.tn = false then .error 67
  else match look t c.ati c.nm with
    | none => .error 60
    | some e =>
      if thingE t e.ino e.gen ≠ 0 then .error 69
      else match look t c.toi c.tn with
        | none => if (t.s e.ino).kind = 2 ∧ f e.ino = true then .error 64 else moved t c e.ino none
        | some o =>
          if thingE t o.ino o.gen ≠ 0 then .error 69
          else if o.ino = e.ino then .ok (t, told t (rep0 c) e.ino)
          else if (t.s e.ino).kind = 2 ∧ (t.s o.ino).kind ≠ 2 then .error 62
          else if (t.s e.ino).kind = 2 ∧ ents t o.ino ≠ [] then .error 68
          else if (t.s e.ino).kind ≠ 2 ∧ (t.s o.ino).kind = 2 then .error 63
          else if (t.s e.ino).kind = 2 ∧ f e.ino = true then .error 64
          else moved t c e.ino (some o.ino)
open Classical in
noncomputable def inside (d k : Nat) : Bool := decide (Und t k d)
noncomputable def rename : Res := renameBy t c (inside t c.toi)
/-- A call that may be asked, of things that may be. -/
noncomputable def run : Res :=
  if c.op = 1 then lookup t c else if c.op = 2 then getattr t c else if c.op = 3 then setattr t c else if c.op = 4 then read t c
  else if c.op = 5 then write t c else if c.op = 6 then create t c else if c.op = 7 then mkdir t c else if c.op = 8 then symlink t c
  else if c.op = 9 then readlink t c else if c.op = 10 then out t c false else if c.op = 11 then out t c true else if c.op = 12 then rename t c
  else if c.op = 13 then link t c else if c.op = 14 then readdir t c else if c.op = 15 then fsstat t c else commit t c
open Classical in
noncomputable def err : Int := if May t ∧ 1 ≤ c.op ∧ c.op ≤ 16 then (match run t c with | .error e => e | .ok _ => 0) else 64
open Classical in
noncomputable def doT : TT := if May t ∧ 1 ≤ c.op ∧ c.op ≤ 16 then (match run t c with | .error _ => t | .ok x => x.1) else t
open Classical in
noncomputable def doR : Rp := if May t ∧ 1 ≤ c.op ∧ c.op ≤ 16 then (match run t c with | .error e => { rep0 c with st := e } | .ok x => x.2) else { rep0 c with st := 64 }
end
def formatS : Nat → Vl.Th := fun i => if i = 0 then ⟨0, 2, 1, 1, 493, 1, 0, 0, []⟩ else ⟨i, 0, 0, 0, 0, 0, 0, 0, []⟩
def format (room : Int) : TT := ⟨formatS, 1, room⟩
end Op
end Go.Proofs.YtpbpdnjlomhkdaaGreat

namespace Go.Proofs.YtpbpdnjlomhkdaaGreat
/-- Entries that may be, one by one. -/
theorem okB_char (es : List En) : okB es = true ↔ (∀ e ∈ es, nameOk e.nm = true ∧ 0 < e.ck) ∧ es.Pairwise (fun a b => a.ck < b.ck) ∧ (es.map En.nm).Nodup := by
  constructor
  · intro h
    refine ⟨fun e he => ?_, ?_, ?_⟩
    · obtain ⟨k, hk, rfl⟩ := List.getElem_of_mem he
      have := okB_at es h k hk
      exact ⟨this.1, by omega⟩
    · rw [List.pairwise_iff_getElem]
      intro i j hi hj hij
      have h1 := Sl.all_last es h j (by omega) i hij
      have h2 := (okB_at es h j hj).2
      rw [List.getD_eq_getElem?_getD, List.getElem?_eq_getElem hi, Option.getD_some] at h1
      omega
    · unfold okB at h
      rw [Bool.and_eq_true, decide_eq_true_eq] at h
      exact h.2
  · rintro ⟨h1, h2, h3⟩
    unfold okB
    rw [Bool.and_eq_true, decide_eq_true_eq, List.all_eq_true]
    refine ⟨fun k hk => ?_, h3⟩
    have hk : k < es.length := List.mem_range.1 hk
    have hm := h1 _ (List.getElem_mem hk)
    have e1 : es.getD k default = es[k] := by rw [List.getD_eq_getElem?_getD, List.getElem?_eq_getElem hk, Option.getD_some]
    unfold stepOk
    rw [e1, hm.1, Bool.true_and, decide_eq_true_eq]
    unfold lastAt
    by_cases h0 : k = 0
    · rw [if_pos h0]; exact hm.2
    · rw [if_neg h0]
      have hk1 : k - 1 < es.length := by omega
      have e2 : es.getD (k - 1) default = es[k - 1] := by rw [List.getD_eq_getElem?_getD, List.getElem?_eq_getElem hk1, Option.getD_some]
      rw [e2]
      exact (List.pairwise_iff_getElem.1 h2) (k - 1) k hk1 hk (by omega)
theorem okB_sub {es l : List En} (h : okB es = true) (hs : l.Sublist es) : okB l = true := by
  obtain ⟨h1, h2, h3⟩ := (okB_char es).1 h
  exact (okB_char l).2 ⟨fun e he => h1 e (hs.subset he), h2.sublist hs, h3.sublist (hs.map _)⟩
theorem okB_push {es : List En} {e : En} (h : okB es = true) (h1 : nameOk e.nm = true) (h2 : ∀ x ∈ es, x.nm ≠ e.nm) (h3 : ∀ x ∈ es, x.ck < e.ck) (h0 : 0 < e.ck) : okB (es ++ [e]) = true := by
  obtain ⟨a1, a2, a3⟩ := (okB_char es).1 h
  refine (okB_char _).2 ⟨fun x hx => ?_, ?_, ?_⟩
  · rcases List.mem_append.1 hx with hx | hx
    · exact a1 x hx
    · obtain rfl := List.mem_singleton.1 hx
      exact ⟨h1, h0⟩
  · rw [List.pairwise_append]
    exact ⟨a2, List.pairwise_singleton _ _, fun x hx y hy => by obtain rfl := List.mem_singleton.1 hy; exact h3 x hx⟩
  · rw [List.map_append, List.nodup_append]
    refine ⟨a3, by simp, fun x hx y hy => ?_⟩
    obtain ⟨z, hz, rfl⟩ := List.mem_map.1 hx
    simp only [List.map_cons, List.map_nil, List.mem_singleton] at hy
    subst hy
    exact h2 z hz
/-- A name that is there: what stands ahead of it, and behind. -/
theorem find_some {es : List En} {nm : List UInt8} {e : En} (h : es.find? (fun x => x.nm == nm) = some e) : e.nm = nm ∧ ∃ a b, es = a ++ e :: b ∧ remL es nm = a ++ b ∧ 0 ≤ fnd es nm ∧ ∀ x ∈ a, x.nm ≠ nm := by
  obtain ⟨h1, a, b, h2, h3⟩ := List.find?_eq_some_iff_append.1 h
  have hn : e.nm = nm := by simpa using h1
  have ha : ∀ x ∈ a, x.nm ≠ nm := fun x hx => by simpa using h3 x hx
  have hi : es.findIdx (fun x => x.nm == nm) = a.length := by
    rw [h2, List.findIdx_append]
    have : a.findIdx (fun x => x.nm == nm) = a.length := List.findIdx_eq_length.2 fun x hx => by simpa using ha x hx
    rw [this, if_neg (by omega), List.findIdx_cons]
    simp [hn]
  have hf : fnd es nm = (a.length : Int) := by
    unfold fnd
    rw [hi, if_pos (by rw [h2]; simp)]
  refine ⟨hn, a, b, h2, ?_, by rw [hf]; omega, ha⟩
  unfold remL
  rw [hf, if_neg (by omega), Int.toNat_natCast, h2, List.take_left' rfl]
  congr 1
  rw [show a ++ e :: b = (a ++ [e]) ++ b by simp, List.drop_left' (by simp)]
theorem find_none {es : List En} {nm : List UInt8} (h : es.find? (fun x => x.nm == nm) = none) : (∀ x ∈ es, x.nm ≠ nm) ∧ fnd es nm < 0 := by
  have h1 : ∀ x ∈ es, x.nm ≠ nm := fun x hx => by simpa using (List.find?_eq_none.1 h) x hx
  refine ⟨h1, ?_⟩
  have : es.findIdx (fun x => x.nm == nm) = es.length := List.findIdx_eq_length.2 fun x hx => by simpa using h1 x hx
  unfold fnd
  rw [this, if_neg (by omega)]
  decide
theorem fnd_look (es : List En) (nm : List UInt8) : fnd es nm < 0 ↔ es.find? (fun x => x.nm == nm) = none := by
  constructor
  · intro h
    cases hf : es.find? (fun x => x.nm == nm) with
    | none => rfl
    | some e =>
      obtain ⟨_, _, _, _, _, h1, _⟩ := find_some hf
      omega
  · intro h
    exact (find_none h).2
theorem lastCk_lt {es : List En} (h : okB es = true) {n : Nat} : lastCk es < n ↔ (∀ e ∈ es, e.ck < n) ∧ 0 < n := by
  constructor
  · intro hl
    refine ⟨fun e he => ?_, by omega⟩
    have := (Sl.all_iff_last es h (lastCk es)).2 (Nat.le_refl _) e he
    omega
  · rintro ⟨h1, h0⟩
    have := (Sl.all_iff_last es h (n - 1)).1 fun e he => by have := h1 e he; omega
    omega
/-- What stops one more entry. -/
theorem addE_zero {es : List En} (h : okB es = true) (e : En) : addE es e = 0 ↔ nameOk e.nm = true ∧ (∀ x ∈ es, x.nm ≠ e.nm) ∧ (∀ x ∈ es, x.ck < e.ck) ∧ 0 < e.ck := by
  have hl := lastCk_lt h (n := e.ck)
  unfold addE
  cases hn : nameOk e.nm with
  | false => simp
  | true =>
    rw [if_neg (by decide)]
    by_cases hf : 0 ≤ fnd es e.nm
    · rw [if_pos hf]
      refine ⟨fun h => absurd h (by decide), fun h => ?_⟩
      have : es.find? (fun x => x.nm == e.nm) = none := List.find?_eq_none.2 fun x hx => by simpa using h.2.1 x hx
      have := (fnd_look es e.nm).2 this
      omega
    · rw [if_neg hf]
      have hx := (find_none ((fnd_look es e.nm).1 (by omega))).1
      by_cases hc : e.ck ≤ lastCk es
      · rw [if_pos hc]
        refine ⟨fun h => absurd h (by decide), fun h => ?_⟩
        have := hl.2 ⟨h.2.2.1, h.2.2.2⟩
        omega
      · rw [if_neg hc]
        refine ⟨fun _ => ?_, fun _ => rfl⟩
        have := hl.1 (by omega)
        exact ⟨rfl, hx, this.1, this.2⟩
end Go.Proofs.YtpbpdnjlomhkdaaGreat

namespace Go.Proofs.YtpbpdnjlomhkdaaGreat
namespace Op
section
variable {t u : TT} {x : Nat → Nat} {d j : Nat}
theorem ents_nil : gotE [] = [] := rfl
theorem ents_wide (t : TT) (d : Nat) : ∀ e ∈ ents t d, e.Wide := gotE_wide _
theorem ents_ok (h : Sl.okS (t.s d) = true) (hk : (t.s d).kind = 2) : okB (ents t d) = true ∧ putE (ents t d) = (t.s d).dt ∧ ∀ e ∈ ents t d, e.ck ≤ (t.s d).cookie := by
  obtain ⟨_, h1, h2, h3⟩ := Sl.dir_of (t.s d) h hk
  exact ⟨h2, h3, h1⟩
theorem encs_ge : ∀ es : List En, 20 * es.length ≤ (encs es).length
  | [] => Nat.zero_le _
  | e :: r => by
    rw [encs_cons, List.length_append, enc1_length, List.length_cons]
    have := encs_ge r
    omega
theorem ents_few (h : Sl.okS (t.s d) = true) (hk : (t.s d).kind = 2) : (ents t d).length ≤ 38 := by
  obtain ⟨h1, h2, _⟩ := ents_ok h hk
  have h3 := (Vl.okB_facts h).2.2
  have h4 := encs_ge (ents t d)
  unfold putE at h2
  rw [if_pos h1] at h2
  rw [← h2] at h3
  omega
theorem used_mk {s : Vl.Th} (hk : s.kind ≠ 0) (h2 : s.kind ≠ 2) (h : s.ino ≤ 23 ∧ s.kind ≤ 3 ∧ s.dt.length ≤ 768 ∧ 1 ≤ s.links) : Sl.okS s = true := (Sl.used_iff s hk h2).2 h
theorem dir_mk {s : Vl.Th} (hk : s.kind = 2) (h : s.ino ≤ 23 ∧ s.dt.length ≤ 768 ∧ 1 ≤ s.links ∧ Sl.dirB s.dt s.cookie = true) : Sl.okS s = true := (Sl.dir_iff s hk).2 h
theorem free_mk {s : Vl.Th} (hk : s.kind = 0) (h : s.ino ≤ 23 ∧ s.links = 0 ∧ s.mode = 0 ∧ s.cookie = 0 ∧ s.verf = 0 ∧ s.dt = []) : Sl.okS s = true := (Sl.free_iff s hk).2 h
/-- How often a thing is named. -/
def own (t : TT) (j d : Nat) : Nat := if (t.s d).kind = 2 then (ents t d).countP (fun e => e.ino == j) else 0
def refs (t : TT) (j : Nat) : Nat := (if j = 0 then 1 else 0) + Vl.sum24 (own t j)
/-- x: how many links are missing an entry. -/
structure Inv (t : TT) (x : Nat → Nat) : Prop where
  may : May t
  wide : ∀ i, i < 24 → (t.s i).Wide
  live : ∀ d, d < 24 → (t.s d).kind = 2 → ∀ e ∈ ents t d, e.ino < 24 ∧ (t.s e.ino).kind ≠ 0 ∧ (t.s e.ino).gen = e.gen
  bal : ∀ j, j < 24 → (t.s j).kind ≠ 0 → refs t j + x j = (t.s j).links
  free : ∀ j, j < 24 → (t.s j).kind = 0 → refs t j = 0 ∧ x j = 0
  one : ∀ j, j < 24 → (t.s j).kind = 2 → (t.s j).links = 1
theorem refs_same (h : ∀ d, d < 24 → own u j d = own t j d) : refs u j = refs t j := by
  unfold refs
  rw [Vl.sum24_congr h]
theorem refs_one (hd : d < 24) (h : ∀ i, i < 24 → i ≠ d → own u j i = own t j i) : refs u j + own t j d = refs t j + own u j d := by
  have h1 := Vl.sum24_upd (own t j) (own u j d) hd
  have h2 : Vl.sum24 (own u j) = Vl.sum24 (Vl.upd (own t j) d (own u j d)) := Vl.sum24_congr fun i hi => by
    unfold Vl.upd
    split
    · rename_i e; rw [e]
    · exact h i hi (by assumption)
  unfold refs
  rw [h2]
  omega
theorem own_le (hd : d < 24) : own t j d ≤ refs t j := by
  have h := Vl.sum24_upd (own t j) 0 hd
  unfold refs
  omega
theorem refs_le (h : May t) : refs t j ≤ 913 := by
  have h1 : Vl.sum24 (own t j) ≤ Vl.sum24 (fun _ => 38) := by
    unfold Vl.sum24
    have : ∀ l : List Nat, (∀ i ∈ l, i < 24) → (l.map (own t j)).sum ≤ (l.map fun _ => 38).sum := by
      intro l
      induction l with
      | nil => intro _; exact Nat.le_refl _
      | cons a r ih =>
        intro hl
        rw [List.map_cons, List.map_cons, List.sum_cons, List.sum_cons]
        have h2 := ih fun i hi => hl i (List.mem_cons_of_mem _ hi)
        have h3 : own t j a ≤ 38 := by
          unfold own
          split
          · rename_i hk
            exact Nat.le_trans List.countP_le_length (ents_few (h.ok a (hl a List.mem_cons_self)) hk)
          · omega
        omega
    exact this _ fun i hi => List.mem_range.1 hi
  have h2 : Vl.sum24 (fun _ => 38) = 912 := by decide
  unfold refs
  split <;> omega
/-- No entry names what has no references. -/
theorem none_named (h : refs t j = 0) (d : Nat) (hd : d < 24) (hk : (t.s d).kind = 2) : ∀ e ∈ ents t d, e.ino ≠ j := by
  intro e he hj
  have h1 := own_le (t := t) (j := j) hd
  unfold own at h1
  rw [if_pos hk] at h1
  have h2 : 0 < (ents t d).countP (fun e => e.ino == j) := List.countP_pos_iff.2 ⟨e, he, by simpa using hj⟩
  omega
theorem set_same (t : TT) (k : Nat) (s : Vl.Th) : (set t k s).s k = s := Vl.upd_same _ _ _
theorem set_other (t : TT) (s : Vl.Th) {k i : Nat} (h : i ≠ k) : (set t k s).s i = t.s i := Vl.upd_other _ _ h
theorem ents_other (t : TT) (s : Vl.Th) {k i : Nat} (h : i ≠ k) : ents (set t k s) i = ents t i := by
  unfold ents
  rw [set_other t s h]
theorem ents_same (t : TT) (k : Nat) (s : Vl.Th) : ents (set t k s) k = gotE s.dt := by
  unfold ents
  rw [set_same]
theorem own_other (t : TT) (s : Vl.Th) {k i : Nat} (h : i ≠ k) : own (set t k s) j i = own t j i := by
  unfold own
  rw [set_other t s h, ents_other t s h]
theorem May.set (h : May t) {k : Nat} {s : Vl.Th} (h1 : s.ino = k) (h2 : Sl.okS s = true) : May (set t k s) := by
  refine ⟨fun i hi => ?_, fun i hi => ?_⟩
  · by_cases e : i = k
    · rw [e, set_same]; exact h1
    · rw [set_other t s e]; exact h.ino i hi
  · by_cases e : i = k
    · rw [e, set_same]; exact h2
    · rw [set_other t s e]; exact h.ok i hi
/-- A thing is set, of which the same is to be said. -/
theorem Inv.same (h : Inv t x) {k : Nat} (hk : k < 24) {s : Vl.Th} (hn : (t.s k).kind ≠ 0) (h1 : s.ino = k) (h2 : Sl.okS s = true) (h3 : s.Wide) (h4 : s.kind = (t.s k).kind) (h5 : s.gen = (t.s k).gen) (h6 : s.links = (t.s k).links) (h7 : s.kind = 2 → s.dt = (t.s k).dt) : Inv (Op.set t k s) x := by
  have hown : ∀ j d, own (Op.set t k s) j d = own t j d := fun j d => by
    by_cases e : d = k
    · subst e
      unfold own
      rw [set_same, h4]
      by_cases hk2 : (t.s d).kind = 2
      · rw [if_pos hk2, if_pos hk2, ents_same, h7 (by rw [h4]; exact hk2)]
        rfl
      · rw [if_neg hk2, if_neg hk2]
    · exact own_other t s e
  have hr : ∀ j, refs (Op.set t k s) j = refs t j := fun j => refs_same fun d _ => hown j d
  have hkind : ∀ j, ((Op.set t k s).s j).kind = (t.s j).kind ∧ ((Op.set t k s).s j).gen = (t.s j).gen ∧ ((Op.set t k s).s j).links = (t.s j).links := fun j => by
    by_cases e : j = k
    · rw [e, set_same]; exact ⟨h4, h5, h6⟩
    · rw [set_other t s e]; exact ⟨rfl, rfl, rfl⟩
  have hents : ∀ d, (t.s d).kind = 2 → ents (Op.set t k s) d = ents t d := fun d hd => by
    by_cases e : d = k
    · subst e
      rw [ents_same, h7 (by rw [h4]; exact hd)]
      rfl
    · exact ents_other t s e
  refine ⟨h.may.set h1 h2, fun i hi => ?_, fun d hd hk2 e he => ?_, fun j hj hk2 => ?_, fun j hj hk2 => ?_, fun j hj hk2 => ?_⟩
  · by_cases e : i = k
    · rw [e, set_same]; exact h3
    · rw [set_other t s e]; exact h.wide i hi
  · rw [(hkind d).1] at hk2
    rw [hents d hk2] at he
    rw [(hkind e.ino).1, (hkind e.ino).2.1]
    exact h.live d hd hk2 e he
  · rw [hr, (hkind j).2.2]
    exact h.bal j hj (by rw [← (hkind j).1]; exact hk2)
  · rw [hr]
    exact h.free j hj (by rw [← (hkind j).1]; exact hk2)
  · rw [(hkind j).2.2]
    exact h.one j hj (by rw [← (hkind j).1]; exact hk2)
end
end Op
end Go.Proofs.YtpbpdnjlomhkdaaGreat

namespace Go.Proofs.YtpbpdnjlomhkdaaGreat
namespace Op
section
variable {t u : TT} {x : Nat → Nat}
theorem count_none {l : List En} {j : Nat} (h : ∀ e ∈ l, e.ino ≠ j) : l.countP (fun e => e.ino == j) = 0 := by
  rw [List.countP_eq_zero]
  intro e he
  simpa using h e he
/-- A directory's entries are others. -/
theorem Inv.dir (h : Inv t x) {d : Nat} (hd : d < 24) (hk : (t.s d).kind = 2) {l : List En} {ck : Nat} (h1 : okB l = true) (h2 : ∀ e ∈ l, e.Wide) (h3 : (putE l).length ≤ 768) (h4 : ∀ e ∈ l, e.ck ≤ ck) (h5 : ck < 18446744073709551616)
    (h6 : ∀ e ∈ l, e.ino < 24 ∧ (t.s e.ino).kind ≠ 0 ∧ (t.s e.ino).gen = e.gen) {x' : Nat → Nat} (hx : ∀ j, j < 24 → (t.s j).kind ≠ 0 → l.countP (fun e => e.ino == j) + x' j = (ents t d).countP (fun e => e.ino == j) + x j) (hx0 : ∀ j, j < 24 → (t.s j).kind = 0 → x' j = 0) :
    Inv (set t d { t.s d with cookie := ck, dt := putE l }) x' ∧ ents (set t d { t.s d with cookie := ck, dt := putE l }) d = l := by
  have hg : gotE (putE l) = l := (got_put l h2 h1).2
  have hen : ents (set t d { t.s d with cookie := ck, dt := putE l }) d = l := by rw [ents_same]; exact hg
  have hf := (Sl.dir_iff (t.s d) hk).1 (h.may.ok d hd)
  have hok : Sl.okS { t.s d with cookie := ck, dt := putE l } = true := by
    refine dir_mk hk ⟨hf.1, h3, hf.2.2.1, ?_⟩
    show Sl.dirB (putE l) ck = true
    rw [Sl.dir_put l h2 h1, List.all_eq_true]
    intro e he
    simpa using h4 e he
  have hkd : ∀ j, ((set t d { t.s d with cookie := ck, dt := putE l }).s j).kind = (t.s j).kind ∧ ((set t d { t.s d with cookie := ck, dt := putE l }).s j).gen = (t.s j).gen ∧ ((set t d { t.s d with cookie := ck, dt := putE l }).s j).links = (t.s j).links := fun j => by
    by_cases e : j = d
    · rw [e, set_same]; exact ⟨rfl, rfl, rfl⟩
    · rw [set_other t _ e]; exact ⟨rfl, rfl, rfl⟩
  have hr : ∀ j, refs (set t d { t.s d with cookie := ck, dt := putE l }) j + (ents t d).countP (fun e => e.ino == j) = refs t j + l.countP (fun e => e.ino == j) := fun j => by
    have := refs_one (t := t) (u := set t d { t.s d with cookie := ck, dt := putE l }) (j := j) hd fun i _ hi => own_other t _ hi
    have e1 : own t j d = (ents t d).countP (fun e => e.ino == j) := if_pos hk
    have e2 : own (set t d { t.s d with cookie := ck, dt := putE l }) j d = l.countP (fun e => e.ino == j) := by
      unfold own
      rw [(hkd d).1, if_pos hk, hen]
    rw [e1, e2] at this
    exact this
  refine ⟨⟨h.may.set (h.may.ino d hd) hok, fun i hi => ?_, fun i hi hk2 e he => ?_, fun j hj hk2 => ?_, fun j hj hk2 => ?_, fun j hj hk2 => ?_⟩, hen⟩
  · by_cases e : i = d
    · have hw := h.wide d hd
      rw [e, set_same]; exact ⟨hw.gen, hw.links, hw.mode, hw.change, h5, hw.verf⟩
    · rw [set_other t _ e]; exact h.wide i hi
  · rw [(hkd e.ino).1, (hkd e.ino).2.1]
    by_cases ei : i = d
    · rw [ei, hen] at he
      exact h6 e he
    · rw [ents_other t _ ei] at he
      rw [(hkd i).1] at hk2
      exact h.live i hi hk2 e he
  · rw [(hkd j).1] at hk2
    rw [(hkd j).2.2]
    have a := hr j
    have b := hx j hj hk2
    have c := h.bal j hj hk2
    omega
  · rw [(hkd j).1] at hk2
    have a := hr j
    have c := h.free j hj hk2
    have e0 : l.countP (fun e => e.ino == j) = 0 := count_none fun e he hj2 => (h6 e he).2.1 (by rw [hj2]; exact hk2)
    exact ⟨by omega, hx0 j hj hk2⟩
  · rw [(hkd j).1] at hk2
    rw [(hkd j).2.2]
    exact h.one j hj hk2
theorem encs_app (a b : List En) : encs (a ++ b) = encs a ++ encs b := by unfold encs; rw [List.flatMap_append]
theorem putE_len {es : List En} (h : okB es = true) : putE es = encs es := if_pos h
/-- An entry goes. -/
theorem Inv.leave (h : Inv t x) {d : Nat} (hd : d < 24) (hk : (t.s d).kind = 2) {nm : List UInt8} {e : En} (hl : look t d nm = some e) :
    Inv (leave t d nm) (Vl.upd x e.ino (x e.ino + 1)) ∧ ents (leave t d nm) d = remL (ents t d) nm := by
  obtain ⟨ho, hp, hck⟩ := ents_ok (h.may.ok d hd) hk
  obtain ⟨hn, a, b, h1, h2, _, _⟩ := find_some hl
  have hsub : (remL (ents t d) nm).Sublist (ents t d) := by
    rw [h2, h1]
    exact List.Sublist.append_left (List.sublist_cons_self _ _) _
  have hoks := okB_sub ho hsub
  have he : e ∈ ents t d := by rw [h1]; simp
  have hle := h.live d hd hk e he
  have hcnt : ∀ j, (ents t d).countP (fun e => e.ino == j) = (remL (ents t d) nm).countP (fun e => e.ino == j) + (if e.ino = j then 1 else 0) := fun j => by
    rw [h2, h1, List.countP_append, List.countP_append, List.countP_cons]
    simp only [beq_iff_eq]
    omega
  have hlen : (putE (remL (ents t d) nm)).length ≤ 768 := by
    have h768 := (Vl.okB_facts (h.may.ok d hd)).2.2
    rw [← hp, putE_len ho, h1, encs_app, encs_cons] at h768
    rw [putE_len hoks, h2, encs_app]
    simp only [List.length_append] at *
    omega
  have := h.dir hd hk (l := remL (ents t d) nm) (ck := (t.s d).cookie) hoks (fun y hy => ents_wide t d y (hsub.subset hy)) hlen (fun y hy => hck y (hsub.subset hy)) (h.wide d hd).cookie (fun y hy => h.live d hd hk y (hsub.subset hy))
    (x' := Vl.upd x e.ino (x e.ino + 1)) (fun j hj hkj => by
      have := hcnt j
      unfold Vl.upd
      by_cases ej : j = e.ino
      · subst ej
        rw [if_pos rfl] at *
        omega
      · rw [if_neg ej]
        rw [if_neg (fun h => ej h.symm)] at this
        omega)
    (fun j hj hkj => by
      unfold Vl.upd
      rw [if_neg]
      · exact (h.free j hj hkj).2
      · rintro rfl
        exact hle.2.1 hkj)
  exact this
/-- One more entry comes. -/
theorem Inv.enter (h : Inv t x) {d : Nat} (hd : d < 24) (hk : (t.s d).kind = 2) {nm : List UInt8} {i g : Nat} (hi : i < 24) (hki : (t.s i).kind ≠ 0) (hg : (t.s i).gen = g) (hx : 1 ≤ x i) (he : enter t d nm i g = .ok u) :
    Inv u (Vl.upd x i (x i - 1)) ∧ ents u d = ents t d ++ [newE t d nm i g] ∧ u = set t d { t.s d with cookie := (t.s d).cookie + 1, dt := putE (ents t d ++ [newE t d nm i g]) } := by
  obtain ⟨ho, hp, hck⟩ := ents_ok (h.may.ok d hd) hk
  unfold Op.enter at he
  by_cases c1 : ((t.s d).cookie + 1) % 18446744073709551616 = 0
  · rw [if_pos c1] at he; cases he
  rw [if_neg c1] at he
  by_cases c2 : addE (ents t d) (newE t d nm i g) ≠ 0
  · rw [if_pos c2] at he; cases he
  rw [if_neg c2] at he
  by_cases c3 : 768 < (putE (ents t d ++ [newE t d nm i g])).length
  · rw [if_pos c3] at he; cases he
  rw [if_neg c3] at he
  have he := Except.ok.inj he
  subst he
  have hw := h.wide d hd
  have hwc := hw.cookie
  have hza := (addE_zero ho (newE t d nm i g)).1 (by simpa using c2)
  have hoks : okB (ents t d ++ [newE t d nm i g]) = true := okB_push ho hza.1 hza.2.1 hza.2.2.1 hza.2.2.2
  have := h.dir hd hk (l := ents t d ++ [newE t d nm i g]) (ck := (t.s d).cookie + 1) hoks
    (fun y hy => by
      rcases List.mem_append.1 hy with hy | hy
      · exact ents_wide t d y hy
      · obtain rfl := List.mem_singleton.1 hy
        exact ⟨by show (t.s d).cookie + 1 < _; omega, by show i < _; omega, by show g < _; rw [← hg]; exact (h.wide i hi).gen⟩)
    (by omega)
    (fun y hy => by
      rcases List.mem_append.1 hy with hy | hy
      · have := hck y hy; omega
      · obtain rfl := List.mem_singleton.1 hy
        exact Nat.le_refl _)
    (by omega)
    (fun y hy => by
      rcases List.mem_append.1 hy with hy | hy
      · exact h.live d hd hk y hy
      · obtain rfl := List.mem_singleton.1 hy
        exact ⟨hi, hki, hg⟩)
    (x' := Vl.upd x i (x i - 1)) (fun j hj hkj => by
      rw [List.countP_append, List.countP_singleton]
      unfold Vl.upd
      by_cases ej : j = i
      · subst ej
        simp [newE]
        omega
      · have ej' : ¬ i = j := fun h => ej h.symm
        simp [newE, ej, ej'])
    (fun j hj hkj => by
      unfold Vl.upd
      rw [if_neg]
      · exact (h.free j hj hkj).2
      · rintro rfl
        exact hki hkj)
  exact ⟨this.1, this.2, rfl⟩
end
end Op
end Go.Proofs.YtpbpdnjlomhkdaaGreat

namespace Go.Proofs.YtpbpdnjlomhkdaaGreat
namespace Op
section
variable {t u : TT} {x : Nat → Nat}
theorem less_eq {n : Nat} (h : 1 ≤ n) (h2 : n < 4294967296) : less n = n - 1 := by unfold less; omega
theorem inv_pos (h : Inv t x) {k : Nat} (hk : k < 24) (hn : (t.s k).kind ≠ 0) : 1 ≤ (t.s k).links ∧ (t.s k).links < 4294967296 := by
  refine ⟨?_, (h.wide k hk).links⟩
  have hok := h.may.ok k hk
  by_cases h2 : (t.s k).kind = 2
  · exact ((Sl.dir_iff _ h2).1 hok).2.2.1
  · exact ((Sl.used_iff _ hn h2).1 hok).2.2.2
/-- A thing that isn't a directory, or is one without entries, has other links, or is gone. -/
theorem Inv.turn (h : Inv t x) {k : Nat} (hk : k < 24) (hn : (t.s k).kind ≠ 0) {s : Vl.Th} (h1 : s.ino = k) (h2 : Sl.okS s = true) (h3 : s.Wide) (h4 : s.kind = (t.s k).kind ∨ s.kind = 0) (h5 : s.gen = (t.s k).gen) (hd : (t.s k).kind = 2 → ents t k = []) (hs : s.kind = 2 → ents t k = gotE s.dt)
    {x' : Nat → Nat} (hx : ∀ j, j ≠ k → x' j = x j) (hk0 : s.kind = 0 → refs t k = 0 ∧ x' k = 0) (hk1 : s.kind ≠ 0 → refs t k + x' k = s.links) (ho : s.kind = 2 → s.links = 1) : Inv (set t k s) x' := by
  have hown : ∀ j d, own (set t k s) j d = own t j d := fun j d => by
    by_cases e : d = k
    · subst e
      unfold own
      rw [set_same]
      rcases h4 with h4 | h4
      · rw [h4]
        by_cases hk2 : (t.s d).kind = 2
        · rw [if_pos hk2, if_pos hk2, ents_same, hs (by rw [h4]; exact hk2)]
        · rw [if_neg hk2, if_neg hk2]
      · rw [h4, if_neg (by decide)]
        by_cases hk2 : (t.s d).kind = 2
        · rw [if_pos hk2, hd hk2]; rfl
        · rw [if_neg hk2]
    · exact own_other t s e
  have hr : ∀ j, refs (set t k s) j = refs t j := fun j => refs_same fun d _ => hown j d
  refine ⟨h.may.set h1 h2, fun i hi => ?_, fun d hd2 hk2 e he => ?_, fun j hj hk2 => ?_, fun j hj hk2 => ?_, fun j hj hk2 => ?_⟩
  · by_cases e : i = k
    · rw [e, set_same]; exact h3
    · rw [set_other t s e]; exact h.wide i hi
  · have hek : e ∈ ents t d ∧ (t.s d).kind = 2 := by
      by_cases ed : d = k
      · subst ed
        rw [set_same] at hk2
        rw [ents_same] at he
        rcases h4 with h4 | h4
        · rw [hs hk2]
          exact ⟨he, by rw [← h4]; exact hk2⟩
        · rw [h4] at hk2; cases hk2
      · rw [set_other t s ed] at hk2
        rw [ents_other t s ed] at he
        exact ⟨he, hk2⟩
    have hl := h.live d hd2 hek.2 e hek.1
    by_cases ek : e.ino = k
    · rw [ek, set_same]
      rw [ek] at hl
      refine ⟨hl.1, fun h0 => ?_, by rw [h5]; exact hl.2.2⟩
      exact none_named (hk0 h0).1 d hd2 hek.2 e hek.1 ek
    · rw [set_other t s ek]
      exact hl
  · rw [hr]
    by_cases e : j = k
    · subst e
      rw [set_same] at hk2 ⊢
      exact hk1 hk2
    · rw [set_other t s e] at hk2 ⊢
      rw [hx j e]
      exact h.bal j hj hk2
  · rw [hr]
    by_cases e : j = k
    · subst e
      rw [set_same] at hk2
      exact hk0 hk2
    · rw [set_other t s e] at hk2
      rw [hx j e]
      exact h.free j hj hk2
  · by_cases e : j = k
    · subst e
      rw [set_same] at hk2 ⊢
      exact ho hk2
    · rw [set_other t s e] at hk2 ⊢
      exact h.one j hj hk2
/-- A link goes. -/
theorem Inv.unlink (h : Inv t x) {k : Nat} (hk : k < 24) (hn : (t.s k).kind ≠ 0) (hx : 1 ≤ x k) (hd : (t.s k).kind = 2 → ents t k = []) : Inv (unlink t k) (Vl.upd x k (x k - 1)) := by
  obtain ⟨hp, hq⟩ := inv_pos h hk hn
  have hb := h.bal k hk hn
  have hle := less_eq hp hq
  have hino := h.may.ino k hk
  have hok := h.may.ok k hk
  have hw := h.wide k hk
  have hf := Vl.okB_facts hok
  unfold Op.unlink
  rw [hle]
  by_cases h0 : (t.s k).links - 1 = 0
  · rw [if_pos h0]
    refine h.turn (s := ⟨(t.s k).ino, 0, (t.s k).gen, 0, 0, (t.s k).change, 0, 0, []⟩) hk hn hino ?_ ⟨hw.gen, by show (0 : Nat) < _; omega, by show (0 : Nat) < _; omega, hw.change, by show (0 : Nat) < _; omega, by show (0 : Nat) < _; omega⟩ (.inr rfl) rfl hd (fun h2 => by cases h2) (fun j hj => Vl.upd_other _ _ hj) (fun _ => ⟨by omega, by rw [Vl.upd_same]; omega⟩) (fun h2 => absurd rfl h2) (fun h2 => by cases h2)
    exact free_mk rfl ⟨hf.1, rfl, rfl, rfl, rfl, rfl⟩
  · rw [if_neg h0]
    have hk2 : (t.s k).kind ≠ 2 := fun h2 => by have := h.one k hk h2; omega
    refine h.turn (s := { t.s k with links := (t.s k).links - 1 }) hk hn hino ?_ ⟨hw.gen, by show (t.s k).links - 1 < _; omega, hw.mode, hw.change, hw.cookie, hw.verf⟩ (.inl rfl) rfl hd (fun h2 => absurd h2 hk2) (fun j hj => Vl.upd_other _ _ hj) (fun h2 => absurd h2 hn) (fun _ => by rw [Vl.upd_same]; show _ = (t.s k).links - 1; omega) (fun h2 => absurd h2 hk2)
    have hu := (Sl.used_iff _ hn hk2).1 hok
    exact used_mk hn hk2 ⟨hu.1, hu.2.1, hu.2.2.1, by show 1 ≤ (t.s k).links - 1; omega⟩
/-- One more link. -/
theorem Inv.more (h : Inv t x) {k : Nat} (hk : k < 24) (hn : (t.s k).kind ≠ 0) (hk2 : (t.s k).kind ≠ 2) (hx : x k ≤ 1) : Inv (set t k { t.s k with links := ((t.s k).links + 1) % 4294967296 }) (Vl.upd x k (x k + 1)) := by
  obtain ⟨hp, hq⟩ := inv_pos h hk hn
  have hb := h.bal k hk hn
  have hr := refs_le (j := k) h.may
  have hw := h.wide k hk
  have hm : ((t.s k).links + 1) % 4294967296 = (t.s k).links + 1 := by omega
  rw [hm]
  refine h.turn (s := { t.s k with links := (t.s k).links + 1 }) hk hn (h.may.ino k hk) ?_ ⟨hw.gen, by show (t.s k).links + 1 < _; omega, hw.mode, hw.change, hw.cookie, hw.verf⟩ (.inl rfl) rfl (fun h2 => absurd h2 hk2) (fun h2 => absurd h2 hk2) (fun j hj => Vl.upd_other _ _ hj) (fun h2 => absurd h2 hn) (fun _ => by rw [Vl.upd_same]; show _ = (t.s k).links + 1; omega) (fun h2 => absurd h2 hk2)
  have hu := (Sl.used_iff _ hn hk2).1 (h.may.ok k hk)
  exact used_mk hn hk2 ⟨hu.1, hu.2.1, hu.2.2.1, by show 1 ≤ (t.s k).links + 1; omega⟩
/-- A new thing, its link without an entry. -/
theorem Inv.new (h : Inv t x) {k : Nat} (hk : k < 24) (h0 : (t.s k).kind = 0) {s : Vl.Th} (h1 : s.ino = k) (h2 : Sl.okS s = true) (h3 : s.Wide) (hn : s.kind ≠ 0) (h4 : s.links = 1) (h5 : s.kind = 2 → s.dt = []) : Inv (set t k s) (Vl.upd x k 1) := by
  obtain ⟨hr0, hx0⟩ := h.free k hk h0
  have hown : ∀ j d, own (set t k s) j d = own t j d := fun j d => by
    by_cases e : d = k
    · subst e
      unfold own
      rw [set_same, if_neg (c := (t.s d).kind = 2) (by rw [h0]; decide)]
      by_cases hk2 : s.kind = 2
      · rw [if_pos hk2, ents_same, h5 hk2]; rfl
      · rw [if_neg hk2]
    · exact own_other t s e
  have hr : ∀ j, refs (set t k s) j = refs t j := fun j => refs_same fun d _ => hown j d
  refine ⟨h.may.set h1 h2, fun i hi => ?_, fun d hd2 hk2 e he => ?_, fun j hj hk2 => ?_, fun j hj hk2 => ?_, fun j hj hk2 => ?_⟩
  · by_cases e : i = k
    · rw [e, set_same]; exact h3
    · rw [set_other t s e]; exact h.wide i hi
  · by_cases ed : d = k
    · subst ed
      rw [set_same] at hk2
      rw [ents_same, h5 hk2] at he
      cases he
    · rw [set_other t s ed] at hk2
      rw [ents_other t s ed] at he
      have hl := h.live d hd2 hk2 e he
      have ek : e.ino ≠ k := fun ek => hl.2.1 (by rw [ek]; exact h0)
      rw [set_other t s ek]
      exact hl
  · rw [hr]
    by_cases e : j = k
    · subst e
      rw [set_same, Vl.upd_same]
      omega
    · rw [set_other t s e] at hk2 ⊢
      rw [Vl.upd_other _ _ e]
      exact h.bal j hj hk2
  · rw [hr]
    by_cases e : j = k
    · subst e
      rw [set_same] at hk2
      exact absurd hk2 hn
    · rw [set_other t s e] at hk2
      rw [Vl.upd_other _ _ e]
      exact h.free j hj hk2
  · by_cases e : j = k
    · subst e
      rw [set_same]
      exact h4
    · rw [set_other t s e] at hk2 ⊢
      exact h.one j hj hk2
/-- What a change leaves. -/
theorem touch_at (t : TT) (l : List Nat) (j : Nat) : (touch t l).s j = { t.s j with change := if j ∈ l then bump t else (t.s j).change } := by
  have : ∀ (l : List Nat) (S : Nat → Vl.Th), (l.foldl (stamp (bump t)) S) j = { S j with change := if j ∈ l then bump t else (S j).change } := by
    intro l
    induction l with
    | nil => intro S; simp
    | cons a r ih =>
      intro S
      rw [List.foldl_cons, ih]
      unfold stamp Vl.upd
      by_cases e : j = a
      · subst e
        simp
      · simp [e]
  exact this l t.s
theorem touch_ents (t : TT) (l : List Nat) (d : Nat) : ents (touch t l) d = ents t d := by
  unfold ents
  rw [touch_at]
theorem okS_change (s : Vl.Th) (c : Nat) : Sl.okS { s with change := c } = Sl.okS s := rfl
theorem touch_tot (t : TT) (l : List Nat) : Vl.tot (touch t l).s = Vl.tot t.s := Vl.sum24_congr fun i _ => by rw [touch_at]
theorem Inv.touch (h : Inv t x) (l : List Nat) : Inv (touch t l) x := by
  have hr : ∀ j, refs (Op.touch t l) j = refs t j := fun j => refs_same fun d _ => by
    unfold own
    rw [touch_at, touch_ents]
  refine ⟨⟨fun i hi => ?_, fun i hi => ?_⟩, fun i hi => ?_, fun d hd hk e he => ?_, fun j hj hk => ?_, fun j hj hk => ?_, fun j hj hk => ?_⟩
  · rw [touch_at]; exact h.may.ino i hi
  · rw [touch_at, okS_change]; exact h.may.ok i hi
  · have hw := h.wide i hi
    rw [touch_at]
    refine ⟨hw.gen, hw.links, hw.mode, ?_, hw.cookie, hw.verf⟩
    show (if i ∈ l then bump t else (t.s i).change) < _
    split
    · unfold bump; omega
    · exact hw.change
  · rw [touch_ents] at he
    rw [touch_at] at hk
    rw [touch_at]
    exact h.live d hd hk e he
  · rw [touch_at] at hk
    rw [hr, touch_at]
    exact h.bal j hj hk
  · rw [touch_at] at hk
    rw [hr]
    exact h.free j hj hk
  · rw [touch_at] at hk
    rw [touch_at]
    exact h.one j hj hk
theorem fin_ok {r : Rp} {l : List Nat} {k : Nat} {y : TT × Rp} (h : fin t r l k = .ok y) : y = (touch t l, told (touch t l) r k) ∧ (Vl.tot t.s : Int) ≤ t.rm := by
  unfold fin at h
  by_cases c : t.rm < (Vl.tot (touch t l).s : Int)
  · rw [if_pos c] at h; cases h
  · rw [if_neg c] at h
    rw [touch_tot] at c
    exact ⟨(Except.ok.inj h).symm, by omega⟩
end
end Op
end Go.Proofs.YtpbpdnjlomhkdaaGreat

namespace Go.Proofs.YtpbpdnjlomhkdaaGreat
namespace Op
section
variable {t u v : TT} {x : Nat → Nat} {c : Cl} {y : TT × Rp}
structure Sound (t : TT) : Prop where
  inv : Inv t (fun _ => 0)
  room : (Vl.tot t.s : Int) ≤ t.rm
theorem Inv.congr (h : Inv t x) {x' : Nat → Nat} (e : ∀ j, x j = x' j) : Inv t x' := by
  have : x = x' := funext e
  rw [← this]
  exact h
theorem thing_ok {i g : Nat} (h : thingE t i g = 0) : i < 24 ∧ (t.s i).kind ≠ 0 ∧ (t.s i).gen = g := by
  unfold thingE at h
  by_cases c : i ≤ 23 ∧ (t.s i).kind ≠ 0 ∧ (t.s i).gen = g
  · exact ⟨by omega, c.2⟩
  · rw [if_neg c] at h; cases h
theorem folder_ok {i g : Nat} (h : folderE t i g = 0) : i < 24 ∧ (t.s i).kind = 2 ∧ (t.s i).gen = g := by
  unfold folderE at h
  by_cases c : thingE t i g ≠ 0
  · rw [if_pos c] at h; cases h
  · rw [if_neg c] at h
    have h1 := thing_ok (t := t) (i := i) (g := g) (by simpa using c)
    by_cases c2 : (t.s i).kind ≠ 2
    · rw [if_pos c2] at h; cases h
    · exact ⟨h1.1, by simpa using c2, h1.2.2⟩
theorem file_ok {i g : Nat} (h : fileE t i g = 0) : i < 24 ∧ (t.s i).kind = 1 ∧ (t.s i).gen = g := by
  unfold fileE at h
  by_cases c : thingE t i g ≠ 0
  · rw [if_pos c] at h; cases h
  · rw [if_neg c] at h
    have h1 := thing_ok (t := t) (i := i) (g := g) (by simpa using c)
    by_cases c2 : (t.s i).kind = 2
    · rw [if_pos c2] at h; cases h
    · rw [if_neg c2] at h
      by_cases c3 : (t.s i).kind ≠ 1
      · rw [if_pos c3] at h; cases h
      · exact ⟨h1.1, by simpa using c3, h1.2.2⟩
theorem touch_rm (t : TT) (l : List Nat) : (touch t l).rm = t.rm := rfl
theorem Inv.fin (h : Inv t (fun _ => 0)) {r : Rp} {l : List Nat} {k : Nat} (hf : fin t r l k = .ok y) : Sound y.1 := by
  obtain ⟨rfl, h2⟩ := fin_ok hf
  exact ⟨h.touch l, by show (Vl.tot (Op.touch t l).s : Int) ≤ t.rm; rw [touch_tot]; exact h2⟩
theorem sized_len (l : List UInt8) (n : Nat) : (sized l n).length = n := by
  unfold sized
  rw [List.length_append, List.length_take, List.length_replicate]
  omega
theorem Sound.setattr (h : Sound t) (hr : setattr t c = .ok y) : Sound y.1 := by
  unfold Op.setattr at hr
  by_cases c1 : thingE t c.ati c.atg ≠ 0
  · rw [if_pos c1] at hr; cases hr
  rw [if_neg c1] at hr
  by_cases c2 : c.off = 1 ∧ fileE t c.ati c.atg ≠ 0
  · rw [if_pos c2] at hr; cases hr
  rw [if_neg c2] at hr
  by_cases c3 : c.off = 1 ∧ 768 < c.cnt
  · rw [if_pos c3] at hr; cases hr
  rw [if_neg c3] at hr
  by_cases c4 : 1 < c.off
  · rw [if_pos c4] at hr; cases hr
  rw [if_neg c4] at hr
  obtain ⟨hk, hn, _⟩ := thing_ok (t := t) (i := c.ati) (g := c.atg) (by simpa using c1)
  have hw := h.inv.wide c.ati hk
  have hok := h.inv.may.ok c.ati hk
  refine Inv.fin (h.inv.same (s := { t.s c.ati with mode := c.md % 512, dt := if c.off = 1 then sized (t.s c.ati).dt c.cnt else (t.s c.ati).dt }) hk hn (h.inv.may.ino _ hk) ?_ ⟨hw.gen, hw.links, by show c.md % 512 < _; omega, hw.change, hw.cookie, hw.verf⟩ rfl rfl rfl ?_) hr
  · by_cases h1 : c.off = 1
    · rw [if_pos h1]
      have hf := file_ok (t := t) (i := c.ati) (g := c.atg) (by by_cases e : fileE t c.ati c.atg = 0; exact e; exact absurd ⟨h1, e⟩ c2)
      have hu := (Sl.used_iff _ hn (by rw [hf.2.1]; decide)).1 hok
      exact used_mk hn (by show (t.s c.ati).kind ≠ 2; rw [hf.2.1]; decide) ⟨hu.1, hu.2.1, by show (sized _ _).length ≤ _; rw [sized_len]; omega, hu.2.2.2⟩
    · rw [if_neg h1]
      by_cases h2 : (t.s c.ati).kind = 2
      · have hu := (Sl.dir_iff _ h2).1 hok
        exact dir_mk h2 hu
      · have hu := (Sl.used_iff _ hn h2).1 hok
        exact used_mk hn h2 hu
  · intro h2
    show (if c.off = 1 then _ else _) = _
    by_cases h1 : c.off = 1
    · have hf := file_ok (t := t) (i := c.ati) (g := c.atg) (by by_cases e : fileE t c.ati c.atg = 0; exact e; exact absurd ⟨h1, e⟩ c2)
      have h2' : (t.s c.ati).kind = 2 := h2
      rw [hf.2.1] at h2'
      cases h2'
    · rw [if_neg h1]
theorem Sound.write (h : Sound t) (hr : write t c = .ok y) : Sound y.1 := by
  unfold Op.write at hr
  by_cases c1 : fileE t c.ati c.atg ≠ 0
  · rw [if_pos c1] at hr; cases hr
  rw [if_neg c1] at hr
  by_cases c2 : 768 < c.off ∨ 768 < c.off + c.dt.length
  · rw [if_pos c2] at hr; cases hr
  rw [if_neg c2] at hr
  by_cases c3 : c.dt = []
  · rw [if_pos c3] at hr
    have := Except.ok.inj hr
    subst this
    exact h
  rw [if_neg c3] at hr
  obtain ⟨hk, h1, _⟩ := file_ok (t := t) (i := c.ati) (g := c.atg) (by simpa using c1)
  have hn : (t.s c.ati).kind ≠ 0 := by rw [h1]; decide
  have h2 : (t.s c.ati).kind ≠ 2 := by rw [h1]; decide
  have hw := h.inv.wide c.ati hk
  have hu := (Sl.used_iff _ hn h2).1 (h.inv.may.ok c.ati hk)
  refine Inv.fin (h.inv.same (s := { t.s c.ati with dt := sized (t.s c.ati).dt c.off ++ c.dt ++ (t.s c.ati).dt.drop (c.off + c.dt.length) }) hk hn (h.inv.may.ino _ hk) ?_ ⟨hw.gen, hw.links, hw.mode, hw.change, hw.cookie, hw.verf⟩ rfl rfl rfl (fun h3 => absurd h3 h2)) hr
  refine used_mk hn h2 ⟨hu.1, hu.2.1, ?_, hu.2.2.2⟩
  show (sized _ _ ++ c.dt ++ _).length ≤ _
  rw [List.length_append, List.length_append, sized_len, List.length_drop]
  omega
theorem lowest_some {k : Nat} (h : lowest t = some k) : k < 24 ∧ (t.s k).kind = 0 ∧ ∀ i, i < k → (t.s i).kind ≠ 0 := by
  obtain ⟨h1, a, b, h2, h3⟩ := List.find?_eq_some_iff_append.1 h
  have hk : k ∈ List.range 24 := by rw [h2]; simp
  have hk := List.mem_range.1 hk
  refine ⟨hk, by simpa using h1, fun i hi => ?_⟩
  have ha : a = List.range a.length := by
    have := congrArg (List.take a.length) h2
    rw [List.take_left' rfl, List.take_range] at this
    have hl : a.length ≤ 24 := by have := congrArg List.length h2; simp at this; omega
    rw [show min a.length 24 = a.length by omega] at this
    exact this.symm
  have hka : k = a.length := by
    have h4 : (List.range 24)[a.length]? = some k := by rw [h2]; simp
    have h5 := List.getElem?_eq_some_iff.1 h4
    obtain ⟨_, h6⟩ := h5
    simpa using h6.symm
  have : i ∈ a := by rw [ha]; exact List.mem_range.2 (by omega)
  simpa using h3 i this
theorem Sound.fresh (h : Sound t) {kind vf : Nat} {dt : List UInt8} (hd : c.ati < 24) (hk2 : (t.s c.ati).kind = 2) (hk : kind = 1 ∨ kind = 2 ∨ kind = 3) (hv : vf < 18446744073709551616) (hdt : dt.length ≤ 768) (h20 : kind = 2 → dt = []) (hr : fresh t c kind vf dt = .ok y) : Sound y.1 := by
  unfold Op.fresh at hr
  cases hl : lowest t with
  | none => rw [hl] at hr; cases hr
  | some k =>
    rw [hl] at hr
    obtain ⟨hk24, hk0, _⟩ := lowest_some hl
    have hne : c.ati ≠ k := fun e => by rw [e, hk0] at hk2; cases hk2
    have hi := h.inv.new hk24 hk0 (s := ⟨k, kind, ((t.s k).gen + 1) % 4294967296, 1, c.md % 512, 0, 0, vf, dt⟩) rfl
      (by
        by_cases e2 : kind = 2
        · subst e2
          rw [h20 rfl]
          exact dir_mk rfl ⟨by show k ≤ 23; omega, by show (0 : Nat) ≤ 768; omega, Nat.le_refl _, rfl⟩
        · exact used_mk (by show kind ≠ 0; omega) e2 ⟨by show k ≤ 23; omega, by show kind ≤ 3; omega, hdt, Nat.le_refl _⟩)
      ⟨by show ((t.s k).gen + 1) % 4294967296 < _; omega, by show (1 : Nat) < _; omega, by show c.md % 512 < _; omega, by show (0 : Nat) < _; omega, by show (0 : Nat) < _; omega, hv⟩ (by show kind ≠ 0; omega) rfl h20
    simp only at hr
    cases he : enter (set t k ⟨k, kind, ((t.s k).gen + 1) % 4294967296, 1, c.md % 512, 0, 0, vf, dt⟩) c.ati c.nm k (((t.s k).gen + 1) % 4294967296) with
    | error e => rw [he] at hr; cases hr
    | ok u =>
      rw [he] at hr
      have hj := (hi.enter hd (by rw [set_other t _ hne]; exact hk2) hk24 (by rw [set_same]; show kind ≠ 0; omega) (by rw [set_same]) (by rw [Vl.upd_same]; exact Nat.le_refl _) he).1
      exact Inv.fin (hj.congr fun j => by
        unfold Vl.upd
        split <;> simp_all) hr
theorem Sound.out (h : Sound t) {b : Bool} (hr : out t c b = .ok y) : Sound y.1 := by
  unfold Op.out at hr
  by_cases c1 : folderE t c.ati c.atg ≠ 0
  · rw [if_pos c1] at hr; cases hr
  rw [if_neg c1] at hr
  by_cases c2 : nameOk c.nm = false
  · rw [if_pos c2] at hr; cases hr
  rw [if_neg c2] at hr
  obtain ⟨hd, hk2, _⟩ := folder_ok (t := t) (i := c.ati) (g := c.atg) (by simpa using c1)
  cases hl : look t c.ati c.nm with
  | none => rw [hl] at hr; cases hr
  | some e =>
    rw [hl] at hr
    simp only at hr
    by_cases c3 : thingE t e.ino e.gen ≠ 0
    · rw [if_pos c3] at hr; cases hr
    rw [if_neg c3] at hr
    by_cases c4 : b = false ∧ (t.s e.ino).kind = 2
    · rw [if_pos c4] at hr; cases hr
    rw [if_neg c4] at hr
    by_cases c5 : b = true ∧ (t.s e.ino).kind ≠ 2
    · rw [if_pos c5] at hr; cases hr
    rw [if_neg c5] at hr
    by_cases c6 : b = true ∧ ents t e.ino ≠ []
    · rw [if_pos c6] at hr; cases hr
    rw [if_neg c6] at hr
    obtain ⟨hi, hn, _⟩ := thing_ok (t := t) (i := e.ino) (g := e.gen) (by simpa using c3)
    have hmem : e ∈ ents t c.ati := List.mem_of_find?_eq_some hl
    have hemp : (t.s e.ino).kind = 2 → ents t e.ino = [] := fun h2 => by
      cases b with
      | false => exact absurd ⟨rfl, h2⟩ c4
      | true =>
        by_cases e6 : ents t e.ino = []
        · exact e6
        · exact absurd ⟨rfl, e6⟩ c6
    have hne : e.ino ≠ c.ati := fun e1 => by
      have := hemp (by rw [e1]; exact hk2)
      rw [e1] at this
      rw [this] at hmem
      cases hmem
    have hi1 := (h.inv.leave hd hk2 hl).1
    have hs : (leave t c.ati c.nm).s e.ino = t.s e.ino := set_other t _ hne
    have hi2 := hi1.unlink hi (by rw [hs]; exact hn) (by rw [Vl.upd_same]; omega) (by rw [hs]; intro h2; unfold ents; rw [hs]; exact hemp h2)
    exact Inv.fin (hi2.congr fun j => by
      unfold Vl.upd
      split <;> simp_all) hr
theorem Sound.link (h : Sound t) (hr : link t c = .ok y) : Sound y.1 := by
  unfold Op.link at hr
  by_cases c1 : thingE t c.ati c.atg ≠ 0
  · rw [if_pos c1] at hr; cases hr
  rw [if_neg c1] at hr
  by_cases c2 : (t.s c.ati).kind = 2
  · rw [if_pos c2] at hr; cases hr
  rw [if_neg c2] at hr
  by_cases c3 : folderE t c.toi c.tog ≠ 0
  · rw [if_pos c3] at hr; cases hr
  rw [if_neg c3] at hr
  by_cases c4 : nameOk c.tn = false
  · rw [if_pos c4] at hr; cases hr
  rw [if_neg c4] at hr
  obtain ⟨hk, hn, _⟩ := thing_ok (t := t) (i := c.ati) (g := c.atg) (by simpa using c1)
  obtain ⟨hd, hk2, _⟩ := folder_ok (t := t) (i := c.toi) (g := c.tog) (by simpa using c3)
  have hne : c.ati ≠ c.toi := fun e => c2 (by rw [e]; exact hk2)
  cases hl : look t c.toi c.tn with
  | some e => rw [hl] at hr; cases hr
  | none =>
    rw [hl] at hr
    simp only at hr
    cases he : enter t c.toi c.tn (t.s c.ati).ino (t.s c.ati).gen with
    | error e => rw [he] at hr; cases hr
    | ok u =>
      rw [he] at hr
      have hm := h.inv.more hk hn c2 (Nat.zero_le _)
      have hino := h.inv.may.ino _ hk
      rw [hino] at he
      -- the order does not matter: the link first, the entry then
      have he2 : enter (set t c.ati { t.s c.ati with links := ((t.s c.ati).links + 1) % 4294967296 }) c.toi c.tn c.ati (t.s c.ati).gen = .ok (set u c.ati { u.s c.ati with links := ((u.s c.ati).links + 1) % 4294967296 }) := by
        unfold Op.enter newE at he ⊢
        have e1 : (set t c.ati { t.s c.ati with links := ((t.s c.ati).links + 1) % 4294967296 }).s c.toi = t.s c.toi := set_other t _ (Ne.symm hne)
        have e2 : ents (set t c.ati { t.s c.ati with links := ((t.s c.ati).links + 1) % 4294967296 }) c.toi = ents t c.toi := ents_other t _ (Ne.symm hne)
        rw [e1, e2]
        by_cases d1 : ((t.s c.toi).cookie + 1) % 18446744073709551616 = 0
        · rw [if_pos d1] at he; cases he
        rw [if_neg d1] at he ⊢
        by_cases d2 : addE (ents t c.toi) ⟨(t.s c.toi).cookie + 1, c.ati, (t.s c.ati).gen, c.tn⟩ ≠ 0
        · rw [if_pos d2] at he; cases he
        rw [if_neg d2] at he ⊢
        by_cases d3 : 768 < (putE (ents t c.toi ++ [⟨(t.s c.toi).cookie + 1, c.ati, (t.s c.ati).gen, c.tn⟩])).length
        · rw [if_pos d3] at he; cases he
        rw [if_neg d3] at he ⊢
        have he := Except.ok.inj he
        subst he
        congr 1
        unfold set
        congr 1
        funext i
        unfold Vl.upd
        by_cases i1 : i = c.ati
        · subst i1
          simp [hne]
        · by_cases i2 : i = c.toi
          · subst i2
            simp [i1]
          · simp [i1, i2]
      have hj := (hm.enter hd (by rw [set_other t _ (Ne.symm hne)]; exact hk2) hk (by rw [set_same]; exact hn) (by rw [set_same]) (by rw [Vl.upd_same]; omega) he2).1
      exact Inv.fin (hj.congr fun j => by
        unfold Vl.upd
        split <;> simp_all) hr
end
end Op
end Go.Proofs.YtpbpdnjlomhkdaaGreat

namespace Go.Proofs.YtpbpdnjlomhkdaaGreat
namespace Op
section
variable {t u v : TT} {x : Nat → Nat} {c : Cl} {y : TT × Rp}
theorem enter_other {d : Nat} {nm : List UInt8} {i g : Nat} (h : enter t d nm i g = .ok u) {j : Nat} (hj : j ≠ d) : u.s j = t.s j := by
  unfold enter at h
  by_cases c1 : ((t.s d).cookie + 1) % 18446744073709551616 = 0
  · rw [if_pos c1] at h; cases h
  rw [if_neg c1] at h
  by_cases c2 : addE (ents t d) (newE t d nm i g) ≠ 0
  · rw [if_pos c2] at h; cases h
  rw [if_neg c2] at h
  by_cases c3 : 768 < (putE (ents t d ++ [newE t d nm i g])).length
  · rw [if_pos c3] at h; cases h
  rw [if_neg c3] at h
  have h := Except.ok.inj h
  subst h
  exact set_other t _ hj
/-- A name that stays is found behind another one that goes. -/
theorem find_rem {es : List En} {nm tn : List UInt8} {e o : En} (h : es.find? (fun z => z.nm == nm) = some e) (h2 : es.find? (fun z => z.nm == tn) = some o) (hne : nm ≠ tn) : (remL es tn).find? (fun z => z.nm == nm) = some e := by
  obtain ⟨hn, a, b, h3, h4, _, _⟩ := find_some h2
  rw [h4]
  rw [h3, List.find?_append, List.find?_cons] at h
  rw [List.find?_append]
  have : (o.nm == nm) = false := by
    rw [hn]
    simpa using fun h => hne h.symm
  rw [this] at h
  exact h
/-- Things without what stands under the new name. -/
def gone (t : TT) (c : Cl) : Option Nat → TT
  | some o => Op.unlink (Op.leave t c.toi c.tn) o
  | none => t
def hit (c : Cl) (k : Nat) : Option Nat → List Nat
  | some o => [c.ati, c.toi, k, o]
  | none => [c.ati, c.toi, k]
theorem moved_eq (t : TT) (c : Cl) (k : Nat) (old : Option Nat) : Op.moved t c k old = (match enter (Op.leave (gone t c old) c.ati c.nm) c.toi c.tn (t.s k).ino (t.s k).gen with
    | .error z => .error z
    | .ok u => Op.fin u (rep0 c) (hit c k old) k) := by
  cases old <;> rfl
theorem Sound.moved (h : Sound t) (ha : c.ati < 24) (hka : (t.s c.ati).kind = 2) (hb : c.toi < 24) (hkb : (t.s c.toi).kind = 2) {e : En} (hl : look t c.ati c.nm = some e) {old : Option Nat}
    (hold : match old with | none => look t c.toi c.tn = none | some o => ∃ z, look t c.toi c.tn = some z ∧ z.ino = o ∧ o ≠ e.ino ∧ (t.s o).kind ≠ 0 ∧ ((t.s o).kind = 2 → ents t o = [])) (hr : moved t c e.ino old = .ok y) : Sound y.1 := by
  have hmem : e ∈ ents t c.ati := List.mem_of_find?_eq_some hl
  obtain ⟨hi, hn, hg⟩ := h.inv.live c.ati ha hka e hmem
  have hino := h.inv.may.ino _ hi
  rw [moved_eq, hino] at hr
  -- the things without what goes
  have key : ∃ v xv, gone t c old = v ∧ Inv v xv ∧ (∀ j, xv j = 0) ∧ (v.s c.ati).kind = 2 ∧ (v.s c.toi).kind = 2 ∧ look v c.ati c.nm = some e ∧ (v.s e.ino).kind ≠ 0 ∧ (v.s e.ino).gen = (t.s e.ino).gen := by
    cases old with
    | none => exact ⟨t, _, rfl, h.inv, fun _ => rfl, hka, hkb, hl, hn, rfl⟩
    | some o =>
      obtain ⟨z, hz, hzo, hoe, hko, hemp⟩ := hold
      have hzm : z ∈ ents t c.toi := List.mem_of_find?_eq_some hz
      have ho24 : o < 24 := by rw [← hzo]; exact (h.inv.live c.toi hb hkb z hzm).1
      have hob : o ≠ c.toi := fun e1 => by
        have := hemp (by rw [e1]; exact hkb)
        rw [e1] at this
        rw [this] at hzm
        cases hzm
      have hoa : o ≠ c.ati := fun e1 => by
        have := hemp (by rw [e1]; exact hka)
        rw [e1] at this
        rw [this] at hmem
        cases hmem
      have hne : c.toi = c.ati → c.nm ≠ c.tn := fun e1 e2 => by
        rw [e1, ← e2, hl] at hz
        have := Option.some.inj hz
        exact hoe (by rw [← hzo, ← this])
      obtain ⟨hi1, hen⟩ := h.inv.leave hb hkb hz
      rw [hzo] at hi1
      have hs : (Op.leave t c.toi c.tn).s o = t.s o := set_other t _ hob
      have hi2 := hi1.unlink ho24 (by rw [hs]; exact hko) (by rw [Vl.upd_same]; omega) (by rw [hs]; intro h2; unfold ents; rw [hs]; exact hemp h2)
      refine ⟨_, _, rfl, hi2, fun j => by unfold Vl.upd; split <;> simp_all, ?_, ?_, ?_, ?_, ?_⟩
      · show ((Op.set _ o _).s c.ati).kind = 2
        rw [set_other _ _ (Ne.symm hoa)]
        by_cases e1 : c.ati = c.toi
        · rw [e1]
          show ((Op.set t c.toi _).s c.toi).kind = 2
          rw [set_same]
          exact hkb
        · show ((Op.set t c.toi _).s c.ati).kind = 2
          rw [set_other t _ e1]
          exact hka
      · show ((Op.set _ o _).s c.toi).kind = 2
        rw [set_other _ _ (Ne.symm hob)]
        show ((Op.set t c.toi _).s c.toi).kind = 2
        rw [set_same]
        exact hkb
      · unfold look
        have e0 : ents (Op.unlink (Op.leave t c.toi c.tn) o) c.ati = ents (Op.leave t c.toi c.tn) c.ati := ents_other _ _ (Ne.symm hoa)
        show List.find? _ (ents (Op.unlink (Op.leave t c.toi c.tn) o) c.ati) = some e
        rw [e0]
        by_cases e1 : c.ati = c.toi
        · rw [e1, hen]
          unfold look at hl hz
          rw [e1] at hl
          exact find_rem hl hz (hne e1.symm)
        · have e2 : ents (Op.leave t c.toi c.tn) c.ati = ents t c.ati := ents_other t _ e1
          rw [e2]
          exact hl
      · show ((Op.set _ o _).s e.ino).kind ≠ 0
        rw [set_other _ _ (Ne.symm hoe)]
        by_cases e1 : e.ino = c.toi
        · rw [e1]
          show ((Op.set t c.toi _).s c.toi).kind ≠ 0
          rw [set_same]
          show (t.s c.toi).kind ≠ 0
          rw [hkb]; decide
        · show ((Op.set t c.toi _).s e.ino).kind ≠ 0
          rw [set_other t _ e1]
          exact hn
      · show ((Op.set _ o _).s e.ino).gen = _
        rw [set_other _ _ (Ne.symm hoe)]
        by_cases e1 : e.ino = c.toi
        · rw [e1]
          show ((Op.set t c.toi _).s c.toi).gen = _
          rw [set_same]
        · show ((Op.set t c.toi _).s e.ino).gen = _
          rw [set_other t _ e1]
  obtain ⟨v, xv, hv, hiv, hx0, hva, hvb, hvl, hvn, hvg⟩ := key
  rw [hv] at hr
  obtain ⟨hi3, hen3⟩ := hiv.leave ha hva hvl
  have hk3 : ∀ j, ((Op.leave v c.ati c.nm).s j).kind = (v.s j).kind ∧ ((Op.leave v c.ati c.nm).s j).gen = (v.s j).gen := fun j => by
    by_cases e1 : j = c.ati
    · rw [e1]
      exact ⟨by show ((Op.set v c.ati _).s c.ati).kind = _; rw [set_same], by show ((Op.set v c.ati _).s c.ati).gen = _; rw [set_same]⟩
    · exact ⟨by show ((Op.set v c.ati _).s j).kind = _; rw [set_other v _ e1], by show ((Op.set v c.ati _).s j).gen = _; rw [set_other v _ e1]⟩
  cases he : enter (Op.leave v c.ati c.nm) c.toi c.tn e.ino (t.s e.ino).gen with
  | error z => rw [he] at hr; cases hr
  | ok w =>
    rw [he] at hr
    have hj := (hi3.enter hb (by rw [(hk3 _).1]; exact hvb) hi (by rw [(hk3 _).1]; exact hvn) (by rw [(hk3 _).2]; exact hvg) (by rw [Vl.upd_same]; omega) he).1
    exact Inv.fin (hj.congr fun j => by
      have := hx0 j
      unfold Vl.upd
      split <;> simp_all) hr
theorem Sound.rename (h : Sound t) (hr : rename t c = .ok y) : Sound y.1 := by
  unfold Op.rename Op.renameBy at hr
  by_cases c1 : folderE t c.ati c.atg ≠ 0
  · rw [if_pos c1] at hr; cases hr
  rw [if_neg c1] at hr
  by_cases c2 : folderE t c.toi c.tog ≠ 0
  · rw [if_pos c2] at hr; cases hr
  rw [if_neg c2] at hr
  by_cases c3 : nameOk c.nm = false
  · rw [if_pos c3] at hr; cases hr
  rw [if_neg c3] at hr
  by_cases c4 : nameOk c.tn = false
  · rw [if_pos c4] at hr; cases hr
  rw [if_neg c4] at hr
  obtain ⟨ha, hka, _⟩ := folder_ok (t := t) (i := c.ati) (g := c.atg) (by simpa using c1)
  obtain ⟨hb, hkb, _⟩ := folder_ok (t := t) (i := c.toi) (g := c.tog) (by simpa using c2)
  cases hl : look t c.ati c.nm with
  | none => rw [hl] at hr; cases hr
  | some e =>
    rw [hl] at hr
    simp only at hr
    by_cases c5 : thingE t e.ino e.gen ≠ 0
    · rw [if_pos c5] at hr; cases hr
    rw [if_neg c5] at hr
    cases hz : look t c.toi c.tn with
    | none =>
      rw [hz] at hr
      simp only at hr
      by_cases c6 : (t.s e.ino).kind = 2 ∧ inside t c.toi e.ino = true
      · rw [if_pos c6] at hr; cases hr
      rw [if_neg c6] at hr
      exact h.moved ha hka hb hkb hl (old := none) hz hr
    | some o =>
      rw [hz] at hr
      simp only at hr
      by_cases c6 : thingE t o.ino o.gen ≠ 0
      · rw [if_pos c6] at hr; cases hr
      rw [if_neg c6] at hr
      by_cases c7 : o.ino = e.ino
      · rw [if_pos c7] at hr
        have := Except.ok.inj hr
        subst this
        exact h
      rw [if_neg c7] at hr
      by_cases c8 : (t.s e.ino).kind = 2 ∧ (t.s o.ino).kind ≠ 2
      · rw [if_pos c8] at hr; cases hr
      rw [if_neg c8] at hr
      by_cases c9 : (t.s e.ino).kind = 2 ∧ ents t o.ino ≠ []
      · rw [if_pos c9] at hr; cases hr
      rw [if_neg c9] at hr
      by_cases c10 : (t.s e.ino).kind ≠ 2 ∧ (t.s o.ino).kind = 2
      · rw [if_pos c10] at hr; cases hr
      rw [if_neg c10] at hr
      by_cases c11 : (t.s e.ino).kind = 2 ∧ inside t c.toi e.ino = true
      · rw [if_pos c11] at hr; cases hr
      rw [if_neg c11] at hr
      obtain ⟨_, hon, _⟩ := thing_ok (t := t) (i := o.ino) (g := o.gen) (by simpa using c6)
      refine h.moved ha hka hb hkb hl (old := some o.ino) ⟨o, hz, rfl, c7, hon, fun h2 => ?_⟩ hr
      by_cases k2 : (t.s e.ino).kind = 2
      · by_cases e6 : ents t o.ino = []
        · exact e6
        · exact absurd ⟨k2, e6⟩ c9
      · exact absurd ⟨k2, h2⟩ c10
/-- A read leaves all as it is. -/
theorem asked_same {e : Int} {b : Prop} [Decidable b] {r : Rp} (h : (if b then Except.error e else Except.ok (t, r)) = Except.ok y) : y.1 = t := by
  by_cases hb : b
  · rw [if_pos hb] at h; cases h
  · rw [if_neg hb] at h
    have := Except.ok.inj h
    rw [← this]
theorem Sound.run (h : Sound t) (hc : c.Wide) (hr : run t c = .ok y) : Sound y.1 := by
  have same : y.1 = t → Sound y.1 := fun e => by rw [e]; exact h
  unfold Op.run at hr
  by_cases o1 : c.op = 1
  · rw [if_pos o1] at hr
    unfold Op.lookup at hr
    by_cases c1 : folderE t c.ati c.atg ≠ 0
    · rw [if_pos c1] at hr; cases hr
    rw [if_neg c1] at hr
    by_cases c2 : nameOk c.nm = false
    · rw [if_pos c2] at hr; cases hr
    rw [if_neg c2] at hr
    cases hl : look t c.ati c.nm with
    | none => rw [hl] at hr; cases hr
    | some e => rw [hl] at hr; exact same (asked_same hr)
  rw [if_neg o1] at hr
  by_cases o2 : c.op = 2
  · rw [if_pos o2] at hr; exact same (asked_same hr)
  rw [if_neg o2] at hr
  by_cases o3 : c.op = 3
  · rw [if_pos o3] at hr; exact h.setattr hr
  rw [if_neg o3] at hr
  by_cases o4 : c.op = 4
  · rw [if_pos o4] at hr; exact same (asked_same hr)
  rw [if_neg o4] at hr
  by_cases o5 : c.op = 5
  · rw [if_pos o5] at hr; exact h.write hr
  rw [if_neg o5] at hr
  by_cases o6 : c.op = 6
  · rw [if_pos o6] at hr
    unfold Op.create at hr
    by_cases c1 : folderE t c.ati c.atg ≠ 0
    · rw [if_pos c1] at hr; cases hr
    rw [if_neg c1] at hr
    by_cases c2 : nameOk c.nm = false
    · rw [if_pos c2] at hr; cases hr
    rw [if_neg c2] at hr
    by_cases c3 : 2 < c.cnt
    · rw [if_pos c3] at hr; cases hr
    rw [if_neg c3] at hr
    obtain ⟨hd, hk2, _⟩ := folder_ok (t := t) (i := c.ati) (g := c.atg) (by simpa using c1)
    cases hl : look t c.ati c.nm with
    | none =>
      rw [hl] at hr
      exact h.fresh hd hk2 (.inl rfl) (by split; exact hc.vf; omega) (Nat.zero_le _) (fun h => by cases h) hr
    | some e =>
      rw [hl] at hr
      simp only at hr
      by_cases c4 : thingE t e.ino e.gen ≠ 0
      · rw [if_pos c4] at hr; cases hr
      rw [if_neg c4] at hr
      by_cases c5 : (t.s e.ino).kind = 1 ∧ (c.cnt = 0 ∨ c.cnt = 1 ∧ c.vf ≠ 0 ∧ c.vf = (t.s e.ino).verf)
      · rw [if_pos c5] at hr
        have := Except.ok.inj hr
        exact same (by rw [← this])
      · rw [if_neg c5] at hr; cases hr
  rw [if_neg o6] at hr
  by_cases o7 : c.op = 7
  · rw [if_pos o7] at hr
    unfold Op.mkdir at hr
    by_cases c1 : folderE t c.ati c.atg ≠ 0
    · rw [if_pos c1] at hr; cases hr
    rw [if_neg c1] at hr
    by_cases c2 : nameOk c.nm = false
    · rw [if_pos c2] at hr; cases hr
    rw [if_neg c2] at hr
    obtain ⟨hd, hk2, _⟩ := folder_ok (t := t) (i := c.ati) (g := c.atg) (by simpa using c1)
    cases hl : look t c.ati c.nm with
    | none => rw [hl] at hr; exact h.fresh hd hk2 (.inr (.inl rfl)) (by omega) (Nat.zero_le _) (fun _ => rfl) hr
    | some e => rw [hl] at hr; cases hr
  rw [if_neg o7] at hr
  by_cases o8 : c.op = 8
  · rw [if_pos o8] at hr
    unfold Op.symlink at hr
    by_cases c1 : folderE t c.ati c.atg ≠ 0
    · rw [if_pos c1] at hr; cases hr
    rw [if_neg c1] at hr
    by_cases c2 : nameOk c.nm = false
    · rw [if_pos c2] at hr; cases hr
    rw [if_neg c2] at hr
    obtain ⟨hd, hk2, _⟩ := folder_ok (t := t) (i := c.ati) (g := c.atg) (by simpa using c1)
    cases hl : look t c.ati c.nm with
    | none =>
      rw [hl] at hr
      simp only at hr
      by_cases c3 : c.dt = [] ∨ 768 < c.dt.length
      · rw [if_pos c3] at hr; cases hr
      rw [if_neg c3] at hr
      exact h.fresh hd hk2 (.inr (.inr rfl)) (by omega) (by omega) (fun h => by cases h) hr
    | some e => rw [hl] at hr; cases hr
  rw [if_neg o8] at hr
  by_cases o9 : c.op = 9
  · rw [if_pos o9] at hr
    unfold Op.readlink at hr
    by_cases c1 : thingE t c.ati c.atg ≠ 0
    · rw [if_pos c1] at hr; cases hr
    rw [if_neg c1] at hr
    exact same (asked_same hr)
  rw [if_neg o9] at hr
  by_cases o10 : c.op = 10
  · rw [if_pos o10] at hr; exact h.out hr
  rw [if_neg o10] at hr
  by_cases o11 : c.op = 11
  · rw [if_pos o11] at hr; exact h.out hr
  rw [if_neg o11] at hr
  by_cases o12 : c.op = 12
  · rw [if_pos o12] at hr; exact h.rename hr
  rw [if_neg o12] at hr
  by_cases o13 : c.op = 13
  · rw [if_pos o13] at hr; exact h.link hr
  rw [if_neg o13] at hr
  by_cases o14 : c.op = 14
  · rw [if_pos o14] at hr
    unfold Op.readdir at hr
    by_cases c1 : folderE t c.ati c.atg ≠ 0
    · rw [if_pos c1] at hr; cases hr
    rw [if_neg c1] at hr
    by_cases c2 : c.cnt = 0
    · rw [if_pos c2] at hr; cases hr
    rw [if_neg c2] at hr
    exact same (asked_same hr)
  rw [if_neg o14] at hr
  by_cases o15 : c.op = 15
  · rw [if_pos o15] at hr; exact same (asked_same hr)
  rw [if_neg o15] at hr
  exact same (asked_same hr)
theorem Sound.doT (h : Sound t) (hc : c.Wide) : Sound (doT t c) := by
  unfold Op.doT
  split
  · cases hr : Op.run t c with
    | error e => exact h
    | ok y => exact h.run hc hr
  · exact h
end
end Op
end Go.Proofs.YtpbpdnjlomhkdaaGreat

namespace Go.Proofs.YtpbpdnjlomhkdaaGreat
namespace Op
section
variable (t : TT) (c : Cl)
/-- All calls but renames of directories, as they can be reckoned. -/
def runK : Res :=
  if c.op = 1 then lookup t c else if c.op = 2 then getattr t c else if c.op = 3 then setattr t c else if c.op = 4 then read t c
  else if c.op = 5 then write t c else if c.op = 6 then create t c else if c.op = 7 then mkdir t c else if c.op = 8 then symlink t c
  else if c.op = 9 then readlink t c else if c.op = 10 then out t c false else if c.op = 11 then out t c true
  else if c.op = 13 then link t c else if c.op = 14 then readdir t c else if c.op = 15 then fsstat t c else commit t c
def step : TT × Rp := match runK t c with | .error e => (t, { rep0 c with st := e }) | .ok x => x
end
theorem run_k {t : TT} {c : Cl} (h : c.op ≠ 12) : run t c = runK t c := by
  unfold run runK
  rw [if_neg h]
theorem do_step {t : TT} {c : Cl} (hm : May t) (h1 : 1 ≤ c.op) (h2 : c.op ≤ 16) (h3 : c.op ≠ 12) : doT t c = (step t c).1 ∧ doR t c = (step t c).2 := by
  unfold doT doR step
  rw [if_pos ⟨hm, h1, h2⟩, if_pos ⟨hm, h1, h2⟩, run_k h3]
  cases runK t c <;> exact ⟨rfl, rfl⟩
theorem do_run {t : TT} {c : Cl} (hm : May t) (h1 : 1 ≤ c.op) (h2 : c.op ≤ 16) {y : TT × Rp} (h : run t c = .ok y) : doT t c = y.1 ∧ doR t c = y.2 := by
  unfold doT doR
  rw [if_pos ⟨hm, h1, h2⟩, if_pos ⟨hm, h1, h2⟩, h]
  exact ⟨rfl, rfl⟩
theorem do_err {t : TT} {c : Cl} (hm : May t) (h1 : 1 ≤ c.op) (h2 : c.op ≤ 16) {e : Int} (h : run t c = .error e) : doT t c = t ∧ doR t c = { rep0 c with st := e } := by
  unfold doT doR
  rw [if_pos ⟨hm, h1, h2⟩, if_pos ⟨hm, h1, h2⟩, h]
  exact ⟨rfl, rfl⟩
theorem told_at (t : TT) (r : Rp) (k : Nat) : (told t r k).ati = (t.s k).ino ∧ (told t r k).atg = (t.s k).gen ∧ (told t r k).st = r.st := ⟨rfl, rfl, rfl⟩
theorem run_create {t : TT} {c : Cl} (h : c.op = 6) : runK t c = create t c := by
  unfold runK
  rw [h]
  rfl
theorem step_ok {t : TT} {c : Cl} {y : TT × Rp} (h : runK t c = .ok y) : step t c = y := by unfold step; rw [h]
theorem step_no {t : TT} {c : Cl} {e : Int} (h : runK t c = .error e) : step t c = (t, { rep0 c with st := e }) := by unfold step; rw [h]
/-- Create, where the name is there. -/
theorem create_known {t : TT} {c : Cl} {e : En} (h6 : c.op = 6) (hf : folderE t c.ati c.atg = 0) (hn : nameOk c.nm = true) (hc : ¬ 2 < c.cnt) (hl : look t c.ati c.nm = some e) (ht : thingE t e.ino e.gen = 0) :
    step t c = if (t.s e.ino).kind = 1 ∧ (c.cnt = 0 ∨ c.cnt = 1 ∧ c.vf ≠ 0 ∧ c.vf = (t.s e.ino).verf) then (t, told t (rep0 c) e.ino) else (t, { rep0 c with st := 61 }) := by
  have hr : runK t c = if (t.s e.ino).kind = 1 ∧ (c.cnt = 0 ∨ c.cnt = 1 ∧ c.vf ≠ 0 ∧ c.vf = (t.s e.ino).verf) then .ok (t, told t (rep0 c) e.ino) else .error 61 := by
    rw [run_create h6]
    unfold create
    rw [hf, if_neg (by decide), hn, if_neg (by decide), if_neg hc, hl]
    show (if thingE t e.ino e.gen ≠ 0 then _ else _) = _
    rw [ht, if_neg (by decide)]
  by_cases hh : (t.s e.ino).kind = 1 ∧ (c.cnt = 0 ∨ c.cnt = 1 ∧ c.vf ≠ 0 ∧ c.vf = (t.s e.ino).verf)
  · rw [if_pos hh] at hr ⊢
    exact step_ok hr
  · rw [if_neg hh] at hr ⊢
    exact step_no hr
/-- Create with a way that there isn't. -/
theorem create_way {t : TT} {c : Cl} (h6 : c.op = 6) (hf : folderE t c.ati c.atg = 0) (hn : nameOk c.nm = true) (hc : 2 < c.cnt) : step t c = (t, { rep0 c with st := 64 }) := by
  refine step_no ?_
  rw [run_create h6]
  unfold create
  rw [hf, if_neg (by decide), hn, if_neg (by decide), if_pos hc]
/-- A call of the law's: of an op, of a thing. -/
def cl (op i g : Nat) (nm : List UInt8) : Cl := { Cl.zero with op := op, ati := i, atg := g, nm := nm }
def exT1 := (step (format 20) (cl 7 0 1 [97])).1
def exR1 := (step (format 20) (cl 7 0 1 [97])).2
def exT2 := (step exT1 (cl 6 exR1.ati exR1.atg [102])).1
def exR2 := (step exT1 (cl 6 exR1.ati exR1.atg [102])).2
def exC3 : Cl := { cl 5 exR2.ati exR2.atg [] with off := 2, dt := [120] }
def exT3 := (step exT2 exC3).1
def exR3 := (step exT2 exC3).2
def exC4 : Cl := { cl 4 exR2.ati exR2.atg [] with cnt := 9 }
def exT4 := (step exT3 exC4).1
def exR4 := (step exT3 exC4).2
def exT5 := (step exT3 (cl 1 exR1.ati exR1.atg [103])).1
def exR5 := (step exT3 (cl 1 exR1.ati exR1.atg [103])).2
theorem ex_all : exR1.st = 0 ∧ exR1.ati = 1 ∧ exR1.atg = 1 ∧ exR2.ati = 2 ∧ exR3.st = 0 ∧ exR3.sz = 3 ∧ exR4.dt = [0, 0, 120] ∧ exR4.eof = true ∧ exR5.st = 60 ∧ Vl.tot exT3.s = 3 := by decide +kernel
end Op
end Go.Proofs.YtpbpdnjlomhkdaaGreat

namespace Go.Proofs.YtpbpdnjlomhkdaaGreat
namespace Op
section
variable (t : TT)
/-- Those that a row's entries name and that aren't in it yet. -/
def nexts (L : List Nat) : List Nat := (L.flatMap fun i => if i < 24 then (ents t i).filterMap fun e => if folderE t e.ino e.gen = 0 ∧ e.ino ∉ L then some e.ino else none else []).eraseDups
def reach : Nat → List Nat → List Nat
  | 0, L => L
  | n + 1, L => if nexts t L = [] then L else reach n (L ++ nexts t L)
def closedB (L : List Nat) : Bool := L.all fun i => (ents t i).all fun e => !decide (folderE t e.ino e.gen = 0) || decide (e.ino ∈ L)
def below (k : Nat) : List Nat := reach t 24 [k]
end
variable {t : TT} {k : Nat}
theorem nexts_und {L : List Nat} (h : ∀ i ∈ L, Und t k i) : ∀ d ∈ nexts t L, Und t k d := by
  intro d hd
  unfold nexts at hd
  rw [List.mem_eraseDups, List.mem_flatMap] at hd
  obtain ⟨i, hi, hd⟩ := hd
  by_cases h24 : i < 24
  · rw [if_pos h24, List.mem_filterMap] at hd
    obtain ⟨e, he, hc⟩ := hd
    by_cases h2 : folderE t e.ino e.gen = 0 ∧ e.ino ∉ L
    · rw [if_pos h2] at hc
      have := Option.some.inj hc
      rw [← this]
      exact (h i hi).step h24 he h2.1
    · rw [if_neg h2] at hc; cases hc
  · rw [if_neg h24] at hd; cases hd
theorem reach_und : ∀ (n : Nat) (L : List Nat), (∀ i ∈ L, Und t k i) → ∀ d ∈ reach t n L, Und t k d
  | 0, _, h, d, hd => h d hd
  | n + 1, L, h, d, hd => by
    unfold reach at hd
    by_cases hx : nexts t L = []
    · rw [if_pos hx] at hd; exact h d hd
    · rw [if_neg hx] at hd
      refine reach_und n _ (fun i hi => ?_) d hd
      rcases List.mem_append.1 hi with hi | hi
      · exact h i hi
      · exact nexts_und h i hi
theorem reach_self : ∀ (n : Nat) (L : List Nat), ∀ i ∈ L, i ∈ reach t n L
  | 0, _, i, hi => hi
  | n + 1, L, i, hi => by
    unfold reach
    split
    · exact hi
    · exact reach_self n _ i (List.mem_append_left _ hi)
theorem closed_und {L : List Nat} (hc : closedB t L = true) (hk : k ∈ L) {d : Nat} (h : Und t k d) : d ∈ L := by
  induction h with
  | self => exact hk
  | step _ _ he hf ih =>
    unfold closedB at hc
    rw [List.all_eq_true] at hc
    have := (List.all_eq_true.1 (hc _ ih)) _ he
    rw [Bool.or_eq_true] at this
    rcases this with h | h
    · simp [hf] at h
    · simpa using h
theorem und_iff (hc : closedB t (below t k) = true) (d : Nat) : Und t k d ↔ d ∈ below t k :=
  ⟨fun h => closed_und hc (reach_self 24 [k] k (by simp)) h, fun h => reach_und 24 [k] (fun i hi => by obtain rfl := List.mem_singleton.1 hi; exact .self) d h⟩
/-- A rename, as it can be reckoned. -/
def renameK (t : TT) (c : Cl) : Res := renameBy t c fun k => decide (c.toi ∈ below t k)
/-- May it be reckoned? -/
def plainB (t : TT) (c : Cl) : Bool := match look t c.ati c.nm with | none => true | some e => decide ((t.s e.ino).kind ≠ 2) || closedB t (below t e.ino)
theorem inside_iff {d k : Nat} : inside t d k = true ↔ Und t k d := by
  unfold inside
  exact @decide_eq_true_iff _ (Classical.propDecidable _)
theorem rename_k {c : Cl} (h : plainB t c = true) : rename t c = renameK t c := by
  unfold rename renameK renameBy
  unfold plainB at h
  cases hl : look t c.ati c.nm with
  | none => rfl
  | some e =>
    rw [hl] at h
    by_cases hk : (t.s e.ino).kind = 2
    · have hc : closedB t (below t e.ino) = true := by simpa [hk] using h
      have hu : inside t c.toi e.ino = decide (c.toi ∈ below t e.ino) := by
        rw [Bool.eq_iff_iff, inside_iff, und_iff hc, decide_eq_true_eq]
      simp only [hu]
    · simp only [hk, false_and, if_false]
def stepR (t : TT) (c : Cl) : TT × Rp := match renameK t c with | .error e => (t, { rep0 c with st := e }) | .ok x => x
theorem do_stepR {c : Cl} (hm : May t) (h : c.op = 12) (hp : plainB t c = true) : doT t c = (stepR t c).1 ∧ doR t c = (stepR t c).2 := by
  have hr : run t c = renameK t c := by
    unfold run
    rw [h]
    exact rename_k hp
  unfold doT doR stepR
  rw [if_pos ⟨hm, by omega, by omega⟩, if_pos ⟨hm, by omega, by omega⟩, hr]
  cases renameK t c <;> exact ⟨rfl, rfl⟩
end Op
end Go.Proofs.YtpbpdnjlomhkdaaGreat
