/-
  A journal, plain: what sectors hold, changes in the log, what is found when it is opened, and that writes of certain kinds leave that as it is. Nothing of the program is named here; the document's chapter 5 says all of it.
-/
import Derived.Test.YtcieahfhpanogaaSMath
namespace Go.Proofs.Ytcieahfhpanogaa.J
open Go.Proofs.Ytcieahfhpanogaa

/-- What a disk's sectors are. -/
abbrev Con := Int → List UInt8
/-- Writes of a change: blocks and their bytes. -/
abbrev Chg := List (Nat × List UInt8)
/-- The frame of kind k in sector p. -/
def fr (G : Con) (p : Nat) (k : UInt8) : Option Fm := if getE (G p) = 0 ∧ (getF (G p)).k = k then some (getF (G p)) else none
/-- A sector is written. -/
def wr (G : Con) (p : Nat) (b : List UInt8) : Con := fun i => if (p : Int) = i then b else G i
theorem wr_same (G : Con) (p : Nat) (b : List UInt8) : wr G p b p = b := by simp [wr]
theorem wr_other (G : Con) {p q : Nat} (b : List UInt8) (h : p ≠ q) : wr G p b q = G q := by
  unfold wr
  rw [if_neg (by omega)]
theorem fr_other (G : Con) {p q : Nat} (b : List UInt8) (k : UInt8) (h : p ≠ q) : fr (wr G p b) q k = fr G q k := by
  unfold fr
  rw [wr_other G b h]
theorem fr_put (G : Con) (p : Nat) (f : Fm) (hf : f.ok) : fr (wr G p (sealed f.enc)) p f.k = some f := by
  unfold fr
  rw [wr_same, (get_put f hf).1, (get_put f hf).2]
  simp
theorem fr_put_ne (G : Con) (p : Nat) (f : Fm) (hf : f.ok) (k : UInt8) (hk : f.k ≠ k) : fr (wr G p (sealed f.enc)) p k = none := by
  unfold fr
  rw [wr_same, (get_put f hf).1, (get_put f hf).2]
  simp [hk]
theorem fr_kind {G : Con} {p : Nat} {k : UInt8} {f : Fm} (h : fr G p k = some f) : f.k = k := by
  unfold fr at h
  split at h
  · rename_i h1
    cases h
    exact h1.2
  · cases h
theorem fr_ok {G : Con} {p : Nat} {k : UInt8} {f : Fm} (h : fr G p k = some f) : f.ok := by
  unfold fr at h
  split at h
  · rename_i h1
    cases h
    exact (put_get _ h1.1).1
  · cases h

/-- The frames of a change, of the log's start, of a block. -/
def dataF (s n i : Nat) (x : Nat × List UInt8) : Fm := ⟨2, UInt8.ofNat i, UInt8.ofNat n, s, x.1, x.2⟩
def endF (s n : Nat) : Fm := ⟨3, UInt8.ofNat n, UInt8.ofNat n, s, 0, []⟩
def superF (s p : Nat) : Fm := ⟨4, 0, 0, s, p, []⟩
def homeF (s i : Nat) (b : List UInt8) : Fm := ⟨1, 0, 0, s, i, b⟩
theorem dataF_ok {s n i : Nat} {x : Nat × List UInt8} (hs : s < 18446744073709551616) (hx : x.1 < 4294967296) (hb : x.2.length ≤ 108) : (dataF s n i x).ok := ⟨by show 1 ≤ 2; omega, by show 2 ≤ 4; omega, hs, hx, hb⟩
theorem endF_ok {s n : Nat} (hs : s < 18446744073709551616) : (endF s n).ok := ⟨by show 1 ≤ 3; omega, by show 3 ≤ 4; omega, hs, by show 0 < _; omega, by show 0 ≤ _; omega⟩
theorem superF_ok {s p : Nat} (hs : s < 18446744073709551616) (hp : p < 4294967296) : (superF s p).ok := ⟨by show 1 ≤ 4; omega, by show 4 ≤ 4; omega, hs, hp, by show 0 ≤ _; omega⟩
theorem homeF_ok {s i : Nat} {b : List UInt8} (hs : s < 18446744073709551616) (hi : i < 4294967296) (hb : b.length ≤ 108) : (homeF s i b).ok := ⟨by show 1 ≤ 1; omega, by show 1 ≤ 4; omega, hs, hi, hb⟩

/-- The superblock: the number, and where the log goes on. -/
def sup (G : Con) (log : Nat) : Nat × Nat := match fr G 0 4 with
  | some f => if f.a < log then (f.s, f.a) else (0, 0)
  | none => (0, 0)
/-- A block, as its home sector has it. -/
def hom (G : Con) (log i : Nat) : List UInt8 := match fr G (1 + log + i) 1 with
  | some f => if f.a = i ∧ f.b.length ≤ 96 then f.b else []
  | none => []
/-- The first k blocks of a change of n blocks with number s, from place t on; none: they aren't there. -/
def datas (G : Con) (log nb t s n : Nat) : Nat → Option Chg
  | 0 => some []
  | k + 1 => match datas G log nb t s n k with
    | none => none
    | some l => match fr G (1 + (t + k) % log) 2 with
      | none => none
      | some f => if f.s = s ∧ f.i.toNat = k ∧ f.c.toNat = n ∧ f.a < nb ∧ f.b.length ≤ 96 then some (l ++ [(f.a, f.b)]) else none
/-- The change with number s from place t on, of at most room sectors; nothing: there is none. -/
def chg (G : Con) (log nb t s room : Nat) : Chg := match fr G (1 + t % log) 2 with
  | none => []
  | some f => if 1 ≤ f.c.toNat ∧ f.c.toNat + 1 ≤ room then
      match datas G log nb t s f.c.toNat f.c.toNat with
      | none => []
      | some l => match fr G (1 + (t + f.c.toNat) % log) 3 with
        | none => []
        | some g => if g.s = s ∧ g.i.toNat = f.c.toNat ∧ g.c.toNat = f.c.toNat ∧ g.a = 0 ∧ g.b = [] then l else []
    else []

/-- What a change does. -/
def apl (l : Chg) (B : Nat → List UInt8) : Nat → List UInt8 := fun i => l.foldl (fun acc x => if x.1 = i then x.2 else acc) (B i)
theorem apl_nil (B : Nat → List UInt8) : apl [] B = B := rfl
theorem apl_append (a b : Chg) (B : Nat → List UInt8) : apl (a ++ b) B = apl b (apl a B) := by
  funext i
  simp [apl, List.foldl_append]
theorem apl_snoc (l : Chg) (x : Nat × List UInt8) (B : Nat → List UInt8) (i : Nat) : apl (l ++ [x]) B i = if x.1 = i then x.2 else apl l B i := by
  simp [apl, List.foldl_append]
/-- Where a change says something it does not matter what was there. -/
theorem apl_touched {l : Chg} {i : Nat} (h : ∃ x ∈ l, x.1 = i) (B B' : Nat → List UInt8) : apl l B i = apl l B' i := by
  suffices ∀ (d d' : List UInt8), l.foldl (fun acc x => if x.1 = i then x.2 else acc) d = l.foldl (fun acc x => if x.1 = i then x.2 else acc) d' from this _ _
  obtain ⟨x, hx, hi⟩ := h
  induction l with
  | nil => cases hx
  | cons y l ih =>
    intro d d'
    simp only [List.foldl_cons]
    by_cases hy : y.1 = i
    · simp [hy]
    · simp only [hy, if_false]
      rcases List.mem_cons.1 hx with rfl | hx
      · exact absurd hi hy
      · exact ih hx d d'
theorem apl_same {l : Chg} {i : Nat} (B B' : Nat → List UInt8) (h : B i = B' i) : apl l B i = apl l B' i := by
  unfold apl
  rw [h]
theorem apl_far {l : Chg} {i : Nat} (h : ∀ x ∈ l, x.1 ≠ i) (B : Nat → List UInt8) : apl l B i = B i := by
  unfold apl
  generalize B i = d
  induction l with
  | nil => rfl
  | cons y l ih =>
    simp only [List.foldl_cons]
    rw [if_neg (h y (by simp))]
    exact ih (fun x hx => h x (by simp [hx]))

/-- What is known when a journal is opened, on the way. -/
structure R where
  B : Nat → List UInt8
  seq : Nat
  place : Nat
  used : Nat
def on (log : Nat) (r : R) (l : Chg) : R := ⟨apl l r.B, r.seq + 1, (r.place + l.length + 1) % log, r.used + l.length + 1⟩
/-- The change that stands where the log goes on. -/
def next (G : Con) (log nb : Nat) (r : R) : Chg := chg G log nb r.place (r.seq + 1) (log - r.used)
/-- All changes, one behind the other: what is there then, and which blocks they told. -/
def run (G : Con) (log nb : Nat) : Nat → R → R × Chg
  | 0, r => (r, [])
  | k + 1, r => if next G log nb r = [] then (r, []) else ((run G log nb k (on log r (next G log nb r))).1, next G log nb r ++ (run G log nb k (on log r (next G log nb r))).2)
def start (G : Con) (log : Nat) : R := ⟨hom G log, (sup G log).1, (sup G log).2, 0⟩

/-- A change may be in the log. -/
def ChOk (nb : Nat) (l : Chg) : Prop := 1 ≤ l.length ∧ l.length ≤ 100 ∧ ∀ x ∈ l, x.1 < nb ∧ x.2.length ≤ 96
/-- A change with number s lies from place t on. -/
def Lies (G : Con) (log t s : Nat) (l : Chg) : Prop :=
  (∀ i (h : i < l.length), fr G (1 + (t + i) % log) 2 = some (dataF s l.length i l[i])) ∧ fr G (1 + (t + l.length) % log) 3 = some (endF s l.length)
/-- Changes lie one behind the other. -/
def Chain (G : Con) (log : Nat) : Nat → Nat → List Chg → Prop
  | _, _, [] => True
  | t, s, c :: cs => Lies G log t (s + 1) c ∧ Chain G log (t + c.length + 1) (s + 1) cs
/-- How many sectors they take. -/
def size : List Chg → Nat
  | [] => 0
  | c :: cs => c.length + 1 + size cs
theorem size_snoc (cs : List Chg) (c : Chg) : size (cs ++ [c]) = size cs + c.length + 1 := by
  induction cs with
  | nil => simp [size]
  | cons d cs ih => simp only [List.cons_append, size, ih]; omega
theorem chain_snoc (G : Con) (log : Nat) (cs : List Chg) (c : Chg) : ∀ t s, Chain G log t s (cs ++ [c]) ↔ Chain G log t s cs ∧ Lies G log (t + size cs) (s + cs.length + 1) c := by
  induction cs with
  | nil => intro t s; simp [Chain, size]
  | cons d cs ih =>
    intro t s
    simp only [List.cons_append, Chain, ih, size, List.length_cons]
    rw [show t + d.length + 1 + size cs = t + (d.length + 1 + size cs) by omega, show s + 1 + cs.length + 1 = s + (cs.length + 1) + 1 by omega]
    constructor
    · rintro ⟨h1, h2, h3⟩; exact ⟨⟨h1, h2⟩, h3⟩
    · rintro ⟨⟨h1, h2⟩, h3⟩; exact ⟨h1, h2, h3⟩

theorem ofNat_toNat {n : Nat} (h : n ≤ 255) : (UInt8.ofNat n).toNat = n := by simp; omega

theorem datas_lies {G : Con} {log nb t s : Nat} {l : Chg} (h : Lies G log t s l) (hl : ChOk nb l) : ∀ k, k ≤ l.length → datas G log nb t s l.length k = some (l.take k) := by
  intro k
  induction k with
  | zero => intro _; rfl
  | succ k ih =>
    intro hk
    have hx := hl.2.2 _ (List.getElem_mem (show k < l.length by omega))
    have hn := hl.2.1
    simp only [datas, ih (by omega), h.1 k (by omega), dataF]
    rw [if_pos ⟨trivial, ofNat_toNat (by omega), ofNat_toNat (by omega), hx.1, hx.2⟩, List.take_succ_eq_append_getElem (by omega)]
theorem chg_lies {G : Con} {log nb t s room : Nat} {l : Chg} (h : Lies G log t s l) (hl : ChOk nb l) (hr : l.length + 1 ≤ room) : chg G log nb t s room = l := by
  have hn := hl.2.1
  have h1 := hl.1
  have h0 := h.1 0 (by omega)
  unfold chg
  rw [Nat.add_zero] at h0
  simp only [h0, dataF, ofNat_toNat (show l.length ≤ 255 by omega)]
  rw [if_pos ⟨h1, hr⟩]
  simp only [datas_lies h hl l.length (Nat.le_refl _), h.2, endF]
  rw [if_pos ⟨trivial, ofNat_toNat (by omega), ofNat_toNat (by omega), trivial, trivial⟩, List.take_length]
theorem chg_none {G : Con} {log nb t s room : Nat} (hlog : 0 < log) (h : ∀ q f, q < log → fr G (1 + q) 3 = some f → f.s ≠ s) : chg G log nb t s room = [] := by
  unfold chg
  split
  · rfl
  · split
    · split
      · rfl
      · split
        · rfl
        · rename_i g hg
          rw [if_neg]
          intro hc
          exact h _ _ (Nat.mod_lt _ hlog) hg hc.1
    · rfl
theorem chg_mod (G : Con) (log nb t s room : Nat) : chg G log nb (t % log) s room = chg G log nb t s room := by
  have hd : ∀ n k, datas G log nb (t % log) s n k = datas G log nb t s n k := by
    intro n k
    induction k with
    | zero => rfl
    | succ k ih => simp only [datas, ih, Nat.mod_add_mod]
  unfold chg
  simp only [Nat.mod_mod, hd, Nat.mod_add_mod]

/-- The disk's content is good for the blocks B: a start of the log that says number s0 and place t0, changes cs behind it, and no end of a change with a higher number. -/
structure Good (G : Con) (log nb s0 t0 : Nat) (cs : List Chg) (B : Nat → List UInt8) : Prop where
  sup : sup G log = (s0, t0 % log)
  chain : Chain G log t0 s0 cs
  chok : ∀ c ∈ cs, ChOk nb c
  fits : size cs ≤ log
  noend : ∀ q f, q < log → fr G (1 + q) 3 = some f → f.s ≤ s0 + cs.length
  val : ∀ i, i < nb → apl cs.flatten (hom G log) i = B i

theorem run_chain {G : Con} {log nb : Nat} (hlog : 0 < log) : ∀ (cs : List Chg) (t s u k : Nat) (B : Nat → List UInt8), Chain G log t s cs → (∀ c ∈ cs, ChOk nb c) → u + size cs ≤ log → cs.length < k → (∀ q f, q < log → fr G (1 + q) 3 = some f → f.s ≤ s + cs.length) →
    run G log nb k ⟨B, s, t % log, u⟩ = (⟨apl cs.flatten B, s + cs.length, (t + size cs) % log, u + size cs⟩, cs.flatten)
  | [], t, s, u, k, B, _, _, _, hk, hn => by
    obtain ⟨k, rfl⟩ : ∃ j, k = j + 1 := ⟨k - 1, by simp at hk; omega⟩
    have h0 : next G log nb ⟨B, s, t % log, u⟩ = [] := chg_none hlog fun q f hq hf e => by have := hn q f hq hf; have e' : f.s = s + 1 := e; simp at this; omega
    simp only [run, h0, if_true, size, List.flatten_nil, apl_nil, List.length_nil, Nat.add_zero]
  | c :: cs, t, s, u, k, B, hc, hok, hu, hk, hn => by
    obtain ⟨k, rfl⟩ : ∃ j, k = j + 1 := ⟨k - 1, by simp at hk; omega⟩
    simp only [size] at hu
    have hc1 := hok c (by simp)
    have h0 : next G log nb ⟨B, s, t % log, u⟩ = c := by
      show chg G log nb (t % log) (s + 1) (log - u) = c
      rw [chg_mod]
      exact chg_lies hc.1 hc1 (by omega)
    have hne : c ≠ [] := by
      rintro rfl
      have := hc1.1
      simp at this
    have ih := run_chain hlog cs (t + c.length + 1) (s + 1) (u + c.length + 1) k (apl c B) hc.2 (fun d hd => hok d (by simp [hd])) (by omega) (by simpa using hk) (fun q f hq hf => by have := hn q f hq hf; simp at this; omega)
    have h1 : on log ⟨B, s, t % log, u⟩ c = ⟨apl c B, s + 1, (t + c.length + 1) % log, u + c.length + 1⟩ := by
      unfold on
      congr 1
      show (t % log + c.length + 1) % log = _
      rw [Nat.add_assoc, Nat.mod_add_mod, ← Nat.add_assoc]
    simp only [run, h0, if_neg hne, h1, ih, List.flatten_cons, apl_append, List.length_cons, size]
    congr 2
    · omega
    · congr 1
      omega
    · omega
theorem size_ge (cs : List Chg) : cs.length ≤ size cs := by
  induction cs with
  | nil => simp [size]
  | cons c cs ih => simp only [size, List.length_cons]; omega
/-- What is found when a good disk is opened. -/
theorem Good.found {G : Con} {log nb s0 t0 : Nat} {cs : List Chg} {B : Nat → List UInt8} (hlog : 0 < log) (h : Good G log nb s0 t0 cs B) :
    ∃ B', run G log nb (log + 1) (start G log) = (⟨B', s0 + cs.length, (t0 + size cs) % log, size cs⟩, cs.flatten) ∧ ∀ i, i < nb → B' i = B i := by
  have hs : start G log = ⟨hom G log, s0, t0 % log, 0⟩ := by unfold start; rw [h.sup]
  have hr := run_chain hlog cs t0 s0 0 (log + 1) (hom G log) h.chain h.chok (by have := h.fits; omega) (by have := h.fits; have := size_ge cs; omega) h.noend
  rw [Nat.zero_add] at hr
  exact ⟨_, by rw [hs]; exact hr, fun i hi => h.val i hi⟩
end Go.Proofs.Ytcieahfhpanogaa.J
