/-
  Inodes, plain: what bytes are of one, and that both ways fit (layer 7). Nothing of the program is named here.
  Bitmaps, plain (layer 6): whether one is taken, with one taken or not, how many are, which are drawn. Nothing of the program is named here.
  A thing, whole: a file, a directory or a link (layers 11 and 12). Nothing of the program is named here.
  A volume, plain: things on blocks, what saving one gives back and draws (layer 12). Nothing of the program is named here.
  A volume, plain: things saved together (layer 12): what there must be room for, what lies there then.
  Plain laws on memory for the proofs over layer 3 (disk): an operation by what it did, aggregates that are loaded and stored whole, maps from integers to bytes. Nothing of the program is named here.
  Contracts of the document's answers for what is put: U32, U64, Bool, Opaque (as texts).
  Frames, slices as they lie in a cell, slices of writes: what layers 5 and above share (the texts of layer 5 hold the same: where they are laid, this one is not).
  Entries, plain: which names and which entries may be, their bytes, and what bytes are of them (layer 8). Nothing of the program is named here.
-/
import Derived.Test.YtpbpdnjlomhkdaaGreatQ1
import Derived.KernelRfl
import Derived.Laws.Tables
import Derived.Laws.Rows
import Derived.Laws.CopyRow
import Derived.Great.BuildSlice
import Derived.RegionTactic
import Derived.StillTail
import Derived.MapKept
import Derived.TacticsIn
import Derived.OrdersIn
import Derived.Deep.RegionWith
import Derived.Test.YtpbpdnjlomhkdaaGreatProg
import Derived.Deep.RegionHeld3
import Derived.Deep.RegionLaw
import Derived.Deep.LoopGhost
import Derived.Deep.DeepMust
import Derived.Lib.SlBytesConst
import Derived.Lib.SlBytesRow
namespace Go.Proofs.YtpbpdnjlomhkdaaGreat
namespace Nd

/-- The one whose fields were read. -/
def of (a b : List Nat) (bl : List Nat) : Nd := ⟨a.getD 0 0, a.getD 1 0, a.getD 2 0, a.getD 3 0, a.getD 4 0, b.getD 0 0, b.getD 1 0, b.getD 2 0, bl⟩
def pa (l : List UInt8) := rds 4 5 (l, 0)
def pb (l : List UInt8) := rds 8 3 (pa l).1
def pc (l : List UInt8) := rdN 4 (pb l).1
def pd (l : List UInt8) := rds 4 (pc l).2 (pc l).1
def raw (l : List UInt8) : Nd := of (pa l).2 (pb l).2 (pd l).2
def fin (l : List UInt8) : Int := endOf (pd l).1.1 (pd l).1.2
/-- What Get tells: the error, .. -/
def err (l : List UInt8) : Int := if l = [] then 0 else if 8 < (pc l).2 then 13 else if fin l ≠ 0 then fin l else if (raw l).okB = true ∧ (raw l).blank = false then 0 else 11
/-- .. and the inode. -/
def got (l : List UInt8) : Nd := if l ≠ [] ∧ err l = 0 then raw l else zero

theorem pc_err (l : List UInt8) (h : (pc l).1.2 ≠ 0) (hl : l ≠ []) : err l = (pc l).1.2 ∧ (pc l).2 = 0 := by
  have h0 : (pc l).2 = 0 := rdN_zero 4 (pb l).1 h
  refine ⟨?_, h0⟩
  have hd : (pd l).1 = (pc l).1 := by unfold pd; rw [h0]; rfl
  have hf : fin l = (pc l).1.2 := by unfold fin; rw [hd]; exact if_neg (fun hh => h hh.1)
  unfold err
  rw [if_neg hl, if_neg (by omega), hf, if_pos h]
theorem endOf_zero (l : List UInt8) (e : Int) (h : endOf l e = 0) : e = 0 ∧ l = [] := by
  unfold endOf at h
  split at h
  · cases h
  · rename_i h1
    refine ⟨h, ?_⟩
    rcases l with _ | ⟨a, l⟩
    · rfl
    · exact absurd ⟨h, by simp⟩ h1
theorem list5 (a : List Nat) (h : a.length = 5) : a = [a.getD 0 0, a.getD 1 0, a.getD 2 0, a.getD 3 0, a.getD 4 0] := by
  match a, h with
  | [_, _, _, _, _], _ => rfl
theorem list3 (a : List Nat) (h : a.length = 3) : a = [a.getD 0 0, a.getD 1 0, a.getD 2 0] := by
  match a, h with
  | [_, _, _], _ => rfl
theorem of_code (a b bl : List Nat) (ha : a.length = 5) (hb : b.length = 3) : (of a b bl).code = enc 4 a ++ enc 8 b ++ be 4 bl.length ++ enc 4 bl := by
  have h1 := list5 a ha
  have h2 := list3 b hb
  have e1 : (of a b bl).enc1 = enc 4 a := by rw [h1]; simp [of, enc1, enc]
  have e2 : (of a b bl).enc2 = enc 8 b := by rw [h2]; simp [of, enc2, enc]
  show (of a b bl).enc1 ++ (of a b bl).enc2 ++ be 4 bl.length ++ enc 4 bl = _
  rw [e1, e2]
theorem wide_raw (l : List UInt8) : (raw l).Wide := by
  have h1 := rds_lt 4 5 (l, 0)
  have h2 := rds_lt 8 3 (pa l).1
  have g1 : ∀ i, (pa l).2.getD i 0 < 4294967296 := by
    intro i
    rcases Nat.lt_or_ge i (pa l).2.length with h | h
    · rw [List.getD_eq_getElem?_getD, List.getElem?_eq_getElem h]
      exact h1 _ (List.getElem_mem h)
    · rw [List.getD_eq_getElem?_getD, List.getElem?_eq_none h]
      simp
  have g2 : ∀ i, (pb l).2.getD i 0 < 18446744073709551616 := by
    intro i
    rcases Nat.lt_or_ge i (pb l).2.length with h | h
    · rw [List.getD_eq_getElem?_getD, List.getElem?_eq_getElem h]
      exact h2 _ (List.getElem_mem h)
    · rw [List.getD_eq_getElem?_getD, List.getElem?_eq_none h]
      simp
  exact ⟨g1 0, g1 1, g1 2, g1 3, g1 4, g2 0, g2 1, g2 2, rds_lt 4 _ _⟩
theorem wide_got (l : List UInt8) : (got l).Wide := by
  unfold got
  split
  · exact wide_raw l
  · exact ⟨by decide, by decide, by decide, by decide, by decide, by decide, by decide, by decide, fun y h => by cases h⟩
/-- What was got is put as the same bytes. -/
theorem got_back (l : List UInt8) (h : err l = 0) : (got l).okB = true ∧ (got l).put = l := by
  by_cases hl : l = []
  · subst hl
    exact ⟨zero_ok, by decide⟩
  · have hg : got l = raw l := if_pos ⟨hl, h⟩
    rw [hg]
    unfold err at h
    rw [if_neg hl] at h
    split at h
    · cases h
    · split at h
      · rename_i h1
        exact absurd h h1
      · rename_i h8 h1
        split at h
        · rename_i h2
          refine ⟨h2.1, ?_⟩
          have h3 : fin l = 0 := Decidable.not_not.1 h1
          obtain ⟨h4, h5⟩ := endOf_zero _ _ h3
          obtain ⟨b1, b2, _⟩ := rds_back 4 (pc l).2 (pc l).1 h4
          obtain ⟨b3, b4, _⟩ := rdN_back 4 (pb l).1 b1
          obtain ⟨b5, b6, _⟩ := rds_back 8 3 (pa l).1 b3
          obtain ⟨_, b8, _⟩ := rds_back 4 5 (l, 0) b5
          have hn : (pd l).2.length = (pc l).2 := rds_len 4 (pc l).2 (pc l).1
          have hc : (raw l).code = enc 4 (pa l).2 ++ enc 8 (pb l).2 ++ be 4 (pd l).2.length ++ enc 4 (pd l).2 := of_code _ _ _ (rds_len 4 5 _) (rds_len 8 3 _)
          have hp : (raw l).put = (raw l).code := if_pos h2
          rw [hp, hc, hn]
          have e1 : (pc l).1.1 = enc 4 (pd l).2 ++ [] := by rw [← h5]; exact b2
          have e2 : (pb l).1.1 = be 4 (pc l).2 ++ (pc l).1.1 := b4
          have e3 : (pa l).1.1 = enc 8 (pb l).2 ++ (pb l).1.1 := b6
          have e4 : l = enc 4 (pa l).2 ++ (pa l).1.1 := b8
          rw [List.append_nil] at e1
          rw [← e1, List.append_assoc, ← e2, List.append_assoc, ← e3, ← e4]
        · cases h
/-- What was put is got as it was. -/
theorem got_put (x : Nd) (hw : x.Wide) (h : x.okB = true) : err x.put = 0 ∧ got x.put = x := by
  by_cases hb : x.blank = true
  · have : x.put = [] := by unfold put; rw [if_neg (by rw [hb]; simp)]
    rw [this, zero_of_blank x hb]
    exact ⟨rfl, rfl⟩
  · have hb : x.blank = false := by simpa using hb
    have hp : x.put = x.code := if_pos ⟨h, hb⟩
    rw [hp]
    have hne : x.code ≠ [] := by
      intro e
      have := code_length x
      rw [e] at this
      simp at this
      omega
    obtain ⟨k, g, li, m, s, c, o, v, bl⟩ := x
    have hbl := okB_len _ h
    simp only at hbl
    obtain ⟨w1, w2, w3, w4, w5, w6, w7, w8, w9⟩ := hw
    simp only at w1 w2 w3 w4 w5 w6 w7 w8 w9
    have hc : (Nd.mk k g li m s c o v bl).code = enc 4 [k, g, li, m, s] ++ (enc 8 [c, o, v] ++ (be 4 bl.length ++ (enc 4 bl ++ []))) := by
      simp [code, enc1, enc2, enc]
    have r1 : pa (Nd.mk k g li m s c o v bl).code = ((enc 8 [c, o, v] ++ (be 4 bl.length ++ (enc 4 bl ++ [])), 0), [k, g, li, m, s]) := by
      unfold pa
      rw [hc]
      have := rds_enc 4 [k, g, li, m, s] (enc 8 [c, o, v] ++ (be 4 bl.length ++ (enc 4 bl ++ []))) (by simp; omega) 5 (by simp)
      simpa [enc] using this
    have r2 : pb (Nd.mk k g li m s c o v bl).code = ((be 4 bl.length ++ (enc 4 bl ++ []), 0), [c, o, v]) := by
      unfold pb
      rw [r1]
      have := rds_enc 8 [c, o, v] (be 4 bl.length ++ (enc 4 bl ++ [])) (by simp; omega) 3 (by simp)
      simpa [enc] using this
    have r3 : pc (Nd.mk k g li m s c o v bl).code = ((enc 4 bl ++ [], 0), bl.length) := by
      unfold pc
      rw [r2]
      exact rdN_be 4 _ _ (by omega)
    have r4 : pd (Nd.mk k g li m s c o v bl).code = (([], 0), bl) := by
      unfold pd
      rw [r3]
      have := rds_enc 4 bl [] w9 bl.length (Nat.le_refl _)
      simpa [enc] using this
    have r5 : raw (Nd.mk k g li m s c o v bl).code = Nd.mk k g li m s c o v bl := by
      unfold raw
      rw [r1, r2, r4]
      rfl
    have r6 : fin (Nd.mk k g li m s c o v bl).code = 0 := by
      unfold fin
      rw [r4]
      rfl
    have r7 : err (Nd.mk k g li m s c o v bl).code = 0 := by
      unfold err
      rw [if_neg hne, r3, r6, r5]
      simp only
      rw [if_neg (by omega), if_neg (by simp), if_pos ⟨h, hb⟩]
    refine ⟨r7, ?_⟩
    unfold got
    rw [if_pos ⟨hne, r7⟩, r5]
/-- Two have the same bytes just if they are the same. -/
theorem put_inj (x y : Nd) (hx : x.Wide) (hy : y.Wide) (ox : x.okB = true) (oy : y.okB = true) : (x.put = y.put) ↔ x = y := by
  refine ⟨fun h => ?_, fun h => by rw [h]⟩
  rw [← (got_put x hx ox).2, ← (got_put y hy oy).2, h]
end Nd
end Go.Proofs.YtpbpdnjlomhkdaaGreat

namespace Go.Proofs.YtpbpdnjlomhkdaaGreat
namespace Bt

/-- Is the i-th bit set? -/
def has (l : List UInt8) (i : Nat) : Bool := (l.getD (i / 8) 0).toNat.testBit (7 - i % 8)
def hasI (l : List UInt8) (i : Int) : Bool := if 0 ≤ i then has l i.toNat else false
/-- Without noughts at the end. -/
def trim (l : List UInt8) : List UInt8 := (l.reverse.dropWhile (· == 0)).reverse
/-- A byte with one bit set, or not. -/
def chg (b : UInt8) (k : Nat) (t : Bool) : UInt8 :=
  if t then (if b.toNat.testBit k then b else UInt8.ofNat (b.toNat + 2 ^ k)) else (if b.toNat.testBit k then UInt8.ofNat (b.toNat - 2 ^ k) else b)
/-- As many bytes as the bit needs, if it is to be set. -/
def pre (l : List UInt8) (i : Nat) (t : Bool) : List UInt8 := if t then l ++ List.replicate (i / 8 + 1 - l.length) 0 else l
def put (l : List UInt8) (i : Nat) (t : Bool) : List UInt8 := (pre l i t).set (i / 8) (chg ((pre l i t).getD (i / 8) 0) (7 - i % 8) t)
def wit (l : List UInt8) (i : Nat) (t : Bool) : List UInt8 := trim (put l i t)
def witI (l : List UInt8) (i : Int) (t : Bool) : List UInt8 := if 0 ≤ i then wit l i.toNat t else trim l
/-- How many below n are taken. -/
def cnt (l : List UInt8) (n : Nat) : Nat := ((List.range n).filter (has l)).length
/-- Which below n are free. -/
def fr (l : List UInt8) (n : Nat) : List Nat := (List.range n).filter (fun i => !has l i)

theorem trim_nil : trim [] = [] := rfl
theorem trim_zero (a : List UInt8) : trim (a ++ [0]) = trim a := by simp [trim]
theorem trim_other (a : List UInt8) {b : UInt8} (h : b ≠ 0) : trim (a ++ [b]) = a ++ [b] := by
  have : (b == 0) = false := by simpa using h
  simp [trim, this]
theorem list_snoc (l : List UInt8) : l = [] ∨ ∃ a b, l = a ++ [b] := by
  rcases List.eq_nil_or_concat l with h | ⟨a, b, h⟩
  · exact .inl h
  · exact .inr ⟨a, b, by simpa using h⟩
/-- Does it end with no nought? -/
def Trimmed (l : List UInt8) : Prop := l = [] ∨ ∃ a b, l = a ++ [b] ∧ b ≠ 0
theorem trim_of {l : List UInt8} (h : Trimmed l) : trim l = l := by
  rcases h with rfl | ⟨a, b, rfl, h⟩
  · rfl
  · exact trim_other a h
theorem ind_snoc {p : List UInt8 → Prop} (h0 : p []) (h1 : ∀ a b, p a → p (a ++ [b])) (l : List UInt8) : p l := by
  suffices h : ∀ n (l : List UInt8), l.length = n → p l from h _ l rfl
  intro n
  induction n with
  | zero => intro l hl; rw [List.eq_nil_of_length_eq_zero hl]; exact h0
  | succ n ih =>
    intro l hl
    rcases list_snoc l with rfl | ⟨a, b, rfl⟩
    · exact h0
    · exact h1 a b (ih a (by simp at hl; omega))
theorem trim_trimmed (l : List UInt8) : Trimmed (trim l) := by
  refine ind_snoc (p := fun l => Trimmed (trim l)) (.inl rfl) (fun a b ih => ?_) l
  by_cases hb : b = 0
  · subst hb; rw [trim_zero]; exact ih
  · rw [trim_other a hb]; exact .inr ⟨a, b, rfl, hb⟩
theorem trim_getD (l : List UInt8) (k : Nat) : (trim l).getD k 0 = l.getD k 0 := by
  refine ind_snoc (p := fun l => (trim l).getD k 0 = l.getD k 0) rfl (fun a b ih => ?_) l
  by_cases hb : b = 0
  · subst hb
    rw [trim_zero, ih]
    simp only [List.getD_eq_getElem?_getD, List.getElem?_append]
    by_cases hk : k < a.length
    · simp [hk]
    · have h2 : a[k]? = none := List.getElem?_eq_none (by omega)
      simp only [if_neg hk, h2]
      rcases Nat.eq_zero_or_pos (k - a.length) with e | e
      · simp [e]
      · rw [List.getElem?_eq_none (by simp; omega)]
  · rw [trim_other a hb]
theorem trim_length (l : List UInt8) : (trim l).length ≤ l.length := by
  refine ind_snoc (p := fun l => (trim l).length ≤ l.length) (Nat.le_refl _) (fun a b ih => ?_) l
  by_cases hb : b = 0
  · subst hb; rw [trim_zero]; simp; omega
  · rw [trim_other a hb]; exact Nat.le_refl _
theorem has_trim (l : List UInt8) (k : Nat) : has (trim l) k = has l k := by unfold has; rw [trim_getD]
theorem has_out {l : List UInt8} {k : Nat} (h : l.length ≤ k / 8) : has l k = false := by
  unfold has
  rw [List.getD_eq_getElem?_getD, List.getElem?_eq_none h]
  simp
/-- A byte that is no nought has a bit. -/
theorem byte_bit {b : UInt8} (h : b ≠ 0) : ∃ j, j < 8 ∧ b.toNat.testBit (7 - j) = true := by
  have hb := b.toNat_lt
  have h0 : b.toNat ≠ 0 := fun e => h (UInt8.toNat_inj.1 (by simpa using e))
  have : ∀ x : Fin 256, x.1 ≠ 0 → ∃ j : Fin 8, x.1.testBit (7 - j.1) = true := by decide +kernel
  obtain ⟨j, hj⟩ := this ⟨b.toNat, hb⟩ h0
  exact ⟨j.1, j.2, hj⟩
/-- Two bytes with the same bits are the same. -/
theorem byte_ext {a b : UInt8} (h : ∀ j, j < 8 → a.toNat.testBit (7 - j) = b.toNat.testBit (7 - j)) : a = b := by
  apply UInt8.toNat_inj.1
  apply Nat.eq_of_testBit_eq
  intro i
  by_cases hi : i < 8
  · have := h (7 - i) (by omega)
    rwa [show 7 - (7 - i) = i by omega] at this
  · have ha : a.toNat < 2 ^ i := Nat.lt_of_lt_of_le a.toNat_lt (Nat.pow_le_pow_right (n := 2) (by omega) (show 8 ≤ i by omega))
    have hb : b.toNat < 2 ^ i := Nat.lt_of_lt_of_le b.toNat_lt (Nat.pow_le_pow_right (n := 2) (by omega) (show 8 ≤ i by omega))
    rw [Nat.testBit_lt_two_pow ha, Nat.testBit_lt_two_pow hb]
theorem getD_ext {a b : List UInt8} (h : ∀ k, has a k = has b k) (i : Nat) : a.getD i 0 = b.getD i 0 := by
  apply byte_ext
  intro j hj
  have := h (8 * i + j)
  unfold has at this
  rwa [show (8 * i + j) / 8 = i by omega, show (8 * i + j) % 8 = j by omega] at this
theorem trimmed_le {a b : List UInt8} (ha : Trimmed a) (h : ∀ k, has a k = has b k) : a.length ≤ b.length := by
  rcases ha with rfl | ⟨c, x, rfl, hx⟩
  · simp
  · rcases Nat.lt_or_ge c.length b.length with h1 | h1
    · simp; omega
    · exfalso
      have := getD_ext h c.length
      rw [List.getD_eq_getElem?_getD, List.getD_eq_getElem?_getD, List.getElem?_eq_none h1] at this
      simp at this
      exact hx this
/-- Two that end with no nought, and have the same bits, are the same. -/
theorem trimmed_ext {a b : List UInt8} (ha : Trimmed a) (hb : Trimmed b) (h : ∀ k, has a k = has b k) : a = b := by
  have h1 := trimmed_le ha h
  have h2 := trimmed_le hb (fun k => (h k).symm)
  apply List.ext_getElem (by omega)
  intro i hi hj
  have := getD_ext h i
  rwa [List.getD_eq_getElem?_getD, List.getD_eq_getElem?_getD, List.getElem?_eq_getElem hi, List.getElem?_eq_getElem hj] at this
theorem trim_ext {a b : List UInt8} (h : ∀ k, has a k = has b k) : trim a = trim b :=
  trimmed_ext (trim_trimmed a) (trim_trimmed b) fun k => by rw [has_trim, has_trim, h]

theorem chg_all : ∀ x : Fin 256, ∀ k : Fin 8, ∀ t : Bool, ∀ j : Fin 8, (if t then (if x.1.testBit k.1 then x.1 else x.1 + 2 ^ k.1) else (if x.1.testBit k.1 then x.1 - 2 ^ k.1 else x.1)).testBit j.1 = (if j.1 = k.1 then t else x.1.testBit j.1) ∧
    (if t then (if x.1.testBit k.1 then x.1 else x.1 + 2 ^ k.1) else (if x.1.testBit k.1 then x.1 - 2 ^ k.1 else x.1)) < 256 := by decide +kernel
theorem chg_nat (b : UInt8) (k : Nat) (hk : k < 8) (t : Bool) : (chg b k t).toNat = if t then (if b.toNat.testBit k then b.toNat else b.toNat + 2 ^ k) else (if b.toNat.testBit k then b.toNat - 2 ^ k else b.toNat) := by
  have h := (chg_all ⟨b.toNat, b.toNat_lt⟩ ⟨k, hk⟩ t ⟨0, by omega⟩).2
  have hb := b.toNat_lt
  unfold chg
  cases t <;> cases hc : b.toNat.testBit k <;> simp [hc] at h ⊢
  · omega
  · omega
theorem chg_bit (b : UInt8) (k : Nat) (hk : k < 8) (t : Bool) (j : Nat) (hj : j < 8) : (chg b k t).toNat.testBit j = if j = k then t else b.toNat.testBit j := by
  rw [chg_nat b k hk t]
  exact (chg_all ⟨b.toNat, b.toNat_lt⟩ ⟨k, hk⟩ t ⟨j, hj⟩).1

theorem pre_getD (l : List UInt8) (i : Nat) (t : Bool) (k : Nat) : (pre l i t).getD k 0 = l.getD k 0 := by
  unfold pre
  cases t
  · rfl
  · simp only [if_true, List.getD_eq_getElem?_getD, List.getElem?_append]
    by_cases hk : k < l.length
    · simp [hk]
    · have h2 : l[k]? = none := List.getElem?_eq_none (by omega)
      simp only [if_neg hk, h2, List.getElem?_replicate]
      split <;> rfl
theorem pre_length (l : List UInt8) (i : Nat) (t : Bool) : (pre l i t).length = if t then max l.length (i / 8 + 1) else l.length := by
  unfold pre
  cases t <;> simp; omega
theorem put_length (l : List UInt8) (i : Nat) (t : Bool) : (put l i t).length = (pre l i t).length := by simp [put]
theorem has_put (l : List UInt8) (i : Nat) (t : Bool) (k : Nat) : has (put l i t) k = if k = i then t else has l k := by
  unfold has put
  rw [List.getD_eq_getElem?_getD, List.getElem?_set]
  by_cases e : i / 8 = k / 8
  · by_cases hl : i / 8 < (pre l i t).length
    · simp only [e, if_true, if_pos (e ▸ hl), Option.getD_some]
      rw [chg_bit _ _ (by omega) _ _ (by omega), pre_getD]
      by_cases h2 : k = i
      · subst h2; simp
      · rw [if_neg h2, if_neg (by omega)]
    · have ht : t = false := by
        cases t
        · rfl
        · rw [pre_length] at hl; simp at hl; omega
      subst ht
      have hl' : ¬ k / 8 < (pre l i false).length := e ▸ hl
      simp only [e, if_true, if_neg hl', Option.getD_none]
      have : l.getD (k / 8) 0 = 0 := by
        rw [List.getD_eq_getElem?_getD, List.getElem?_eq_none (by unfold pre at hl'; simpa using hl')]
        rfl
      rw [this]
      simp
  · rw [if_neg e, ← List.getD_eq_getElem?_getD, pre_getD, if_neg (fun h => e (by rw [h]))]
theorem has_wit (l : List UInt8) (i : Nat) (t : Bool) (k : Nat) : has (wit l i t) k = if k = i then t else has l k := by
  unfold wit
  rw [has_trim, has_put]
theorem wit_trimmed (l : List UInt8) (i : Nat) (t : Bool) : Trimmed (wit l i t) := trim_trimmed _
theorem wit_length (l : List UInt8) (i : Nat) (t : Bool) : (wit l i t).length ≤ max l.length (i / 8 + 1) := by
  have h1 := trim_length (put l i t)
  rw [put_length, pre_length] at h1
  unfold wit
  cases t <;> simp at h1 <;> omega
theorem wit_again (l : List UInt8) (i : Nat) (t : Bool) : wit (wit l i t) i t = wit l i t :=
  trimmed_ext (wit_trimmed _ _ _) (wit_trimmed _ _ _) fun k => by rw [has_wit]; split <;> simp_all [has_wit]
theorem hasI_nat (l : List UInt8) (k : Nat) : hasI l (k : Int) = has l k := by simp [hasI]
theorem hasI_neg (l : List UInt8) {i : Int} (h : i < 0) : hasI l i = false := by unfold hasI; rw [if_neg (by omega)]
theorem witI_nat (l : List UInt8) (k : Nat) (t : Bool) : witI l (k : Int) t = wit l k t := by simp [witI]
theorem witI_neg (l : List UInt8) {i : Int} (t : Bool) (h : i < 0) : witI l i t = trim l := by unfold witI; rw [if_neg (by omega)]

theorem cnt_zero (l : List UInt8) : cnt l 0 = 0 := rfl
theorem cnt_succ (l : List UInt8) (n : Nat) : cnt l (n + 1) = cnt l n + if has l n then 1 else 0 := by
  unfold cnt
  rw [List.range_succ, List.filter_append, List.length_append]
  cases h : has l n <;> simp [h]
theorem cnt_le (l : List UInt8) (n : Nat) : cnt l n ≤ n := by
  unfold cnt
  exact Nat.le_trans (List.length_filter_le _ _) (by simp)
theorem cnt_out {l : List UInt8} {k : Nat} (h : l.length ≤ k / 8) : ∀ d, cnt l (k + d) = cnt l k
  | 0 => rfl
  | d + 1 => by
    rw [show k + (d + 1) = (k + d) + 1 by omega, cnt_succ, cnt_out h d, has_out (by omega)]
    simp
theorem cnt_ext {a b : List UInt8} (h : ∀ k, has a k = has b k) (n : Nat) : cnt a n = cnt b n := by
  unfold cnt
  rw [show has a = has b from funext h]
theorem fr_succ (l : List UInt8) (n : Nat) : fr l (n + 1) = fr l n ++ if has l n then [] else [n] := by
  unfold fr
  rw [List.range_succ, List.filter_append]
  cases h : has l n <;> simp [h]
theorem fr_length (l : List UInt8) (n : Nat) : (fr l n).length = n - cnt l n := by
  induction n with
  | zero => rfl
  | succ n ih =>
    have := cnt_le l n
    rw [fr_succ, List.length_append, ih, cnt_succ]
    cases has l n <;> simp; omega
theorem fr_cnt (l : List UInt8) (n : Nat) : (fr l n).length + cnt l n = n := by have := cnt_le l n; rw [fr_length]; omega
theorem fr_mem (l : List UInt8) (n k : Nat) : k ∈ fr l n ↔ k < n ∧ has l k = false := by simp [fr]
/-- The free ones lie in order: each below, with nothing free between. -/
theorem fr_mono (l : List UInt8) (n : Nat) : ∀ d, ∃ r, fr l (n + d) = fr l n ++ r
  | 0 => ⟨[], by simp⟩
  | d + 1 => by
    obtain ⟨r, h⟩ := fr_mono l n d
    exact ⟨r ++ if has l (n + d) then [] else [n + d], by rw [show n + (d + 1) = (n + d) + 1 by omega, fr_succ, h, List.append_assoc]⟩
/-- What is drawn: the first so many of the free ones; and the error. -/
def drw (l : List UInt8) (n many : Int) : List Nat := if many < 0 then [] else if (fr l n.toNat).length < many then [] else (fr l n.toNat).take many.toNat
def drwE (l : List UInt8) (n many : Int) : Int := if many < 0 then 1 else if (fr l n.toNat).length < many then 66 else 0
end Bt
end Go.Proofs.YtpbpdnjlomhkdaaGreat

namespace Go.Proofs.YtpbpdnjlomhkdaaGreat
namespace Vl

/-- A thing, whole. -/
structure Th where
  (ino kind gen links mode change cookie verf : Nat)
  dt : List UInt8
  deriving DecidableEq
/-- D: are these bytes a directory's, none of its entries above this cookie? -/
def Th.okB (D : List UInt8 → Nat → Bool) (s : Th) : Bool :=
  decide (s.ino ≤ 23) && decide (s.kind ≤ 3) && decide (s.dt.length ≤ 768) &&
    (if s.kind = 0 then s.links == 0 && s.mode == 0 && s.cookie == 0 && s.verf == 0 && s.dt.length == 0 else decide (s.links ≠ 0) && (if s.kind = 2 then D s.dt s.cookie else true))
structure Th.Wide (s : Th) : Prop where
  gen : s.gen < 4294967296
  links : s.links < 4294967296
  mode : s.mode < 4294967296
  change : s.change < 18446744073709551616
  cookie : s.cookie < 18446744073709551616
  verf : s.verf < 18446744073709551616
theorem okB_facts {D : List UInt8 → Nat → Bool} {s : Th} (h : s.okB D = true) : s.ino ≤ 23 ∧ s.kind ≤ 3 ∧ s.dt.length ≤ 768 := by
  simp only [Th.okB, Bool.and_eq_true, decide_eq_true_eq] at h
  exact ⟨h.1.1.1, h.1.1.2, h.1.2⟩
end Vl
end Go.Proofs.YtpbpdnjlomhkdaaGreat

namespace Go.Proofs.YtpbpdnjlomhkdaaGreat
namespace Vl

/-- What stands of it in its own block, with the blocks bl. -/
def nd (s : Th) (bl : List Nat) : Nd := ⟨s.kind, s.gen, s.links, s.mode, s.dt.length, s.change, s.cookie, s.verf, bl⟩
/-- The k-th block of bytes. -/
def part (s : List UInt8) (k : Nat) : List UInt8 := (s.drop (96 * k)).take 96
def upd {α : Type} (f : Nat → α) (i : Nat) (v : α) : Nat → α := fun j => if j = i then v else f j
theorem upd_same {α : Type} (f : Nat → α) (i : Nat) (v : α) : upd f i v i = v := by simp [upd]
theorem upd_other {α : Type} (f : Nat → α) {i j : Nat} (v : α) (h : j ≠ i) : upd f i v j = f j := by simp [upd, h]
theorem nd_ok {D : List UInt8 → Nat → Bool} {s : Th} (h : s.okB D = true) {bl : List Nat} (hl : bl.length = need s.dt.length) (hn : bl.Nodup) : (nd s bl).okB = true := by
  obtain ⟨_, hk, hd⟩ := okB_facts h
  simp only [Th.okB, Bool.and_eq_true] at h
  have h2 := h.2
  have hf : (nd s bl).fits = true := by simp [Nd.fits, nd, hk, hd, hl, hn]
  unfold Nd.okB
  rw [hf, Bool.true_and]
  unfold Nd.used
  by_cases h0 : s.kind = 0
  · rw [if_pos h0] at h2
    simp only [Bool.and_eq_true, beq_iff_eq] at h2
    obtain ⟨⟨⟨⟨a, b⟩, c⟩, d⟩, e⟩ := h2
    rw [if_pos (show (nd s bl).kind = 0 from h0)]
    have hb : bl.length = 0 := by rw [hl, e]; rfl
    simp [Nd.unused, nd, h0, a, b, c, d, e, hb]
  · rw [if_neg h0] at h2
    rw [if_neg (show ¬ (nd s bl).kind = 0 from h0)]
    simp only [Bool.and_eq_true] at h2
    exact h2.1
theorem nd_wide {D : List UInt8 → Nat → Bool} {s : Th} (h : s.okB D = true) (w : s.Wide) {bl : List Nat} (hb : ∀ x ∈ bl, x < 4294967296) : (nd s bl).Wide := by
  obtain ⟨_, hk, hd⟩ := okB_facts h
  constructor
  all_goals first | exact w.gen | exact w.links | exact w.mode | exact w.change | exact w.cookie | exact w.verf | exact hb | (show _ < _; simp only [nd]; omega)

/-- All of some are given back, .. -/
def giv (T : List UInt8) (l : List Nat) : List UInt8 := l.foldl (fun T b => Bt.wit T b false) T
/-- .. or taken. -/
def tak (T : List UInt8) (l : List Nat) : List UInt8 := l.foldl (fun T b => Bt.wit T b true) T
theorem has_giv : ∀ (l : List Nat) (T : List UInt8) (x : Nat), Bt.has (giv T l) x = (Bt.has T x && !decide (x ∈ l))
  | [], T, x => by simp [giv]
  | b :: r, T, x => by
    show Bt.has (giv (Bt.wit T b false) r) x = _
    rw [has_giv r, Bt.has_wit]
    by_cases e : x = b
    · subst e; simp
    · simp [e]
theorem has_tak : ∀ (l : List Nat) (T : List UInt8) (x : Nat), Bt.has (tak T l) x = (Bt.has T x || decide (x ∈ l))
  | [], T, x => by simp [tak]
  | b :: r, T, x => by
    show Bt.has (tak (Bt.wit T b true) r) x = _
    rw [has_tak r, Bt.has_wit]
    by_cases e : x = b
    · subst e; simp
    · simp [e]
/-- Their blocks become empty. -/
def clr (B : Nat → List UInt8) (l : List Nat) : Nat → List UInt8 := l.foldl (fun B b => upd B (35 + b) []) B
theorem clr_at : ∀ (l : List Nat) (B : Nat → List UInt8) (j : Nat), clr B l j = if ∃ b ∈ l, j = 35 + b then [] else B j
  | [], B, j => by simp [clr]
  | b :: r, B, j => by
    show clr (upd B (35 + b) []) r j = _
    rw [clr_at r]
    by_cases h : ∃ b ∈ r, j = 35 + b
    · rw [if_pos h, if_pos (by obtain ⟨b', hb, e⟩ := h; exact ⟨b', List.mem_cons_of_mem _ hb, e⟩)]
    · rw [if_neg h]
      by_cases e : j = 35 + b
      · rw [if_pos ⟨b, List.mem_cons_self, e⟩, e, upd_same]
      · rw [upd_other _ _ e, if_neg]
        rintro ⟨b', hb, e'⟩
        rcases List.mem_cons.1 hb with rfl | hb
        · exact e e'
        · exact h ⟨b', hb, e'⟩
/-- Bytes are put into blocks, from the k-th part on. -/
def putD (s : List UInt8) : List Nat → Nat → (Nat → List UInt8) → (Nat → List UInt8)
  | [], _, B => B
  | b :: r, k, B => putD s r (k + 1) (upd B (35 + b) (part s k))
theorem putD_other (s : List UInt8) : ∀ (l : List Nat) (k : Nat) (B : Nat → List UInt8) (j : Nat), (∀ b ∈ l, j ≠ 35 + b) → putD s l k B j = B j
  | [], _, _, _, _ => rfl
  | b :: r, k, B, j, h => by
    show putD s r (k + 1) (upd B (35 + b) (part s k)) j = _
    rw [putD_other s r _ _ _ fun b' hb => h b' (List.mem_cons_of_mem _ hb), upd_other _ _ (h b List.mem_cons_self)]
theorem putD_at (s : List UInt8) : ∀ (l : List Nat) (k : Nat) (B : Nat → List UInt8), l.Nodup → ∀ i (h : i < l.length), putD s l k B (35 + l[i]) = part s (k + i)
  | [], _, _, _, i, h => by simp at h
  | b :: r, k, B, hn, i, h => by
    show putD s r (k + 1) (upd B (35 + b) (part s k)) _ = _
    rw [List.nodup_cons] at hn
    match i with
    | 0 =>
      rw [List.getElem_cons_zero, putD_other s r _ _ _ fun b' hb e => hn.1 (by have : b = b' := by omega
                                                                               rw [this]; exact hb), upd_same]
      rfl
    | i + 1 =>
      rw [List.getElem_cons_succ, putD_at s r _ _ hn.2 i (by simpa using h)]
      congr 1
      omega

/-- The things S lie on the blocks B of n, thing i on bl i; T tells which are taken; of those of H nothing lies there yet. -/
structure VP (D : List UInt8 → Nat → Bool) (n : Nat) (T : List UInt8) (B : Nat → List UInt8) (S : Nat → Th) (bl : Nat → List Nat) (H : Nat → Prop) : Prop where
  ino : ∀ i, i < 24 → (S i).ino = i
  ok : ∀ i, i < 24 → (S i).okB D = true
  wide : ∀ i, i < 24 → (S i).Wide
  node : ∀ i, i < 24 → ¬ H i → B (11 + i) = (nd (S i) (bl i)).put
  len : ∀ i, i < 24 → ¬ H i → (bl i).length = need (S i).dt.length
  hole : ∀ i, i < 24 → H i → bl i = []
  at' : ∀ i, i < 24 → ∀ k (h : k < (bl i).length), (bl i)[k] < n - 35 ∧ B (35 + (bl i)[k]) = part (S i).dt k
  nodup : ∀ i, i < 24 → (bl i).Nodup
  dis : ∀ i j, i < 24 → j < 24 → i ≠ j → ∀ x ∈ bl i, x ∉ bl j
  map : ∀ x, Bt.has T x = true ↔ ∃ i, i < 24 ∧ x ∈ bl i
  emp : ∀ x, x < n - 35 → Bt.has T x = false → B (35 + x) = []
section
variable {D : List UInt8 → Nat → Bool} {n : Nat} {T : List UInt8} {B : Nat → List UInt8} {S : Nat → Th} {bl : Nat → List Nat} {H : Nat → Prop}
theorem VP.mem (h : VP D n T B S bl H) {i x : Nat} (hi : i < 24) (hx : x ∈ bl i) : x < n - 35 := by
  obtain ⟨k, hk, rfl⟩ := List.getElem_of_mem hx
  exact (h.at' i hi k hk).1
theorem VP.congrH (h : VP D n T B S bl H) {H' : Nat → Prop} (e : ∀ i, i < 24 → (H i ↔ H' i)) : VP D n T B S bl H' :=
  ⟨h.ino, h.ok, h.wide, fun i hi hn => h.node i hi (fun h' => hn ((e i hi).1 h')), fun i hi hn => h.len i hi (fun h' => hn ((e i hi).1 h')), fun i hi hh => h.hole i hi ((e i hi).2 hh), h.at', h.nodup, h.dis, h.map, h.emp⟩
/-- What a thing has is given back. -/
theorem VP.give (h : VP D n T B S bl H) {i : Nat} (hi : i < 24) : VP D n (giv T (bl i)) (clr B (bl i)) S (upd bl i []) (fun j => H j ∨ j = i) := by
  have low : ∀ j, j < 35 → clr B (bl i) j = B j := fun j hj => by
    rw [clr_at, if_neg]
    rintro ⟨b, _, e⟩
    omega
  refine ⟨h.ino, h.ok, h.wide, fun j hj hn => ?_, fun j hj hn => ?_, fun j hj hh => ?_, fun j hj k hk => ?_, fun j hj => ?_, fun j k hj hk hjk x hx => ?_, fun x => ?_, fun x hx hf => ?_⟩
  · have hji : j ≠ i := fun e => hn (.inr e)
    rw [low _ (by omega), h.node j hj (fun h' => hn (.inl h')), upd_other _ _ hji]
  · have hji : j ≠ i := fun e => hn (.inr e)
    rw [upd_other _ _ hji]
    exact h.len j hj fun h' => hn (.inl h')
  · by_cases e : j = i
    · rw [e, upd_same]
    · rw [upd_other _ _ e]
      exact h.hole j hj (hh.resolve_right e)
  · by_cases e : j = i
    · subst e
      exact absurd hk (by rw [upd_same]; simp)
    · have hu : upd bl i [] j = bl j := upd_other _ _ e
      have hk' : k < (bl j).length := by rw [← hu]; exact hk
      have hg : (upd bl i [] j)[k] = (bl j)[k] := by simp only [hu]
      rw [hg]
      obtain ⟨h1, h2⟩ := h.at' j hj k hk'
      refine ⟨h1, ?_⟩
      rw [clr_at, if_neg, h2]
      rintro ⟨b, hb, eb⟩
      have : b = (bl j)[k] := by omega
      rw [this] at hb
      exact h.dis j i hj hi e _ (List.getElem_mem hk') hb
  · by_cases e : j = i
    · rw [e, upd_same]; exact List.nodup_nil
    · rw [upd_other _ _ e]; exact h.nodup j hj
  · by_cases e : j = i
    · rw [e, upd_same] at hx; cases hx
    · rw [upd_other _ _ e] at hx
      by_cases e2 : k = i
      · rw [e2, upd_same]; simp
      · rw [upd_other _ _ e2]; exact h.dis j k hj hk hjk x hx
  · rw [has_giv, Bool.and_eq_true, h.map]
    constructor
    · rintro ⟨⟨j, hj, hx⟩, hn⟩
      have e : j ≠ i := fun e => by rw [e] at hx; simp [hx] at hn
      exact ⟨j, hj, by rw [upd_other _ _ e]; exact hx⟩
    · rintro ⟨j, hj, hx⟩
      by_cases e : j = i
      · rw [e, upd_same] at hx; cases hx
      · rw [upd_other _ _ e] at hx
        exact ⟨⟨j, hj, hx⟩, by simp [h.dis j i hj hi e x hx]⟩
  · rw [has_giv] at hf
    rw [clr_at]
    by_cases hm : x ∈ bl i
    · rw [if_pos ⟨x, hm, rfl⟩]
    · rw [if_neg (by rintro ⟨b, hb, e⟩; have : b = x := by omega
                     rw [this] at hb; exact hm hb)]
      exact h.emp x hx (by simpa [hm] using hf)
/-- A thing of which nothing lies there is laid on free blocks. -/
theorem VP.lay (h : VP D n T B S bl H) {s : Th} (hH : H s.ino) (hok : s.okB D = true) (hw : s.Wide) {d : List Nat} (hd : d = (Bt.fr T (n - 35)).take (need s.dt.length)) (hlen : need s.dt.length ≤ (Bt.fr T (n - 35)).length) :
    VP D n (tak T d) (upd (putD s.dt d 0 B) (11 + s.ino) (nd s d).put) (upd S s.ino s) (upd bl s.ino d) (fun j => H j ∧ j ≠ s.ino) := by
  have hi : s.ino < 24 := by have := (okB_facts hok).1; omega
  have hdl : d.length = need s.dt.length := by rw [hd, List.length_take]; omega
  have hfrn : (Bt.fr T (n - 35)).Nodup := by unfold Bt.fr; exact List.nodup_range.sublist List.filter_sublist
  have hdn : d.Nodup := by rw [hd]; exact hfrn.sublist (List.take_sublist _ _)
  have hdm : ∀ x ∈ d, x < n - 35 ∧ Bt.has T x = false := fun x hx => (Bt.fr_mem T (n - 35) x).1 (by rw [hd] at hx; exact List.mem_of_mem_take hx)
  have free : ∀ j, j < 24 → ∀ x ∈ d, x ∉ bl j := fun j hj x hx hb => by
    have := (h.map x).2 ⟨j, hj, hb⟩
    rw [(hdm x hx).2] at this
    cases this
  generalize hsi : s.ino = i at *
  have hnode : ∀ x, upd (putD s.dt d 0 B) (11 + i) (nd s d).put (35 + x) = putD s.dt d 0 B (35 + x) := fun x => upd_other _ _ (by omega)
  refine ⟨fun j hj => ?_, fun j hj => ?_, fun j hj => ?_, fun j hj hn => ?_, fun j hj hn => ?_, fun j hj hh => ?_, fun j hj k hk => ?_, fun j hj => ?_, fun j k hj hk hjk x hx => ?_, fun x => ?_, fun x hx hf => ?_⟩
  · by_cases e : j = i
    · rw [e, upd_same]; exact hsi
    · rw [upd_other _ _ e]; exact h.ino j hj
  · by_cases e : j = i
    · rw [e, upd_same]; exact hok
    · rw [upd_other _ _ e]; exact h.ok j hj
  · by_cases e : j = i
    · rw [e, upd_same]; exact hw
    · rw [upd_other _ _ e]; exact h.wide j hj
  · by_cases e : j = i
    · rw [e, upd_same, upd_same, upd_same]
    · rw [upd_other _ _ (by omega), upd_other _ _ e, upd_other _ _ e, putD_other _ _ _ _ _ (fun b _ => by omega)]
      exact h.node j hj fun h' => hn ⟨h', e⟩
  · by_cases e : j = i
    · rw [e, upd_same, upd_same]; exact hdl
    · rw [upd_other _ _ e, upd_other _ _ e]
      exact h.len j hj fun h' => hn ⟨h', e⟩
  · rw [upd_other _ _ hh.2]
    exact h.hole j hj hh.1
  · by_cases e : j = i
    · subst e
      have hu : upd bl j d j = d := upd_same _ _ _
      have hk' : k < d.length := by rw [← hu]; exact hk
      have hg : (upd bl j d j)[k] = d[k] := by simp only [hu]
      rw [hg, upd_same, hnode, putD_at s.dt d 0 B hdn k hk', Nat.zero_add]
      exact ⟨(hdm _ (List.getElem_mem hk')).1, rfl⟩
    · have hu : upd bl i d j = bl j := upd_other _ _ e
      have hk' : k < (bl j).length := by rw [← hu]; exact hk
      have hg : (upd bl i d j)[k] = (bl j)[k] := by simp only [hu]
      rw [hg, upd_other _ _ e, hnode, putD_other _ _ _ _ _ fun b hb eb => free j hj b hb (by
        have : b = (bl j)[k] := by omega
        rw [this]
        exact List.getElem_mem hk')]
      exact h.at' j hj k hk'
  · by_cases e : j = i
    · rw [e, upd_same]; exact hdn
    · rw [upd_other _ _ e]; exact h.nodup j hj
  · by_cases e : j = i
    · rw [e, upd_same] at hx
      rw [upd_other _ _ (by omega)]
      exact free k hk x hx
    · rw [upd_other _ _ e] at hx
      by_cases e2 : k = i
      · rw [e2, upd_same]
        exact fun hd' => free j hj x hd' hx
      · rw [upd_other _ _ e2]; exact h.dis j k hj hk hjk x hx
  · rw [has_tak, Bool.or_eq_true, h.map, decide_eq_true_eq]
    constructor
    · rintro (⟨j, hj, hx⟩ | hx)
      · have e : j ≠ i := fun e => by
          rw [e, h.hole i hi hH] at hx
          cases hx
        exact ⟨j, hj, by rw [upd_other _ _ e]; exact hx⟩
      · exact ⟨i, hi, by rw [upd_same]; exact hx⟩
    · rintro ⟨j, hj, hx⟩
      by_cases e : j = i
      · rw [e, upd_same] at hx; exact .inr hx
      · rw [upd_other _ _ e] at hx; exact .inl ⟨j, hj, hx⟩
  · rw [has_tak, Bool.or_eq_false_iff, decide_eq_false_iff_not] at hf
    rw [hnode, putD_other _ _ _ _ _ fun b hb eb => hf.2 (by have : b = x := by omega
                                                            rw [← this]; exact hb)]
    exact h.emp x hx hf.1
end
end Vl
end Go.Proofs.YtpbpdnjlomhkdaaGreat

namespace Go.Proofs.YtpbpdnjlomhkdaaGreat
namespace Vl

def sum24 (f : Nat → Nat) : Nat := ((List.range 24).map f).sum
theorem sum_le {f g : Nat → Nat} : ∀ l : List Nat, (∀ i ∈ l, f i = g i) → (l.map f).sum = (l.map g).sum
  | [], _ => rfl
  | a :: r, h => by
    rw [List.map_cons, List.map_cons, List.sum_cons, List.sum_cons, h a List.mem_cons_self, sum_le r fun i hi => h i (List.mem_cons_of_mem _ hi)]
theorem sum24_congr {f g : Nat → Nat} (h : ∀ i, i < 24 → f i = g i) : sum24 f = sum24 g := sum_le _ fun i hi => h i (List.mem_range.1 hi)
theorem sum_upd (f : Nat → Nat) (i v : Nat) : ∀ l : List Nat, l.Nodup → i ∈ l → (l.map (upd f i v)).sum + f i = (l.map f).sum + v
  | [], _, h => by cases h
  | a :: r, hn, h => by
    rw [List.nodup_cons] at hn
    rw [List.map_cons, List.map_cons, List.sum_cons, List.sum_cons]
    by_cases e : a = i
    · subst e
      have h9 : (r.map (upd f a v)).sum = (r.map f).sum := sum_le r fun j hj => upd_other f v (fun e : j = a => hn.1 (by rw [← e]; exact hj))
      rw [upd_same, h9]
      omega
    · have := sum_upd f i v r hn.2 (by rcases List.mem_cons.1 h with h | h
                                       · exact absurd h.symm e
                                       · exact h)
      rw [upd_other _ _ e]
      omega
theorem sum24_upd (f : Nat → Nat) {i : Nat} (v : Nat) (h : i < 24) : sum24 (upd f i v) + f i = sum24 f + v := sum_upd f i v _ List.nodup_range (List.mem_range.2 h)

section
variable {D : List UInt8 → Nat → Bool} {n : Nat} {T : List UInt8} {B : Nat → List UInt8} {S : Nat → Th} {bl : Nat → List Nat} {H : Nat → Prop}
theorem nodup_flat : ∀ l : List Nat, l.Nodup → (∀ i ∈ l, (bl i).Nodup) → (∀ i ∈ l, ∀ j ∈ l, i ≠ j → ∀ x ∈ bl i, x ∉ bl j) → (l.flatMap bl).Nodup
  | [], _, _, _ => List.nodup_nil
  | a :: r, hn, h1, h2 => by
    rw [List.nodup_cons] at hn
    rw [List.flatMap_cons, List.nodup_append]
    refine ⟨h1 a List.mem_cons_self, nodup_flat r hn.2 (fun i hi => h1 i (List.mem_cons_of_mem _ hi)) (fun i hi j hj => h2 i (List.mem_cons_of_mem _ hi) j (List.mem_cons_of_mem _ hj)), fun x hx y hy e => ?_⟩
    subst e
    obtain ⟨j, hj, hxj⟩ := List.mem_flatMap.1 hy
    exact h2 a List.mem_cons_self j (List.mem_cons_of_mem _ hj) (fun e => hn.1 (e ▸ hj)) x hx hxj
theorem len_flat : ∀ l : List Nat, (l.flatMap bl).length = (l.map fun i => (bl i).length).sum
  | [] => rfl
  | a :: r => by rw [List.flatMap_cons, List.length_append, List.map_cons, List.sum_cons, len_flat r]
/-- As many are taken as things have. -/
theorem VP.count (h : VP D n T B S bl H) : Bt.cnt T (n - 35) = sum24 fun i => (bl i).length := by
  unfold Bt.cnt sum24
  rw [← len_flat]
  have n1 : ((List.range (n - 35)).filter (Bt.has T)).Nodup := List.nodup_range.sublist List.filter_sublist
  have n2 : ((List.range 24).flatMap bl).Nodup := nodup_flat _ List.nodup_range (fun i hi => h.nodup i (List.mem_range.1 hi)) fun i hi j hj e => h.dis i j (List.mem_range.1 hi) (List.mem_range.1 hj) e
  refine List.Perm.length_eq ((List.perm_ext_iff_of_nodup n1 n2).2 fun x => ?_)
  rw [List.mem_filter, List.mem_flatMap]
  constructor
  · rintro ⟨_, hx⟩
    obtain ⟨i, hi, hm⟩ := (h.map x).1 hx
    exact ⟨i, List.mem_range.2 hi, hm⟩
  · rintro ⟨i, hi, hm⟩
    exact ⟨List.mem_range.2 (h.mem (List.mem_range.1 hi) hm), (h.map x).2 ⟨i, List.mem_range.1 hi, hm⟩⟩
end

/-- What a save goes on with. -/
structure St where
  T : List UInt8
  B : Nat → List UInt8
  S : Nat → Th
  bl : Nat → List Nat
def St.give (st : St) (i : Nat) : St := ⟨giv st.T (st.bl i), clr st.B (st.bl i), st.S, upd st.bl i []⟩
def St.draw (st : St) (m : Nat) (s : Th) : List Nat := (Bt.fr st.T m).take (need s.dt.length)
def St.lay (st : St) (m : Nat) (s : Th) : St := ⟨tak st.T (st.draw m s), upd (putD s.dt (st.draw m s) 0 st.B) (11 + s.ino) (nd s (st.draw m s)).put, upd st.S s.ino s, upd st.bl s.ino (st.draw m s)⟩
def gv : List Th → St → St
  | [], st => st
  | s :: r, st => gv r (st.give s.ino)
def ly (m : Nat) : List Th → St → Option St
  | [], st => some st
  | s :: r, st => if need s.dt.length ≤ (Bt.fr st.T m).length then ly m r (st.lay m s) else none
def setS (l : List Th) (S : Nat → Th) : Nat → Th := l.foldl (fun S s => upd S s.ino s) S
def needs (l : List Th) : Nat := (l.map fun s => need s.dt.length).sum
/-- How many blocks all things want. -/
def tot (S : Nat → Th) : Nat := sum24 fun i => need (S i).dt.length
/-- May these be saved together? -/
structure May (D : List UInt8 → Nat → Bool) (l : List Th) : Prop where
  ok : ∀ s ∈ l, s.okB D = true
  wide : ∀ s ∈ l, s.Wide
  apart : (l.map Th.ino).Nodup
theorem May.tail {D : List UInt8 → Nat → Bool} {s : Th} {r : List Th} (h : May D (s :: r)) : May D r := ⟨fun x hx => h.ok x (List.mem_cons_of_mem _ hx), fun x hx => h.wide x (List.mem_cons_of_mem _ hx), (List.nodup_cons.1 h.apart).2⟩
theorem May.head {D : List UInt8 → Nat → Bool} {s : Th} {r : List Th} (h : May D (s :: r)) : s.ino < 24 ∧ s.ino ∉ r.map Th.ino := ⟨by have := (okB_facts (h.ok s List.mem_cons_self)).1; omega, (List.nodup_cons.1 h.apart).1⟩

section
variable {D : List UInt8 → Nat → Bool} {n : Nat}
theorem gv_S : ∀ (l : List Th) (st : St), (gv l st).S = st.S
  | [], _ => rfl
  | s :: r, st => by show (gv r (st.give s.ino)).S = _; rw [gv_S r]; rfl
/-- All that they have is given back. -/
theorem gv_ok : ∀ (l : List Th) (st : St) (H : Nat → Prop), VP D n st.T st.B st.S st.bl H → May D l → VP D n (gv l st).T (gv l st).B (gv l st).S (gv l st).bl (fun j => H j ∨ j ∈ l.map Th.ino)
  | [], st, H, h, _ => h.congrH fun i _ => by simp
  | s :: r, st, H, h, hm => by
    have h1 := gv_ok r (st.give s.ino) _ (h.give hm.head.1) hm.tail
    refine h1.congrH fun i _ => ?_
    rw [List.map_cons, List.mem_cons]
    constructor
    · rintro ((h | h) | h)
      · exact .inl h
      · exact .inr (.inl h)
      · exact .inr (.inr h)
    · rintro (h | h | h)
      · exact .inl (.inl h)
      · exact .inl (.inr h)
      · exact .inr h
/-- .. and all are laid, or there is no room. -/
theorem ly_ok : ∀ (l : List Th) (st : St), VP D n st.T st.B st.S st.bl (fun j => j ∈ l.map Th.ino) → May D l →
    ((∃ st', ly (n - 35) l st = some st') ↔ sum24 (fun i => (st.bl i).length) + needs l ≤ n - 35) ∧ ∀ st', ly (n - 35) l st = some st' → VP D n st'.T st'.B st'.S st'.bl (fun _ => False) ∧ st'.S = setS l st.S
  | [], st, h, _ => by
    refine ⟨⟨fun _ => ?_, fun _ => ⟨st, rfl⟩⟩, fun st' e => ?_⟩
    · have h1 := h.count
      have h2 := Bt.cnt_le st.T (n - 35)
      simp only [needs, List.map_nil, List.sum_nil, Nat.add_zero]
      omega
    · simp only [ly, Option.some.injEq] at e
      subst e
      exact ⟨h.congrH fun i _ => by simp, rfl⟩
  | s :: r, st, h, hm => by
    have hc := h.count
    have hf := Bt.fr_cnt st.T (n - 35)
    obtain ⟨hi, hnr⟩ := hm.head
    by_cases hle : need s.dt.length ≤ (Bt.fr st.T (n - 35)).length
    · have hd : (st.draw (n - 35) s).length = need s.dt.length := by unfold St.draw; rw [List.length_take]; omega
      have h1 : VP D n (st.lay (n - 35) s).T (st.lay (n - 35) s).B (st.lay (n - 35) s).S (st.lay (n - 35) s).bl (fun j => j ∈ r.map Th.ino) := by
        refine (h.lay (by simp) (hm.ok s List.mem_cons_self) (hm.wide s List.mem_cons_self) rfl hle).congrH fun i _ => ?_
        rw [List.map_cons, List.mem_cons]
        constructor
        · rintro ⟨h | h, h2⟩
          · exact absurd h h2
          · exact h
        · exact fun h => ⟨.inr h, fun e => hnr (e ▸ h)⟩
      obtain ⟨g1, g2⟩ := ly_ok r _ h1 hm.tail
      have hsum : sum24 (fun i => ((st.lay (n - 35) s).bl i).length) = sum24 (fun i => (st.bl i).length) + need s.dt.length := by
        have h2 := sum24_upd (fun i => (st.bl i).length) (need s.dt.length) hi
        have h3 : st.bl s.ino = [] := h.hole _ hi (by simp)
        simp only [h3, List.length_nil, Nat.add_zero] at h2
        rw [← h2]
        refine sum24_congr fun i _ => ?_
        show (upd st.bl s.ino (st.draw (n - 35) s) i).length = _
        unfold upd
        split
        · exact hd
        · rfl
      have hly : ly (n - 35) (s :: r) st = ly (n - 35) r (st.lay (n - 35) s) := by simp [ly, hle]
      rw [hly]
      refine ⟨?_, fun st' e => ⟨(g2 st' e).1, (g2 st' e).2⟩⟩
      rw [g1, hsum]
      simp only [needs, List.map_cons, List.sum_cons]
      omega
    · have hly : ly (n - 35) (s :: r) st = none := by simp [ly, hle]
      rw [hly]
      refine ⟨⟨fun ⟨_, e⟩ => (by cases e), fun h9 => ?_⟩, fun st' e => (by cases e)⟩
      simp only [needs, List.map_cons, List.sum_cons] at h9
      omega
/-- What all want behind it. -/
theorem tot_set : ∀ (l : List Th) (S : Nat → Th) (f : Nat → Nat), (l.map Th.ino).Nodup → (∀ s ∈ l, s.ino < 24) → (∀ i, i < 24 → f i = if i ∈ l.map Th.ino then 0 else need (S i).dt.length) → tot (setS l S) = sum24 f + needs l
  | [], S, f, _, _, hf => by
    simp only [needs, List.map_nil, List.sum_nil, Nat.add_zero]
    exact sum24_congr fun i hi => by rw [hf i hi]; simp [setS]
  | s :: r, S, f, hn, hl, hf => by
    rw [List.map_cons, List.nodup_cons] at hn
    have hi := hl s List.mem_cons_self
    have h1 := tot_set r (upd S s.ino s) (upd f s.ino (need s.dt.length)) hn.2 (fun x hx => hl x (List.mem_cons_of_mem _ hx)) fun i hi' => ?_
    · have h2 := sum24_upd f (need s.dt.length) hi
      have h3 : f s.ino = 0 := by rw [hf _ hi]; simp
      show tot (setS r (upd S s.ino s)) = _
      rw [h1]
      simp only [needs, List.map_cons, List.sum_cons]
      omega
    · by_cases e : i = s.ino
      · rw [e, upd_same, upd_same, if_neg hn.1]
      · rw [upd_other _ _ e, upd_other _ _ e, hf i hi']
        simp [e]
/-- A volume that is as it must be. -/
structure Vol (D : List UInt8 → Nat → Bool) (n : Nat) (B : Nat → List UInt8) (S : Nat → Th) (bl : Nat → List Nat) : Prop where
  vp : VP D n (B 9) B S bl (fun _ => False)
  trim : Bt.Trimmed (B 9)
theorem giv_trim : ∀ (l : List Nat) (T : List UInt8), Bt.Trimmed T → Bt.Trimmed (giv T l)
  | [], _, h => h
  | _ :: r, _, _ => giv_trim r _ (Bt.wit_trimmed _ _ _)
theorem tak_trim : ∀ (l : List Nat) (T : List UInt8), Bt.Trimmed T → Bt.Trimmed (tak T l)
  | [], _, h => h
  | _ :: r, _, _ => tak_trim r _ (Bt.wit_trimmed _ _ _)
theorem gv_trim : ∀ (l : List Th) (st : St), Bt.Trimmed st.T → Bt.Trimmed (gv l st).T
  | [], _, h => h
  | s :: r, st, h => gv_trim r (st.give s.ino) (giv_trim _ _ h)
theorem ly_trim (m : Nat) : ∀ (l : List Th) (st st' : St), Bt.Trimmed st.T → ly m l st = some st' → Bt.Trimmed st'.T
  | [], st, st', h, e => by simp only [ly, Option.some.injEq] at e; rw [← e]; exact h
  | s :: r, st, st', h, e => by
    simp only [ly] at e
    split at e
    · exact ly_trim m r _ st' (tak_trim _ _ h) e
    · cases e
/-- Things saved together. -/
def save (n : Nat) (l : List Th) (B : Nat → List UInt8) (S : Nat → Th) (bl : Nat → List Nat) : Option St := ly (n - 35) l (gv l ⟨B 9, B, S, bl⟩)
/-- There is room just if all things then go in; then they are there, and nothing is wrong. -/
theorem Vol.save {B : Nat → List UInt8} {S : Nat → Th} {bl : Nat → List Nat} (h : Vol D n B S bl) {l : List Th} (hm : May D l) :
    ((∃ st', Vl.save n l B S bl = some st') ↔ tot (setS l S) ≤ n - 35) ∧ ∀ st', Vl.save n l B S bl = some st' → Vol D n (upd st'.B 9 st'.T) st'.S st'.bl ∧ st'.S = setS l S := by
  have h1 := (gv_ok l ⟨B 9, B, S, bl⟩ _ h.vp hm).congrH (H' := fun j => j ∈ l.map Th.ino) fun i _ => by simp
  obtain ⟨g1, g2⟩ := ly_ok l _ h1 hm
  have hlt : ∀ s ∈ l, s.ino < 24 := fun s hs => by have := (okB_facts (hm.ok s hs)).1; omega
  have hsum : tot (setS l S) = sum24 (fun i => ((gv l ⟨B 9, B, S, bl⟩).bl i).length) + needs l := tot_set l S _ hm.apart hlt fun i hi => by
    by_cases e : i ∈ l.map Th.ino
    · rw [if_pos e, h1.hole i hi e]; rfl
    · rw [if_neg e, h1.len i hi e, gv_S]
  refine ⟨by rw [hsum]; exact g1, fun st' e => ?_⟩
  obtain ⟨k1, k2⟩ := g2 st' e
  rw [gv_S] at k2
  refine ⟨⟨?_, by rw [upd_same]; exact ly_trim _ _ _ _ (gv_trim l _ h.trim) e⟩, k2⟩
  rw [upd_same]
  have u : ∀ j, 10 ≤ j → upd st'.B 9 st'.T j = st'.B j := fun j hj => upd_other _ _ (by omega)
  exact ⟨k1.ino, k1.ok, k1.wide, fun i hi hn => by rw [u _ (by omega)]; exact k1.node i hi hn, k1.len, k1.hole, fun i hi k hk => by rw [u _ (by omega)]; exact k1.at' i hi k hk, k1.nodup, k1.dis, k1.map, fun x hx hf => by rw [u _ (by omega)]; exact k1.emp x hx hf⟩
end
end Vl
end Go.Proofs.YtpbpdnjlomhkdaaGreat

namespace Go.Proofs.YtpbpdnjlomhkdaaGreat
open Go.RowKit

/-- The operation o yields v and leaves w'. -/
def Did (P : Program) (o : Oper) (a : Act) (w : World) (v : Value) (w' : World) : Prop :=
  (execOp a.eval o).run P w = .ok (.value v) w' ∨ ((execOp a.eval o).run P w = .ok .skip w' ∧ v = undef)

section
variable {P : Program} {o : Oper} {a : Act} {w w' : World} {v : Value}
theorem Did.wp {K : Act → World → Prop} {Q : Exit → Act → World → Prop} (h : Did P o a w v w') (hK : K (a.put o.dst v) w') : o.wp P a w K Q := by
  unfold Oper.wp
  rcases h with h | ⟨h, rfl⟩
  · rw [h]; exact hK
  · rw [h]; exact hK
theorem Did.list {ops : Array Oper} {rest : List Oper} {Q : Exit → Act → World → Prop} (hg : o.guard = none) (h : Did P o a w v w') (hK : wpList P ops Q rest (a.put o.dst v) w') : wpList P ops Q (o :: rest) a w :=
  wpList_plain hg fun _ hk => h.wp (hk _ _ hK)
theorem Did.step {ops : Array Oper} {K : Act → World → Prop} {Q : Exit → Act → World → Prop} {E : Prop} (hg : o.guard = none) (h : Did P o a w v w') (hK : K (a.put o.dst v) w') :
    if Region.wanted o (yielded ops a.tmps) = true then Oper.wp P o a w K Q else E := by
  have hw : Region.wanted o (yielded ops a.tmps) = true := by simp [Region.wanted, hg]
  rw [if_pos hw]
  exact h.wp hK
theorem Did.wpIn {F : Fence} {n : Nat} {K : Act → World → Prop} {Q : Exit → Act → World → Prop} (hc : ∀ c, o.op ≠ .call c) (hd : ∀ c, o.op ≠ .defer c) (h : Did P o a w v w') (hK : K (a.put o.dst v) w') : o.wpIn F n P a w K Q := by
  refine ⟨fun f hf => ?_, ?_⟩
  · unfold Oper.about at hf
    split at hf
    · exact absurd (by assumption) (hc _)
    · cases hf
  · rw [Oper.semAt_eq _ _ _ hd]
    rcases h with h | ⟨h, rfl⟩
    · rw [h]; exact hK
    · rw [h]; exact hK
end

section
variable {P : Program} {o : Oper} {a : Act} {w : World}
/-- A whole aggregate is loaded. -/
theorem did_load (ty : TypeId) (x : Operand) (ho : o.op = .load ty x) (ad : Addr) (hx : a.eval x = .pointer (some ad)) (d : TypeDesc) (hu : P.underlying ty = some d)
    (hd : (match d with | .struct _ | .array _ _ => true | _ => false) = true) (l : List Value) (hi : (P.info? ty).map (·.size) = some l.length) (hc : ∀ j u, l[j]? = some u → w.cell? (ad.add j) = some u) :
    Did P o a w (.agg l.toArray) w := by
  left
  have hl := run_loadCells_list (P := P) w ad l hc
  cases hq : P.info? ty with
  | none => simp [hq] at hi
  | some i =>
    have hs : i.size = l.length := by simpa [hq] using hi
    have hagg : (isAgg ty).run P w = .ok true w := by
      unfold isAgg
      rw [Sem.run_bind, run_underlying hu w]
      cases d <;> simp_all
    unfold execOp
    simp [ho, hx, Instr.loadAt, Instr.sureAddr, loadVar, Sem.run_bind, hagg, sizeOf, typeInfo, hq, hs, hl]
/-- A whole block is stored. -/
theorem did_store (ty : TypeId) (x y : Operand) (ho : o.op = .store ty x y) (g : Nat) (cells : Array Value) (hx : a.eval x = .pointer (some ⟨g, 0, none⟩)) (hy : a.eval y = .agg cells)
    (t : TypeId) (old : Array Value) (hg : w.heap[g]? = some (.cells old t (0, 0))) (hi : (P.info? ty).map (·.size) = some cells.size) (hold : old.size = cells.size) (h1 : cells.all (·.oneCell') = true) :
    Did P o a w undef (w.setRow g cells) := by
  right
  refine ⟨?_, rfl⟩
  unfold execOp
  simp only [ho, hx, hy, Instr.storeAt, Instr.sureAddr, Sem.run_bind, Sem.run_pure, Result.andThen_ok, run_storeVar_row w g t ty old cells hg hi hold h1]
/-- A new block of noughts. -/
theorem did_alloc (ty : TypeId) (ho : o.op = .alloc ty) (z : Value) (hz : (P.info? ty).bind (·.zero) = some z) : Did P o a w (.pointer (some ⟨w.heap.size, 0, none⟩)) (w.alloc (.cells z.cells ty)) := by
  left
  cases hq : P.info? ty with
  | none => simp [hq] at hz
  | some i =>
    have hz' : i.zero = some z := by simpa [hq] using hz
    unfold execOp
    simp [ho, Instr.alloc, zeroValue, typeInfo, hq, hz', newVar, newRow]
theorem did_build (t : TypeId) (parts : Array (Nat × Operand)) (ho : o.op = .build t parts) (cells : Array Value) (hf : P.built t (parts.map fun (i, x) => (i, a.eval x)).toList = some cells) : Did P o a w (.agg cells) w := by
  left
  unfold execOp
  simp only [ho, Sem.run_bind, run_build w t _ cells hf, Result.andThen_ok]
  rfl
theorem did_build_one (t : TypeId) (j : Nat) (x : Operand) (ho : o.op = .build t #[(j, x)]) (v : Value) (hx : a.eval x = v) (cells : Array Value) (hf : P.built t [(j, v)] = some cells) : Did P o a w (.agg cells) w :=
  did_build t #[(j, x)] ho cells (by simpa [hx] using hf)
/-- A slice of one element, whatever cells that has. -/
theorem did_buildSlice_one (t e : TypeId) (x : Operand) (ho : o.op = .buildSlice t 1 #[(0, x)]) (cells : Array Value) (hx : a.eval x = .agg cells) (hu : P.underlying t = some (.slice e)) (z : Value)
    (hz : (P.info? e).map (fun i => (i.zero, i.size)) = some (some z, cells.size)) (hpos : 0 < cells.size) (hsmall : cells.size ≤ 2 ^ 24) :
    Did P o a w (.slice (some ⟨w.heap.size, 0, none⟩) 1 1) (w.alloc (.cells cells e)) := by
  left
  cases hq : P.info? e with
  | none => simp [hq] at hz
  | some i =>
    simp only [hq, Option.map_some, Option.some.injEq, Prod.mk.injEq] at hz
    obtain ⟨hz1, hz2⟩ := hz
    have hfold : ∀ (cs acc : List Value) (k : Nat), acc.length = k + cs.length → (cs.zipIdx k).foldl (fun (A : Array Value) x => A.setIfInBounds (0 + x.2) x.1) acc.toArray = (acc.take k ++ cs).toArray := by
      intro cs
      induction cs with
      | nil => intro acc k hk; simp at hk; subst hk; simp
      | cons c cs ih =>
        intro acc k hk
        simp only [List.zipIdx_cons, List.foldl_cons, Nat.zero_add]
        have : (acc.toArray.setIfInBounds k c) = (acc.set k c).toArray := by simp
        rw [this]
        have h2 := ih (acc.set k c) (k + 1) (by simp at hk ⊢; omega)
        simp only [Nat.zero_add] at h2
        rw [h2]
        congr 1
        rw [List.take_succ_eq_append_getElem (by simp at hk ⊢; omega)]
        simp
        exact List.take_set_of_le (Nat.le_refl _)
    have hfill : Instr.fill (fun i' => some (i' * i.size, i.size)) ((Array.range (1 * i.size)).map (z.cells[· % z.cells.size]!)) [(0, .agg cells)] = some cells := by
      generalize z.cells = zc
      simp only [Instr.fill, Value.cells, hz2, Nat.zero_mul, Nat.one_mul, Array.size_map, Array.size_range]
      simp
      have := hfold cells.toList ((Array.range cells.size).map (zc[· % zc.size]!)).toList 0 (by simp)
      simp only [List.take_zero, List.nil_append, Nat.zero_add] at this
      have e1 : cells.zipIdx = (cells.toList.zipIdx 0).toArray := by
        apply Array.ext'
        simp
      rw [e1]
      have e2 : Array.map (fun x => zc[x % zc.size]!) (Array.range cells.size) = (List.map (fun x => zc[x % zc.size]!) (List.range cells.size)).toArray := by
        apply Array.ext'
        simp
      rw [e2]
      simpa using this
    unfold execOp
    simp only [ho, Sem.run_bind]
    have := run_buildSlice (P := P) w t e 1 #[(0, .agg cells)] cells i z hu hq hz1 (by rw [hz2]; omega) (by rw [hz2]; omega) hfill
    simp [hx, this]
end

section
variable {P : Program} {o : Oper} {a : Act} {w : World} {ops : Array Oper} {rest : List Oper} {Q : Exit → Act → World → Prop}
/-- A new block of noughts, the world under a name of its own. -/
theorem wpList_alloc_any (hg : o.guard = none) (ty : TypeId) (ho : o.op = .alloc ty) (z : Value) (hz : (P.info? ty).bind (·.zero) = some z)
    (h : ∀ w', w'.heap[w.heap.size]? = some (.cells z.cells ty (0, 0)) → w'.heap.size = w.heap.size + 1 → Below w.heap.size w w' → wpList P ops Q rest (a.put o.dst (.pointer (some ⟨w.heap.size, 0, none⟩))) w') : wpList P ops Q (o :: rest) a w :=
  (did_alloc ty ho z hz).list hg (h _ (heap_alloc_new w _) (by simp) ((Below.refl _ _).alloc (Nat.le_refl _) _))
theorem setRow_keep (g : Nat) (cells : Array Value) : Keep (· ≠ g) w (w.setRow g cells) := ⟨rfl, rfl, rfl, by simp, fun k hk => setRow_other w g k cells hk⟩
/-- A whole block is stored, the world under a name of its own. -/
theorem wpList_store_any (hgd : o.guard = none) (ty : TypeId) (x y : Operand) (ho : o.op = .store ty x y) (g : Nat) (cells : Array Value) (hx : a.eval x = .pointer (some ⟨g, 0, none⟩)) (hy : a.eval y = .agg cells)
    (t : TypeId) (old : Array Value) (hg : w.heap[g]? = some (.cells old t (0, 0))) (hi : (P.info? ty).map (·.size) = some cells.size) (hold : old.size = cells.size) (h1 : cells.all (·.oneCell') = true)
    (h : ∀ w', w'.heap[g]? = some (.cells cells t (0, 0)) → w'.heap.size = w.heap.size → Keep (· ≠ g) w w' → wpList P ops Q rest (a.put o.dst undef) w') : wpList P ops Q (o :: rest) a w :=
  (did_store ty x y ho g cells hx hy t old hg hi hold h1).list hgd (h _ (setRow_heap w g old cells t _ hg) (by simp) (setRow_keep g cells))
/-- copy of a slice of one-cell elements into a part of a block, the world under a name of its own. -/
theorem wpList_copy_any (hgd : o.guard = none) (s x : Operand) (dT sT : TypeId) (ho : o.op = .call { callee := .builtin .copy, args := #[s, x], argTypes := #[dT, sT] }) (elem : TypeId) (g k dLen dCap : Nat) (ad : Addr) (sLen sCap : Nat)
    (hs : a.eval s = .slice (some ⟨g, k, none⟩) dLen dCap) (hx : a.eval x = .slice (some ad) sLen sCap) (cur : List Value) (t : TypeId) (cs : List Value) (hu : P.underlying dT = some (.slice elem)) (hsz : (P.info? elem).map (·.size) = some 1)
    (hg : w.heap[g]? = some (.cells cur.toArray t (0, 0))) (hn : cs.length = Nat.min sLen dLen) (hsrc : ∀ j v, cs[j]? = some v → w.cell? (ad.add j) = some v) (hfit : k + cs.length ≤ cur.length) (h1 : ∀ v ∈ cs, v.oneCell' = true)
    (h : ∀ w', w'.heap[g]? = some (.cells (cur.take k ++ cs ++ cur.drop (k + cs.length)).toArray t (0, 0)) → w'.heap.size = w.heap.size → Keep (· ≠ g) w w' → wpList P ops Q rest (a.put o.dst (goInt cs.length)) w') : wpList P ops Q (o :: rest) a w := by
  have hr := run_copy_row P w dT sT o.type elem g k dLen dCap ad sLen sCap cur.toArray t cs hu hsz hg hn hsrc (by simpa using hfit) h1
  refine Did.list hgd (v := goInt cs.length) (w' := w.setRow g (cur.take k ++ cs ++ cur.drop (k + cs.length)).toArray) (.inl ?_) (h _ (setRow_heap w g _ _ t _ hg) (by simp) (setRow_keep g _))
  unfold execOp
  simp only [ho, resolve, invoke, builtin, Sem.run_bind, Sem.run_pure, Result.andThen_ok, List.map_toArray, List.map_cons, List.map_nil, hs, hx, hr]
end

section
variable {P : Program} {md : Region.Mode} {ops : Array Oper} {Q : Exit → Act → World → Prop} {o : Oper} {a : Act} {w w' : World} {v : Value}
theorem Did.op {i : Nat} {K : Act → World → Prop} (hi : ops[i]? = some o) (hg : o.guard = none) (h : Did P o a w v w') (hK : K (a.put o.dst v) w') : wpOp P ops Q i K a w :=
  wpOp_step hi fun _ hk => h.step hg (hk _ _ hK)
/-- One that alone is ready. -/
theorem wpAny_one {i fuel : Nat} {listed : Array Bool} (hi : ops[i]? = some o) (hg : o.guard = none) (r : Region.ready md ops listed = [i]) (d : Did P o a w v w')
    (h : wpAny P md ops Q fuel (listed.setIfInBounds i true) (a.put o.dst v) w') : wpAny P md ops Q (fuel + 1) listed a w :=
  wpAny_all r (by simp) fun j hj => by
    obtain rfl : j = i := by simpa using hj
    exact d.op hi hg h
/-- The rest goes one by one. -/
theorem wpAny_tail {k fuel : Nat} {listed : Array Bool} (hf : (ops.toList.drop k).length = fuel) (hB : Region.seqB md ops fuel k listed = true) (h : wpList P ops Q (ops.toList.drop k) a w) : wpAny P md ops Q fuel listed a w := by
  subst hf
  exact wpAny_of_seq _ k listed a w (fun j => by simp) hB h
theorem put_comm (a : Act) {d d' : Option Tmp} (h : d ≠ d') (v v' : Value) : (a.put d v).put d' v' = (a.put d' v').put d v := by
  rcases d with _ | d <;> rcases d' with _ | d' <;> simp [Act.put]
  exact Array.setIfInBounds_comm _ _ (fun e => h (by rw [e]))
/-- Two that read, one of which a third, which makes memory, waits for. -/
theorem wpAny_three {i j k fuel : Nat} {listed : Array Bool} {oi oj ok : Oper} {vi vj vk : Value} (hi : ops[i]? = some oi) (hj : ops[j]? = some oj) (hk : ops[k]? = some ok) (gi : oi.guard = none) (gj : oj.guard = none) (gk : ok.guard = none)
    (r0 : Region.ready md ops listed = [i, j]) (r1 : Region.ready md ops (listed.setIfInBounds i true) = [j]) (r2 : Region.ready md ops (listed.setIfInBounds j true) = [i, k])
    (r3 : Region.ready md ops ((listed.setIfInBounds i true).setIfInBounds j true) = [k]) (r4 : Region.ready md ops ((listed.setIfInBounds j true).setIfInBounds k true) = [i])
    (hij : i ≠ j) (hik : i ≠ k)
    (d1 : Did P oi a w vi w) (d2 : Did P oj (a.put oi.dst vi) w vj w) (d2' : Did P oj a w vj w) (d1' : Did P oi (a.put oj.dst vj) w vi w) (d3 : Did P ok ((a.put oi.dst vi).put oj.dst vj) w vk w') (d3' : Did P ok (a.put oj.dst vj) w vk w')
    (d1'' : Did P oi ((a.put oj.dst vj).put ok.dst vk) w' vi w') (n1 : oi.dst ≠ oj.dst) (n2 : oi.dst ≠ ok.dst)
    (h : wpAny P md ops Q fuel (((listed.setIfInBounds i true).setIfInBounds j true).setIfInBounds k true) (((a.put oi.dst vi).put oj.dst vj).put ok.dst vk) w') : wpAny P md ops Q (fuel + 3) listed a w := by
  have c1 : (listed.setIfInBounds j true).setIfInBounds i true = (listed.setIfInBounds i true).setIfInBounds j true := Array.setIfInBounds_comm _ _ (Ne.symm hij)
  have c2 : ((listed.setIfInBounds j true).setIfInBounds k true).setIfInBounds i true = ((listed.setIfInBounds i true).setIfInBounds j true).setIfInBounds k true := by
    rw [Array.setIfInBounds_comm _ _ (Ne.symm hik), c1]
  have e1 : (a.put oj.dst vj).put oi.dst vi = (a.put oi.dst vi).put oj.dst vj := put_comm a (Ne.symm n1) _ _
  have e2 : ((a.put oj.dst vj).put ok.dst vk).put oi.dst vi = ((a.put oi.dst vi).put oj.dst vj).put ok.dst vk := by rw [put_comm _ (Ne.symm n2), e1]
  refine wpAny_all r0 (by simp) fun n hn => ?_
  rcases List.mem_cons.1 hn with rfl | hn
  · exact d1.op hi gi (wpAny_one hj gj r1 d2 (wpAny_one hk gk r3 d3 h))
  · obtain rfl : n = j := by simpa using hn
    refine d2'.op hj gj (wpAny_all r2 (by simp) fun n2 hn2 => ?_)
    rcases List.mem_cons.1 hn2 with rfl | hn2
    · refine d1'.op hi gi (wpAny_one hk gk (by rw [c1]; exact r3) (by rw [e1]; exact d3) ?_)
      rw [c1, e1]
      exact h
    · obtain rfl : n2 = k := by simpa using hn2
      refine d3'.op hk gk (wpAny_one hi gi r4 d1'' ?_)
      rw [c2, e2]
      exact h
/-- The same with the slots said. -/
theorem wpAny_threeTo {i j k fuel : Nat} {listed : Array Bool} {oi oj ok : Oper} {vi vj vk : Value} (di dj dk : Tmp) (hi : ops[i]? = some oi) (hj : ops[j]? = some oj) (hk : ops[k]? = some ok) (gi : oi.guard = none) (gj : oj.guard = none) (gk : ok.guard = none)
    (ei : oi.dst = some di) (ej : oj.dst = some dj) (ek : ok.dst = some dk)
    (r0 : Region.ready md ops listed = [i, j]) (r1 : Region.ready md ops (listed.setIfInBounds i true) = [j]) (r2 : Region.ready md ops (listed.setIfInBounds j true) = [i, k])
    (r3 : Region.ready md ops ((listed.setIfInBounds i true).setIfInBounds j true) = [k]) (r4 : Region.ready md ops ((listed.setIfInBounds j true).setIfInBounds k true) = [i])
    (hij : i ≠ j) (hik : i ≠ k)
    (d1 : Did P oi a w vi w) (d2 : Did P oj (a.put (some di) vi) w vj w) (d2' : Did P oj a w vj w) (d1' : Did P oi (a.put (some dj) vj) w vi w) (d3 : Did P ok ((a.put (some di) vi).put (some dj) vj) w vk w') (d3' : Did P ok (a.put (some dj) vj) w vk w')
    (d1'' : Did P oi ((a.put (some dj) vj).put (some dk) vk) w' vi w') (n1 : di ≠ dj) (n2 : di ≠ dk)
    (h : wpAny P md ops Q fuel (((listed.setIfInBounds i true).setIfInBounds j true).setIfInBounds k true) (((a.put (some di) vi).put (some dj) vj).put (some dk) vk) w') : wpAny P md ops Q (fuel + 3) listed a w := by
  have m1 : oi.dst ≠ oj.dst := by rw [ei, ej]; exact fun e => n1 (by cases e; rfl)
  have m2 : oi.dst ≠ ok.dst := by rw [ei, ek]; exact fun e => n2 (by cases e; rfl)
  rw [← ei] at d2 d3 h
  rw [← ej] at d1' d3 d3' d1'' h
  rw [← ek] at d1'' h
  exact wpAny_three hi hj hk gi gj gk r0 r1 r2 r3 r4 hij hik d1 d2 d2' d1' d3 d3' d1'' m1 m2 h
theorem wpAny_takeTo {i fuel : Nat} {listed : Array Bool} {oi : Oper} (d : Tmp) (v : Value) (hi : ops[i]? = some oi) (hd : oi.dst = some d) (hs : Region.noSelect ops = true) (hf : Region.free md ops listed i = true) (hr : (Region.ready md ops listed).contains i = true)
    (hQ : ∀ c a w, Q (.panic c) (a.put (some d) v) w → Q (.panic c) a w) (hy : Yields P ops oi v a)
    (h : wpAny P md ops Q fuel (listed.setIfInBounds i true) (a.put (some d) v) w) : wpAny P md ops Q (fuel + 1) listed a w := by
  rw [← hd] at hQ h
  exact wpAny_take hi hs hf hr hQ hy h
theorem did_load_one (ty : TypeId) (x : Operand) (ho : o.op = .load ty x) (ad : Addr) (hx : a.eval x = .pointer (some ad)) (hu : (P.underlying ty).map (fun d => match d with | .struct _ | .array _ _ => true | _ => false) = some false)
    (hc : w.cell? ad = some v) : Did P o a w v w := by
  left
  have hagg : (isAgg ty).run P w = .ok false w := by
    unfold isAgg
    cases hq : P.underlying ty with
    | none => simp [hq] at hu
    | some d =>
      rw [Sem.run_bind, run_underlying hq w]
      cases d <;> simp_all
  unfold execOp
  simp [ho, hx, Instr.loadAt, Instr.sureAddr, loadVar, Sem.run_bind, hagg, run_load, hc]
end

/-! ### Maps from integers to bytes -/
/-- An integer that is a key. -/
def keyI : Value → Option Int
  | .int .i64 i => some i
  | _ => none
theorem keyI_inv {v : Value} {i : Int} (h : keyI v = some i) : v = .int .i64 i := by
  unfold keyI at h
  split at h
  · cases h; rfl
  · cases h
/-- The value under a key. -/
def look : List MapEntry → Int → Option Value
  | [], _ => none
  | e :: es, i => if keyI e.key = some i then some e.val else look es i
/-- Block b is a map from integers to bytes: F, whose default is the bytes z. -/
def IsMap (w : World) (b : Nat) (z : List UInt8) (F : Int → List UInt8) : Prop :=
  ∃ es clock, w.heap[b]? = some (.map es clock) ∧ (∀ e ∈ es.toList, ∃ i : Int, e.key = .int .i64 i) ∧ ∀ i, (look es.toList i).getD (.agg (bc z).toArray) = .agg (bc (F i)).toArray

theorem IsMap.lt {w : World} {b : Nat} {z : List UInt8} {F : Int → List UInt8} (h : IsMap w b z F) : b < w.heap.size := by
  obtain ⟨es, c, h, _⟩ := h
  exact (Array.getElem?_eq_some_iff.1 h).1
theorem IsMap.keep {w w' : World} {b : Nat} {z : List UInt8} {F : Int → List UInt8} (h : IsMap w b z F) (hb : w'.heap[b]? = w.heap[b]?) : IsMap w' b z F := by
  obtain ⟨es, c, h, k⟩ := h
  exact ⟨es, c, hb.trans h, k⟩
theorem IsMap.new (w : World) (z : List UInt8) : IsMap (w.alloc (.map #[] 0)) w.heap.size z (fun _ => z) := ⟨#[], 0, heap_alloc_new w _, by simp, fun i => by simp [look]⟩

theorem findNow_spec (i : Int) : ∀ (es : List MapEntry) (k : Nat), (∀ e ∈ es, ∃ j : Int, e.key = .int .i64 j) →
    (look es i = none ∧ Instr.findNow (.int .i64) (.int .i64 i) es k = some none) ∨ (∃ n v, look es i = some v ∧ Instr.findNow (.int .i64) (.int .i64 i) es k = some (some (k + n, v)) ∧ n < es.length ∧ (es[n]?).map (·.key) = some (.int .i64 i) ∧
      ∀ x j, look (es.modify n fun e => { e with key := .int .i64 i, val := x }) j = if j = i then some x else look es j)
  | [], k, _ => .inl ⟨rfl, rfl⟩
  | e :: es, k, h => by
    obtain ⟨j, hj⟩ := h e (by simp)
    have hk : keyI e.key = some j := by rw [hj]; rfl
    by_cases hij : j = i
    · subst hij
      refine .inr ⟨0, e.val, by simp [look, hk], by simp [Instr.findNow, Instr.sameNow, hj], by simp, by simp [hj], fun x j' => ?_⟩
      simp only [List.modify_zero_cons, look, hk]
      by_cases e1 : j' = j
      · subst e1; simp [keyI]
      · have : ¬ j = j' := fun e => e1 e.symm
        simp [e1, this, keyI]
    · have hb : (i == j) = false := by simp; exact fun e => hij e.symm
      rcases findNow_spec i es (k + 1) (fun e he => h e (by simp [he])) with ⟨h1, h2⟩ | ⟨n, v, h1, h2, h3, h4, h5⟩
      · exact .inl ⟨by simp [look, hk, hij, h1], by simp [Instr.findNow, Instr.sameNow, hj, hb, h2]⟩
      · refine .inr ⟨n + 1, v, by simp [look, hk, hij, h1], by simp [Instr.findNow, Instr.sameNow, hj, hb, h2]; omega, by simp; omega, by simpa using h4, fun x j' => ?_⟩
        simp only [List.modify_succ_cons, look, hk, h5]
        by_cases e1 : j' = i
        · subst e1; simp [hij]
        · by_cases e2 : j = j'
          · subst e2; simp [e1]
          · simp [e1, e2]

section
variable {P : Program} {w : World} {b : Nat} {z : List UInt8} {F : Int → List UInt8}
/-- m[i]. -/
theorem IsMap.lookup (h : IsMap w b z F) {t k e : TypeId} (ht : P.underlying t = some (.map k e)) (hk : P.underlying k = some (.int .i64)) (hz : (P.info? e).bind (·.zero) = some (.agg (bc z).toArray)) (i : Int) :
    (Instr.lookup t (.map (some b)) (.int .i64 i) false).run P w = .ok (.agg (bc (F i)).toArray) w := by
  obtain ⟨es, c, hb, hkeys, hF⟩ := h
  have hFi := hF i
  have hik : MapKept.IsKey (.int .i64) (.int .i64 i) := by simp [MapKept.IsKey]
  cases hq : P.info? e with
  | none => simp [hq] at hz
  | some ie =>
    have hz' : ie.zero = some (.agg (bc z).toArray) := by simpa [hq] using hz
    rcases findNow_spec i es.toList 0 hkeys with ⟨h1, h2⟩ | ⟨n, v, h1, h2, _⟩
    · rw [h1] at hFi
      simp only [Option.getD_none] at hFi
      rw [← hFi]
      simp [Instr.lookup, run_underlying ht, MapKept.run_getObj_map hb, MapKept.run_checkKey hk hik, MapKept.run_findKey hk h2, zeroValue, typeInfo, hq, hz', Result.andThen]
    · rw [h1] at hFi
      simp only [Option.getD_some] at hFi
      rw [← hFi]
      simp [Instr.lookup, run_underlying ht, MapKept.run_getObj_map hb, MapKept.run_checkKey hk hik, MapKept.run_findKey hk h2, Result.andThen]
/-- m[i] = l. -/
theorem IsMap.update (h : IsMap w b z F) {t k e : TypeId} (ht : P.underlying t = some (.map k e)) (hk : P.underlying k = some (.int .i64)) (i : Int) (l : List UInt8) :
    ∃ w', (Instr.mapUpdate t (.map (some b)) (.int .i64 i) (.agg (bc l).toArray)).run P w = .ok () w' ∧ IsMap w' b z (fun j => if j = i then l else F j) ∧ w.grownBy w' (some b) ∧ w'.heap.size = w.heap.size := by
  obtain ⟨es, c, hb, hkeys, hF⟩ := h
  have hik : MapKept.IsKey (.int .i64) (.int .i64 i) := by simp [MapKept.IsKey]
  have gb : ∀ o : Obj, w.grownBy { w with heap := w.heap.setIfInBounds b o } (some b) := fun o => ⟨rfl, rfl, rfl, by simp, fun j _ hj => by
    simp only [Array.getElem?_setIfInBounds]
    rw [if_neg (fun e => hj (by rw [e]))]⟩
  rcases findNow_spec i es.toList 0 hkeys with ⟨h1, h2⟩ | ⟨n, v, h1, h2, h3, h4, h5⟩
  · refine ⟨{ w with heap := w.heap.setIfInBounds b (.map (es.push { key := .int .i64 i, val := .agg (bc l).toArray, born := c }) (c + 1)) }, ?_, ⟨_, _, (MapKept.heap_set hb).1, ?_, ?_⟩, gb _, by simp⟩
    · simp [Instr.mapUpdate, run_underlying ht, MapKept.run_getObj_map hb, MapKept.run_checkKey hk hik, MapKept.run_findKey hk h2, MapKept.run_setObj_map _ hb, Result.andThen]
    · intro e he
      simp only [Array.toList_push, List.mem_append, List.mem_singleton] at he
      rcases he with he | rfl
      · exact hkeys e he
      · exact ⟨i, rfl⟩
    · intro j
      have happ : ∀ (A : List MapEntry) (x : MapEntry), look (A ++ [x]) j = (look A j).or (if keyI x.key = some j then some x.val else none) := by
        intro A x
        induction A with
        | nil => simp [look]
        | cons y A ih => simp only [List.cons_append, look, ih]; split <;> simp
      rw [Array.toList_push, happ]
      by_cases e1 : j = i
      · subst e1
        simp [h1, keyI]
      · have e2 : ¬ i = j := fun e => e1 e.symm
        simp [e1, e2, keyI]
        exact hF j
  · have hes : ((es[n]?).map (·.key)).getD (.int .i64 i) = .int .i64 i := by
      have : es[n]? = es.toList[n]? := by simp
      rw [this, h4]
      rfl
    refine ⟨{ w with heap := w.heap.setIfInBounds b (.map (es.modify n fun e => { e with key := .int .i64 i, val := .agg (bc l).toArray }) c) }, ?_, ⟨_, _, (MapKept.heap_set hb).1, ?_, ?_⟩, gb _, by simp⟩
    · simp [Instr.mapUpdate, run_underlying ht, MapKept.run_getObj_map hb, MapKept.run_checkKey hk hik, MapKept.run_findKey hk h2, MapKept.run_setObj_map _ hb, Result.andThen, hes, MapKept.run_keyThatStays hik]
    · intro e he
      rw [Array.toList_modify] at he
      obtain ⟨j, hj⟩ := List.mem_iff_getElem?.1 he
      rw [List.getElem?_modify] at hj
      obtain ⟨x, hx, rfl⟩ := Option.map_eq_some_iff.1 hj
      by_cases hnj : n = j
      · rw [if_pos hnj]
        exact ⟨i, rfl⟩
      · rw [if_neg hnj]
        exact hkeys x (List.mem_of_getElem? hx)
    · intro j
      rw [Array.toList_modify, h5]
      by_cases e1 : j = i
      · subst e1
        simp
      · simp only [e1, if_false]
        exact hF j
theorem IsMap.did_lookup {o : Oper} {a : Act} (h : IsMap w b z F) {t k e : TypeId} (m x : Operand) (ho : o.op = .lookup t m x false) (ht : P.underlying t = some (.map k e)) (hk : P.underlying k = some (.int .i64)) (hz : (P.info? e).bind (·.zero) = some (.agg (bc z).toArray)) (i : Int)
    (hm : a.eval m = .map (some b)) (hx : a.eval x = .int .i64 i) : Did P o a w (.agg (bc (F i)).toArray) w := by
  left
  unfold execOp
  simp only [ho, hm, hx, Sem.run_bind, h.lookup ht hk hz i, Result.andThen_ok]
  rfl
theorem IsMap.did_update {o : Oper} {a : Act} (h : IsMap w b z F) {t k e : TypeId} (m x y : Operand) (ho : o.op = .mapUpdate t m x y) (ht : P.underlying t = some (.map k e)) (hk : P.underlying k = some (.int .i64)) (i : Int) (l : List UInt8)
    (hm : a.eval m = .map (some b)) (hx : a.eval x = .int .i64 i) (hy : a.eval y = .agg (bc l).toArray) :
    ∃ w', Did P o a w undef w' ∧ IsMap w' b z (fun j => if j = i then l else F j) ∧ w.grownBy w' (some b) ∧ w'.heap.size = w.heap.size := by
  obtain ⟨w', hr, h1, h2, h3⟩ := h.update (P := P) ht hk i l
  refine ⟨w', .inr ⟨?_, rfl⟩, h1, h2, h3⟩
  unfold execOp
  simp only [ho, hm, hx, hy, Sem.run_bind, hr, Result.andThen_ok]
  rfl
end
theorem bc_all (l : List UInt8) : (bc l).toArray.all (·.oneCell') = true := by
  simp only [List.all_toArray, List.all_eq_true]
  exact fun u hu => bc_one l u hu
end Go.Proofs.YtpbpdnjlomhkdaaGreat

namespace Go.Proofs.YtpbpdnjlomhkdaaGreat
open Go.RowKit

theorem txt_append (a b : List UInt8) : txt a ++ txt b = txt (a ++ b) := by
  apply ByteArray.ext
  simp [txt]

theorem txt_size (l : List UInt8) : (txt l).size = l.length := by simp [txt, ByteArray.size]
theorem txt_be (n x : Nat) : (txt (be n x)).size = n := by rw [txt_size, be_length]

theorem be4_bytes (x : Int) (h : 0 ≤ x) (h1 : x < 4294967296) : ∃ b3 b2 b1 b0 : UInt8, be 4 x.toNat = [b3, b2, b1, b0] ∧ x / 16777216 = (b3.toNat : Int) ∧ (x / 65536) % 256 = (b2.toNat : Int) ∧ (x / 256) % 256 = (b1.toNat : Int) ∧ x % 256 = (b0.toNat : Int) := by
  obtain ⟨y, rfl⟩ := Int.eq_ofNat_of_zero_le h
  refine ⟨_, _, _, _, rfl, ?_, ?_, ?_, ?_⟩
  · simp
    omega
  · simp
  · simp
  · simp

set_option maxRecDepth 100000 in
set_option maxHeartbeats 1000000 in
theorem refU32 (x : Int) (w : World) (h0 : 0 ≤ x) (h1 : x < 4294967296) :
    Calls Tryz.prog 160 #[.int .u32 x] w fun e w' => e = .returned (.string (txt (be 4 x.toNat))) ∧ Below w.heap.size w w' := by
  obtain ⟨b3, b2, b1, b0, hbe, e3, e2, e1, e0⟩ := be4_bytes x h0 h1
  have HBE := Lib.hid hbe
  clear hbe
  have v := run_convert_bs (w.alloc (.cells (bc [b3, b2, b1, b0]).toArray 5)) (some ⟨w.heap.size, 0, none⟩) 4 4 [b3, b2, b1, b0] (BS.of_block (heap_alloc_new w _))
  simp only [bc, List.map_cons, List.map_nil] at v
  go_enter Tryz.func160, Tryz.ntmps160
  go_wp2_with fail
  go_ret
  exact ⟨by rw [HBE.out]; rfl, (Below.refl _ _).alloc (Nat.le_refl _) _⟩

def hi32 (x : Nat) : Nat := x / 4294967296
def lo32 (x : Nat) : Nat := x % 4294967296
theorem be8_split (x : Nat) : be 4 (hi32 x) ++ be 4 (lo32 x) = be 8 x := by
  unfold hi32 lo32
  have e : ∀ k, k < 4 → UInt8.ofNat (x % 4294967296 / 2 ^ (8 * k)) = UInt8.ofNat (x / 2 ^ (8 * k)) := by
    intro k hk
    apply UInt8.toNat_inj.1
    have h : k = 0 ∨ k = 1 ∨ k = 2 ∨ k = 3 := by omega
    rcases h with rfl | rfl | rfl | rfl <;> simp <;> omega
  simp only [be, List.cons_append, List.nil_append, Nat.div_div_eq_div_mul]
  rw [e 3 (by omega), e 2 (by omega), e 1 (by omega), e 0 (by omega)]
theorem refU64 (x : Nat) (w : World) (h1 : x < 18446744073709551616) :
    Calls Tryz.prog 159 #[.int .u64 x] w fun e w' => e = .returned (.string (txt (be 8 x))) ∧ Below w.heap.size w w' := by
  have HS := Lib.hid (be8_split x)
  have HE1 : Hid (((x : Int) / 4294967296).toNat = hi32 x) := by show _ = x / 4294967296; omega
  have HE2 : Hid (((x : Int) % 4294967296).toNat = lo32 x) := by show _ = x % 4294967296; omega
  have hq0 : (x : Int) / 4294967296 < 4294967296 := by omega
  have H1 := Lib.hid h1
  clear h1
  go_enter Tryz.func159, Tryz.ntmps159
  go_wp2_with fail
  refine (refU32 _ w (by omega) (by omega)).mono ?_
  rw [HE1.out]
  rintro e w1 ⟨rfl, h1⟩
  have HB1 := Lib.hid h1
  clear h1
  go_wp2_with fail
  refine (refU32 _ w1 (by omega) (by omega)).mono ?_
  rw [HE2.out]
  rintro e w2 ⟨rfl, h2⟩
  have HB2 := Lib.hid (HB1.out.trans (h2.mono HB1.out.size))
  clear h2 HB1
  have z1 := txt_be 4 (hi32 x)
  have z2 := txt_be 4 (lo32 x)
  go_wp2_with fail
  go_ret
  refine ⟨?_, HB2.out⟩
  rw [← HS.out, ← txt_append]
  rfl

set_option maxRecDepth 100000 in
set_option maxHeartbeats 1000000 in
theorem refOpaque (l : List UInt8) (w : World) (hl : l.length ≤ 100000000) :
    Calls Tryz.prog 161 #[.string (txt l)] w fun e w' => e = .returned (.string (txt (opq l))) ∧ Below w.heap.size w w' := by
  have hp := pad_lt l.length
  have Hpm : Hid ((l.length + pad l.length) % 4 = 0) := by show _ = _; unfold pad; omega
  have hsz := txt_size l
  have hap := txt_append
  go_enter Tryz.func161, Tryz.ntmps161
  go_wp2_with fail
  go_loop [0] (fun s => ∃ k : Nat, k ≤ pad l.length ∧ s = .string (txt (l ++ List.replicate k 0))) (fun s => match s with | .string t => l.length + pad l.length - t.size | _ => 0)
  case atStart => exact ⟨0, by omega, by simp⟩
  case round =>
    obtain ⟨k, hk, rfl⟩ := hrel
    have hsk : (txt (l ++ List.replicate k 0)).size = l.length + k := by rw [txt_size, List.length_append, List.length_replicate]
    have HE : Hid (txt (l ++ List.replicate k 0) ++ (⟨#[0]⟩ : ByteArray) = txt (l ++ List.replicate (k + 1) 0)) := by
      show _ = _
      rw [List.replicate_succ', ← List.append_assoc, ← txt_append]
      rfl
    by_cases hlt : k < pad l.length
    · have ht : (((l.length : Int) + (k : Int)) % 4 != 0) = true := by rw [bne_iff_ne]; have := Hpm.out; omega
      go_wp2_with fail
      rw [HE.out]
      refine ⟨⟨k + 1, by omega, rfl⟩, ?_⟩
      show l.length + pad l.length - (txt (l ++ List.replicate (k + 1) 0)).size < l.length + pad l.length - (txt (l ++ List.replicate k 0)).size
      rw [hsk, txt_size, List.length_append, List.length_replicate]
      omega
    · have hkp : k = pad l.length := by omega
      have ht : (((l.length : Int) + (k : Int)) % 4 != 0) = false := by simp; have := Hpm.out; omega
      have Hkp := Lib.hid hkp
      clear hkp hlt HE
      go_wp2_with fail
      refine (refU32 _ w (by omega) (by omega)).mono ?_
      rw [Int.toNat_natCast]
      rintro e w1 ⟨rfl, h1⟩
      have HB1 := Lib.hid h1
      clear h1
      have z1 := txt_be 4 l.length
      go_wp2_with fail
      go_ret
      refine ⟨?_, HB1.out⟩
      unfold opq
      rw [← Hkp.out, List.append_assoc, ← txt_append (be 4 l.length)]
      rfl
end Go.Proofs.YtpbpdnjlomhkdaaGreat

namespace Go.Proofs.YtpbpdnjlomhkdaaGreat
open Go.RowKit

/-- All that is not of S is as it was. -/
def Fr (S : Nat → Prop) (w w' : World) : Prop := Keep (fun k => k < w.heap.size ∧ ¬ S k) w w'

theorem Fr.refl (S : Nat → Prop) (w : World) : Fr S w w := Keep.refl _ _
theorem Fr.trans {S S' : Nat → Prop} {w w1 w2 : World} (h : Fr S w w1) (h2 : Fr S' w1 w2) (hS : ∀ k, S' k → S k ∨ w.heap.size ≤ k) : Fr S w w2 :=
  Keep.trans h (h2.mono fun k hk => ⟨Nat.lt_of_lt_of_le hk.1 h.size, fun h' => by rcases hS k h' with h' | h'; exact hk.2 h'; omega⟩)
theorem Fr.of_below {S : Nat → Prop} {w w' : World} (h : Below w.heap.size w w') : Fr S w w' := (Keep.of_below h).mono fun _ hk => hk.1
theorem Fr.mono {S S' : Nat → Prop} {w w' : World} (h : Fr S w w') (hS : ∀ k, S k → S' k) : Fr S' w w' := Keep.mono h fun k hk => ⟨hk.1, fun h' => hk.2 (hS k h')⟩
theorem Fr.below {S : Nat → Prop} {w w' : World} (h : Fr S w w') {B : Nat} (hB : B ≤ w.heap.size) (hS : ∀ k, S k → B ≤ k) : Below B w w' :=
  Keep.below (Keep.mono h fun k hk => ⟨Nat.lt_of_lt_of_le hk hB, fun h' => by have := hS k h'; omega⟩)

theorem BS.keepK {K : Nat → Prop} {w w' : World} {A : Option Addr} {n : Nat} {l : List UInt8} (h : BS w A n l) (hk : Keep K w w') (hA : 0 < n → ∀ ad, A = some ad → K ad.block) : BS w' A n l :=
  ⟨h.1, fun hn => by
    obtain ⟨b, o, e, hc⟩ := h.2 hn
    exact ⟨b, o, e, fun j hj => (World.cell?_of_block (hk.block b (hA hn _ e))).trans (hc j hj)⟩⟩

/-- A slice as it lies in a cell. -/
structure Sl where
  a : Option Addr
  n : Nat
  c : Nat
def Sl.v (x : Sl) : Value := .slice x.a x.n x.c
/-- A slice of writes, of blocks X. -/
def WS (w : World) (X : Nat → Prop) (A : Option Addr) (n : Nat) (l : List (Int × List UInt8)) : Prop :=
  l.length = n ∧ (0 < n → ∃ b o, A = some ⟨b, o, none⟩ ∧ X b ∧ ∀ k (h : k < l.length), ∃ x : Sl, w.cell? ⟨b, o + k * 2, none⟩ = some (.int .i64 l[k].1) ∧ w.cell? ⟨b, o + k * 2 + 1, none⟩ = some (.slice x.a x.n x.c) ∧ BS w x.a x.n l[k].2 ∧ x.n ≤ x.c ∧ (0 < x.n → ∀ ad, x.a = some ad → X ad.block))
section
variable {w w' : World} {X : Nat → Prop} {A : Option Addr} {n : Nat} {l : List (Int × List UInt8)}
theorem WS.nil : WS w X A 0 [] := ⟨rfl, fun h => absurd h (by omega)⟩
theorem WS.keepK (h : WS w X A n l) (hk : Keep X w w') : WS w' X A n l := by
  refine ⟨h.1, fun hn => ?_⟩
  obtain ⟨b, o, e, hX, hc⟩ := h.2 hn
  refine ⟨b, o, e, hX, fun k hk' => ?_⟩
  obtain ⟨x, h1, h2, h3, h4, h5⟩ := hc k hk'
  exact ⟨x, (World.cell?_of_block (a := ⟨b, o + k * 2, none⟩) (hk.block b hX)).trans h1, (World.cell?_of_block (a := ⟨b, o + k * 2 + 1, none⟩) (hk.block b hX)).trans h2, h3.keepK hk h5, h4, h5⟩
theorem WS.fr (h : WS w X A n l) {T : Nat → Prop} (hf : Fr T w w') (hd : ∀ k, X k → k < w.heap.size ∧ ¬ T k) : WS w' X A n l := h.keepK (Keep.mono hf hd)
theorem WS.mono (h : WS w X A n l) {Y : Nat → Prop} (hY : ∀ k, X k → Y k) : WS w Y A n l := by
  refine ⟨h.1, fun hn => ?_⟩
  obtain ⟨b, o, e, hX, hc⟩ := h.2 hn
  refine ⟨b, o, e, hY b hX, fun k hk' => ?_⟩
  obtain ⟨x, h1, h2, h3, h4, h5⟩ := hc k hk'
  exact ⟨x, h1, h2, h3, h4, fun hn ad e => hY _ (h5 hn ad e)⟩
theorem WS.at (h : WS w X A n l) (k : Nat) (hk : k < n) : ∃ b o x, ∃ hl : k < l.length, A = some ⟨b, o, none⟩ ∧ X b ∧ w.cell? ⟨b, o + k * 2, none⟩ = some (.int .i64 l[k].1) ∧ w.cell? ⟨b, o + k * 2 + 1, none⟩ = some (.slice (Sl.a x) x.n x.c) ∧ BS w x.a x.n l[k].2 ∧ x.n ≤ x.c ∧ (0 < x.n → ∀ ad, x.a = some ad → X ad.block) := by
  have hl : k < l.length := by rw [h.1]; exact hk
  obtain ⟨b, o, e, hX, hc⟩ := h.2 (by omega)
  obtain ⟨x, h1, h2, h3, h4, h5⟩ := hc k hl
  exact ⟨b, o, x, hl, e, hX, h1, h2, h3, h4, h5⟩
end

theorem Own.new {w w' : World} {A : Option Addr} {n c : Nat} {l : List UInt8} (h : Own w w' A n c l) : ∀ ad, A = some ad → w.heap.size ≤ ad.block := by
  intro ad e
  rcases h.1.2 with ⟨h1, _⟩ | ⟨g, cap, cur, h1, h2, _⟩
  · injection h1 with h1 _ _
    rw [h1] at e
    cases e
  · injection h1 with h1 _ _
    rw [h1] at e
    cases e
    exact h2
/-- A write as cells. -/
def wv (i : Int) (x : Sl) : List Value := [.int .i64 i, .slice x.a x.n x.c]
theorem wv_one (i : Int) (x : Sl) : (wv i x).toArray.all (·.oneCell') = true := by simp [wv, Value.oneCell']
theorem WS.news {w : World} {b o : Nat} {i : Int} {x : Sl} (h1 : w.cell? ⟨b, o, none⟩ = some (.int .i64 i)) (h2 : w.cell? ⟨b, o + 1, none⟩ = some (.slice x.a x.n x.c)) : ∀ j u, (wv i x)[j]? = some u → w.cell? ((⟨b, o, none⟩ : Addr).add j) = some u := by
  intro j u hu
  rw [add_plain]
  match j with
  | 0 => simp [wv] at hu; subst hu; exact h1
  | 1 => simp [wv] at hu; subst hu; exact h2
  | n + 2 => simp [wv] at hu

/-- The cells of writes. -/
def wcs : List (Nat × List UInt8) → List Sl → List Value
  | x :: l, s :: r => wv x.1 s ++ wcs l r
  | _, _ => []
theorem wcs_len : ∀ (l : List (Nat × List UInt8)) (sl : List Sl), sl.length = l.length → (wcs l sl).length = l.length * 2
  | [], _, _ => by simp [wcs]
  | x :: l, [], h => by simp at h
  | x :: l, s :: r, h => by
    have := wcs_len l r (by simpa using h)
    simp only [wcs, List.length_append, this, List.length_cons]
    simp [wv]
    omega
theorem wcs_snoc : ∀ (l : List (Nat × List UInt8)) (sl : List Sl) (x : Nat × List UInt8) (s : Sl), sl.length = l.length → wcs (l ++ [x]) (sl ++ [s]) = wcs l sl ++ wv x.1 s
  | [], [], x, s, _ => by simp [wcs]
  | [], _ :: _, _, _, h => by simp at h
  | _ :: _, [], _, _, h => by simp at h
  | y :: l, t :: r, x, s, h => by
    simp only [List.cons_append, wcs, wcs_snoc l r x s (by simpa using h), List.append_assoc]
theorem wcs_get : ∀ (l : List (Nat × List UInt8)) (sl : List Sl) (h : sl.length = l.length) (k : Nat) (hk : k < l.length), (wcs l sl)[k * 2]? = some (.int .i64 (l[k].1 : Int)) ∧ (wcs l sl)[k * 2 + 1]? = some (.slice (sl[k]'(by omega)).a (sl[k]'(by omega)).n (sl[k]'(by omega)).c)
  | [], _, _, k, hk => by simp at hk
  | _ :: _, [], h, _, _ => by simp at h
  | x :: l, s :: r, h, k, hk => by
    match k with
    | 0 => simp [wcs, wv]
    | k + 1 =>
      have := wcs_get l r (by simpa using h) k (by simpa using hk)
      simp only [wcs]
      rw [show (k + 1) * 2 = k * 2 + 2 by omega, List.getElem?_append_right (by simp [wv]), List.getElem?_append_right (by simp [wv])]
      simpa [wv] using this
theorem fr_grown {W W' : World} {v : Value} (hg : W.grownBy W' v.ownBlock) : Fr (fun i => v.ownBlock = some i) W W' := ⟨hg.os, hg.tape, hg.output, hg.size, fun i hi => hg.block i hi.1 (fun e => hi.2 e.symm)⟩
end Go.Proofs.YtpbpdnjlomhkdaaGreat

namespace Go.Proofs.YtpbpdnjlomhkdaaGreat

/-- An entry. -/
structure En where
  (ck ino gen : Nat)
  nm : List UInt8
  deriving DecidableEq, Inhabited

namespace En
/-- All numbers go into their fields. -/
structure Wide (x : En) : Prop where
  c : x.ck < 18446744073709551616
  i : x.ino < 4294967296
  g : x.gen < 4294967296
end En

/-- May these bytes be a name? -/
def nameOk (l : List UInt8) : Bool := decide (1 ≤ l.length) && decide (l.length ≤ 24) && !(l == [46]) && !(l == [46, 46]) && l.all fun b => !(b == 0) && !(b == 47)
def nameE (l : List UInt8) : Int := if nameOk l then 0 else 67
/-- The cookie ahead of place k. -/
def lastAt (es : List En) (k : Nat) : Nat := if k = 0 then 0 else (es.getD (k - 1) default).ck
def stepOk (es : List En) (k : Nat) : Bool := nameOk (es.getD k default).nm && decide (lastAt es k < (es.getD k default).ck)
def okB (es : List En) : Bool := (List.range es.length).all (stepOk es) && decide ((es.map En.nm).Nodup)
def chkE (es : List En) : Int := if okB es then 0 else 11
/-- The first place of a name, or -1. -/
def fnd (es : List En) (nm : List UInt8) : Int := if es.findIdx (fun e => e.nm == nm) < es.length then (es.findIdx (fun e => e.nm == nm) : Int) else -1
/-- The cookie of the last one. -/
def lastCk (es : List En) : Nat := lastAt es es.length
/-- One more. -/
def addE (es : List En) (e : En) : Int := if nameOk e.nm = false then 67 else if 0 ≤ fnd es e.nm then 61 else if e.ck ≤ lastCk es then 70 else 0
def addL (es : List En) (e : En) : List En := if addE es e = 0 then es ++ [e] else []
def remE (es : List En) (nm : List UInt8) : Int := if fnd es nm < 0 then 60 else 0
def remL (es : List En) (nm : List UInt8) : List En := if fnd es nm < 0 then [] else es.take (fnd es nm).toNat ++ es.drop ((fnd es nm).toNat + 1)
/-- The first place of a cookie that is greater. -/
def frm (es : List En) (c : Nat) : Nat := es.findIdx (fun e => decide (c < e.ck))
def aftL (es : List En) (c : Nat) (most : Int) : List En := (es.drop (frm es c)).take most.toNat
def aftB (es : List En) (c : Nat) (most : Int) : Bool := decide ((es.drop (frm es c)).length ≤ most.toNat)

/-- The bytes of one entry, .. -/
def enc1 (e : En) : List UInt8 := be 8 e.ck ++ be 4 e.ino ++ be 4 e.gen ++ opq e.nm
/-- .. of all of them. -/
def encs (es : List En) : List UInt8 := es.flatMap enc1
def putE (es : List En) : List UInt8 := if okB es then encs es else []

/-- What is read of one entry: what is left behind it, and the entry. -/
def r1 (l : List UInt8) := rdN 8 (l, 0)
def r2 (l : List UInt8) := rdN 4 (r1 l).1
def r3 (l : List UInt8) := rdN 4 (r2 l).1
def r4 (l : List UInt8) := rdO 24 (r3 l).1
def one (l : List UInt8) : En := ⟨(r1 l).2, (r2 l).2, (r3 l).2, (r4 l).2⟩
/-- Behind k entries: what is left, the error, the entries. -/
def reads : Nat → List UInt8 → List UInt8 × Int × List En
  | 0, l => (l, 0, [])
  | k + 1, l => if (reads k l).2.1 ≠ 0 ∨ (reads k l).1 = [] then reads k l else ((r4 (reads k l).1).1.1, (r4 (reads k l).1).1.2, (reads k l).2.2 ++ [one (reads k l).1])
/-- All that is read. -/
def all (l : List UInt8) := reads l.length l
def errE (l : List UInt8) : Int := if (all l).2.1 ≠ 0 then (all l).2.1 else chkE (all l).2.2
def gotE (l : List UInt8) : List En := if errE l = 0 then (all l).2.2 else []

/-! What is read and put. -/
theorem rdN_back (n : Nat) (s : St) (h : (rdN n s).1.2 = 0) : s.2 = 0 ∧ s.1 = be n (rdN n s).2 ++ (rdN n s).1.1 ∧ (rdN n s).2 < 256 ^ n := by
  obtain ⟨l, e⟩ := s
  unfold rdN at h ⊢
  simp only at h ⊢
  split
  · rename_i h1
    rw [if_pos h1] at h
    exact absurd h h1
  · rename_i h1
    rw [if_neg h1] at h
    split
    · rename_i h2
      rw [if_pos h2] at h
      simp at h
    · rename_i h2
      have h3 : (l.take n).length = n := by rw [List.length_take]; omega
      refine ⟨Decidable.not_not.1 h1, ?_, ?_⟩
      · simp only
        have := be_num (l.take n)
        rw [h3] at this
        rw [this, List.take_append_drop]
      · simp only
        have := num_lt (l.take n)
        rwa [h3] at this
theorem rdN_lt (n : Nat) (s : St) : (rdN n s).2 < 256 ^ n := by
  unfold rdN
  split
  · exact Nat.pow_pos (by omega)
  · split
    · exact Nat.pow_pos (by omega)
    · simp only
      have h1 := num_lt (s.1.take n)
      have h2 : (s.1.take n).length ≤ n := by rw [List.length_take]; omega
      exact Nat.lt_of_lt_of_le h1 (Nat.pow_le_pow_right (by omega) h2)
theorem one_wide (l : List UInt8) : (one l).Wide := ⟨rdN_lt 8 _, rdN_lt 4 _, rdN_lt 4 _⟩
theorem rdO_err2 (m : Int) (s : St) (h : (rdO m s).1.2 = 0) : s.2 = 0 := by
  unfold rdO at h
  by_cases h1 : (rdN 4 s).1.2 = 0
  · exact (rdN_back 4 s h1).1
  · rw [if_pos h1] at h
    exact absurd h h1
/-- What is read without an error is just what is put. -/
theorem one_back (l : List UInt8) (h : (r4 l).1.2 = 0) : l = enc1 (one l) ++ (r4 l).1.1 := by
  have h3 : (r3 l).1.2 = 0 := rdO_err2 24 _ h
  obtain ⟨h2, b3, _⟩ := rdN_back 4 _ h3
  obtain ⟨h1, b2, _⟩ := rdN_back 4 _ h2
  obtain ⟨_, b1, _⟩ := rdN_back 8 (l, 0) h1
  have b4 : (r3 l).1.1 = opq (r4 l).2 ++ (r4 l).1.1 := by
    have e : (r3 l).1 = ((r3 l).1.1, 0) := by rw [← h3]
    have := rdO_one 24 (r3 l).1.1 (by rw [← e]; exact h)
    rwa [← e] at this
  have c3 : (r2 l).1.1 = be 4 (r3 l).2 ++ (r3 l).1.1 := b3
  have c2 : (r1 l).1.1 = be 4 (r2 l).2 ++ (r2 l).1.1 := b2
  have c1 : l = be 8 (r1 l).2 ++ (r1 l).1.1 := b1
  conv => lhs; rw [c1, c2, c3, b4]
  simp [enc1, one]
theorem opq_pos (b : List UInt8) : 4 ≤ (opq b).length := by rw [opq_length]; omega
theorem enc1_length (e : En) : (enc1 e).length = 20 + e.nm.length + pad e.nm.length := by simp [enc1, be_length, opq_length]; omega
theorem reads_err (k : Nat) (l : List UInt8) (h : (reads k l).2.1 ≠ 0 ∨ (reads k l).1 = []) : reads (k + 1) l = reads k l := if_pos h
theorem reads_more (k : Nat) (l : List UInt8) (h : (reads k l).2.1 = 0) (h2 : (reads k l).1 ≠ []) : reads (k + 1) l = ((r4 (reads k l).1).1.1, (r4 (reads k l).1).1.2, (reads k l).2.2 ++ [one (reads k l).1]) := by
  show (if _ then _ else _) = _
  rw [if_neg]
  rintro (h3 | h3)
  · exact h3 h
  · exact h2 h3
theorem reads_stop (k : Nat) (l : List UInt8) (h : (reads k l).2.1 ≠ 0 ∨ (reads k l).1 = []) : ∀ m, reads (k + m) l = reads k l
  | 0 => rfl
  | m + 1 => by
    have ih := reads_stop k l h m
    rw [← Nat.add_assoc, reads_err (k + m) l (by rw [ih]; exact h), ih]
/-- Behind k entries without an error: the bytes are those of the entries and what is left. -/
theorem reads_back (l : List UInt8) : ∀ k, (reads k l).2.1 = 0 → l = encs (reads k l).2.2 ++ (reads k l).1
  | 0, _ => rfl
  | k + 1, h => by
    by_cases h1 : (reads k l).2.1 ≠ 0 ∨ (reads k l).1 = []
    · rw [reads_err k l h1] at h ⊢
      exact reads_back l k h
    · have h2 : (reads k l).2.1 = 0 := Decidable.not_not.1 fun e => h1 (.inl e)
      have h3 : (reads k l).1 ≠ [] := fun e => h1 (.inr e)
      have ih := reads_back l k h2
      rw [reads_more k l h2 h3] at h ⊢
      have := one_back _ h
      simp only [encs, List.flatMap_append, List.flatMap_cons, List.flatMap_nil, List.append_nil, List.append_assoc]
      rw [← this]
      exact ih
theorem reads_len (l : List UInt8) : ∀ k, (reads k l).2.1 = 0 → (reads k l).1 ≠ [] → (reads k l).1.length + 20 * k ≤ l.length ∧ (reads k l).2.2.length = k
  | 0, _, _ => ⟨by show l.length + 20 * 0 ≤ _; omega, rfl⟩
  | k + 1, h, hn => by
    by_cases h1 : (reads k l).2.1 ≠ 0 ∨ (reads k l).1 = []
    · rw [reads_err k l h1] at h hn
      exact absurd h1 (by rintro (h2 | h2); exact h2 h; exact hn h2)
    · have h2 : (reads k l).2.1 = 0 := Decidable.not_not.1 fun e => h1 (.inl e)
      have h3 : (reads k l).1 ≠ [] := fun e => h1 (.inr e)
      obtain ⟨i1, i2⟩ := reads_len l k h2 h3
      rw [reads_more k l h2 h3] at h hn ⊢
      have := congrArg List.length (one_back _ h)
      rw [List.length_append, enc1_length] at this
      simp only [List.length_append, List.length_cons, List.length_nil]
      omega
/-- As many rounds as there are bytes are enough. -/
theorem reads_end (l : List UInt8) : (all l).2.1 ≠ 0 ∨ (all l).1 = [] := by
  by_cases h : (all l).2.1 = 0
  · right
    by_cases h2 : (all l).1 = []
    · exact h2
    · have := (reads_len l l.length h h2).1
      have h3 : 0 < (all l).1.length := List.length_pos_iff.2 h2
      unfold all at h3
      have : l.length = 0 := by omega
      have hl : l = [] := List.eq_nil_of_length_eq_zero this
      subst hl
      exact absurd rfl h2
  · exact .inl h
theorem all_of (k : Nat) (l : List UInt8) (hk : k ≤ l.length) (h : (reads k l).2.1 ≠ 0 ∨ (reads k l).1 = []) : all l = reads k l := by
  have e : l.length = k + (l.length - k) := by omega
  unfold all
  rw [e]
  exact reads_stop k l h _
theorem reads_wide (l : List UInt8) : ∀ k, ∀ e ∈ (reads k l).2.2, e.Wide
  | 0, e, h => by cases h
  | k + 1, e, h => by
    by_cases h1 : (reads k l).2.1 ≠ 0 ∨ (reads k l).1 = []
    · rw [reads_err k l h1] at h
      exact reads_wide l k e h
    · have h2 : (reads k l).2.1 = 0 := Decidable.not_not.1 fun e => h1 (.inl e)
      have h3 : (reads k l).1 ≠ [] := fun e => h1 (.inr e)
      rw [reads_more k l h2 h3] at h
      rcases List.mem_append.1 h with h | h
      · exact reads_wide l k e h
      · rw [List.mem_singleton.1 h]
        exact one_wide _
theorem gotE_wide (l : List UInt8) : ∀ e ∈ gotE l, e.Wide := by
  unfold gotE
  split
  · exact reads_wide l l.length
  · intro e h; cases h
theorem errE_cases (l : List UInt8) (h : errE l = 0) : (all l).2.1 = 0 ∧ okB (all l).2.2 = true ∧ gotE l = (all l).2.2 := by
  have hg : gotE l = (all l).2.2 := if_pos h
  unfold errE at h
  split at h
  · rename_i h1
    exact absurd h h1
  · rename_i h1
    refine ⟨Decidable.not_not.1 h1, ?_, hg⟩
    unfold chkE at h
    split at h
    · rename_i h2
      exact h2
    · cases h
/-- What was got is put as the same bytes. -/
theorem got_back (l : List UInt8) (h : errE l = 0) : okB (gotE l) = true ∧ putE (gotE l) = l := by
  obtain ⟨h1, h2, h3⟩ := errE_cases l h
  rw [h3]
  refine ⟨h2, ?_⟩
  unfold putE
  rw [if_pos h2]
  have hb := reads_back l l.length h1
  rcases reads_end l with h4 | h4
  · exact absurd h1 h4
  · have e : l = encs (all l).2.2 ++ (all l).1 := hb
    rw [h4, List.append_nil] at e
    exact e.symm
/-- What is put is read as it was. -/
theorem one_enc (e : En) (t : List UInt8) (hw : e.Wide) (hn : e.nm.length ≤ 24) : one (enc1 e ++ t) = e ∧ (r4 (enc1 e ++ t)).1 = (t, 0) := by
  have e1 : r1 (enc1 e ++ t) = ((be 4 e.ino ++ (be 4 e.gen ++ (opq e.nm ++ t)), 0), e.ck) := by
    unfold r1 enc1
    rw [List.append_assoc, List.append_assoc, List.append_assoc]
    exact rdN_be 8 _ _ hw.c
  have e2 : r2 (enc1 e ++ t) = ((be 4 e.gen ++ (opq e.nm ++ t), 0), e.ino) := by
    unfold r2
    rw [e1]
    exact rdN_be 4 _ _ hw.i
  have e3 : r3 (enc1 e ++ t) = ((opq e.nm ++ t, 0), e.gen) := by
    unfold r3
    rw [e2]
    exact rdN_be 4 _ _ hw.g
  have e4 : r4 (enc1 e ++ t) = ((t, 0), e.nm) := by
    unfold r4
    rw [e3]
    exact rdO_opq 24 _ _ (by omega) (by omega)
  exact ⟨by unfold one; rw [e1, e2, e3, e4], by rw [e4]⟩
theorem encs_cons (e : En) (r : List En) : encs (e :: r) = enc1 e ++ encs r := rfl
theorem reads_encs (es : List En) (hw : ∀ e ∈ es, e.Wide) (hn : ∀ e ∈ es, e.nm.length ≤ 24) : ∀ k, k ≤ es.length → reads k (encs es) = (encs (es.drop k), 0, es.take k)
  | 0, _ => rfl
  | k + 1, h => by
    have ih := reads_encs es hw hn k (by omega)
    have hk : k < es.length := by omega
    have hd : es.drop k = es[k] :: es.drop (k + 1) := List.drop_eq_getElem_cons hk
    have hr : encs (es.drop k) = enc1 es[k] ++ encs (es.drop (k + 1)) := by rw [hd]; rfl
    obtain ⟨h1, h2⟩ := one_enc es[k] (encs (es.drop (k + 1))) (hw _ (List.getElem_mem hk)) (hn _ (List.getElem_mem hk))
    rw [reads_more k _ (by rw [ih]) (by
      rw [ih]
      show encs (es.drop k) ≠ []
      intro e
      rw [hr] at e
      have := congrArg List.length e
      rw [List.length_append, enc1_length] at this
      simp at this)]
    rw [ih]
    simp only
    rw [hr, h1, h2, List.take_succ_eq_append_getElem hk]
theorem okB_at (es : List En) (h : okB es = true) (k : Nat) (hk : k < es.length) : nameOk es[k].nm = true ∧ lastAt es k < es[k].ck := by
  unfold okB at h
  rw [Bool.and_eq_true, List.all_eq_true] at h
  have := h.1 k (List.mem_range.2 hk)
  unfold stepOk at this
  rw [Bool.and_eq_true, decide_eq_true_eq, List.getD_eq_getElem?_getD, List.getElem?_eq_getElem hk] at this
  exact this
theorem nameOk_len (l : List UInt8) (h : nameOk l = true) : 1 ≤ l.length ∧ l.length ≤ 24 := by
  simp only [nameOk, Bool.and_eq_true, decide_eq_true_eq] at h
  exact ⟨h.1.1.1.1, h.1.1.1.2⟩
theorem okB_names (es : List En) (h : okB es = true) : ∀ e ∈ es, e.nm.length ≤ 24 := by
  intro e he
  obtain ⟨k, hk, rfl⟩ := List.getElem_of_mem he
  exact (nameOk_len _ (okB_at es h k hk).1).2
/-- What was put is got as it was. -/
theorem got_put (es : List En) (hw : ∀ e ∈ es, e.Wide) (h : okB es = true) : errE (putE es) = 0 ∧ gotE (putE es) = es := by
  have hp : putE es = encs es := if_pos h
  rw [hp]
  have hn := okB_names es h
  have hl : es.length ≤ (encs es).length := by
    clear hw h hp hn
    induction es with
    | nil => exact Nat.zero_le _
    | cons e r ih =>
      rw [encs_cons, List.length_append, enc1_length, List.length_cons]
      omega
  have hr := reads_encs es hw hn es.length (Nat.le_refl _)
  rw [List.drop_length, List.take_length] at hr
  have ha : all (encs es) = ([], 0, es) := by
    rw [all_of es.length (encs es) hl (by rw [hr]; exact .inr rfl), hr]
    rfl
  have he : errE (encs es) = 0 := by
    unfold errE
    rw [ha]
    show (if ((0 : Int) ≠ 0) then _ else chkE es) = 0
    rw [if_neg (by simp)]
    exact if_pos h
  refine ⟨he, ?_⟩
  unfold gotE
  rw [if_pos he, ha]
theorem encs_mod (es : List En) : (encs es).length % 4 = 0 := by
  induction es with
  | nil => rfl
  | cons e r ih =>
    rw [encs_cons, List.length_append, enc1_length]
    unfold pad
    omega
end Go.Proofs.YtpbpdnjlomhkdaaGreat
