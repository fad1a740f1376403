/-
  Bitmaps, plain (layer 6): whether one is taken, with one taken or not, how many are, which are drawn. Nothing of the program is named here.
-/
import Derived.KernelRfl
namespace Go.Proofs.YtkodjojidoigiaaDoor
namespace Bt

/-- Is the i-th bit set? -/
def has (l : List UInt8) (i : Nat) : Bool := (l.getD (i / 8) 0).toNat.testBit (7 - i % 8)
def hasI (l : List UInt8) (i : Int) : Bool := if 0 ≤ i then has l i.toNat else false
/-- Without noughts at the end. -/
def trim (l : List UInt8) : List UInt8 := (l.reverse.dropWhile (· == 0)).reverse
/-- A byte with one bit set, or not. -/
def chg (b : UInt8) (k : Nat) (t : Bool) : UInt8 :=
  if t then (if b.toNat.testBit k then b else UInt8.ofNat (b.toNat + 2 ^ k)) else (if b.toNat.testBit k then UInt8.ofNat (b.toNat - 2 ^ k) else b)
/-- As many bytes as the bit needs, if it is to be set. -/
def pre (l : List UInt8) (i : Nat) (t : Bool) : List UInt8 := if t then l ++ List.replicate (i / 8 + 1 - l.length) 0 else l
def put (l : List UInt8) (i : Nat) (t : Bool) : List UInt8 := (pre l i t).set (i / 8) (chg ((pre l i t).getD (i / 8) 0) (7 - i % 8) t)
def wit (l : List UInt8) (i : Nat) (t : Bool) : List UInt8 := trim (put l i t)
def witI (l : List UInt8) (i : Int) (t : Bool) : List UInt8 := if 0 ≤ i then wit l i.toNat t else trim l
/-- How many below n are taken. -/
def cnt (l : List UInt8) (n : Nat) : Nat := ((List.range n).filter (has l)).length
/-- Which below n are free. -/
def fr (l : List UInt8) (n : Nat) : List Nat := (List.range n).filter (fun i => !has l i)

theorem trim_nil : trim [] = [] := rfl
theorem trim_zero (a : List UInt8) : trim (a ++ [0]) = trim a := by simp [trim]
theorem trim_other (a : List UInt8) {b : UInt8} (h : b ≠ 0) : trim (a ++ [b]) = a ++ [b] := by
  have : (b == 0) = false := by simpa using h
  simp [trim, this]
theorem list_snoc (l : List UInt8) : l = [] ∨ ∃ a b, l = a ++ [b] := by
  rcases List.eq_nil_or_concat l with h | ⟨a, b, h⟩
  · exact .inl h
  · exact .inr ⟨a, b, by simpa using h⟩
/-- Does it end with no nought? -/
def Trimmed (l : List UInt8) : Prop := l = [] ∨ ∃ a b, l = a ++ [b] ∧ b ≠ 0
theorem trim_of {l : List UInt8} (h : Trimmed l) : trim l = l := by
  rcases h with rfl | ⟨a, b, rfl, h⟩
  · rfl
  · exact trim_other a h
theorem ind_snoc {p : List UInt8 → Prop} (h0 : p []) (h1 : ∀ a b, p a → p (a ++ [b])) (l : List UInt8) : p l := by
  suffices h : ∀ n (l : List UInt8), l.length = n → p l from h _ l rfl
  intro n
  induction n with
  | zero => intro l hl; rw [List.eq_nil_of_length_eq_zero hl]; exact h0
  | succ n ih =>
    intro l hl
    rcases list_snoc l with rfl | ⟨a, b, rfl⟩
    · exact h0
    · exact h1 a b (ih a (by simp at hl; omega))
theorem trim_trimmed (l : List UInt8) : Trimmed (trim l) := by
  refine ind_snoc (p := fun l => Trimmed (trim l)) (.inl rfl) (fun a b ih => ?_) l
  by_cases hb : b = 0
  · subst hb; rw [trim_zero]; exact ih
  · rw [trim_other a hb]; exact .inr ⟨a, b, rfl, hb⟩
theorem trim_getD (l : List UInt8) (k : Nat) : (trim l).getD k 0 = l.getD k 0 := by
  refine ind_snoc (p := fun l => (trim l).getD k 0 = l.getD k 0) rfl (fun a b ih => ?_) l
  by_cases hb : b = 0
  · subst hb
    rw [trim_zero, ih]
    simp only [List.getD_eq_getElem?_getD, List.getElem?_append]
    by_cases hk : k < a.length
    · simp [hk]
    · have h2 : a[k]? = none := List.getElem?_eq_none (by omega)
      simp only [if_neg hk, h2]
      rcases Nat.eq_zero_or_pos (k - a.length) with e | e
      · simp [e]
      · rw [List.getElem?_eq_none (by simp; omega)]
  · rw [trim_other a hb]
theorem trim_length (l : List UInt8) : (trim l).length ≤ l.length := by
  refine ind_snoc (p := fun l => (trim l).length ≤ l.length) (Nat.le_refl _) (fun a b ih => ?_) l
  by_cases hb : b = 0
  · subst hb; rw [trim_zero]; simp; omega
  · rw [trim_other a hb]; exact Nat.le_refl _
theorem has_trim (l : List UInt8) (k : Nat) : has (trim l) k = has l k := by unfold has; rw [trim_getD]
theorem has_out {l : List UInt8} {k : Nat} (h : l.length ≤ k / 8) : has l k = false := by
  unfold has
  rw [List.getD_eq_getElem?_getD, List.getElem?_eq_none h]
  simp
/-- A byte that is no nought has a bit. -/
theorem byte_bit {b : UInt8} (h : b ≠ 0) : ∃ j, j < 8 ∧ b.toNat.testBit (7 - j) = true := by
  have hb := b.toNat_lt
  have h0 : b.toNat ≠ 0 := fun e => h (UInt8.toNat_inj.1 (by simpa using e))
  have : ∀ x : Fin 256, x.1 ≠ 0 → ∃ j : Fin 8, x.1.testBit (7 - j.1) = true := by decide +kernel
  obtain ⟨j, hj⟩ := this ⟨b.toNat, hb⟩ h0
  exact ⟨j.1, j.2, hj⟩
/-- Two bytes with the same bits are the same. -/
theorem byte_ext {a b : UInt8} (h : ∀ j, j < 8 → a.toNat.testBit (7 - j) = b.toNat.testBit (7 - j)) : a = b := by
  apply UInt8.toNat_inj.1
  apply Nat.eq_of_testBit_eq
  intro i
  by_cases hi : i < 8
  · have := h (7 - i) (by omega)
    rwa [show 7 - (7 - i) = i by omega] at this
  · have ha : a.toNat < 2 ^ i := Nat.lt_of_lt_of_le a.toNat_lt (Nat.pow_le_pow_right (n := 2) (by omega) (show 8 ≤ i by omega))
    have hb : b.toNat < 2 ^ i := Nat.lt_of_lt_of_le b.toNat_lt (Nat.pow_le_pow_right (n := 2) (by omega) (show 8 ≤ i by omega))
    rw [Nat.testBit_lt_two_pow ha, Nat.testBit_lt_two_pow hb]
theorem getD_ext {a b : List UInt8} (h : ∀ k, has a k = has b k) (i : Nat) : a.getD i 0 = b.getD i 0 := by
  apply byte_ext
  intro j hj
  have := h (8 * i + j)
  unfold has at this
  rwa [show (8 * i + j) / 8 = i by omega, show (8 * i + j) % 8 = j by omega] at this
theorem trimmed_le {a b : List UInt8} (ha : Trimmed a) (h : ∀ k, has a k = has b k) : a.length ≤ b.length := by
  rcases ha with rfl | ⟨c, x, rfl, hx⟩
  · simp
  · rcases Nat.lt_or_ge c.length b.length with h1 | h1
    · simp; omega
    · exfalso
      have := getD_ext h c.length
      rw [List.getD_eq_getElem?_getD, List.getD_eq_getElem?_getD, List.getElem?_eq_none h1] at this
      simp at this
      exact hx this
/-- Two that end with no nought, and have the same bits, are the same. -/
theorem trimmed_ext {a b : List UInt8} (ha : Trimmed a) (hb : Trimmed b) (h : ∀ k, has a k = has b k) : a = b := by
  have h1 := trimmed_le ha h
  have h2 := trimmed_le hb (fun k => (h k).symm)
  apply List.ext_getElem (by omega)
  intro i hi hj
  have := getD_ext h i
  rwa [List.getD_eq_getElem?_getD, List.getD_eq_getElem?_getD, List.getElem?_eq_getElem hi, List.getElem?_eq_getElem hj] at this
theorem trim_ext {a b : List UInt8} (h : ∀ k, has a k = has b k) : trim a = trim b :=
  trimmed_ext (trim_trimmed a) (trim_trimmed b) fun k => by rw [has_trim, has_trim, h]

theorem chg_all : ∀ x : Fin 256, ∀ k : Fin 8, ∀ t : Bool, ∀ j : Fin 8, (if t then (if x.1.testBit k.1 then x.1 else x.1 + 2 ^ k.1) else (if x.1.testBit k.1 then x.1 - 2 ^ k.1 else x.1)).testBit j.1 = (if j.1 = k.1 then t else x.1.testBit j.1) ∧
    (if t then (if x.1.testBit k.1 then x.1 else x.1 + 2 ^ k.1) else (if x.1.testBit k.1 then x.1 - 2 ^ k.1 else x.1)) < 256 := by decide +kernel
theorem chg_nat (b : UInt8) (k : Nat) (hk : k < 8) (t : Bool) : (chg b k t).toNat = if t then (if b.toNat.testBit k then b.toNat else b.toNat + 2 ^ k) else (if b.toNat.testBit k then b.toNat - 2 ^ k else b.toNat) := by
  have h := (chg_all ⟨b.toNat, b.toNat_lt⟩ ⟨k, hk⟩ t ⟨0, by omega⟩).2
  have hb := b.toNat_lt
  unfold chg
  cases t <;> cases hc : b.toNat.testBit k <;> simp [hc] at h ⊢
  · omega
  · omega
theorem chg_bit (b : UInt8) (k : Nat) (hk : k < 8) (t : Bool) (j : Nat) (hj : j < 8) : (chg b k t).toNat.testBit j = if j = k then t else b.toNat.testBit j := by
  rw [chg_nat b k hk t]
  exact (chg_all ⟨b.toNat, b.toNat_lt⟩ ⟨k, hk⟩ t ⟨j, hj⟩).1

theorem pre_getD (l : List UInt8) (i : Nat) (t : Bool) (k : Nat) : (pre l i t).getD k 0 = l.getD k 0 := by
  unfold pre
  cases t
  · rfl
  · simp only [if_true, List.getD_eq_getElem?_getD, List.getElem?_append]
    by_cases hk : k < l.length
    · simp [hk]
    · have h2 : l[k]? = none := List.getElem?_eq_none (by omega)
      simp only [if_neg hk, h2, List.getElem?_replicate]
      split <;> rfl
theorem pre_length (l : List UInt8) (i : Nat) (t : Bool) : (pre l i t).length = if t then max l.length (i / 8 + 1) else l.length := by
  unfold pre
  cases t <;> simp; omega
theorem put_length (l : List UInt8) (i : Nat) (t : Bool) : (put l i t).length = (pre l i t).length := by simp [put]
theorem has_put (l : List UInt8) (i : Nat) (t : Bool) (k : Nat) : has (put l i t) k = if k = i then t else has l k := by
  unfold has put
  rw [List.getD_eq_getElem?_getD, List.getElem?_set]
  by_cases e : i / 8 = k / 8
  · by_cases hl : i / 8 < (pre l i t).length
    · simp only [e, if_true, if_pos (e ▸ hl), Option.getD_some]
      rw [chg_bit _ _ (by omega) _ _ (by omega), pre_getD]
      by_cases h2 : k = i
      · subst h2; simp
      · rw [if_neg h2, if_neg (by omega)]
    · have ht : t = false := by
        cases t
        · rfl
        · rw [pre_length] at hl; simp at hl; omega
      subst ht
      have hl' : ¬ k / 8 < (pre l i false).length := e ▸ hl
      simp only [e, if_true, if_neg hl', Option.getD_none]
      have : l.getD (k / 8) 0 = 0 := by
        rw [List.getD_eq_getElem?_getD, List.getElem?_eq_none (by unfold pre at hl'; simpa using hl')]
        rfl
      rw [this]
      simp
  · rw [if_neg e, ← List.getD_eq_getElem?_getD, pre_getD, if_neg (fun h => e (by rw [h]))]
theorem has_wit (l : List UInt8) (i : Nat) (t : Bool) (k : Nat) : has (wit l i t) k = if k = i then t else has l k := by
  unfold wit
  rw [has_trim, has_put]
theorem wit_trimmed (l : List UInt8) (i : Nat) (t : Bool) : Trimmed (wit l i t) := trim_trimmed _
theorem wit_length (l : List UInt8) (i : Nat) (t : Bool) : (wit l i t).length ≤ max l.length (i / 8 + 1) := by
  have h1 := trim_length (put l i t)
  rw [put_length, pre_length] at h1
  unfold wit
  cases t <;> simp at h1 <;> omega
theorem wit_again (l : List UInt8) (i : Nat) (t : Bool) : wit (wit l i t) i t = wit l i t :=
  trimmed_ext (wit_trimmed _ _ _) (wit_trimmed _ _ _) fun k => by rw [has_wit]; split <;> simp_all [has_wit]
theorem hasI_nat (l : List UInt8) (k : Nat) : hasI l (k : Int) = has l k := by simp [hasI]
theorem hasI_neg (l : List UInt8) {i : Int} (h : i < 0) : hasI l i = false := by unfold hasI; rw [if_neg (by omega)]
theorem witI_nat (l : List UInt8) (k : Nat) (t : Bool) : witI l (k : Int) t = wit l k t := by simp [witI]
theorem witI_neg (l : List UInt8) {i : Int} (t : Bool) (h : i < 0) : witI l i t = trim l := by unfold witI; rw [if_neg (by omega)]

theorem cnt_zero (l : List UInt8) : cnt l 0 = 0 := rfl
theorem cnt_succ (l : List UInt8) (n : Nat) : cnt l (n + 1) = cnt l n + if has l n then 1 else 0 := by
  unfold cnt
  rw [List.range_succ, List.filter_append, List.length_append]
  cases h : has l n <;> simp [h]
theorem cnt_le (l : List UInt8) (n : Nat) : cnt l n ≤ n := by
  unfold cnt
  exact Nat.le_trans (List.length_filter_le _ _) (by simp)
theorem cnt_out {l : List UInt8} {k : Nat} (h : l.length ≤ k / 8) : ∀ d, cnt l (k + d) = cnt l k
  | 0 => rfl
  | d + 1 => by
    rw [show k + (d + 1) = (k + d) + 1 by omega, cnt_succ, cnt_out h d, has_out (by omega)]
    simp
theorem cnt_ext {a b : List UInt8} (h : ∀ k, has a k = has b k) (n : Nat) : cnt a n = cnt b n := by
  unfold cnt
  rw [show has a = has b from funext h]
theorem fr_succ (l : List UInt8) (n : Nat) : fr l (n + 1) = fr l n ++ if has l n then [] else [n] := by
  unfold fr
  rw [List.range_succ, List.filter_append]
  cases h : has l n <;> simp [h]
theorem fr_length (l : List UInt8) (n : Nat) : (fr l n).length = n - cnt l n := by
  induction n with
  | zero => rfl
  | succ n ih =>
    have := cnt_le l n
    rw [fr_succ, List.length_append, ih, cnt_succ]
    cases has l n <;> simp; omega
theorem fr_cnt (l : List UInt8) (n : Nat) : (fr l n).length + cnt l n = n := by have := cnt_le l n; rw [fr_length]; omega
theorem fr_mem (l : List UInt8) (n k : Nat) : k ∈ fr l n ↔ k < n ∧ has l k = false := by simp [fr]
/-- The free ones lie in order: each below, with nothing free between. -/
theorem fr_mono (l : List UInt8) (n : Nat) : ∀ d, ∃ r, fr l (n + d) = fr l n ++ r
  | 0 => ⟨[], by simp⟩
  | d + 1 => by
    obtain ⟨r, h⟩ := fr_mono l n d
    exact ⟨r ++ if has l (n + d) then [] else [n + d], by rw [show n + (d + 1) = (n + d) + 1 by omega, fr_succ, h, List.append_assoc]⟩
/-- What is drawn: the first so many of the free ones; and the error. -/
def drw (l : List UInt8) (n many : Int) : List Nat := if many < 0 then [] else if (fr l n.toNat).length < many then [] else (fr l n.toNat).take many.toNat
def drwE (l : List UInt8) (n many : Int) : Int := if many < 0 then 1 else if (fr l n.toNat).length < many then 66 else 0
end Bt
end Go.Proofs.YtkodjojidoigiaaDoor
