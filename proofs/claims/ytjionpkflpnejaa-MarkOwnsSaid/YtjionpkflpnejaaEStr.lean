
/-
  Contracts of strings.IndexRune, strings.IndexAny and strings.ContainsAny at the two bytes that part names, for every string, ASCII or not (layer 8).
-/
import Derived.Test.YtjionpkflpnejaaShelf
import Derived.Laws.RangeAny
import Derived.Lib.IndexAny
import Derived.Lib.TrimU
import Derived.Deep.LoopGhost
import Derived.BigQuiet
import Derived.Deep.QuietTactic
import Derived.Lib.Hide
import Derived.WalkKit
namespace Go.Proofs.Ytjionpkflpnejaa
open Go.RowKit

/-- 0 and '/'. -/
def sep : ByteArray := ⟨#[0, 47]⟩
theorem sep_size : sep.size = 2 := rfl
theorem sep_list : sep.data.toList = [0, 47] := rfl

/-! Runes of a string that is no ASCII. -/
theorem enc_high (c : Nat) (h : 128 ≤ c) (h2 : c ≤ 1114111) : 2 ≤ (Utf8.encode (c : Int)).size ∧ (Utf8.encode (c : Int)).size ≤ 4 ∧ ∀ i (hi : i < (Utf8.encode (c : Int)).size), 128 ≤ ((Utf8.encode (c : Int))[i]).toNat := by
  have main : ∀ d : Nat, 128 ≤ d → d ≤ 1114111 → ∀ u : ByteArray, u = (if d < 0x80 then ⟨#[UInt8.ofNat d]⟩ else if d < 0x800 then ⟨#[UInt8.ofNat (0xC0 + d / 64), UInt8.ofNat (0x80 + d % 64)]⟩
      else if d < 0x10000 then ⟨#[UInt8.ofNat (0xE0 + d / 4096), UInt8.ofNat (0x80 + d / 64 % 64), UInt8.ofNat (0x80 + d % 64)]⟩
      else ⟨#[UInt8.ofNat (0xF0 + d / 262144), UInt8.ofNat (0x80 + d / 4096 % 64), UInt8.ofNat (0x80 + d / 64 % 64), UInt8.ofNat (0x80 + d % 64)]⟩) → 2 ≤ u.size ∧ u.size ≤ 4 ∧ ∀ i (hi : i < u.size), 128 ≤ (u[i]).toNat := by
    intro d hd hd2 u hu
    rw [if_neg (by omega)] at hu
    have hz : ∀ k : Nat, k < 128 → 128 ≤ (UInt8.ofNat (128 + k)).toNat := fun k hk => by simp; omega
    have hk : ∀ k : Nat, 128 ≤ k → k < 256 → 128 ≤ (UInt8.ofNat k).toNat := fun k h1 h2 => by simp; omega
    split at hu
    · subst hu
      refine ⟨?_, ?_, fun i hi => ?_⟩
      · simp [ByteArray.size]
      · simp [ByteArray.size]
      match i, hi with
      | 0, _ => exact hk _ (by omega) (by omega)
      | 1, _ => exact hk _ (by omega) (by omega)
    · split at hu
      · subst hu
        refine ⟨?_, ?_, fun i hi => ?_⟩
        · simp [ByteArray.size]
        · simp [ByteArray.size]
        match i, hi with
        | 0, _ => exact hk _ (by omega) (by omega)
        | 1, _ => exact hk _ (by omega) (by omega)
        | 2, _ => exact hk _ (by omega) (by omega)
      · subst hu
        refine ⟨?_, ?_, fun i hi => ?_⟩
        · simp [ByteArray.size]
        · simp [ByteArray.size]
        match i, hi with
        | 0, _ => exact hk _ (by omega) (by omega)
        | 1, _ => exact hk _ (by omega) (by omega)
        | 2, _ => exact hk _ (by omega) (by omega)
        | 3, _ => exact hk _ (by omega) (by omega)
  refine main (if Utf8.valid (c : Int) then (c : Int).toNat else Utf8.runeError) ?_ ?_ _ rfl
  · split
    · simpa using h
    · decide
  · split
    · simpa using h2
    · decide
/-- What a byte that is no ASCII is part of holds none. -/
theorem decode_span (s : ByteArray) (pos : Nat) (h : pos < s.size) (ha : 128 ≤ (s[pos]'h).toNat) : ∀ j b, pos ≤ j → j < pos + (Utf8.decode s pos).2 → s.data.toList[j]? = some b → 128 ≤ b.toNat := by
  have hg : ∀ k b, s.data.toList[pos + k]? = some b → s.get! (pos + k) = b := by
    intro k b hb
    have hk : pos + k < s.data.toList.length := (List.getElem?_eq_some_iff.1 hb).1
    have hk' : pos + k < s.size := by have := Lib.size_eq s; omega
    have e : s.data.toList[pos + k] = b := (List.getElem?_eq_some_iff.1 hb).2
    have e2 : s.get! (pos + k) = s[pos + k]'hk' := get_at s (pos + k) hk'
    rw [e2, ← e]
    rfl
  have h0 : (s.get! (pos + 0)).toNat = (s[pos]'h).toNat := by rw [get_at s pos h]
  intro j b hj1 hj2 hb
  obtain ⟨k, rfl⟩ : ∃ k, j = pos + k := ⟨j - pos, by omega⟩
  have hgk := hg k b hb
  rw [← hgk]
  have hd : k < (Utf8.decode s pos).2 := by omega
  have hn : ¬ (s.get! (pos + 0)).toNat < 128 := by omega
  have two : ∀ x : Nat, x / 64 = 2 → 128 ≤ x := fun x hx => by omega
  simp only [Utf8.decode, hn, if_false] at hd
  match k with
  | 0 => omega
  | 1 =>
    split at hd
    · rename_i h1
      simp only [Bool.and_eq_true, beq_iff_eq, decide_eq_true_eq] at h1
      exact two _ h1.2.2
    · split at hd
      · rename_i h1
        simp only [Bool.and_eq_true, beq_iff_eq, decide_eq_true_eq] at h1
        exact two _ h1.1.2.2
      · split at hd
        · rename_i h1
          simp only [Bool.and_eq_true, beq_iff_eq, decide_eq_true_eq] at h1
          exact two _ h1.1.1.2.2
        · simp at hd
  | 2 =>
    split at hd
    · split at hd <;> simp at hd
    · split at hd
      · rename_i h1
        simp only [Bool.and_eq_true, beq_iff_eq, decide_eq_true_eq] at h1
        exact two _ h1.2.2
      · split at hd
        · rename_i h1
          simp only [Bool.and_eq_true, beq_iff_eq, decide_eq_true_eq] at h1
          exact two _ h1.1.2.2
        · simp at hd
  | 3 =>
    split at hd
    · split at hd <;> simp at hd
    · split at hd
      · split at hd <;> simp at hd
      · split at hd
        · rename_i h1
          simp only [Bool.and_eq_true, beq_iff_eq, decide_eq_true_eq] at h1
          exact two _ h1.2.2
        · simp at hd
  | k + 4 =>
    split at hd
    · split at hd <;> simp at hd <;> omega
    · split at hd
      · split at hd <;> simp at hd <;> omega
      · split at hd
        · split at hd <;> simp at hd <;> omega
        · simp at hd

/-- A string's next rune, in whatever world. -/
theorem next_in {P : Program} (W : World) (k : Nat) (s : ByteArray) (pos : Nat) (hk : W.heap[k]? = some (.stringIter s pos)) (h : pos < s.size) :
    ∃ W', (∀ ty, (Instr.next (.pointer (some ⟨k, 0, none⟩)) true ty).run P W = .ok (.tuple #[.bool true, .int .i64 pos, .int .i32 (Utf8.decode s pos).1]) W') ∧ W'.heap[k]? = some (.stringIter s (pos + (Utf8.decode s pos).2)) ∧ Below k W W' ∧ W'.heap.size = W.heap.size := by
  have hlt : k < W.heap.size := (Array.getElem?_eq_some_iff.1 hk).1
  refine ⟨{ W with heap := W.heap.setIfInBounds k (.stringIter s (pos + (Utf8.decode s pos).2)) }, fun ty => ?_, ?_, ⟨rfl, rfl, rfl, by simp, fun j hj => ?_⟩, by simp⟩
  · simp only [Instr.next, getObj, setObj, Sem.run_bind, Sem.run, hk, Result.andThen, h, if_true]
    simp [goInt]
  · simp [hlt]
  · have : k ≠ j := by omega
    simp [this]
theorem next_out {P : Program} (W : World) (k : Nat) (s : ByteArray) (pos : Nat) (hk : W.heap[k]? = some (.stringIter s pos)) (h : ¬ pos < s.size) :
    ∀ ty, (Instr.next (.pointer (some ⟨k, 0, none⟩)) true ty).run P W = .ok (.tuple #[.bool false]) W := fun ty => by
  simp [Instr.next, getObj, Sem.run, hk, h]

theorem noAny_span {s : ByteArray} {i : Nat} (h : Lib.NoAny s.data.toList [0, 47] i) (hi : i < s.size) (hx : 128 ≤ (s[i]'hi).toNat) : Lib.NoAny s.data.toList [0, 47] (i + (Utf8.decode s i).2) := by
  intro j b hj hb
  rcases Nat.lt_or_ge j i with h1 | h1
  · exact h j b h1 hb
  · have := decode_span s i hi hx j b h1 hj hb
    simp
    refine ⟨?_, ?_⟩
    · rintro rfl
      exact absurd this (by decide)
    · rintro rfl
      exact absurd this (by decide)
/-- Is one of the two in these bytes? -/
def parts (l : List UInt8) : Bool := l.any fun b => b == 0 || b == 47
theorem parts_any : ∀ l : List UInt8, decide (0 ≤ Lib.indexAny l [0, 47]) = parts l
  | [] => rfl
  | b :: l => by
    have ih := parts_any l
    have hg := Lib.indexAny_ge [0, 47] l
    have e1 : parts (b :: l) = ((b == 0 || b == 47) || parts l) := rfl
    have e2 : ([0, 47] : List UInt8).contains b = (b == 0 || b == 47) := by simp only [List.contains_cons, List.contains_nil, Bool.or_false]
    rw [e1, ← ih, show Lib.indexAny (b :: l) [0, 47] = (if ([0, 47] : List UInt8).contains b then 0 else if Lib.indexAny l [0, 47] == -1 then -1 else Lib.indexAny l [0, 47] + 1) from rfl, e2]
    cases h : (b == 0 || b == 47)
    · simp only [Bool.false_or, Bool.false_eq_true, if_false]
      split
      · rename_i h1
        have h1' := beq_iff_eq.1 h1
        rw [h1']
      · rename_i h1
        have h1' : ¬ Lib.indexAny l [0, 47] = -1 := fun e => h1 (beq_iff_eq.2 e)
        simp only [decide_eq_decide]
        omega
    · simp
end Go.Proofs.Ytjionpkflpnejaa
