/-
  Sectors, plain: which frames may be, their bytes, what bytes hold; that what is put is got, and that what is got is put as the same bytes. Nothing of the program is named here.
-/
import Derived.Test.YtcieahfhpanogaaCMath
import Derived.Test.YtcieahfhpanogaaBytes
namespace Go.Proofs.Ytcieahfhpanogaa

/-- A frame that may be, but for the range of its kind and the length of its body. -/
structure Fm where
  k : UInt8
  i : UInt8
  c : UInt8
  s : Nat
  a : Nat
  b : List UInt8
/-- It may be. -/
structure Fm.ok (f : Fm) : Prop where
  k1 : 1 ≤ f.k.toNat
  k4 : f.k.toNat ≤ 4
  s : f.s < 18446744073709551616
  a : f.a < 4294967296
  b : f.b.length ≤ 108
def Fm.zero : Fm := ⟨0, 0, 0, 0, 0, []⟩
/-- Its bytes, ahead of the sum. -/
def Fm.enc (f : Fm) : List UInt8 := [f.k, f.i, f.c, UInt8.ofNat f.b.length] ++ (be 8 f.s ++ (be 4 f.a ++ (f.b ++ List.replicate (108 - f.b.length) 0)))
theorem Fm.enc_length (f : Fm) (h : f.b.length ≤ 108) : f.enc.length = 124 := by
  simp [Fm.enc, be_length]
  omega
/-- All noughts. -/
def nought (l : List UInt8) : Bool := l.all (· == 0)
theorem nought_iff (l : List UInt8) : nought l = true ↔ l = List.replicate l.length 0 := by
  unfold nought
  rw [List.all_eq_true, List.eq_replicate_iff]
  simp
/-- What is wrong with bytes. -/
def getE (l : List UInt8) : Int :=
  if l.length ≠ 128 then 11 else if right l = false then 14 else if (l.getD 0 0).toNat < 1 ∨ 4 < (l.getD 0 0).toNat ∨ 108 < (l.getD 3 0).toNat then 11
  else if nought ((l.drop (16 + (l.getD 3 0).toNat)).take (108 - (l.getD 3 0).toNat)) = false then 11 else 0
/-- What they hold. -/
def getR (l : List UInt8) : Fm := ⟨l.getD 0 0, l.getD 1 0, l.getD 2 0, num ((l.drop 4).take 8), num ((l.drop 12).take 4), (l.drop 16).take (l.getD 3 0).toNat⟩
def getF (l : List UInt8) : Fm := if getE l = 0 then getR l else Fm.zero

theorem getE_len {l : List UInt8} (h : l.length ≠ 128) : getE l = 11 := by unfold getE; rw [if_pos h]
theorem getE_sum {l : List UInt8} (h : l.length = 128) (hr : right l = false) : getE l = 14 := by unfold getE; rw [if_neg (by omega), if_pos hr]
theorem getE_kind {l : List UInt8} (h : l.length = 128) (hr : right l = true) (hk : (l.getD 0 0).toNat < 1 ∨ 4 < (l.getD 0 0).toNat ∨ 108 < (l.getD 3 0).toNat) : getE l = 11 := by
  unfold getE; rw [if_neg (by omega), if_neg (by simp [hr]), if_pos hk]
theorem getE_rest {l : List UInt8} (h : l.length = 128) (hr : right l = true) (hk : ¬ ((l.getD 0 0).toNat < 1 ∨ 4 < (l.getD 0 0).toNat ∨ 108 < (l.getD 3 0).toNat))
    (hz : nought ((l.drop (16 + (l.getD 3 0).toNat)).take (108 - (l.getD 3 0).toNat)) = false) : getE l = 11 := by
  unfold getE; rw [if_neg (by omega), if_neg (by simp [hr]), if_neg hk, if_pos hz]
theorem getE_ok {l : List UInt8} (h : l.length = 128) (hr : right l = true) (hk : ¬ ((l.getD 0 0).toNat < 1 ∨ 4 < (l.getD 0 0).toNat ∨ 108 < (l.getD 3 0).toNat))
    (hz : nought ((l.drop (16 + (l.getD 3 0).toNat)).take (108 - (l.getD 3 0).toNat)) = true) : getE l = 0 := by
  unfold getE; rw [if_neg (by omega), if_neg (by simp [hr]), if_neg hk, if_neg (by rw [hz]; simp)]
theorem getE_parts {l : List UInt8} (h : getE l = 0) : l.length = 128 ∧ right l = true ∧ ¬ ((l.getD 0 0).toNat < 1 ∨ 4 < (l.getD 0 0).toNat ∨ 108 < (l.getD 3 0).toNat) ∧
    nought ((l.drop (16 + (l.getD 3 0).toNat)).take (108 - (l.getD 3 0).toNat)) = true := by
  by_cases h1 : l.length = 128
  · by_cases h2 : right l = true
    · by_cases h3 : (l.getD 0 0).toNat < 1 ∨ 4 < (l.getD 0 0).toNat ∨ 108 < (l.getD 3 0).toNat
      · rw [getE_kind h1 h2 h3] at h; omega
      · by_cases h4 : nought ((l.drop (16 + (l.getD 3 0).toNat)).take (108 - (l.getD 3 0).toNat)) = true
        · exact ⟨h1, h2, h3, h4⟩
        · rw [getE_rest h1 h2 h3 (by simpa using h4)] at h; omega
    · rw [getE_sum h1 (by simpa using h2)] at h; omega
  · rw [getE_len h1] at h; omega
theorem getF_ok {l : List UInt8} (h : getE l = 0) : getF l = getR l := by unfold getF; rw [if_pos h]
theorem getF_no {l : List UInt8} (h : getE l ≠ 0) : getF l = Fm.zero := by unfold getF; rw [if_neg h]

/-- One element ahead. -/
theorem cons_of {l : List UInt8} {n : Nat} (h : l.length = n + 1) : ∃ x t, l = x :: t ∧ t.length = n := by
  match l, h with
  | x :: t, h => exact ⟨x, t, rfl, by simpa using h⟩

theorem sealed_parts (f : Fm) : sealed f.enc = [f.k, f.i, f.c, UInt8.ofNat f.b.length] ++ (be 8 f.s ++ (be 4 f.a ++ (f.b ++ (List.replicate (108 - f.b.length) 0 ++ be 4 (sum f.enc).toNat)))) := by
  conv => lhs; unfold sealed
  conv => lhs; lhs; unfold Fm.enc
  simp

theorem take_left (a b : List UInt8) (n : Nat) (h : a.length = n) : (a ++ b).take n = a := by rw [List.take_append_of_le_length (by omega), List.take_of_length_le (by omega)]
theorem drop_left (a b : List UInt8) (n : Nat) (h : a.length = n) : (a ++ b).drop n = b := by rw [List.drop_append_of_le_length (by omega), List.drop_of_length_le (by omega), List.nil_append]

/-- What is put is got. -/
theorem get_put (f : Fm) (h : f.ok) : getE (sealed f.enc) = 0 ∧ getF (sealed f.enc) = f := by
  have hb := h.b
  have hn : (UInt8.ofNat f.b.length).toNat = f.b.length := by simp; omega
  have g0 : (sealed f.enc).getD 0 0 = f.k := by rw [sealed_parts]; rfl
  have g1 : (sealed f.enc).getD 1 0 = f.i := by rw [sealed_parts]; rfl
  have g2 : (sealed f.enc).getD 2 0 = f.c := by rw [sealed_parts]; rfl
  have g3 : (sealed f.enc).getD 3 0 = UInt8.ofNat f.b.length := by rw [sealed_parts]; rfl
  have d4 : (sealed f.enc).drop 4 = be 8 f.s ++ (be 4 f.a ++ (f.b ++ (List.replicate (108 - f.b.length) 0 ++ be 4 (sum f.enc).toNat))) := by rw [sealed_parts]; exact drop_left _ _ 4 rfl
  have d12 : (sealed f.enc).drop 12 = be 4 f.a ++ (f.b ++ (List.replicate (108 - f.b.length) 0 ++ be 4 (sum f.enc).toNat)) := by
    rw [show 12 = 4 + 8 from rfl, ← List.drop_drop, d4]; exact drop_left _ _ 8 (be_length _ _)
  have d16 : (sealed f.enc).drop 16 = f.b ++ (List.replicate (108 - f.b.length) 0 ++ be 4 (sum f.enc).toNat) := by
    rw [show 16 = 12 + 4 from rfl, ← List.drop_drop, d12]; exact drop_left _ _ 4 (be_length _ _)
  have dn : (sealed f.enc).drop (16 + f.b.length) = List.replicate (108 - f.b.length) 0 ++ be 4 (sum f.enc).toNat := by
    rw [← List.drop_drop, d16]; exact drop_left _ _ _ rfl
  have he : getE (sealed f.enc) = 0 := by
    refine getE_ok (by rw [sealed_length, f.enc_length hb]) (right_sealed _) ?_ ?_
    · rw [g0, g3, hn]
      have := h.k1
      have := h.k4
      omega
    · rw [g3, hn, dn, take_left _ _ _ (by simp)]
      unfold nought
      simp
  refine ⟨he, ?_⟩
  rw [getF_ok he]
  unfold getR
  rw [g0, g1, g2, g3, hn, d4, d12, d16, take_left _ _ 8 (be_length _ _), take_left _ _ 4 (be_length _ _), take_left _ _ _ rfl, num_be, num_be, Nat.mod_eq_of_lt h.s, Nat.mod_eq_of_lt h.a]

/-- What is got may be, and is put as the same bytes. -/
theorem put_get (l : List UInt8) (h : getE l = 0) : (getF l).ok ∧ sealed (getF l).enc = l := by
  obtain ⟨h1, h2, h3, h4⟩ := getE_parts h
  rw [getF_ok h]
  have hx : sealed (l.take 124) = l := by
    unfold right at h2
    simp only [Bool.and_eq_true, decide_eq_true_iff] at h2
    have := h2.2
    rwa [h1] at this
  have hbl : ((l.drop 16).take (l.getD 3 0).toNat).length = (l.getD 3 0).toNat := by
    rw [List.length_take, List.length_drop]; omega
  have hn8 : ((l.drop 4).take 8).length = 8 := by rw [List.length_take, List.length_drop]; omega
  have hn4 : ((l.drop 12).take 4).length = 4 := by rw [List.length_take, List.length_drop]; omega
  refine ⟨⟨?_, ?_, ?_, ?_, ?_⟩, ?_⟩
  · show 1 ≤ (l.getD 0 0).toNat
    omega
  · show (l.getD 0 0).toNat ≤ 4
    omega
  · have := num_lt ((l.drop 4).take 8)
    rw [hn8] at this
    exact this
  · have := num_lt ((l.drop 12).take 4)
    rw [hn4] at this
    exact this
  · show ((l.drop 16).take (l.getD 3 0).toNat).length ≤ 108
    omega
  · have he : (getR l).enc = l.take 124 := by
      unfold Fm.enc getR
      dsimp only
      rw [hbl]
      have e8 : be 8 (num ((l.drop 4).take 8)) = (l.drop 4).take 8 := by have := be_num ((l.drop 4).take 8); rwa [hn8] at this
      have e4 : be 4 (num ((l.drop 12).take 4)) = (l.drop 12).take 4 := by have := be_num ((l.drop 12).take 4); rwa [hn4] at this
      have ez : List.replicate (108 - (l.getD 3 0).toNat) 0 = (l.drop (16 + (l.getD 3 0).toNat)).take (108 - (l.getD 3 0).toNat) := by
        have := (nought_iff _).1 h4
        rw [List.length_take, List.length_drop, h1, show min (108 - (l.getD 3 0).toNat) (128 - (16 + (l.getD 3 0).toNat)) = 108 - (l.getD 3 0).toNat by omega] at this
        exact this.symm
      have e0 : [l.getD 0 0, l.getD 1 0, l.getD 2 0, UInt8.ofNat (l.getD 3 0).toNat] = l.take 4 := by
        obtain ⟨x0, l1, rfl, q1⟩ := cons_of h1
        obtain ⟨x1, l2, rfl, q2⟩ := cons_of q1
        obtain ⟨x2, l3, rfl, q3⟩ := cons_of q2
        obtain ⟨x3, l4, rfl, q4⟩ := cons_of q3
        simp
      rw [e8, e4, ez, e0]
      have key : ∀ (m n : Nat), m + n ≤ 128 → l.take m ++ (l.drop m).take n = l.take (m + n) := fun m n hmn => by
        rw [List.take_add]
      rw [← List.append_assoc, key 4 8 (by omega), ← List.append_assoc, key 12 4 (by omega), ← List.append_assoc, key 16 _ (by omega), key _ _ (by omega)]
      congr 1
      omega
    rw [he, hx]

/-- Two frames that may be have the same bytes just if they are the same. -/
theorem enc_inj {f g : Fm} (hf : f.ok) (hg : g.ok) (h : sealed f.enc = sealed g.enc) : f = g := by
  have h1 := (get_put f hf).2
  rw [h, (get_put g hg).2] at h1
  exact h1.symm
end Go.Proofs.Ytcieahfhpanogaa
