/-
  Inodes, plain: what bytes are of one, and that both ways fit (layer 7). Nothing of the program is named here.
-/
import Derived.Test.YtkgpgaanodmpiaaIMath
namespace Go.Proofs.Ytkgpgaanodmpiaa
namespace Nd

/-- The one whose fields were read. -/
def of (a b : List Nat) (bl : List Nat) : Nd := ⟨a.getD 0 0, a.getD 1 0, a.getD 2 0, a.getD 3 0, a.getD 4 0, b.getD 0 0, b.getD 1 0, b.getD 2 0, bl⟩
def pa (l : List UInt8) := rds 4 5 (l, 0)
def pb (l : List UInt8) := rds 8 3 (pa l).1
def pc (l : List UInt8) := rdN 4 (pb l).1
def pd (l : List UInt8) := rds 4 (pc l).2 (pc l).1
def raw (l : List UInt8) : Nd := of (pa l).2 (pb l).2 (pd l).2
def fin (l : List UInt8) : Int := endOf (pd l).1.1 (pd l).1.2
/-- What Get tells: the error, .. -/
def err (l : List UInt8) : Int := if l = [] then 0 else if 8 < (pc l).2 then 13 else if fin l ≠ 0 then fin l else if (raw l).okB = true ∧ (raw l).blank = false then 0 else 11
/-- .. and the inode. -/
def got (l : List UInt8) : Nd := if l ≠ [] ∧ err l = 0 then raw l else zero

theorem pc_err (l : List UInt8) (h : (pc l).1.2 ≠ 0) (hl : l ≠ []) : err l = (pc l).1.2 ∧ (pc l).2 = 0 := by
  have h0 : (pc l).2 = 0 := rdN_zero 4 (pb l).1 h
  refine ⟨?_, h0⟩
  have hd : (pd l).1 = (pc l).1 := by unfold pd; rw [h0]; rfl
  have hf : fin l = (pc l).1.2 := by unfold fin; rw [hd]; exact if_neg (fun hh => h hh.1)
  unfold err
  rw [if_neg hl, if_neg (by omega), hf, if_pos h]
theorem endOf_zero (l : List UInt8) (e : Int) (h : endOf l e = 0) : e = 0 ∧ l = [] := by
  unfold endOf at h
  split at h
  · cases h
  · rename_i h1
    refine ⟨h, ?_⟩
    rcases l with _ | ⟨a, l⟩
    · rfl
    · exact absurd ⟨h, by simp⟩ h1
theorem list5 (a : List Nat) (h : a.length = 5) : a = [a.getD 0 0, a.getD 1 0, a.getD 2 0, a.getD 3 0, a.getD 4 0] := by
  match a, h with
  | [_, _, _, _, _], _ => rfl
theorem list3 (a : List Nat) (h : a.length = 3) : a = [a.getD 0 0, a.getD 1 0, a.getD 2 0] := by
  match a, h with
  | [_, _, _], _ => rfl
theorem of_code (a b bl : List Nat) (ha : a.length = 5) (hb : b.length = 3) : (of a b bl).code = enc 4 a ++ enc 8 b ++ be 4 bl.length ++ enc 4 bl := by
  have h1 := list5 a ha
  have h2 := list3 b hb
  have e1 : (of a b bl).enc1 = enc 4 a := by rw [h1]; simp [of, enc1, enc]
  have e2 : (of a b bl).enc2 = enc 8 b := by rw [h2]; simp [of, enc2, enc]
  show (of a b bl).enc1 ++ (of a b bl).enc2 ++ be 4 bl.length ++ enc 4 bl = _
  rw [e1, e2]
theorem wide_raw (l : List UInt8) : (raw l).Wide := by
  have h1 := rds_lt 4 5 (l, 0)
  have h2 := rds_lt 8 3 (pa l).1
  have g1 : ∀ i, (pa l).2.getD i 0 < 4294967296 := by
    intro i
    rcases Nat.lt_or_ge i (pa l).2.length with h | h
    · rw [List.getD_eq_getElem?_getD, List.getElem?_eq_getElem h]
      exact h1 _ (List.getElem_mem h)
    · rw [List.getD_eq_getElem?_getD, List.getElem?_eq_none h]
      simp
  have g2 : ∀ i, (pb l).2.getD i 0 < 18446744073709551616 := by
    intro i
    rcases Nat.lt_or_ge i (pb l).2.length with h | h
    · rw [List.getD_eq_getElem?_getD, List.getElem?_eq_getElem h]
      exact h2 _ (List.getElem_mem h)
    · rw [List.getD_eq_getElem?_getD, List.getElem?_eq_none h]
      simp
  exact ⟨g1 0, g1 1, g1 2, g1 3, g1 4, g2 0, g2 1, g2 2, rds_lt 4 _ _⟩
theorem wide_got (l : List UInt8) : (got l).Wide := by
  unfold got
  split
  · exact wide_raw l
  · exact ⟨by decide, by decide, by decide, by decide, by decide, by decide, by decide, by decide, fun y h => by cases h⟩
/-- What was got is put as the same bytes. -/
theorem got_back (l : List UInt8) (h : err l = 0) : (got l).okB = true ∧ (got l).put = l := by
  by_cases hl : l = []
  · subst hl
    exact ⟨zero_ok, by decide⟩
  · have hg : got l = raw l := if_pos ⟨hl, h⟩
    rw [hg]
    unfold err at h
    rw [if_neg hl] at h
    split at h
    · cases h
    · split at h
      · rename_i h1
        exact absurd h h1
      · rename_i h8 h1
        split at h
        · rename_i h2
          refine ⟨h2.1, ?_⟩
          have h3 : fin l = 0 := Decidable.not_not.1 h1
          obtain ⟨h4, h5⟩ := endOf_zero _ _ h3
          obtain ⟨b1, b2, _⟩ := rds_back 4 (pc l).2 (pc l).1 h4
          obtain ⟨b3, b4, _⟩ := rdN_back 4 (pb l).1 b1
          obtain ⟨b5, b6, _⟩ := rds_back 8 3 (pa l).1 b3
          obtain ⟨_, b8, _⟩ := rds_back 4 5 (l, 0) b5
          have hn : (pd l).2.length = (pc l).2 := rds_len 4 (pc l).2 (pc l).1
          have hc : (raw l).code = enc 4 (pa l).2 ++ enc 8 (pb l).2 ++ be 4 (pd l).2.length ++ enc 4 (pd l).2 := of_code _ _ _ (rds_len 4 5 _) (rds_len 8 3 _)
          have hp : (raw l).put = (raw l).code := if_pos h2
          rw [hp, hc, hn]
          have e1 : (pc l).1.1 = enc 4 (pd l).2 ++ [] := by rw [← h5]; exact b2
          have e2 : (pb l).1.1 = be 4 (pc l).2 ++ (pc l).1.1 := b4
          have e3 : (pa l).1.1 = enc 8 (pb l).2 ++ (pb l).1.1 := b6
          have e4 : l = enc 4 (pa l).2 ++ (pa l).1.1 := b8
          rw [List.append_nil] at e1
          rw [← e1, List.append_assoc, ← e2, List.append_assoc, ← e3, ← e4]
        · cases h
/-- What was put is got as it was. -/
theorem got_put (x : Nd) (hw : x.Wide) (h : x.okB = true) : err x.put = 0 ∧ got x.put = x := by
  by_cases hb : x.blank = true
  · have : x.put = [] := by unfold put; rw [if_neg (by rw [hb]; simp)]
    rw [this, zero_of_blank x hb]
    exact ⟨rfl, rfl⟩
  · have hb : x.blank = false := by simpa using hb
    have hp : x.put = x.code := if_pos ⟨h, hb⟩
    rw [hp]
    have hne : x.code ≠ [] := by
      intro e
      have := code_length x
      rw [e] at this
      simp at this
      omega
    obtain ⟨k, g, li, m, s, c, o, v, bl⟩ := x
    have hbl := okB_len _ h
    simp only at hbl
    obtain ⟨w1, w2, w3, w4, w5, w6, w7, w8, w9⟩ := hw
    simp only at w1 w2 w3 w4 w5 w6 w7 w8 w9
    have hc : (Nd.mk k g li m s c o v bl).code = enc 4 [k, g, li, m, s] ++ (enc 8 [c, o, v] ++ (be 4 bl.length ++ (enc 4 bl ++ []))) := by
      simp [code, enc1, enc2, enc]
    have r1 : pa (Nd.mk k g li m s c o v bl).code = ((enc 8 [c, o, v] ++ (be 4 bl.length ++ (enc 4 bl ++ [])), 0), [k, g, li, m, s]) := by
      unfold pa
      rw [hc]
      have := rds_enc 4 [k, g, li, m, s] (enc 8 [c, o, v] ++ (be 4 bl.length ++ (enc 4 bl ++ []))) (by simp; omega) 5 (by simp)
      simpa [enc] using this
    have r2 : pb (Nd.mk k g li m s c o v bl).code = ((be 4 bl.length ++ (enc 4 bl ++ []), 0), [c, o, v]) := by
      unfold pb
      rw [r1]
      have := rds_enc 8 [c, o, v] (be 4 bl.length ++ (enc 4 bl ++ [])) (by simp; omega) 3 (by simp)
      simpa [enc] using this
    have r3 : pc (Nd.mk k g li m s c o v bl).code = ((enc 4 bl ++ [], 0), bl.length) := by
      unfold pc
      rw [r2]
      exact rdN_be 4 _ _ (by omega)
    have r4 : pd (Nd.mk k g li m s c o v bl).code = (([], 0), bl) := by
      unfold pd
      rw [r3]
      have := rds_enc 4 bl [] w9 bl.length (Nat.le_refl _)
      simpa [enc] using this
    have r5 : raw (Nd.mk k g li m s c o v bl).code = Nd.mk k g li m s c o v bl := by
      unfold raw
      rw [r1, r2, r4]
      rfl
    have r6 : fin (Nd.mk k g li m s c o v bl).code = 0 := by
      unfold fin
      rw [r4]
      rfl
    have r7 : err (Nd.mk k g li m s c o v bl).code = 0 := by
      unfold err
      rw [if_neg hne, r3, r6, r5]
      simp only
      rw [if_neg (by omega), if_neg (by simp), if_pos ⟨h, hb⟩]
    refine ⟨r7, ?_⟩
    unfold got
    rw [if_pos ⟨hne, r7⟩, r5]
/-- Two have the same bytes just if they are the same. -/
theorem put_inj (x y : Nd) (hx : x.Wide) (hy : y.Wide) (ox : x.okB = true) (oy : y.okB = true) : (x.put = y.put) ↔ x = y := by
  refine ⟨fun h => ?_, fun h => by rw [h]⟩
  rw [← (got_put x hx ox).2, ← (got_put y hy oy).2, h]
end Nd
end Go.Proofs.Ytkgpgaanodmpiaa
