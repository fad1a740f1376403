/-
  What SlotDirs needs of entries, plain: the entries that the statement builds, and their bytes cut anywhere (layer 11).
-/
import Derived.Test.YtbeahhijmgkfhaaLKit
import Derived.Test.YtbeahhijmgkfhaaLMath
import Derived.Laws.BitsAllLaws
namespace Go.Proofs.Ytbeahhijmgkfhaa
open Go.RowKit

/-- The cookie behind k of them. -/
def ckD (l : List UInt8) : Nat → Nat
  | 0 => 0
  | k + 1 => ckD l k + (l.getD k 0).toNat % 4 + 1
def entD (l : List UInt8) (i : Nat) : En := ⟨ckD l (i + 1), 0, 0, [nb i]⟩
def entsD (l : List UInt8) (k : Nat) : List En := (List.range k).map (entD l)
theorem ckD_le (l : List UInt8) : ∀ k, ckD l k ≤ 4 * k
  | 0 => Nat.le_refl _
  | k + 1 => by
    have := ckD_le l k
    show ckD l k + _ % 4 + 1 ≤ _
    omega
theorem ckD_lt (l : List UInt8) (k : Nat) : ckD l k < ckD l (k + 1) := by show _ < ckD l k + _ % 4 + 1; omega
theorem entsD_length (l : List UInt8) (k : Nat) : (entsD l k).length = k := by simp [entsD]
theorem entsD_succ (l : List UInt8) (k : Nat) : entsD l (k + 1) = entsD l k ++ [entD l k] := by simp [entsD, List.range_succ]
theorem entsD_at (l : List UInt8) (k i : Nat) (h : i < (entsD l k).length) : (entsD l k)[i] = entD l i := by simp [entsD]
theorem entsD_getD (l : List UInt8) (k i : Nat) (h : i < k) : (entsD l k).getD i default = entD l i := by
  rw [List.getD_eq_getElem?_getD, List.getElem?_eq_getElem (by rw [entsD_length]; exact h), entsD_at]
  rfl
theorem entsD_take (l : List UInt8) (k n : Nat) (h : k ≤ n) : (entsD l n).take k = entsD l k := by
  unfold entsD
  rw [← List.map_take, List.take_range, Nat.min_eq_left h]
theorem entsD_last (l : List UInt8) (n k : Nat) (h : k ≤ n) : lastAt (entsD l n) k = ckD l k := by
  unfold lastAt
  cases k with
  | zero => rfl
  | succ k =>
    rw [if_neg (by omega), Nat.add_sub_cancel, entsD_getD l n k (by omega)]
    rfl
theorem entsD_ok (l : List UInt8) (k : Nat) (hk : k ≤ 20) : okB (entsD l k) = true := by
  unfold okB
  rw [Bool.and_eq_true, List.all_eq_true]
  constructor
  · intro i hi
    rw [List.mem_range, entsD_length] at hi
    unfold stepOk
    rw [entsD_getD l k i hi, entsD_last l k i (by omega), Bool.and_eq_true]
    exact ⟨nb_ok (by omega), decide_eq_true (ckD_lt l i)⟩
  · apply decide_eq_true
    have e : (entsD l k).map En.nm = (List.range k).map fun i => [nb i] := by
      unfold entsD
      rw [List.map_map]
      rfl
    rw [e]
    refine List.pairwise_map.2 (List.pairwise_lt_range.imp_of_mem fun {i j} hi hj hij h => ?_)
    rw [List.mem_range] at hi hj
    injection h with h _
    have := nb_inj (i := i) (j := j) (by omega) (by omega) h
    omega
theorem entsD_wide (l : List UInt8) (k : Nat) (hk : k ≤ 20) : ∀ e ∈ entsD l k, e.Wide := by
  intro e he
  obtain ⟨i, hi, rfl⟩ := List.mem_map.1 he
  have := ckD_le l (i + 1)
  rw [List.mem_range] at hi
  exact ⟨by show ckD l (i + 1) < _; omega, by show 0 < _; omega, by show 0 < _; omega⟩
theorem entsD_cookie (l : List UInt8) (k c : Nat) (hk : k ≤ 20) : (∀ e ∈ entsD l k, e.ck ≤ c) ↔ ckD l k ≤ c := by
  rw [Sl.all_iff_last _ (entsD_ok l k hk)]
  unfold lastCk
  rw [entsD_length, entsD_last l k k (Nat.le_refl _)]
theorem ent_len (l : List UInt8) (i : Nat) : (enc1 (entD l i)).length = 24 := by
  rw [enc1_length]
  rfl
theorem encsD_len (l : List UInt8) (k : Nat) : (encs (entsD l k)).length = 24 * k := by
  induction k with
  | zero => rfl
  | succ k ih =>
    rw [entsD_succ]
    show (List.flatMap enc1 _).length = _
    rw [List.flatMap_append, List.length_append]
    show (encs (entsD l k)).length + (enc1 (entD l k) ++ []).length = _
    rw [ih, List.append_nil, ent_len]
    omega
theorem encs_append (a b : List En) : encs (a ++ b) = encs a ++ encs b := by simp [encs]
/-- What is put of the first ones is what is put of all, cut. -/
theorem encsD_take (l : List UInt8) (k n : Nat) (h : k ≤ n) : (encs (entsD l n)).take (24 * k) = encs (entsD l k) := by
  have e : entsD l n = entsD l k ++ (entsD l n).drop k := by rw [← entsD_take l k n h, List.take_append_drop]
  rw [e, encs_append, List.take_append_of_le_length (by rw [encsD_len]; exact Nat.le_refl _), List.take_of_length_le (by rw [encsD_len]; exact Nat.le_refl _)]
def entC : Cd (Nat × Nat × Nat × List UInt8) := c8.seq (c4.seq (c4.seq (cO 24 (by decide))))
theorem entC_rd (l : List UInt8) : (entC.rd (l, 0)).1 = (r4 l).1 := rfl
theorem entC_enc (e : En) : entC.enc (e.ck, e.ino, e.gen, e.nm) = enc1 e := by
  show be 8 e.ck ++ (be 4 e.ino ++ (be 4 e.gen ++ opq e.nm)) = _
  simp [enc1]
theorem one_cut (e : En) (hw : e.Wide) (hn : e.nm.length ≤ 24) (j : Nat) (hj : j < (enc1 e).length) : (r4 ((enc1 e).take j)).1.2 = 10 := by
  rw [← entC_enc] at hj ⊢
  rw [← entC_rd]
  exact entC.cut (e.ck, e.ino, e.gen, e.nm) j ⟨hw.c, hw.i, hw.g, hn⟩ hj
/-- Cut within an entry. -/
theorem readsD_cut (l : List UInt8) (n k r : Nat) (hn : n ≤ 20) (hk : k < n) (hr : 0 < r) (hr2 : r < 24) : ∀ j, j ≤ k → reads j ((encs (entsD l n)).take (24 * k + r)) = ((encs ((entsD l n).drop j)).take (24 * (k - j) + r), 0, (entsD l n).take j)
  | 0, _ => rfl
  | j + 1, hj => by
    have ih := readsD_cut l n k r hn hk hr hr2 j (by omega)
    have hjn : j < (entsD l n).length := by rw [entsD_length]; omega
    have hd : (entsD l n).drop j = (entsD l n)[j] :: (entsD l n).drop (j + 1) := List.drop_eq_getElem_cons hjn
    have he : (enc1 (entsD l n)[j]).length = 24 := by rw [entsD_at]; exact ent_len l j
    have hc : (encs ((entsD l n).drop j)).take (24 * (k - j) + r) = enc1 (entsD l n)[j] ++ (encs ((entsD l n).drop (j + 1))).take (24 * (k - (j + 1)) + r) := by
      rw [hd, encs_cons, List.take_append, List.take_of_length_le (by omega), he]
      congr 2
      omega
    obtain ⟨h1, h2⟩ := one_enc (entsD l n)[j] ((encs ((entsD l n).drop (j + 1))).take (24 * (k - (j + 1)) + r)) (entsD_wide l n hn _ (List.getElem_mem hjn)) (okB_names _ (entsD_ok l n hn) _ (List.getElem_mem hjn))
    have hne : (encs ((entsD l n).drop j)).take (24 * (k - j) + r) ≠ [] := by
      rw [hc]
      intro e
      have := congrArg List.length e
      rw [List.length_append, he] at this
      simp at this
    rw [reads_more j _ (by rw [ih]) (by rw [ih]; exact hne), ih]
    simp only
    rw [hc, h1, h2, List.take_succ_eq_append_getElem hjn]
theorem errD_cut (l : List UInt8) (n m : Nat) (hn : n ≤ 20) (hm : m < 24 * n) (hr : m % 24 ≠ 0) : errE ((encs (entsD l n)).take m) ≠ 0 := by
  have hk : m / 24 < n := by omega
  have em : m = 24 * (m / 24) + m % 24 := by omega
  have hr2 : m % 24 < 24 := Nat.mod_lt _ (by omega)
  have hr1 : 0 < m % 24 := by omega
  generalize m / 24 = k at *
  generalize m % 24 = r at *
  subst em
  have h1 := readsD_cut l n k r hn hk hr1 hr2 k (Nat.le_refl _)
  have hkn : k < (entsD l n).length := by rw [entsD_length]; exact hk
  have hd : (entsD l n).drop k = (entsD l n)[k] :: (entsD l n).drop (k + 1) := List.drop_eq_getElem_cons hkn
  have he : (enc1 (entsD l n)[k]).length = 24 := by rw [entsD_at]; exact ent_len l k
  have hc : (encs ((entsD l n).drop k)).take (24 * (k - k) + r) = (enc1 (entsD l n)[k]).take r := by
    rw [hd, encs_cons, Nat.sub_self, Nat.mul_zero, Nat.zero_add, List.take_append_of_le_length (by omega)]
  rw [hc] at h1
  have h10 := one_cut (entsD l n)[k] (entsD_wide l n hn _ (List.getElem_mem hkn)) (okB_names _ (entsD_ok l n hn) _ (List.getElem_mem hkn)) r (by omega)
  have hne : (enc1 (entsD l n)[k]).take r ≠ [] := by
    intro e
    have := congrArg List.length e
    rw [List.length_take, he] at this
    simp at this
    omega
  have h2 := reads_more k _ (by rw [h1]) (by rw [h1]; exact hne)
  rw [h1] at h2
  simp only at h2
  have h3 : (reads (k + 1) ((encs (entsD l n)).take (24 * k + r))).2.1 = 10 := by rw [h2]; exact h10
  have hl : k + 1 ≤ ((encs (entsD l n)).take (24 * k + r)).length := by rw [List.length_take, encsD_len]; omega
  have ha := all_of (k + 1) _ hl (.inl (by rw [h3]; decide))
  unfold errE
  rw [ha, h3, if_pos (by decide)]
  decide
/-- What Check says of a directory of these bytes. -/
def thD (c : Nat) (dt : List UInt8) : Vl.Th := ⟨0, 2, 0, 1, 0, 0, c, 0, dt⟩
theorem chkD_all (l : List UInt8) (n c : Nat) (hn : n ≤ 12) : Sl.chkS (thD c (putE (entsD l n))) = 0 ↔ ckD l n ≤ c := by
  have hp : putE (entsD l n) = encs (entsD l n) := if_pos (entsD_ok l n (by omega))
  rw [Sl.chkS_zero, Sl.dir_iff _ rfl]
  show 0 ≤ 23 ∧ (putE (entsD l n)).length ≤ 768 ∧ 1 ≤ 1 ∧ Sl.dirB (putE (entsD l n)) c = true ↔ _
  rw [Sl.dir_put _ (entsD_wide l n (by omega)) (entsD_ok l n (by omega)), hp, encsD_len, ← entsD_cookie l n c (by omega), List.all_eq_true]
  simp only [decide_eq_true_eq]
  constructor
  · rintro ⟨_, _, _, h⟩; exact h
  · intro h; exact ⟨by omega, by omega, by omega, h⟩
theorem chkD_cut (l : List UInt8) (n m : Nat) (hn : n ≤ 12) (hm : m < 24 * n) : Sl.chkS (thD 1000 ((putE (entsD l n)).take m)) = 0 ↔ m % 24 = 0 := by
  have hp : putE (entsD l n) = encs (entsD l n) := if_pos (entsD_ok l n (by omega))
  constructor
  · intro h
    rw [Sl.chkS_zero, Sl.dir_iff _ rfl] at h
    have h1 := ((Sl.dirB_iff _ _).1 h.2.2.2).1
    rw [show (thD 1000 ((putE (entsD l n)).take m)).dt = (putE (entsD l n)).take m from rfl, hp] at h1
    exact Decidable.by_contra fun hr => errD_cut l n m (by omega) hm hr h1
  · intro h
    have em : m = 24 * (m / 24) := by omega
    have hk : m / 24 ≤ n := by omega
    generalize m / 24 = k at *
    subst em
    have h1 : (putE (entsD l n)).take (24 * k) = putE (entsD l k) := by
      rw [hp, encsD_take l k n hk, show putE (entsD l k) = encs (entsD l k) from if_pos (entsD_ok l k (by omega))]
    rw [h1, chkD_all l k 1000 (by omega)]
    have := ckD_le l k
    omega
end Go.Proofs.Ytbeahhijmgkfhaa
