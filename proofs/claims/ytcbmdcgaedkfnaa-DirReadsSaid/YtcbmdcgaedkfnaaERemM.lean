/-
  What DirRemoves needs of entries, plain: the letters that are there, in order (layer 8).
-/
import Derived.Test.YtcbmdcgaedkfnaaEKit
namespace Go.Proofs.Ytcbmdcgaedkfnaa

/-- The first place of a name, of entries of one name and none of it. -/
theorem fnd_none {es : List En} {nm : List UInt8} (h : ∀ e ∈ es, e.nm ≠ nm) : fnd es nm = -1 := by
  unfold fnd
  rw [if_neg]
  rw [List.findIdx_lt_length]
  rintro ⟨e, he, hn⟩
  exact h e he (by simpa using hn)
theorem fnd_mid {xs ys : List En} {e : En} (h : ∀ x ∈ xs, x.nm ≠ e.nm) : fnd (xs ++ e :: ys) e.nm = (xs.length : Int) := by
  have h1 : (xs ++ e :: ys).findIdx (fun x => x.nm == e.nm) = xs.length := by
    rw [List.findIdx_append]
    have h2 : xs.findIdx (fun x => x.nm == e.nm) = xs.length := by
      rw [List.findIdx_eq_length]
      intro x hx
      simpa using h x hx
    rw [h2, if_neg (by omega), List.findIdx_cons]
    simp
  unfold fnd
  rw [h1, if_pos (by simp)]
theorem rem_mid {xs ys : List En} {e : En} (h : ∀ x ∈ xs, x.nm ≠ e.nm) : remE (xs ++ e :: ys) e.nm = 0 ∧ remL (xs ++ e :: ys) e.nm = xs ++ ys := by
  have h1 := fnd_mid (ys := ys) h
  refine ⟨by unfold remE; rw [h1, if_neg (by omega)], ?_⟩
  unfold remL
  rw [h1, if_neg (by omega), Int.toNat_natCast]
  simp
theorem rem_none {es : List En} {nm : List UInt8} (h : ∀ e ∈ es, e.nm ≠ nm) : remE es nm = 60 := by
  unfold remE
  rw [fnd_none h, if_pos (by omega)]
/-- The letters that are there. -/
def mkE (i : Nat) : En := ⟨i + 5, 0, 0, [nb i]⟩
def ltr (p : Nat → Bool) (n : Nat) : List En := ((List.range n).filter p).map mkE
theorem ltr_zero (p : Nat → Bool) : ltr p 0 = [] := rfl
theorem ltr_succ (p : Nat → Bool) (n : Nat) : ltr p (n + 1) = ltr p n ++ if p n then [mkE n] else [] := by
  unfold ltr
  rw [List.range_succ, List.filter_append, List.map_append]
  cases h : p n <;> simp [List.filter, h]
theorem ltr_congr {p q : Nat → Bool} {n : Nat} (h : ∀ i, i < n → p i = q i) : ltr p n = ltr q n := by
  unfold ltr
  congr 1
  apply List.filter_congr
  intro i hi
  exact h i (List.mem_range.1 hi)
theorem ltr_mem {p : Nat → Bool} {n : Nat} {e : En} (h : e ∈ ltr p n) : ∃ i, i < n ∧ p i = true ∧ e = mkE i := by
  unfold ltr at h
  obtain ⟨i, h1, h2⟩ := List.mem_map.1 h
  obtain ⟨h3, h4⟩ := List.mem_filter.1 h1
  exact ⟨i, List.mem_range.1 h3, h4, h2.symm⟩
theorem ltr_len (p : Nat → Bool) (n : Nat) : (ltr p n).length ≤ n := by
  unfold ltr
  rw [List.length_map]
  exact Nat.le_trans (List.length_filter_le _ _) (by simp)
theorem ltr_split (p : Nat → Bool) {k : Nat} : ∀ n, k < n → ∃ ys, ltr p n = ltr p k ++ (if p k then [mkE k] else []) ++ ys ∧ ltr (upd p k false) n = ltr p k ++ ys
  | 0, h => absurd h (by omega)
  | n + 1, h => by
    by_cases hk : k = n
    · subst hk
      refine ⟨[], by rw [ltr_succ, List.append_nil], ?_⟩
      rw [ltr_succ, List.append_nil]
      rw [ltr_congr (q := p) (fun i hi => by simp only [upd]; rw [if_neg (by omega)])]
      simp [upd]
    · obtain ⟨ys, h1, h2⟩ := ltr_split p (k := k) n (by omega)
      refine ⟨ys ++ if p n then [mkE n] else [], ?_, ?_⟩
      · rw [ltr_succ, h1, List.append_assoc]
      · rw [ltr_succ, h2, List.append_assoc]
        have : upd p k false n = p n := by simp only [upd]; rw [if_neg (by omega)]
        rw [this]
theorem mkE_wide {i : Nat} (h : i < 1000) : (mkE i).Wide := ⟨by show i + 5 < _; omega, by show 0 < _; omega, by show 0 < _; omega⟩
theorem ltr_wide {p : Nat → Bool} {n : Nat} (hn : n ≤ 1000) : ∀ x ∈ ltr p n, x.Wide := by
  intro x hx
  obtain ⟨i, h1, _, rfl⟩ := ltr_mem hx
  exact mkE_wide (by omega)
theorem ltr_other {p : Nat → Bool} {n k : Nat} (hn : n ≤ k) (hk : k < 100) : ∀ x ∈ ltr p n, x.nm ≠ (mkE k).nm := by
  intro x hx e
  obtain ⟨i, h1, _, rfl⟩ := ltr_mem hx
  have : nb i = nb k := by simpa [mkE] using e
  have := nb_inj (by omega) hk this
  omega
theorem ltr_rem (p : Nat → Bool) {k n : Nat} (hk : k < n) (hn : n ≤ 100) : remE (ltr p n) [nb k] = (if p k then 0 else 60) ∧ (p k = true → remL (ltr p n) [nb k] = ltr (upd p k false) n) := by
  obtain ⟨ys, h1, h2⟩ := ltr_split p n hk
  cases hp : p k
  · refine ⟨?_, fun h => by cases h⟩
    rw [if_neg (by simp)]
    apply rem_none
    intro e he hne
    obtain ⟨i, h3, h4, rfl⟩ := ltr_mem he
    have h5 : nb i = nb k := by simpa [mkE] using hne
    have := nb_inj (by omega) (by omega) h5
    subst this
    rw [hp] at h4
    cases h4
  · rw [hp, if_pos rfl, List.append_assoc] at h1
    have := rem_mid (xs := ltr p k) (ys := ys) (e := mkE k) (ltr_other (Nat.le_refl _) (by omega))
    rw [h1, h2]
    refine ⟨?_, fun _ => this.2⟩
    rw [if_pos rfl]
    exact this.1
/-- What comes at place i, behind those ahead of it. -/
theorem ltr_at (p : Nat → Bool) {k n : Nat} (hk : k < n) (hp : p k = true) : ∃ hj : (ltr p k).length < (ltr p n).length, (ltr p n)[(ltr p k).length] = mkE k := by
  obtain ⟨ys, h1, _⟩ := ltr_split p n hk
  rw [hp, if_pos rfl] at h1
  have h2 : (ltr p k).length < (ltr p n).length := by rw [h1]; simp
  refine ⟨h2, ?_⟩
  simp [h1]
theorem lastCk_snoc (es : List En) (e : En) : lastCk (es ++ [e]) = e.ck := by
  unfold lastCk lastAt
  simp
theorem lastCk_lt {es : List En} {b : Nat} (hb : 0 < b) (h : ∀ e ∈ es, e.ck < b) : lastCk es < b := by
  unfold lastCk lastAt
  split
  · exact hb
  · rename_i h0
    rw [List.getD_eq_getElem?_getD, List.getElem?_eq_getElem (by omega)]
    exact h _ (List.getElem_mem _)
theorem add_ok {es : List En} {e : En} (h1 : nameOk e.nm = true) (h2 : ∀ x ∈ es, x.nm ≠ e.nm) (h3 : lastCk es < e.ck) : addE es e = 0 ∧ addL es e = es ++ [e] := by
  have : addE es e = 0 := by
    unfold addE
    rw [if_neg (by rw [h1]; simp), fnd_none h2, if_neg (by omega), if_neg (by omega)]
  exact ⟨this, if_pos this⟩
theorem ltr_add (k : Nat) (hk : k < 100) (p : Nat → Bool) (hp : p k = true) : addE (ltr p k) (mkE k) = 0 ∧ addL (ltr p k) (mkE k) = ltr p (k + 1) := by
  have := add_ok (es := ltr p k) (e := mkE k) (nb_ok hk) (ltr_other (Nat.le_refl _) hk) (lastCk_lt (by show 0 < k + 5; omega) fun e he => by
    obtain ⟨i, h1, _, rfl⟩ := ltr_mem he
    show i + 5 < k + 5
    omega)
  refine ⟨this.1, ?_⟩
  rw [this.2, ltr_succ, hp, if_pos rfl]
end Go.Proofs.Ytcbmdcgaedkfnaa
