/-
  What DirAdds needs of entries, plain (layer 8).
-/
import Derived.Test.YtcbmdcgaedkfnaaERemoves
namespace Go.Proofs.Ytcbmdcgaedkfnaa

theorem getD_app_lt {es : List En} {e : En} {k : Nat} (h : k < es.length) : (es ++ [e]).getD k default = es.getD k default := by
  rw [List.getD_eq_getElem?_getD, List.getD_eq_getElem?_getD, List.getElem?_append_left h]
theorem lastAt_app {es : List En} {e : En} {k : Nat} (h : k ≤ es.length) : lastAt (es ++ [e]) k = lastAt es k := by
  unfold lastAt
  split
  · rfl
  · rename_i h0
    rw [getD_app_lt (by omega)]
theorem okB_snoc {es : List En} {e : En} (h : okB es = true) (h1 : nameOk e.nm = true) (h2 : ∀ x ∈ es, x.nm ≠ e.nm) (h3 : lastCk es < e.ck) : okB (es ++ [e]) = true := by
  unfold okB at h ⊢
  rw [Bool.and_eq_true, List.all_eq_true, decide_eq_true_eq] at h ⊢
  obtain ⟨ha, hn⟩ := h
  refine ⟨fun k hk => ?_, ?_⟩
  · have hk' : k < es.length + 1 := by simpa using hk
    unfold stepOk
    by_cases hl : k < es.length
    · have := ha k (List.mem_range.2 hl)
      unfold stepOk at this
      rw [getD_app_lt hl, lastAt_app (by omega)]
      exact this
    · obtain rfl : k = es.length := by omega
      rw [lastAt_app (Nat.le_refl _)]
      have : (es ++ [e]).getD es.length default = e := by simp [List.getD_eq_getElem?_getD]
      rw [this, h1]
      simpa [lastCk] using h3
  · rw [List.map_append, List.nodup_append]
    refine ⟨hn, by simp, ?_⟩
    intro a ha' b hb
    obtain ⟨x, hx, rfl⟩ := List.mem_map.1 ha'
    simp only [List.map_cons, List.map_nil, List.mem_singleton] at hb
    rw [hb]
    exact h2 x hx
theorem fnd_some {es : List En} {nm : List UInt8} (h : ∃ e ∈ es, e.nm = nm) : 0 ≤ fnd es nm := by
  obtain ⟨e, he, hn⟩ := h
  unfold fnd
  rw [if_pos]
  · omega
  · rw [List.findIdx_lt_length]
    exact ⟨e, he, by simpa using hn⟩
theorem encs_le2 {m : Nat} : ∀ es : List En, (∀ e ∈ es, e.nm.length ≤ m) → (encs es).length ≤ es.length * (23 + m)
  | [], _ => Nat.zero_le _
  | e :: r, h => by
    have ih := encs_le2 r fun x hx => h x (List.mem_cons_of_mem _ hx)
    have h1 := h e (List.mem_cons_self ..)
    have h2 : pad e.nm.length ≤ 3 := by unfold pad; omega
    rw [encs_cons, List.length_append, enc1_length, List.length_cons, Nat.succ_mul]
    omega
theorem okB_nil : okB [] = true := rfl
/-- What DirAdds knows: the entries, and which letters are there. -/
structure AI (i : Nat) (p : Nat → Bool) (es : List En) : Prop where
  ok : okB es = true
  wide : ∀ e ∈ es, e.Wide
  last : lastCk es ≤ i
  len : es.length ≤ i
  has : ∀ k, k < 26 → (p k = true ↔ ∃ e ∈ es, e.nm = [nb k])
def addX (i k : Nat) : En := ⟨i + 1, i, 0, [nb k]⟩
theorem AI.nil : AI 0 (fun _ => false) [] := ⟨rfl, (fun e h => by cases h), Nat.le_refl _, Nat.le_refl _, fun k _ => ⟨fun h => by (cases h), fun ⟨e, h, _⟩ => by cases h⟩⟩
theorem AI.skip {i : Nat} {p : Nat → Bool} {es : List En} (h : AI i p es) : AI (i + 1) p es := ⟨h.ok, h.wide, by have := h.last; omega, by have := h.len; omega, h.has⟩
theorem addX_wide {i k : Nat} (h : i < 1000) : (addX i k).Wide := ⟨by show i + 1 < _; omega, by show i < _; omega, by show 0 < _; omega⟩
theorem AI.old {i k : Nat} {p : Nat → Bool} {es : List En} (h : AI i p es) (hk : k < 26) (hp : p k = true) : addE es (addX i k) = 61 ∧ addL es (addX i k) = [] := by
  have : addE es (addX i k) = 61 := by
    unfold addE
    rw [if_neg (by rw [show (addX i k).nm = [nb k] from rfl, nb_ok (by omega)]; simp), if_pos (show 0 ≤ fnd es (addX i k).nm from fnd_some ((h.has k hk).1 hp))]
  refine ⟨this, ?_⟩
  unfold addL
  rw [this, if_neg (by omega)]
theorem AI.new {i k : Nat} {p : Nat → Bool} {es : List En} (h : AI i p es) (hk : k < 26) (hi : i < 1000) (hp : p k = false) :
    addE es (addX i k) = 0 ∧ addL es (addX i k) = es ++ [addX i k] ∧ fnd (es ++ [addX i k]) [nb k] = (es.length : Int) ∧ fnd es [nb k] = -1 ∧ AI (i + 1) (upd p k true) (es ++ [addX i k]) := by
  have hno : ∀ x ∈ es, x.nm ≠ (addX i k).nm := fun x hx e => by
    have := (h.has k hk).2 ⟨x, hx, e⟩
    rw [hp] at this
    cases this
  have hlt : lastCk es < (addX i k).ck := by
    have := h.last
    show lastCk es < i + 1
    omega
  have hok := nb_ok (g := k) (by omega)
  obtain ⟨a1, a2⟩ := add_ok (e := addX i k) hok hno hlt
  refine ⟨a1, a2, fnd_mid (ys := []) hno, fnd_none hno, okB_snoc h.ok hok hno hlt, ?_, ?_, ?_, ?_⟩
  · intro e he
    rcases List.mem_append.1 he with h1 | h1
    · exact h.wide e h1
    · rw [List.mem_singleton.1 h1]
      exact addX_wide hi
  · rw [lastCk_snoc]
    exact Nat.le_refl _
  · have := h.len
    rw [List.length_append]
    simp
    exact this
  · intro j hj
    by_cases hjk : j = k
    · subst hjk
      simp only [upd, if_true, true_iff]
      exact ⟨addX i j, by simp, rfl⟩
    · simp only [upd, if_neg hjk]
      rw [h.has j hj]
      constructor
      · rintro ⟨e, he, hn⟩
        exact ⟨e, List.mem_append_left _ he, hn⟩
      · rintro ⟨e, he, hn⟩
        rcases List.mem_append.1 he with h1 | h1
        · exact ⟨e, h1, hn⟩
        · rw [List.mem_singleton.1 h1] at hn
          have : nb k = nb j := by simpa [addX] using hn
          exact absurd (nb_inj (by omega) (by omega) this).symm hjk
theorem put_len {es : List En} (h : okB es = true) {n : Nat} (hn : es.length ≤ n) : (putE es).length ≤ n * 47 := by
  have h1 := encs_le2 es (okB_names es h)
  have : putE es = encs es := if_pos h
  rw [this]
  have h2 : es.length * (23 + 24) ≤ n * 47 := Nat.mul_le_mul_right _ hn
  omega
theorem chk_ok {es : List En} (h : okB es = true) : chkE es = 0 := if_pos h
end Go.Proofs.Ytcbmdcgaedkfnaa
