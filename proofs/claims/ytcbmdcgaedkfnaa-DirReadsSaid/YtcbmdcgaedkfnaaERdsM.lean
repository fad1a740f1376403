/-
  What DirReads needs of entries, plain: cookies in order, who was told (layer 8).
-/
import Derived.Test.YtcbmdcgaedkfnaaEMay
namespace Go.Proofs.Ytcbmdcgaedkfnaa

/-- The name at a cookie, .. -/
def nmR (N j : Nat) : List UInt8 := if j ≤ N then [110, nb (j - 1)] else [109, UInt8.ofNat j]
/-- .. the entry, .. -/
def mkR (N j : Nat) : En := ⟨j, 0, 0, nmR N j⟩
/-- .. the entries. -/
def rws (N : Nat) (cs : List Nat) : List En := cs.map (mkR N)
theorem rws_len (N : Nat) (cs : List Nat) : (rws N cs).length = cs.length := List.length_map ..
theorem ofNat_toNat {j : Nat} (h : j < 256) : (UInt8.ofNat j).toNat = j := by rw [UInt8.toNat_ofNat']; omega
theorem nmR_inj {N i j : Nat} (_ : N ≤ 12) (h1 : 1 ≤ i) (h2 : 1 ≤ j) (hi : i ≤ 90) (hj : j ≤ 90) (h : nmR N i = nmR N j) : i = j := by
  unfold nmR at h
  split at h <;> split at h
  · have : nb (i - 1) = nb (j - 1) := by simpa using h
    have := nb_inj (by omega) (by omega) this
    omega
  · simp at h
  · simp at h
  · have : UInt8.ofNat i = UInt8.ofNat j := by simpa using h
    have := congrArg UInt8.toNat this
    rwa [ofNat_toNat (by omega), ofNat_toNat (by omega)] at this
theorem two_ok (a b : UInt8) (h1 : a ≠ 0) (h2 : a ≠ 47) (h3 : a ≠ 46) (h4 : b ≠ 0) (h5 : b ≠ 47) : nameOk [a, b] = true := by
  simp [nameOk, h1, h2, h3, h4, h5]
theorem u8_at {j : Nat} {c : UInt8} (hj : j < 256) (h : j ≠ c.toNat) : UInt8.ofNat j ≠ c := fun e => h (by rw [← e, ofNat_toNat hj])
theorem nmR_ok {N j : Nat} (_ : N ≤ 12) (h1 : 1 ≤ j) (hj : j ≤ 90) (h47 : j ≠ 47) : nameOk (nmR N j) = true := by
  unfold nmR
  split
  · have hb := nb_int (g := j - 1) (by omega)
    refine two_ok _ _ (by decide) (by decide) (by decide) (fun e => ?_) (fun e => ?_)
    · rw [e] at hb; have : ((0 : UInt8).toNat : Int) = 0 := rfl; omega
    · rw [e] at hb; have : ((47 : UInt8).toNat : Int) = 47 := rfl; omega
  · exact two_ok _ _ (by decide) (by decide) (by decide) (u8_at (by omega) (by show j ≠ 0; omega)) (u8_at (by omega) h47)
theorem mkR_wide {N j : Nat} (h : j ≤ 1000) : (mkR N j).Wide := ⟨by show j < _; omega, by show 0 < _; omega, by show 0 < _; omega⟩
/-- Cookies in order, from 1 to hi. -/
structure Srt (cs : List Nat) (hi : Nat) : Prop where
  ord : cs.Pairwise (· < ·)
  pos : ∀ j ∈ cs, 1 ≤ j
  le : ∀ j ∈ cs, j ≤ hi
theorem Srt.up {cs : List Nat} {a b : Nat} (h : Srt cs a) (hab : a ≤ b) : Srt cs b := ⟨h.ord, h.pos, fun j hj => Nat.le_trans (h.le j hj) hab⟩
theorem rws_wide {N hi : Nat} {cs : List Nat} (h : Srt cs hi) (hh : hi ≤ 1000) : ∀ x ∈ rws N cs, x.Wide := by
  intro x hx
  obtain ⟨j, hj, rfl⟩ := List.mem_map.1 hx
  exact mkR_wide (by have := h.le j hj; omega)
theorem rws_other {N hi c : Nat} {cs : List Nat} (hN : N ≤ 12) (h : Srt cs hi) (hc : hi < c) (hc9 : c ≤ 90) : ∀ x ∈ rws N cs, x.nm ≠ (mkR N c).nm := by
  intro x hx e
  obtain ⟨j, hj, rfl⟩ := List.mem_map.1 hx
  have h1 := h.le j hj
  have := nmR_inj hN (h.pos j hj) (by omega) (by omega) hc9 e
  omega
theorem Srt.snoc {cs : List Nat} {hi c : Nat} (h : Srt cs hi) (hc : hi < c) : Srt (cs ++ [c]) c := by
  refine ⟨?_, ?_, ?_⟩
  · rw [List.pairwise_append]
    refine ⟨h.ord, List.pairwise_singleton _ _, fun a ha b hb => ?_⟩
    rw [List.mem_singleton.1 hb]
    have := h.le a ha
    omega
  · intro j hj
    rcases List.mem_append.1 hj with h1 | h1
    · exact h.pos j h1
    · rw [List.mem_singleton.1 h1]; omega
  · intro j hj
    rcases List.mem_append.1 hj with h1 | h1
    · have := h.le j h1; omega
    · rw [List.mem_singleton.1 h1]; exact Nat.le_refl _
theorem rws_add {N hi c : Nat} {cs : List Nat} (hN : N ≤ 12) (h : Srt cs hi) (hc : hi < c) (hc9 : c ≤ 90) (h47 : c ≠ 47) : addE (rws N cs) (mkR N c) = 0 ∧ addL (rws N cs) (mkR N c) = rws N (cs ++ [c]) := by
  have := add_ok (es := rws N cs) (e := mkR N c) (nmR_ok hN (by omega) hc9 h47) (rws_other hN h hc hc9) (lastCk_lt (by show 0 < c; omega) fun e he => by
    obtain ⟨j, hj, rfl⟩ := List.mem_map.1 he
    have := h.le j hj
    show j < c
    omega)
  refine ⟨this.1, ?_⟩
  rw [this.2]
  unfold rws
  rw [List.map_append]
  rfl
theorem rws_add47 {N : Nat} (hN : N ≤ 12) (es : List En) : addE es (mkR N 47) = 67 := by
  have : nameOk (mkR N 47).nm = false := by
    show nameOk (nmR N 47) = false
    unfold nmR
    rw [if_neg (by omega)]
    rfl
  exact if_pos this
theorem rws_rem {N hi k : Nat} {cs : List Nat} (hN : N ≤ 12) (h : Srt cs hi) (hh : hi ≤ 90) (hk : k < cs.length) : remE (rws N cs) (nmR N cs[k]) = 0 ∧ remL (rws N cs) (nmR N cs[k]) = rws N (cs.take k ++ cs.drop (k + 1)) := by
  have h1 : cs = cs.take k ++ cs[k] :: cs.drop (k + 1) := by
    rw [List.getElem_cons_drop]
    exact (List.take_append_drop k cs).symm
  have h3 : ∀ x ∈ rws N (cs.take k), x.nm ≠ (mkR N cs[k]).nm := by
    intro x hx e
    obtain ⟨j, hj, rfl⟩ := List.mem_map.1 hx
    have hm := List.mem_of_mem_take hj
    have e2 := nmR_inj hN (h.pos j hm) (h.pos _ (List.getElem_mem hk)) (by have := h.le j hm; omega) (by have := h.le _ (List.getElem_mem hk); omega) e
    have ho := h.ord
    rw [h1, List.pairwise_append] at ho
    have := ho.2.2 j hj cs[k] (List.mem_cons_self ..)
    omega
  have := rem_mid (xs := rws N (cs.take k)) (ys := rws N (cs.drop (k + 1))) (e := mkR N cs[k]) h3
  have e1 : rws N cs = rws N (cs.take k) ++ mkR N cs[k] :: rws N (cs.drop (k + 1)) := by
    conv => lhs; rw [h1]
    unfold rws
    rw [List.map_append]
    rfl
  rw [e1]
  refine ⟨this.1, ?_⟩
  rw [show nmR N cs[k] = (mkR N cs[k]).nm from rfl, this.2]
  unfold rws
  rw [List.map_append]
theorem Srt.without {cs : List Nat} {hi : Nat} (h : Srt cs hi) (k : Nat) : Srt (cs.take k ++ cs.drop (k + 1)) hi := by
  have hs : (cs.take k ++ cs.drop (k + 1)).Sublist cs := by
    rw [← List.eraseIdx_eq_take_drop_succ]
    exact List.eraseIdx_sublist _ _
  exact ⟨h.ord.sublist hs, fun j hj => h.pos j (hs.subset hj), fun j hj => h.le j (hs.subset hj)⟩
theorem mem_without {cs : List Nat} {hi : Nat} (_ : Srt cs hi) {k : Nat} (hk : k < cs.length) {j : Nat} (hj : j ∈ cs) (hne : j ≠ cs[k]) : j ∈ cs.take k ++ cs.drop (k + 1) := by
  have h1 : cs = cs.take k ++ cs[k] :: cs.drop (k + 1) := by
    rw [List.getElem_cons_drop]
    exact (List.take_append_drop k cs).symm
  generalize cs[k] = c at *
  rw [h1] at hj
  rcases List.mem_append.1 hj with h2 | h2
  · exact List.mem_append_left _ h2
  · rcases List.mem_cons.1 h2 with h3 | h3
    · exact absurd h3 hne
    · exact List.mem_append_right _ h3
/-- The cookies behind one. -/
def dr (cs : List Nat) (t : Nat) : List Nat := cs.drop (cs.findIdx fun j => decide (t < j))
def xsR (cs : List Nat) (t m : Nat) : List Nat := (dr cs t).take m
theorem rws_frm (N : Nat) (cs : List Nat) (t : Nat) : frm (rws N cs) t = cs.findIdx fun j => decide (t < j) := by
  unfold frm rws
  rw [List.findIdx_map]
  rfl
theorem rws_aft (N : Nat) (cs : List Nat) (t m : Nat) : aftL (rws N cs) t (m : Nat) = rws N (xsR cs t m) := by
  unfold aftL xsR dr
  rw [rws_frm, Int.toNat_natCast]
  unfold rws
  rw [← List.map_drop, ← List.map_take]
theorem rws_aftB (N : Nat) (cs : List Nat) (t m : Nat) : aftB (rws N cs) t (m : Nat) = decide ((dr cs t).length ≤ m) := by
  unfold aftB dr
  rw [rws_frm, Int.toNat_natCast]
  unfold rws
  rw [← List.map_drop, List.length_map]
theorem mem_dr {t : Nat} : ∀ cs : List Nat, cs.Pairwise (· < ·) → ∀ j, j ∈ dr cs t ↔ j ∈ cs ∧ t < j
  | [], _, j => by simp [dr]
  | a :: r, h, j => by
    rw [List.pairwise_cons] at h
    have ih := mem_dr (t := t) r h.2 j
    unfold dr at ih ⊢
    rw [List.findIdx_cons]
    by_cases ha : t < a
    · rw [decide_eq_true ha]
      simp only [cond_true, List.drop_zero]
      constructor
      · intro hj
        refine ⟨hj, ?_⟩
        rcases List.mem_cons.1 hj with h1 | h1
        · omega
        · have := h.1 j h1; omega
      · exact fun hj => hj.1
    · rw [decide_eq_false ha]
      simp only [cond_false, List.drop_succ_cons]
      rw [ih]
      constructor
      · exact fun hj => ⟨List.mem_cons_of_mem _ hj.1, hj.2⟩
      · rintro ⟨hj, hl⟩
        rcases List.mem_cons.1 hj with h1 | h1
        · omega
        · exact ⟨h1, hl⟩
theorem xsR_sub (cs : List Nat) (t m : Nat) : (xsR cs t m).Sublist cs := (List.take_sublist _ _).trans (List.drop_sublist _ _)
/-- The cookie told last. -/
def atk (xs : List Nat) (t k : Nat) : Nat := if k = 0 then t else xs.getD (k - 1) 0
theorem atk_succ {xs : List Nat} {t k : Nat} (hk : k < xs.length) : atk xs t (k + 1) = xs[k] := by
  unfold atk
  rw [if_neg (by omega), List.getD_eq_getElem?_getD, show k + 1 - 1 = k by omega, List.getElem?_eq_getElem hk]
  rfl
def tk (told : Nat → Nat) (xs : List Nat) (k : Nat) : Nat → Nat := fun j => told j + if j ∈ xs.take k then 1 else 0
/-- What DirReads knows at the head of its loop. -/
structure RI (N : Nat) (cs : List Nat) (ck t : Nat) (stays : Nat → Bool) (told : Nat → Nat) : Prop where
  n12 : N ≤ 12
  srt : Srt cs ck
  c90 : ck ≤ 90
  nck : N ≤ ck
  tck : t ≤ ck
  len : cs.length ≤ ck
  t1 : ∀ j, told j ≤ 1
  t0 : ∀ j, t < j → told j = 0
  st : ∀ j, stays j = true → j ∈ cs
  tt : ∀ j, stays j = true → j ≤ t → told j = 1
section
variable {N : Nat} {cs : List Nat} {ck t m : Nat} {stays : Nat → Bool} {told : Nat → Nat}
theorem RI.xgt (h : RI N cs ck t stays told) : ∀ j ∈ xsR cs t m, t < j := fun j hj => ((mem_dr cs h.srt.ord j).1 (List.mem_of_mem_take hj)).2
theorem RI.xord (h : RI N cs ck t stays told) : (xsR cs t m).Pairwise (· < ·) := h.srt.ord.sublist (xsR_sub cs t m)
theorem RI.xcs (_ : RI N cs ck t stays told) : ∀ j ∈ xsR cs t m, j ∈ cs := fun _ hj => (xsR_sub cs t m).subset hj
theorem RI.x90 (h : RI N cs ck t stays told) : ∀ j ∈ xsR cs t m, j ≤ 90 := fun j hj => Nat.le_trans (h.srt.le j (h.xcs j hj)) h.c90
/-- Each is told behind the last one, and was told never. -/
theorem RI.next (h : RI N cs ck t stays told) {k : Nat} (hk : k < (xsR cs t m).length) : atk (xsR cs t m) t k < (xsR cs t m)[k] ∧ tk told (xsR cs t m) k (xsR cs t m)[k] = 0 ∧ upd (tk told (xsR cs t m) k) (xsR cs t m)[k] 1 = tk told (xsR cs t m) (k + 1) := by
  have hx := h.xgt (m := m)
  have ho := h.xord (m := m)
  have h0 := h.t0
  generalize xsR cs t m = xs at *
  have hno : xs[k] ∉ xs.take k := by
    intro hm
    obtain ⟨i, hi, e⟩ := List.getElem_of_mem hm
    rw [List.length_take] at hi
    rw [List.getElem_take] at e
    have := List.pairwise_iff_getElem.1 ho i k (by omega) hk (by omega)
    omega
  have hz : tk told xs k xs[k] = 0 := by
    unfold tk
    rw [if_neg hno, h0 _ (hx _ (List.getElem_mem hk))]
  refine ⟨?_, hz, ?_⟩
  · cases k with
    | zero => exact hx _ (List.getElem_mem hk)
    | succ i =>
      rw [atk_succ (by omega)]
      exact List.pairwise_iff_getElem.1 ho i (i + 1) (by omega) hk (by omega)
  · funext j
    unfold upd
    split
    · rename_i e
      subst e
      unfold tk
      rw [if_pos (by rw [List.take_succ_eq_append_getElem hk]; exact List.mem_append_right _ (List.mem_singleton.2 rfl))]
      rw [h0 _ (hx _ (List.getElem_mem hk))]
    · rename_i e
      unfold tk
      have hiff : j ∈ xs.take (k + 1) ↔ j ∈ xs.take k := by
        rw [List.take_succ_eq_append_getElem hk, List.mem_append, List.mem_singleton]
        exact ⟨fun h => h.resolve_right e, .inl⟩
      simp only [hiff]
theorem atk_end {xs : List Nat} (ho : xs.Pairwise (· < ·)) (t : Nat) (hx : ∀ j ∈ xs, t < j) : (∀ j ∈ xs, j ≤ atk xs t xs.length) ∧ t ≤ atk xs t xs.length ∧ (xs = [] ∧ atk xs t xs.length = t ∨ atk xs t xs.length ∈ xs) := by
  rcases Nat.eq_zero_or_pos xs.length with h0 | h0
  · obtain rfl : xs = [] := List.eq_nil_of_length_eq_zero h0
    exact ⟨fun j hj => by (cases hj), Nat.le_refl _, .inl ⟨rfl, rfl⟩⟩
  · obtain ⟨q, hq⟩ : ∃ q, xs.length = q + 1 := ⟨xs.length - 1, by omega⟩
    have hql : q < xs.length := by omega
    rw [hq, atk_succ hql]
    refine ⟨fun j hj => ?_, Nat.le_of_lt (hx _ (List.getElem_mem hql)), .inr (List.getElem_mem hql)⟩
    obtain ⟨i, hi, rfl⟩ := List.getElem_of_mem hj
    by_cases e : i = q
    · subst e; exact Nat.le_refl _
    · exact Nat.le_of_lt (List.pairwise_iff_getElem.1 ho i q hi hql (by omega))
/-- Behind a page. -/
theorem RI.page (h : RI N cs ck t stays told) : RI N cs ck (atk (xsR cs t m) t (xsR cs t m).length) stays (tk told (xsR cs t m) (xsR cs t m).length) ∧ t ≤ atk (xsR cs t m) t (xsR cs t m).length := by
  have hx := h.xgt (m := m)
  have ho := h.xord (m := m)
  have hc := h.xcs (m := m)
  obtain ⟨e1, e2, e3⟩ := atk_end ho t hx
  have hmem : ∀ j, j ∈ cs → t < j → j ≤ atk (xsR cs t m) t (xsR cs t m).length → j ∈ xsR cs t m := by
    intro j hj hlt hle
    have hd := (mem_dr cs h.srt.ord j).2 ⟨hj, hlt⟩
    have hs : dr cs t = xsR cs t m ++ (dr cs t).drop m := (List.take_append_drop m _).symm
    rw [hs] at hd
    rcases List.mem_append.1 hd with h1 | h1
    · exact h1
    · have hod : (dr cs t).Pairwise (· < ·) := h.srt.ord.sublist (List.drop_sublist _ _)
      rw [hs, List.pairwise_append] at hod
      rcases e3 with ⟨_, e4⟩ | e4
      · omega
      · have := hod.2.2 _ e4 j h1
        omega
  have htk : ∀ j, tk told (xsR cs t m) (xsR cs t m).length j = told j + if j ∈ xsR cs t m then 1 else 0 := by
    intro j
    unfold tk
    rw [List.take_length]
  refine ⟨⟨h.n12, h.srt, h.c90, h.nck, ?_, h.len, ?_, ?_, h.st, ?_⟩, e2⟩
  · rcases e3 with ⟨_, e4⟩ | e4
    · rw [e4]; exact h.tck
    · exact h.srt.le _ (hc _ e4)
  · intro j
    rw [htk]
    split
    · rename_i hj
      rw [h.t0 j (hx j hj)]
      exact Nat.le_refl _
    · exact h.t1 j
  · intro j hj
    rw [htk, h.t0 j (by omega), if_neg (fun hm => by have := e1 j hm; omega)]
  · intro j hs hj
    rw [htk]
    by_cases hl : t < j
    · rw [if_pos (hmem j (h.st j hs) hl hj), h.t0 j hl]
    · rw [h.tt j hs (by omega), if_neg (fun hm => by have := hx j hm; omega)]
/-- All that are there lie behind us. -/
theorem RI.over (h : RI N cs ck t stays told) (ha : (dr cs t).length ≤ m) : ∀ j, stays j = true → tk told (xsR cs t m) (xsR cs t m).length j = 1 := by
  intro j hs
  have hp := (h.page (m := m)).1
  refine hp.tt j hs ?_
  obtain ⟨e1, e2, _⟩ := atk_end (h.xord (m := m)) t (h.xgt (m := m))
  have hj := h.st j hs
  by_cases hl : t < j
  · have hd := (mem_dr cs h.srt.ord j).2 ⟨hj, hl⟩
    rw [show dr cs t = xsR cs t m from (List.take_of_length_le ha).symm] at hd
    exact e1 j hd
  · omega
theorem RI.more (h : RI N cs ck t stays told) (ha : m < (dr cs t).length) (hm : 1 ≤ m) : 0 < (xsR cs t m).length ∧ t < atk (xsR cs t m) t (xsR cs t m).length := by
  have hl : 0 < (xsR cs t m).length := by unfold xsR; rw [List.length_take]; omega
  refine ⟨hl, ?_⟩
  obtain ⟨_, _, e3⟩ := atk_end (h.xord (m := m)) t (h.xgt (m := m))
  rcases e3 with ⟨e4, _⟩ | e4
  · rw [e4] at hl; exact absurd hl (by simp)
  · exact h.xgt _ e4
theorem RI.add (h : RI N cs ck t stays told) (hc : ck < 90) : RI N (cs ++ [ck + 1]) (ck + 1) t stays told :=
  ⟨h.n12, h.srt.snoc (by omega), by omega, by have := h.nck; omega, by have := h.tck; omega, by have := h.len; rw [List.length_append]; simp; omega, h.t1, h.t0, fun j hj => List.mem_append_left _ (h.st j hj), h.tt⟩
theorem RI.tick (h : RI N cs ck t stays told) (hc : ck < 90) : RI N cs (ck + 1) t stays told :=
  ⟨h.n12, h.srt.up (by omega), by omega, by have := h.nck; omega, by have := h.tck; omega, by have := h.len; omega, h.t1, h.t0, h.st, h.tt⟩
theorem RI.rem (h : RI N cs ck t stays told) {k : Nat} (hk : k < cs.length) : RI N (cs.take k ++ cs.drop (k + 1)) ck t (upd stays cs[k] false) told := by
  have hu : ∀ j, upd stays cs[k] false j = true → j ≠ cs[k] ∧ stays j = true := by
    intro j hj
    unfold upd at hj
    split at hj
    · cases hj
    · rename_i e; exact ⟨e, hj⟩
  exact ⟨h.n12, h.srt.without k, h.c90, h.nck, h.tck, by have := h.len; rw [List.length_append, List.length_take, List.length_drop]; omega, h.t1, h.t0, fun j hj => mem_without h.srt hk (h.st j (hu j hj).2) (hu j hj).1, fun j hj hl => h.tt j (hu j hj).2 hl⟩
end
/-- The first names. -/
def fst1 (i : Nat) : List Nat := (List.range i).map (· + 1)
theorem fst1_succ (i : Nat) : fst1 (i + 1) = fst1 i ++ [i + 1] := by unfold fst1; rw [List.range_succ, List.map_append]; rfl
theorem fst1_srt : ∀ i, Srt (fst1 i) i
  | 0 => ⟨List.Pairwise.nil, fun j h => by (cases h), fun j h => by cases h⟩
  | i + 1 => by rw [fst1_succ]; exact (fst1_srt i).snoc (by omega)
theorem fst1_mem {i j : Nat} (h1 : 1 ≤ j) (h2 : j ≤ i) : j ∈ fst1 i := by
  unfold fst1
  exact List.mem_map.2 ⟨j - 1, List.mem_range.2 (by omega), by omega⟩
theorem RI.start {N : Nat} (hN : N ≤ 12) : RI N (fst1 N) N 0 (fun j => decide (1 ≤ j ∧ j ≤ N)) (fun _ => 0) :=
  ⟨hN, fst1_srt N, by omega, Nat.le_refl _, Nat.zero_le _, by simp [fst1], fun _ => by omega, fun _ _ => rfl, fun j hj => by
    have := of_decide_eq_true hj
    exact fst1_mem this.1 this.2, fun j hj hl => by
    have := of_decide_eq_true hj
    omega⟩
end Go.Proofs.Ytcbmdcgaedkfnaa
