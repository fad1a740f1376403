/-
  A journal, plain: writes that leave what is found as it is; the end of a change; the log's start. Nothing of the program is named here.
-/
import Derived.Test.YtcieahfhpanogaaJMath
namespace Go.Proofs.Ytcieahfhpanogaa.J
open Go.Proofs.Ytcieahfhpanogaa

theorem mod_ne {t u v log : Nat} (h1 : u < v) (h2 : v < u + log) : (t + u) % log ≠ (t + v) % log := by
  intro e
  have h := Nat.sub_mod_eq_zero_of_mod_eq e.symm
  rw [show t + v - (t + u) = v - u by omega, Nat.mod_eq_of_lt (by omega)] at h
  omega
/-- The frame of kind k that bytes hold. -/
def frb (b : List UInt8) (k : UInt8) : Option Fm := if getE b = 0 ∧ (getF b).k = k then some (getF b) else none
theorem fr_same (G : Con) (p : Nat) (b : List UInt8) (k : UInt8) : fr (wr G p b) p k = frb b k := by
  unfold fr frb
  rw [wr_same]
theorem frb_put (f : Fm) (hf : f.ok) : frb (sealed f.enc) f.k = some f := by
  unfold frb
  rw [(get_put f hf).1, (get_put f hf).2]
  simp
theorem frb_put_ne (f : Fm) (hf : f.ok) (k : UInt8) (hk : f.k ≠ k) : frb (sealed f.enc) k = none := by
  unfold frb
  rw [(get_put f hf).1, (get_put f hf).2]
  simp [hk]
theorem hom_other (G : Con) {p log j : Nat} (b : List UInt8) (h : p ≠ 1 + log + j) : hom (wr G p b) log j = hom G log j := by
  unfold hom
  rw [fr_other G b 1 h]
theorem hom_put (G : Con) (log j s : Nat) (b : List UInt8) (hs : s < 18446744073709551616) (hj : j < 4294967296) (hb : b.length ≤ 96) : hom (wr G (1 + log + j) (sealed (homeF s j b).enc)) log j = b := by
  unfold hom
  have h := fr_put G (1 + log + j) (homeF s j b) (homeF_ok hs hj (by omega))
  simp only [homeF] at h
  simp only [homeF, h]
  rw [if_pos ⟨trivial, hb⟩]
theorem sup_other (G : Con) {p : Nat} (log : Nat) (b : List UInt8) (h : p ≠ 0) : sup (wr G p b) log = sup G log := by
  unfold sup
  rw [fr_other G b 4 h]

theorem lies_other {G : Con} {log t s p : Nat} {l : Chg} (b : List UInt8) (h : Lies G log t s l) (hp : ∀ u, u ≤ l.length → 1 + (t + u) % log ≠ p) : Lies (wr G p b) log t s l :=
  ⟨fun i hi => by rw [fr_other G b 2 (Ne.symm (hp i (by omega)))]; exact h.1 i hi, by rw [fr_other G b 3 (Ne.symm (hp _ (Nat.le_refl _)))]; exact h.2⟩
theorem chain_other {G : Con} {log p : Nat} (b : List UInt8) : ∀ (cs : List Chg) (t s : Nat), Chain G log t s cs → (∀ u, u < size cs → 1 + (t + u) % log ≠ p) → Chain (wr G p b) log t s cs
  | [], _, _, _, _ => trivial
  | c :: cs, t, s, h, hp => by
    refine ⟨lies_other b h.1 fun u hu => hp u (by simp only [size]; omega), chain_other b cs _ _ h.2 fun u hu => ?_⟩
    have := hp (c.length + 1 + u) (by simp only [size]; omega)
    rwa [show t + (c.length + 1 + u) = t + c.length + 1 + u by omega] at this

/-- A write that leaves what is found as it is: to the home of a block that a change tells, or into the log outside the changes, and no end of a change with a higher number. -/
def Safe (log nb s0 t0 : Nat) (cs : List Chg) (p : Nat) (b : List UInt8) : Prop :=
  (∃ i, i < nb ∧ p = 1 + log + i ∧ ∃ x ∈ cs.flatten, x.1 = i) ∨
  (∃ q, q < log ∧ p = 1 + q ∧ (∀ u, u < size cs → (t0 + u) % log ≠ q) ∧ ∀ f, frb b 3 = some f → f.s ≤ s0 + cs.length)
theorem Good.wr {G : Con} {log nb s0 t0 : Nat} {cs : List Chg} {B : Nat → List UInt8} (hlog : 0 < log) (h : Good G log nb s0 t0 cs B) {p : Nat} {b : List UInt8} (hs : Safe log nb s0 t0 cs p b) : Good (wr G p b) log nb s0 t0 cs B := by
  rcases hs with ⟨i, hi, rfl, hx⟩ | ⟨q, hq, rfl, hu, hf⟩
  · refine ⟨by rw [sup_other G log b (by omega)]; exact h.sup, chain_other b cs _ _ h.chain fun u _ => by have := Nat.mod_lt (t0 + u) hlog; omega, h.chok, h.fits, fun q f hq hf => ?_, fun j hj => ?_⟩
    · rw [fr_other G b 3 (by omega)] at hf
      exact h.noend q f hq hf
    · rw [← h.val j hj]
      by_cases e : j = i
      · subst e
        exact apl_touched hx _ _
      · exact apl_same _ _ (hom_other G b (by omega))
  · refine ⟨by rw [sup_other G log b (by omega)]; exact h.sup, chain_other b cs _ _ h.chain fun u hlt e => hu u hlt (by omega), h.chok, h.fits, fun q' f hq' hf' => ?_, fun j hj => ?_⟩
    · by_cases e : q' = q
      · subst e
        rw [fr_same] at hf'
        exact hf f hf'
      · rw [fr_other G b 3 (by omega)] at hf'
        exact h.noend q' f hq' hf'
    · rw [← h.val j hj]
      exact apl_same _ _ (hom_other G b (by omega))
/-- A block of a change that is about to be written, into the log. -/
theorem safe_data {log nb s0 t0 : Nat} {cs : List Chg} {n i : Nat} {x : Nat × List UInt8} (hi : size cs + i < log) (hs : s0 + cs.length + 1 < 18446744073709551616) (hx : x.1 < 4294967296) (hb : x.2.length ≤ 96) :
    Safe log nb s0 t0 cs (1 + (t0 + size cs + i) % log) (sealed (dataF (s0 + cs.length + 1) n i x).enc) := by
  refine .inr ⟨_, Nat.mod_lt _ (by omega), rfl, fun u hu e => ?_, fun f hf => ?_⟩
  · exact mod_ne (t := t0) (u := u) (v := size cs + i) (log := log) (by omega) (by omega) (by rw [e, Nat.add_assoc])
  · rw [frb_put_ne _ (dataF_ok hs hx (by omega)) 3 (by show (2 : UInt8) ≠ 3; decide)] at hf
    cases hf
theorem safe_home {log nb s0 t0 : Nat} {cs : List Chg} {i : Nat} (b : List UInt8) (hi : i < nb) (hx : ∃ x ∈ cs.flatten, x.1 = i) : Safe log nb s0 t0 cs (1 + log + i) b := .inl ⟨i, hi, rfl, hx⟩
/-- What is safe stays safe behind one more change, unless that lies there. -/
theorem hom_after {G : Con} {log : Nat} {p : Nat} (b : List UInt8) (hp : p ≤ log) (i : Nat) : hom (wr G p b) log i = hom G log i := hom_other G b (by omega)

/-- The end of a change whose blocks are there: it counts. -/
theorem Good.commit {G : Con} {log nb s0 t0 : Nat} {cs : List Chg} {B : Nat → List UInt8} {l : Chg} (h : Good G log nb s0 t0 cs B) (hl : ChOk nb l) (hf : size cs + l.length + 1 ≤ log) (hs : s0 + cs.length + 1 < 18446744073709551616)
    (hd : ∀ i (hi : i < l.length), fr G (1 + (t0 + size cs + i) % log) 2 = some (dataF (s0 + cs.length + 1) l.length i l[i])) :
    Good (J.wr G (1 + (t0 + size cs + l.length) % log) (sealed (endF (s0 + cs.length + 1) l.length).enc)) log nb s0 t0 (cs ++ [l]) (apl l B) := by
  have hlog : 0 < log := by omega
  have hp := Nat.mod_lt (t0 + size cs + l.length) hlog
  have hok : (endF (s0 + cs.length + 1) l.length).ok := endF_ok hs
  refine ⟨by rw [sup_other G log _ (by omega)]; exact h.sup, ?_, ?_, by rw [size_snoc]; omega, fun q f hq hf' => ?_, fun j hj => ?_⟩
  · rw [chain_snoc]
    refine ⟨chain_other _ cs _ _ h.chain fun u hu e => ?_, fun i hi => ?_, ?_⟩
    · exact mod_ne (t := t0) (u := u) (v := size cs + l.length) (log := log) (by omega) (by omega) (by rw [← Nat.add_assoc]; omega)
    · rw [fr_other G _ 2 ?_]
      · exact hd i hi
      · intro e
        exact mod_ne (t := t0 + size cs) (u := i) (v := l.length) (log := log) hi (by omega) (by omega)
    · exact fr_put G _ (endF (s0 + cs.length + 1) l.length) hok
  · intro c hc
    rcases List.mem_append.1 hc with hc | hc
    · exact h.chok c hc
    · obtain rfl : c = l := by simpa using hc
      exact hl
  · rw [List.length_append, List.length_singleton]
    by_cases e : q = (t0 + size cs + l.length) % log
    · subst e
      rw [fr_same] at hf'
      have h3 : frb (sealed (endF (s0 + cs.length + 1) l.length).enc) 3 = some (endF (s0 + cs.length + 1) l.length) := frb_put (endF (s0 + cs.length + 1) l.length) hok
      rw [h3] at hf'
      cases hf'
      show s0 + cs.length + 1 ≤ _
      omega
    · rw [fr_other G _ 3 (by omega)] at hf'
      have := h.noend q f hq hf'
      omega
  · rw [List.flatten_append, apl_append, List.flatten_singleton]
    refine apl_same _ _ ?_
    rw [← h.val j hj]
    exact apl_same _ _ (hom_other G _ (by omega))

/-- The log's start is written, where all blocks are at home. -/
theorem Good.super {G : Con} {log nb s0 t0 : Nat} {cs : List Chg} {B : Nat → List UInt8} (hlog : 0 < log) (hl4 : log ≤ 4294967295) (h : Good G log nb s0 t0 cs B) (hh : ∀ i, i < nb → hom G log i = B i) (hs : s0 + cs.length < 18446744073709551616) :
    Good (J.wr G 0 (sealed (superF (s0 + cs.length) ((t0 + size cs) % log)).enc)) log nb (s0 + cs.length) (t0 + size cs) [] B := by
  have hp := Nat.mod_lt (t0 + size cs) hlog
  have hok : (superF (s0 + cs.length) ((t0 + size cs) % log)).ok := superF_ok hs (by omega)
  refine ⟨?_, trivial, fun c hc => (by cases hc), Nat.zero_le _, fun q f hq hf => ?_, fun i hi => ?_⟩
  · have h4 := fr_put G 0 (superF (s0 + cs.length) ((t0 + size cs) % log)) hok
    simp only [superF] at h4
    unfold J.sup
    simp only [superF, h4]
    rw [if_pos hp]
  · rw [fr_other G _ 3 (by omega)] at hf
    have := h.noend q f hq hf
    simpa using this
  · show hom _ log i = B i
    rw [hom_other G _ (by omega)]
    exact hh i hi

/-- A new disk. -/
theorem zero_wrong : getE (List.replicate 128 0) = 14 := getE_sum (by simp) (by decide +kernel)
theorem Good.fresh {G : Con} (log nb : Nat) (h : ∀ p : Nat, getE (G p) ≠ 0) : Good G log nb 0 0 [] (fun _ => []) := by
  have hn : ∀ p k, fr G p k = none := fun p k => by
    unfold fr
    rw [if_neg]
    rintro ⟨h0, _⟩
    exact h p h0
  refine ⟨?_, trivial, fun c hc => (by cases hc), Nat.zero_le _, fun q f hq hf => ?_, fun i hi => ?_⟩
  · unfold J.sup
    rw [hn]
    simp
  · rw [hn] at hf
    cases hf
  · show hom _ log i = []
    unfold hom
    rw [hn]
end Go.Proofs.Ytcieahfhpanogaa.J
