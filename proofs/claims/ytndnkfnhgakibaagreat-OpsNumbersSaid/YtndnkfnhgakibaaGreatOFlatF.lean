/-
  Volumes whose root holds files without bytes, plain (layer 13). Nothing of the program is named here.
-/
import Derived.Test.YtndnkfnhgakibaaGreatOFlat
namespace Go.Proofs.YtndnkfnhgakibaaGreat
namespace Op
/-- The root holds files alone, each without bytes, each with one name. -/
structure Fl (t : TT) (B : Nat) : Prop where
  snd : Sound t
  root : folderE t 0 1 = 0
  ck : (t.s 0).cookie ≤ B
  gen : ∀ i, i < 24 → (t.s i).gen ≤ B + 1
  file : ∀ i, 1 ≤ i → i < 24 → (t.s i).kind = 0 ∨ ((t.s i).kind = 1 ∧ (t.s i).links = 1)
  dts : ∀ i, 1 ≤ i → i < 24 → (t.s i).dt = []
  rm : 8 ≤ t.rm
  few : ∀ e ∈ ents t 0, e.nm.length ≤ 4
theorem encs_few : ∀ es : List En, (∀ e ∈ es, e.nm.length ≤ 4) → (encs es).length ≤ 24 * es.length
  | [], _ => Nat.le_refl _
  | e :: r, h => by
    have h1 := encs_few r fun x hx => h x (List.mem_cons_of_mem _ hx)
    have h2 := h e List.mem_cons_self
    rw [encs_cons, List.length_append, enc1_length, List.length_cons]
    have hp : e.nm.length + pad e.nm.length ≤ 4 := by unfold pad; omega
    omega
theorem lowest_eq {t : TT} {k : Nat} (hk : k < 24) (h0 : (t.s k).kind = 0) (h : ∀ i, i < k → (t.s i).kind ≠ 0) : lowest t = some k := by
  cases hl : lowest t with
  | none =>
    have := List.find?_eq_none.1 hl k (List.mem_range.2 hk)
    simp [h0] at this
  | some j =>
    obtain ⟨h1, h2, h3⟩ := lowest_some hl
    by_cases e : j = k
    · rw [e]
    · by_cases lt : j < k
      · exact absurd h2 (h j lt)
      · exact absurd h0 (h3 k (by omega))
section
variable {t : TT} {B : Nat}
theorem Fl.kind0 (h : Fl t B) : (t.s 0).kind = 2 ∧ (t.s 0).gen = 1 := ⟨(folder_ok h.root).2.1, (folder_ok h.root).2.2⟩
/-- An entry of the root names a file. -/
theorem Fl.live (h : Fl t B) {e : En} (he : e ∈ ents t 0) : 1 ≤ e.ino ∧ e.ino < 24 ∧ (t.s e.ino).kind = 1 ∧ (t.s e.ino).links = 1 ∧ (t.s e.ino).gen = e.gen := by
  obtain ⟨h1, h2, h3⟩ := h.snd.inv.live 0 (by omega) h.kind0.1 e he
  have h0 : e.ino ≠ 0 := fun e0 => by
    have hb := h.snd.inv.bal 0 (by omega) (by rw [h.kind0.1]; decide)
    have ho := h.snd.inv.one 0 (by omega) h.kind0.1
    have hle : own t 0 0 + 1 ≤ refs t 0 := by
      have h := Vl.sum24_upd (own t 0) 0 (show 0 < 24 by omega)
      unfold refs
      rw [if_pos rfl]
      omega
    have hc : 1 ≤ own t 0 0 := by
      unfold own
      rw [if_pos h.kind0.1]
      exact List.countP_pos_iff.2 ⟨e, he, by simpa using e0⟩
    omega
  rcases h.file e.ino (by omega) h1 with h4 | h4
  · exact absurd h4 h2
  · exact ⟨by omega, h1, h4.1, h4.2, h3⟩
/-- Each file has an entry. -/
theorem Fl.named (h : Fl t B) {j : Nat} (h1 : 1 ≤ j) (hj : j < 24) (hk : (t.s j).kind ≠ 0) : (ents t 0).countP (fun e => e.ino == j) = 1 := by
  have hb := h.snd.inv.bal j hj hk
  rcases h.file j h1 hj with h2 | h2
  · exact absurd h2 hk
  have ho : own t j 0 = (ents t 0).countP (fun e => e.ino == j) := by unfold own; rw [if_pos h.kind0.1]
  have hs : Vl.sum24 (own t j) = own t j 0 := by
    have e : Vl.sum24 (own t j) = Vl.sum24 (Vl.upd (fun _ => 0) 0 (own t j 0)) := by
      refine Vl.sum24_congr fun i hi => ?_
      unfold Vl.upd
      by_cases e1 : i = 0
      · rw [if_pos e1, e1]
      · rw [if_neg e1]
        unfold own
        rw [if_neg]
        rcases h.file i (by omega) hi with h3 | h3
        · rw [h3]; decide
        · rw [h3.1]; decide
    have a1 := Vl.sum24_upd (fun _ => 0) (i := 0) (own t j 0) (by omega)
    have z : Vl.sum24 (fun _ => 0) = 0 := by decide
    rw [z] at a1
    omega
  unfold refs at hb
  rw [if_neg (by omega), hs, ho, h2.2] at hb
  omega
theorem sum_count (l : List En) : Vl.sum24 (fun j => l.countP (fun e => e.ino == j)) ≤ l.length := by
  induction l with
  | nil => decide
  | cons e r ih =>
    rw [List.length_cons]
    by_cases h : e.ino < 24
    · have h1 := Vl.sum24_upd (fun j => r.countP (fun e => e.ino == j)) (r.countP (fun x => x.ino == e.ino) + 1) h
      have h2 : Vl.sum24 (fun j => (e :: r).countP (fun e => e.ino == j)) = Vl.sum24 (Vl.upd (fun j => r.countP (fun e => e.ino == j)) e.ino (r.countP (fun x => x.ino == e.ino) + 1)) := Vl.sum24_congr fun i _ => by
        rw [List.countP_cons]
        unfold Vl.upd
        by_cases ei : i = e.ino
        · rw [if_pos ei, ei]; simp
        · rw [if_neg ei]
          have : ¬ e.ino = i := fun h => ei h.symm
          simp [this]
      omega
    · have h2 : Vl.sum24 (fun j => (e :: r).countP (fun e => e.ino == j)) = Vl.sum24 (fun j => r.countP (fun e => e.ino == j)) := Vl.sum24_congr fun i hi => by
        rw [List.countP_cons]
        have : ¬ e.ino = i := by omega
        simp [this]
      omega
/-- While there are few entries a number is free. -/
theorem Fl.low (h : Fl t B) (hl : (ents t 0).length < 23) : ∃ k, lowest t = some k ∧ 1 ≤ k := by
  cases hlo : lowest t with
  | none =>
    exfalso
    have hn : ∀ i, i < 24 → (t.s i).kind ≠ 0 := fun i hi h0 => by
      have := List.find?_eq_none.1 hlo i (List.mem_range.2 hi)
      simp [h0] at this
    have h1 : Vl.sum24 (fun j => if j = 0 then 0 else 1) ≤ Vl.sum24 (fun j => (ents t 0).countP (fun e => e.ino == j)) := sum24_mono fun i hi => by
      split
      · omega
      · rw [h.named (by omega) hi (hn i hi)]; exact Nat.le_refl _
    have h2 := sum_count (ents t 0)
    have h3 : Vl.sum24 (fun j => if j = 0 then 0 else 1) = 23 := by decide
    omega
  | some k =>
    obtain ⟨h1, h2, _⟩ := lowest_some hlo
    refine ⟨k, rfl, ?_⟩
    by_cases e : k = 0
    · rw [e, h.kind0.1] at h2; cases h2
    · omega
/-- A file that is there is removed. -/
theorem Fl.remove (h : Fl t B) {nm : List UInt8} {e : En} (hn : nameOk nm = true) (hl : look t 0 nm = some e) :
    ∃ y, step t (cl 10 0 1 nm) = y ∧ Gone t (cl 10 0 1 nm) e y ∧ Fl y.1 B ∧ (y.1.s e.ino).kind = 0 ∧ (y.1.s e.ino).gen = (t.s e.ino).gen := by
  have hm : e ∈ ents t 0 := List.mem_of_find?_eq_some hl
  obtain ⟨h1, h24, hk, hls, hg⟩ := h.live hm
  obtain ⟨y, hy, hgo⟩ := out_gone (c := cl 10 0 1 nm) h.snd h.root hn hl (by rw [hk]; decide)
  have hst : step t (cl 10 0 1 nm) = y := step_ok (by unfold runK; exact hy)
  have hse := hgo.se
  rw [if_pos hls] at hse
  have hs2 : Sound y.1 := by
    have := h.snd.doT (c := cl 10 0 1 nm) (by constructor <;> (refine of_decide_eq_true ?_; kernel_rfl))
    rw [(do_step h.snd.inv.may (by show 1 ≤ 10; omega) (by show 10 ≤ 16; omega) (by show 10 ≠ 12; omega)).1, hst] at this
    exact this
  have hsd := hgo.sd
  refine ⟨y, hst, hgo, ⟨hs2, ?_, ?_, fun i hi => ?_, fun i hi1 hi => ?_, fun i hi1 hi => ?_, by rw [hgo.rm]; exact h.rm, fun x hx => ?_⟩, by rw [hse], by rw [hse]⟩
  · have k0 : (y.1.s 0).kind = 2 := by rw [show y.1.s 0 = _ from hsd]; exact h.kind0.1
    have g0 : (y.1.s 0).gen = 1 := by rw [show y.1.s 0 = _ from hsd]; exact h.kind0.2
    unfold folderE thingE
    rw [k0, g0]
    decide
  · rw [show y.1.s 0 = _ from hsd]; exact h.ck
  · by_cases e1 : i = e.ino
    · rw [e1, hse]; exact h.gen _ h24
    · by_cases e2 : i = 0
      · rw [e2, show y.1.s 0 = _ from hsd]; exact h.gen 0 (by omega)
      · rw [hgo.so i e1 e2]; exact h.gen i hi
  · by_cases e1 : i = e.ino
    · rw [e1, hse]; exact .inl rfl
    · rw [hgo.so i e1 (show i ≠ 0 by omega)]; exact h.file i hi1 hi
  · by_cases e1 : i = e.ino
    · rw [e1, hse]
    · rw [hgo.so i e1 (show i ≠ 0 by omega)]; exact h.dts i hi1 hi
  · rw [show ents y.1 0 = _ from hgo.en] at hx
    obtain ⟨_, a, b, e1, e2, _, _⟩ := find_some hl
    have : x ∈ ents t 0 := by
      have hx2 : x ∈ remL (ents t 0) nm := hx
      rw [e2] at hx2
      rw [e1]
      rcases List.mem_append.1 hx2 with h | h
      · exact List.mem_append_left _ h
      · exact List.mem_append_right _ (List.mem_cons_of_mem _ h)
    exact h.few x this
/-- The call that makes a file in the root. -/
def crC (nm : List UInt8) (n : Nat) : Cl := { cl 6 0 1 nm with cnt := n }
/-- A file is made. -/
theorem Fl.create (h : Fl t B) {nm : List UInt8} {n k : Nat} (hct : n = 0 ∨ n = 2) (hn : nameOk nm = true) (h4 : nm.length ≤ 4) (hl : look t 0 nm = none) (hlo : lowest t = some k) (hlen : (ents t 0).length ≤ 30) (hB : B ≤ 1000) :
    ∃ y, step t (crC nm n) = y ∧ Made t (crC nm n) 1 0 [] y k ∧ Fl y.1 (B + 1) := by
  obtain ⟨c, hc⟩ : ∃ c, c = crC nm n := ⟨_, rfl⟩
  rw [← hc]
  obtain ⟨hk24, hk0, _⟩ := lowest_some hlo
  have h1 : k ≠ 0 := fun e => by rw [e, h.kind0.1] at hk0; cases hk0
  have e1 : c.ati = 0 := by rw [hc]; rfl
  have e2 : c.atg = 1 := by rw [hc]; rfl
  have e3 : c.nm = nm := by rw [hc]; rfl
  have e4 : c.op = 6 := by rw [hc]; rfl
  have e5 : c.cnt = n := by rw [hc]; rfl
  have hck := h.ck
  have hw : c.Wide := by
    rw [hc]
    constructor <;> first | (show (0 : Nat) < _; omega) | (show (1 : Nat) < _; omega) | (show (6 : Nat) < _; omega) | (show n < _; omega)
  obtain ⟨y, hy⟩ := fresh_can (c := c) (t := t) (kind := 1) (vf := 0) (k := k) (dt := []) h.snd (by rw [e1]; omega) (by rw [e1]; exact h.kind0.1) (.inl rfl) (by omega) (Nat.zero_le _) (fun h => by cases h) (by rw [e3]; exact hn) (by rw [e1, e3]; exact hl) (by rw [e1]; omega) hlo
    (by rw [e1]; have := encs_few (ents t 0) h.few; omega)
    (fun L hL => by
      rw [e1, tot_one (d := 0) (by omega) (fun i hi hi0 => by
        rw [Vl.upd_other _ _ hi0]
        by_cases ek : i = k
        · rw [ek, Vl.upd_same]; rfl
        · rw [Vl.upd_other _ _ ek]; exact h.dts i (by omega) hi), Vl.upd_same]
      have : need L.length ≤ 8 := by unfold need; omega
      have hrm := h.rm
      show (need L.length : Int) ≤ _
      omega)
  have hcr : Op.create t c = .ok y := by
    unfold Op.create
    rw [e1, e2, h.root, if_neg (by decide), e3, hn, if_neg (by decide), if_neg (by omega), hl]
    simp only
    rw [if_neg (by omega)]
    exact hy
  have hst : step t c = y := step_ok (by rw [run_create e4]; exact hcr)
  obtain ⟨k', hm⟩ := fresh_made h.snd (by rw [e1]; omega) (by rw [e1]; exact h.kind0.1) (.inl rfl) (by omega) (Nat.zero_le _) (fun h => by cases h) hy
  obtain rfl : k' = k := by have := hm.low; rw [hlo] at this; exact (Option.some.inj this).symm
  have hs2 : Sound y.1 := by
    have := h.snd.doT (c := c) hw
    rw [(do_step h.snd.inv.may (by omega) (by omega) (by omega)).1, hst] at this
    exact this
  have hsk := hm.sk
  have hsd := hm.sd
  rw [e1] at hsd
  have hso : ∀ i, i ≠ k' → i ≠ 0 → y.1.s i = t.s i := fun i h1 h2 => hm.so i h1 (by rw [e1]; exact h2)
  refine ⟨y, hst, hm, ⟨hs2, ?_, ?_, fun i hi => ?_, fun i hi1 hi => ?_, fun i hi1 hi => ?_, by rw [hm.rm]; exact h.rm, fun x hx => ?_⟩⟩
  · have k0 : (y.1.s 0).kind = 2 := by rw [hsd]; exact h.kind0.1
    have g0 : (y.1.s 0).gen = 1 := by rw [hsd]; exact h.kind0.2
    unfold folderE thingE
    rw [k0, g0]
    decide
  · rw [hsd]; show (t.s 0).cookie + 1 ≤ B + 1; omega
  · by_cases ek : i = k'
    · rw [ek, hsk]
      have := h.gen k' hk24
      show ((t.s k').gen + 1) % 4294967296 ≤ _
      omega
    · by_cases e0 : i = 0
      · rw [e0, hsd]; have := h.gen 0 (by omega); show (t.s 0).gen ≤ _; omega
      · rw [hso i ek e0]; have := h.gen i hi; omega
  · by_cases ek : i = k'
    · rw [ek, hsk]; exact .inr ⟨rfl, rfl⟩
    · rw [hso i ek (by omega)]; exact h.file i hi1 hi
  · by_cases ek : i = k'
    · rw [ek, hsk]
    · rw [hso i ek (by omega)]; exact h.dts i hi1 hi
  · have hen := hm.en
    rw [e1] at hen
    rw [hen] at hx
    rcases List.mem_append.1 hx with h5 | h5
    · exact h.few x h5
    · obtain rfl := List.mem_singleton.1 h5
      show c.nm.length ≤ 4
      rw [e3]
      exact h4
end
end Op
end Go.Proofs.YtndnkfnhgakibaaGreat
