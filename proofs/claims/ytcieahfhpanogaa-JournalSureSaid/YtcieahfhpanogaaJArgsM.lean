/-
  For the law of arguments: which writes may be a change, as the law tells them; Open of a new disk, all ways.
-/
import Derived.Test.YtcieahfhpanogaaJTop
namespace Go.Proofs.Ytcieahfhpanogaa
open Go.RowKit

theorem rises_len {nb : Nat} : ∀ {l : List (Int × List UInt8)} {p : Int}, -1 ≤ p → J.rises nb p l = true → (p : Int) + 1 + l.length ≤ (nb : Int) ∨ l = []
  | [], _, _, _ => .inr rfl
  | x :: r, p, hp, h => by
    simp only [J.rises, Bool.and_eq_true, decide_eq_true_iff] at h
    obtain ⟨⟨⟨h1, h2⟩, h3⟩, h4⟩ := h
    left
    rcases rises_len (by omega) h4 with h5 | h5
    · simp only [List.length_cons]; omega
    · subst h5; simp only [List.length_cons, List.length_nil]; omega
theorem okW_len {nb : Nat} {l : List (Int × List UInt8)} (h : J.okW nb l = true) : l.length ≤ nb := by
  simp only [J.okW, Bool.and_eq_true, decide_eq_true_iff] at h
  rcases rises_len (by omega) h.2 with h5 | h5
  · omega
  · subst h5; simp
theorem rises_at (nb : Nat) (l : List (Int × List UInt8)) (v : Int) (k : Nat) (hk : k < l.length) : J.rises nb v (l.drop k) = (decide (v < l[k].1) && decide (l[k].1 < (nb : Int)) && decide (l[k].2.length ≤ 96) && J.rises nb l[k].1 (l.drop (k + 1))) := by
  rw [List.drop_eq_getElem_cons hk]
  rfl
def prevA (l : List (Int × List UInt8)) : Nat → Int
  | 0 => -1
  | k + 1 => (l.getD k (0, [])).1
/-- May the first k writes be? -/
def finB (l : List (Int × List UInt8)) : Nat → Bool
  | 0 => decide (0 < l.length)
  | k + 1 => finB l k && (decide (0 ≤ (l.getD k (0, [])).1) && (decide ((l.getD k (0, [])).1 < 6) && (decide ((l.getD k (0, [])).2.length ≤ 96) && (decide (k = 0) || decide (prevA l k < (l.getD k (0, [])).1)))))
theorem finB_step (l : List (Int × List UInt8)) (k : Nat) (hk : k < l.length) : finB l (k + 1) = (finB l k && (decide (0 ≤ l[k].1) && (decide (l[k].1 < 6) && (decide (l[k].2.length ≤ 96) && (decide (k = 0) || decide (prevA l k < l[k].1)))))) := by
  have e : l.getD k (0, []) = l[k] := by simp [List.getD, hk]
  conv => lhs; unfold finB
  rw [e]
theorem prevA_succ (l : List (Int × List UInt8)) (k : Nat) (hk : k < l.length) : prevA l (k + 1) = l[k].1 := by
  show (l.getD k (0, [])).1 = _
  simp [List.getD, hk]
theorem finB_prev (l : List (Int × List UInt8)) (k : Nat) (hk : k ≤ l.length) (h : finB l k = true) : -1 ≤ prevA l k := by
  cases k with
  | zero => show (-1 : Int) ≤ -1; omega
  | succ k =>
    rw [finB_step l k (by omega)] at h
    rw [prevA_succ l k (by omega)]
    simp only [Bool.and_eq_true, decide_eq_true_iff] at h
    omega
theorem finB_rises (l : List (Int × List UInt8)) (k : Nat) (hk : k ≤ l.length) : (finB l k && J.rises 6 (prevA l k) (l.drop k)) = (decide (0 < l.length) && J.rises 6 (-1) l) := by
  induction k with
  | zero => rfl
  | succ k ih =>
    have hk' : k < l.length := hk
    rw [← ih (by omega), finB_step l k hk', prevA_succ l k hk', rises_at 6 l (prevA l k) k hk']
    have hp := finB_prev l k (by omega)
    have h0 : k = 0 → prevA l k = -1 := by rintro rfl; rfl
    generalize J.rises 6 l[k].1 (l.drop (k + 1)) = R
    generalize prevA l k = v at *
    cases hf : finB l k with
    | false => rfl
    | true =>
      have hp := hp hf
      rw [Bool.eq_iff_iff]
      simp only [Bool.true_and, Bool.and_eq_true, Bool.or_eq_true, decide_eq_true_iff]
      constructor
      · rintro ⟨⟨h1, h2, h3, h4⟩, h5⟩
        refine ⟨⟨⟨?_, h2⟩, h3⟩, h5⟩
        rcases h4 with h4 | h4
        · have := h0 h4; omega
        · exact h4
      · rintro ⟨⟨⟨h1, h2⟩, h3⟩, h5⟩
        exact ⟨⟨by omega, h2, h3, .inr h1⟩, h5⟩
theorem finB_ok (l : List (Int × List UInt8)) (h : l.length ≤ 100) : finB l l.length = J.okW 6 l := by
  have e := finB_rises l l.length (Nat.le_refl _)
  rw [List.drop_length] at e
  have e1 : J.rises 6 (prevA l l.length) [] = true := rfl
  rw [e1, Bool.and_true] at e
  rw [e]
  unfold J.okW
  rw [decide_eq_true h, Bool.and_true]
  rfl

/-- Open of a new disk writes nothing. -/
theorem open_new_d (n b log nb : Nat) (h4 : 4 ≤ log) : (J.openJ (DS.new n b) log nb).1 = DS.new n b := by
  have hg := (J.fresh_inv n b log nb).read (by omega)
  obtain ⟨B', hr, -⟩ := hg.found (by omega)
  unfold J.openJ
  rw [hr]
  have e : J.told nb (([] : List J.Chg).flatten) = [] := by unfold J.told; simp
  dsimp only
  rw [e]
  rfl
def mayO (log nb : Int) : Bool := decide (4 ≤ log) && (decide (log ≤ 39) && (decide (1 ≤ nb) && (decide (nb ≤ 39) && decide (1 + log + nb ≤ 40))))
theorem open_fresh {w : World} {dp b : Nat} {D : Nat → Prop} (h : Dk w dp D (DS.new 40 b)) (log nb : Nat) (h4 : 4 ≤ log) (h200 : log ≤ 200) (h1 : 1 ≤ nb) (h400 : nb ≤ 400) (hN : 1 + log + nb ≤ 40) :
    Calls Try.prog 11 #[.pointer (some ⟨dp, 0, none⟩), .int .i64 (log : Int), .int .i64 (nb : Int)] w fun e w' => ∃ p S' D' j', e = .returned (.tuple #[.pointer (some ⟨p, 0, none⟩), .int .i64 0]) ∧ Live w' p dp S' D' j' (DS.new 40 b) 0 0 [] ∧ j'.log = log ∧ j'.nb = nb ∧ (∀ i, i < nb → j'.B i = []) ∧ Fr D w w' ∧ (∀ k, S' k → w.heap.size ≤ k) ∧ ∀ k, D' k → D k ∨ w.heap.size ≤ k := by
  have hi := J.fresh_inv 40 b log nb
  have hc := DS.new_calm 40 b
  have e := open_new_d 40 b log nb h4
  obtain ⟨g1, g2⟩ := J.open_inv hi h4 h200 h400 (by show 0 + 0 < _; omega)
  obtain ⟨g3, g4, g5⟩ := hc.open (log := log) (nb := nb) hN g1.lens
  refine (open_ok h (by show (0 : Nat) ≤ _; omega) log nb h4 h200 h1 h400 hN rfl (hi.read (by omega)) (by show 0 + 0 + 1 < _; omega)).mono ?_
  rintro e' w' ⟨p, S', D', rfl, k1, k2, k3, k4⟩
  rw [e] at k1 g1
  exact ⟨p, S', D', _, rfl, ⟨k1, g1, g3, hN⟩, rfl, rfl, g2, k2, k3, k4⟩
theorem open_either {w : World} {dp b : Nat} {D : Nat → Prop} (h : Dk w dp D (DS.new 40 b)) (log nb : Int) :
    Calls Try.prog 11 #[.pointer (some ⟨dp, 0, none⟩), .int .i64 log, .int .i64 nb] w fun e w' => ∃ v D', e = .returned (.tuple #[.pointer v, .int .i64 (if mayO log nb = true then 0 else 1)]) ∧ Dk w' dp D' (DS.new 40 b) ∧ Fr D w w' ∧ ∀ k, D' k → D k ∨ w.heap.size ≤ k := by
  by_cases hm : mayO log nb = true
  · have hm' := hm
    simp only [mayO, Bool.and_eq_true, decide_eq_true_iff] at hm'
    obtain ⟨lg, rfl⟩ : ∃ x : Nat, log = x := ⟨log.toNat, by omega⟩
    obtain ⟨n', rfl⟩ : ∃ x : Nat, nb = x := ⟨nb.toNat, by omega⟩
    refine (open_fresh h lg n' (by omega) (by omega) (by omega) (by omega) (by omega)).mono ?_
    rintro e w' ⟨p, S', D', j', rfl, k1, -, -, -, k2, -, k4⟩
    rw [if_pos hm]
    exact ⟨_, D', rfl, k1.jd.dk, k2, k4⟩
  · have hm' := hm
    simp only [mayO, Bool.and_eq_true, decide_eq_true_iff] at hm'
    refine (open_arg h log nb (by show ¬ (_ ∧ _ ∧ _ ∧ _ ∧ _ ≤ ((40 : Nat) : Int)); omega)).mono ?_
    rintro e w' ⟨rfl, rfl⟩
    rw [if_neg hm]
    exact ⟨_, D, rfl, h, Fr.refl _ _, fun k hk => .inl hk⟩

/-- The journal of the law, opened: nothing is in it. -/
structure ArI (w W : World) (p dp b : Nat) (S D : Nat → Prop) (j : J.JS) : Prop where
  live : Live W p dp S D j (DS.new 40 b) 0 0 []
  log : j.log = 20
  nb : j.nb = 6
  B : ∀ i, i < 6 → j.B i = []
  bel : Below w.heap.size w W
  hS : ∀ k, S k ∨ D k → w.heap.size ≤ k
section
variable {w W W' : World} {p dp b : Nat} {S D S' D' : Nat → Prop} {j : J.JS}
theorem ArI.below (h : ArI w W p dp b S D j) (hb : Below W.heap.size W W') : ArI w W' p dp b S D j := ⟨h.live.below hb, h.log, h.nb, h.B, h.bel.trans (hb.mono h.bel.size), h.hS⟩
theorem ArI.same (h : ArI w W p dp b S D j) (hl : LStep W W' p dp S D j (DS.new 40 b) 0 0 []) : ∃ S' D', ArI w W' p dp b S' D' j := by
  obtain ⟨S', D', h1, h2, h3, h4⟩ := hl
  refine ⟨S', D', h1, h.log, h.nb, h.B, h.bel.trans (h2.below h.bel.size h.hS), fun k hk => ?_⟩
  have := h.bel.size
  rcases hk with hk | hk
  · rcases h3 k hk with h5 | h5
    · exact h.hS k (.inl h5)
    · omega
  · rcases h4 k hk with h5 | h5
    · exact h.hS k (.inr h5)
    · omega
theorem ArI.ws (h : ArI w W p dp b S D j) {A : Option Addr} {n : Nat} {l : List (Int × List UInt8)} (hw : WS w (fun k => k < w.heap.size) A n l) : WS W (fun k => k < w.heap.size) A n l := hw.keepK ((Keep.of_below h.bel).mono fun _ hk => hk)
theorem ArI.off (h : ArI w W p dp b S D j) : ∀ k, k < w.heap.size → k < W.heap.size ∧ ¬ (S k ∨ D k) := fun k hk => ⟨Nat.lt_of_lt_of_le hk h.bel.size, fun h' => by have := h.hS k h'; omega⟩
end
end Go.Proofs.Ytcieahfhpanogaa
