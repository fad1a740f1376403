/-
  What a journal's next finds, step by step, plain; and that it is the change that stands where the log goes on.
-/
import Derived.Test.YtcieahfhpanogaaJNeat
namespace Go.Proofs.Ytcieahfhpanogaa
open Go.Proofs.Ytcieahfhpanogaa.J

/-- On the way: how many blocks the first frame told, and those that are read. -/
structure Nx where
  cnt : Nat
  l : List (Nat × List UInt8)
/-- What a sector says: go on, this is all, or nothing. -/
inductive Nr where
  | on (x : Nx)
  | all
  | no
def cntOf (i : Nat) (c : Nat) (f : Fm) : Nat := if i = 0 then f.c.toNat else c
/-- One sector. -/
def nxS (seq nb : Nat) (x : Nx) (i : Nat) (f : Fm) : Nr :=
  if f.s = seq + 1 ∧ f.i.toNat = i ∧ f.c.toNat = cntOf i x.cnt f then
    if i < cntOf i x.cnt f ∧ isDat nb f = true then .on ⟨cntOf i x.cnt f, x.l ++ [(f.a, f.b)]⟩
    else if i = cntOf i x.cnt f ∧ isEn f = true then .all else .no
  else .no
/-- Sectors one by one: all of them went on. -/
def nxF (seq nb : Nat) (fm : Nat → Fm) {N : Nat} : Nx → List (Fin N) → Option Nx
  | x, [] => some x
  | x, i :: r => match nxS seq nb x i.1 (fm i.1) with
    | .on y => nxF seq nb fm y r
    | _ => none
theorem nxF_snoc (seq nb : Nat) (fm : Nat → Fm) {N : Nat} : ∀ (pre : List (Fin N)) (x : Nx) (i : Fin N), nxF seq nb fm x (pre ++ [i]) = match nxF seq nb fm x pre with
    | some y => (match nxS seq nb y i.1 (fm i.1) with | .on z => some z | _ => none)
    | none => none
  | [], x, i => by
    simp only [List.nil_append, nxF]
  | k :: r, x, i => by
    simp only [List.cons_append, nxF]
    cases h : nxS seq nb x k.1 (fm k.1) with
    | on y => exact nxF_snoc seq nb fm r y i
    | all => rfl
    | no => rfl

theorem isDat_spec (nb : Nat) (f : Fm) : isDat nb f = true ↔ f.k = 2 ∧ f.a < nb ∧ f.b.length ≤ 96 := by
  have e1 : (f.k.toNat : Int) = 2 ↔ f.k = 2 := ⟨fun h => UInt8.toNat_inj.1 (by have : (2 : UInt8).toNat = 2 := rfl; omega), fun h => by rw [h]; rfl⟩
  simp only [isDat, Bool.and_eq_true, decide_eq_true_iff, e1]
  constructor
  · rintro ⟨⟨h1, h2⟩, h3⟩; exact ⟨h1, by omega, by omega⟩
  · rintro ⟨h1, h2, h3⟩; exact ⟨⟨h1, by omega⟩, by omega⟩
theorem isEn_spec (f : Fm) : isEn f = true ↔ f.k = 3 ∧ f.a = 0 ∧ f.b = [] := by
  have e1 : (f.k.toNat : Int) = 3 ↔ f.k = 3 := ⟨fun h => UInt8.toNat_inj.1 (by have : (3 : UInt8).toNat = 3 := rfl; omega), fun h => by rw [h]; rfl⟩
  simp only [isEn, Bool.and_eq_true, decide_eq_true_iff, e1]
  constructor
  · rintro ⟨⟨h1, h2⟩, h3⟩; exact ⟨h1, by omega, List.eq_nil_of_length_eq_zero (by omega)⟩
  · rintro ⟨h1, h2, h3⟩; exact ⟨⟨h1, by omega⟩, by rw [h3]; rfl⟩

section
variable {G : Con} {log nb t s : Nat}
/-- The frames of the log from a place on. -/
def fmAt (G : Con) (log t : Nat) (i : Nat) : Fm := getF (G ((1 + (t + i) % log : Nat) : Int))
theorem datas_succ_on {n k : Nat} {l : Chg} (h : datas G log nb t s n k = some l) (f : Fm) (hf : fr G (1 + (t + k) % log) 2 = some f) (h1 : f.s = s ∧ f.i.toNat = k ∧ f.c.toNat = n ∧ f.a < nb ∧ f.b.length ≤ 96) : datas G log nb t s n (k + 1) = some (l ++ [(f.a, f.b)]) := by
  simp only [datas, h, hf]
  rw [if_pos h1]
/-- All sectors went on: they are blocks of one change, of so many. -/
theorem nxF_on {N : Nat} : ∀ (k : Nat), k ≤ N → ∀ y, nxF (N := N) s nb (fmAt G log t) ⟨0, []⟩ (fins N k) = some y → (0 < k → y.cnt = (fmAt G log t 0).c.toNat ∧ fr G (1 + t % log) 2 = some (fmAt G log t 0)) ∧ datas G log nb t (s + 1) y.cnt k = some y.l ∧ (0 < k → k ≤ y.cnt)
  | 0, _, y, h => by
    simp only [fins, nxF, Option.some.injEq] at h
    subst h
    exact ⟨fun h => absurd h (by omega), rfl, fun h => absurd h (by omega)⟩
  | k + 1, hk, y, h => by
    rw [fins_succ (by omega), nxF_snoc] at h
    cases h1 : nxF (N := N) s nb (fmAt G log t) ⟨0, []⟩ (fins N k) with
    | none => rw [h1] at h; cases h
    | some z =>
      rw [h1] at h
      dsimp only at h
      obtain ⟨i1, i2, i3⟩ := nxF_on k (by omega) z h1
      unfold nxS at h
      by_cases c1 : (fmAt G log t k).s = s + 1 ∧ (fmAt G log t k).i.toNat = k ∧ (fmAt G log t k).c.toNat = cntOf k z.cnt (fmAt G log t k)
      · rw [if_pos c1] at h
        by_cases c2 : k < cntOf k z.cnt (fmAt G log t k) ∧ isDat nb (fmAt G log t k) = true
        · rw [if_pos c2] at h
          simp only [Option.some.injEq] at h
          subst h
          obtain ⟨d1, d2, d3⟩ := (isDat_spec _ _).1 c2.2
          have hfr : fr G (1 + (t + k) % log) 2 = some (fmAt G log t k) := by rw [fr_eq _ _ _ (by decide)]; exact if_pos d1
          have hc : cntOf k z.cnt (fmAt G log t k) = (fmAt G log t 0).c.toNat ∧ fr G (1 + t % log) 2 = some (fmAt G log t 0) ∧ (0 < k → z.cnt = cntOf k z.cnt (fmAt G log t k)) := by
            rcases Nat.eq_zero_or_pos k with h0 | h0
            · subst h0
              exact ⟨by unfold cntOf; rw [if_pos rfl], by rw [Nat.add_zero] at hfr; exact hfr, fun h => absurd h (by omega)⟩
            · have := i1 h0
              exact ⟨by unfold cntOf; rw [if_neg (by omega)]; exact this.1, this.2, fun _ => by unfold cntOf; rw [if_neg (by omega)]⟩
          refine ⟨fun _ => ⟨hc.1, hc.2.1⟩, ?_, fun _ => c2.1⟩
          refine datas_succ_on ?_ _ hfr ⟨c1.1, c1.2.1, c1.2.2, d2, d3⟩
          rcases Nat.eq_zero_or_pos k with h0 | h0
          · subst h0
            simp only [fins, nxF, Option.some.injEq] at h1
            subst h1
            rfl
          · rw [← hc.2.2 h0]
            exact i2
        · rw [if_neg c2] at h
          by_cases c3 : k = cntOf k z.cnt (fmAt G log t k) ∧ isEn (fmAt G log t k) = true
          · rw [if_pos c3] at h
            cases h
          · rw [if_neg c3] at h
            cases h
      · rw [if_neg c1] at h
        cases h
/-- The change's end. -/
theorem chg_all {room k : Nat} (hk : k < room) {y : Nx} (h : nxF (N := room) s nb (fmAt G log t) ⟨0, []⟩ (fins room k) = some y) (h2 : nxS s nb y k (fmAt G log t k) = .all) : chg G log nb t (s + 1) room = y.l ∧ y.l.length = k := by
  obtain ⟨i1, i2, i3⟩ := nxF_on k (by omega) y h
  unfold nxS at h2
  by_cases c1 : (fmAt G log t k).s = s + 1 ∧ (fmAt G log t k).i.toNat = k ∧ (fmAt G log t k).c.toNat = cntOf k y.cnt (fmAt G log t k)
  · rw [if_pos c1] at h2
    by_cases c2 : k < cntOf k y.cnt (fmAt G log t k) ∧ isDat nb (fmAt G log t k) = true
    · rw [if_pos c2] at h2; cases h2
    · rw [if_neg c2] at h2
      by_cases c3 : k = cntOf k y.cnt (fmAt G log t k) ∧ isEn (fmAt G log t k) = true
      · obtain ⟨e1, e2, e3⟩ := (isEn_spec _).1 c3.2
        have hfr : fr G (1 + (t + k) % log) 3 = some (fmAt G log t k) := by rw [fr_eq _ _ _ (by decide)]; exact if_pos e1
        have dl : ∀ n k l, datas G log nb t (s + 1) n k = some l → l.length = k := by
          intro n k
          induction k with
          | zero => intro l h; simp only [datas, Option.some.injEq] at h; subst h; rfl
          | succ k ih =>
            intro l h
            simp only [datas] at h
            split at h
            · cases h
            · rename_i l' hl'
              split at h
              · cases h
              · split at h
                · simp only [Option.some.injEq] at h
                  subst h
                  simp [ih l' hl']
                · cases h
        refine ⟨?_, dl _ _ _ i2⟩
        rcases Nat.eq_zero_or_pos k with h0 | h0
        · subst h0
          simp only [fins, nxF, Option.some.injEq] at h
          subst h
          unfold chg
          rw [fr_eq _ _ _ (by decide)]
          have : (getF (G ((1 + t % log : Nat) : Int))).k = 3 := by have := e1; unfold fmAt at this; rw [Nat.add_zero] at this; exact this
          rw [if_neg (by rw [this]; decide)]
        · obtain ⟨j1, j2⟩ := i1 h0
          have hcnt : cntOf k y.cnt (fmAt G log t k) = y.cnt := by unfold cntOf; rw [if_neg (by omega)]
          rw [hcnt] at c1 c3
          have hk' : k = (fmAt G log t 0).c.toNat := by rw [← j1]; exact c3.1
          unfold chg
          rw [j2]
          dsimp only
          rw [← hk', if_pos ⟨h0, by omega⟩]
          rw [← c3.1] at i2 c1
          rw [i2, hfr]
          dsimp only
          rw [if_pos ⟨c1.1, c1.2.1, c1.2.2, e2, e3⟩]
      · rw [if_neg c3] at h2; cases h2
  · rw [if_neg c1] at h2; cases h2
theorem nxF_prefix {N : Nat} {y : Nx} : ∀ (k m : Nat), m ≤ N → k ≤ m → nxF (N := N) s nb (fmAt G log t) ⟨0, []⟩ (fins N m) = some y → ∃ z, nxF (N := N) s nb (fmAt G log t) ⟨0, []⟩ (fins N k) = some z := by
  intro k m hm hk h
  induction m generalizing y with
  | zero => obtain rfl : k = 0 := by omega
            exact ⟨_, h⟩
  | succ m ih =>
    rcases Nat.eq_or_lt_of_le hk with e | e
    · subst e
      exact ⟨y, h⟩
    · rw [fins_succ (by omega), nxF_snoc] at h
      cases h1 : nxF (N := N) s nb (fmAt G log t) ⟨0, []⟩ (fins N m) with
      | none => rw [h1] at h; cases h
      | some z => exact ih (by omega) (by omega) h1
theorem datas_get {n : Nat} : ∀ {k : Nat} {l : Chg}, datas G log nb t s n k = some l → ∀ i, i < k → ∃ f, fr G (1 + (t + i) % log) 2 = some f ∧ f.s = s ∧ f.i.toNat = i ∧ f.c.toNat = n ∧ f.a < nb ∧ f.b.length ≤ 96
  | 0, _, _, i, hi => absurd hi (by omega)
  | k + 1, l, h, i, hi => by
    simp only [datas] at h
    split at h
    · cases h
    · rename_i l' hl'
      split at h
      · cases h
      · rename_i f hf
        split at h
        · rename_i hc
          rcases Nat.eq_or_lt_of_le (show i ≤ k by omega) with e | e
          · subst e
            exact ⟨f, hf, hc⟩
          · exact datas_get hl' i e
        · cases h
theorem fr_fm {k : UInt8} (hk : k ≠ 0) {i : Nat} {f : Fm} (h : fr G (1 + (t + i) % log) k = some f) : f = fmAt G log t i ∧ (fmAt G log t i).k = k := by
  rw [fr_eq _ _ _ hk] at h
  split at h
  · rename_i hc
    cases h
    exact ⟨rfl, hc⟩
  · cases h
/-- A change that is there: its sectors go on, up to its end. -/
theorem chg_there {room : Nat} (h : chg G log nb t (s + 1) room ≠ []) : ∃ n, 1 ≤ n ∧ n + 1 ≤ room ∧ (∀ k, k < n → ∀ y, nxF (N := room) s nb (fmAt G log t) ⟨0, []⟩ (fins room k) = some y → ∃ z, nxS s nb y k (fmAt G log t k) = .on z) ∧ ∀ y, nxF (N := room) s nb (fmAt G log t) ⟨0, []⟩ (fins room n) = some y → nxS s nb y n (fmAt G log t n) = .all := by
  unfold chg at h
  split at h
  · exact absurd rfl h
  · rename_i f hf
    split at h
    · rename_i hc
      split at h
      · exact absurd rfl h
      · rename_i l hl
        split at h
        · exact absurd rfl h
        · rename_i g hg
          split at h
          · rename_i hg2
            have hf' : fr G (1 + (t + 0) % log) 2 = some f := by rw [Nat.add_zero]; exact hf
            obtain ⟨e0, _⟩ := fr_fm (by decide) hf'
            have cnt : ∀ k, ∀ y, k ≤ f.c.toNat → nxF (N := room) s nb (fmAt G log t) ⟨0, []⟩ (fins room k) = some y → (fmAt G log t k).c.toNat = f.c.toNat → cntOf k y.cnt (fmAt G log t k) = f.c.toNat := by
              intro k y hk hy hck
              unfold cntOf
              rcases Nat.eq_zero_or_pos k with h0 | h0
              · rw [if_pos h0]; exact hck
              · rw [if_neg (by omega), ((nxF_on k (by omega) y hy).1 h0).1, ← e0]
            refine ⟨f.c.toNat, hc.1, hc.2, fun k hk y hy => ?_, fun y hy => ?_⟩
            · obtain ⟨fk, hfk, d1, d2, d3, d4, d5⟩ := datas_get hl k hk
              obtain ⟨ek, kk⟩ := fr_fm (by decide) hfk
              rw [ek] at d1 d2 d3 d4 d5
              have hcn := cnt k y (by omega) hy d3
              unfold nxS
              rw [if_pos ⟨d1, d2, by rw [hcn]; exact d3⟩, if_pos ⟨by rw [hcn]; exact hk, (isDat_spec _ _).2 ⟨kk, d4, d5⟩⟩]
              exact ⟨_, rfl⟩
            · obtain ⟨eg, kg⟩ := fr_fm (by decide) hg
              rw [eg] at hg2
              have hcn := cnt _ y (Nat.le_refl _) hy hg2.2.2.1
              unfold nxS
              rw [if_pos ⟨hg2.1, hg2.2.1, by rw [hcn]; exact hg2.2.2.1⟩, if_neg (by rw [hcn]; omega), if_pos ⟨by rw [hcn], (isEn_spec _).2 ⟨kg, hg2.2.2.2.1, hg2.2.2.2.2⟩⟩]
          · exact absurd rfl h
    · exact absurd rfl h
theorem chg_off {room m : Nat} (hm : m ≤ room) {y : Nx} (h : nxF (N := room) s nb (fmAt G log t) ⟨0, []⟩ (fins room m) = some y) (h2 : m = room ∨ m < room ∧ nxS s nb y m (fmAt G log t m) = .no) : chg G log nb t (s + 1) room = [] := by
  by_cases hc : chg G log nb t (s + 1) room = []
  · exact hc
  · obtain ⟨n, n1, n2, n3, n4⟩ := chg_there hc
    exfalso
    by_cases hmn : m ≤ n
    · rcases h2 with h2 | ⟨h2, h3⟩
      · omega
      · rcases Nat.eq_or_lt_of_le hmn with e | e
        · subst e
          rw [n4 y h] at h3
          cases h3
        · obtain ⟨z, hz⟩ := n3 m e y h
          rw [hz] at h3
          cases h3
    · obtain ⟨z, hz⟩ := nxF_prefix (n + 1) m hm (by omega) h
      rw [fins_succ (by omega), nxF_snoc] at hz
      cases h1 : nxF (N := room) s nb (fmAt G log t) ⟨0, []⟩ (fins room n) with
      | none => rw [h1] at hz; cases hz
      | some v =>
        rw [h1] at hz
        dsimp only at hz
        rw [n4 v h1] at hz
        cases hz
end
end Go.Proofs.Ytcieahfhpanogaa
