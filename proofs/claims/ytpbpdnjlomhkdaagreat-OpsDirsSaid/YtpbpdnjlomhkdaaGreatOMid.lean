/-
  What stands between the steps of a rename (layer 13). Nothing of the program is named here.
-/
import Derived.Test.YtpbpdnjlomhkdaaGreatOPA
import Derived.Test.YtpbpdnjlomhkdaaGreatOPC
namespace Go.Proofs.YtpbpdnjlomhkdaaGreat
namespace Op
section
variable {t u : TT} {c : Cl}
/-- The things without what goes. -/
theorem Sound.gone (h : Sound t) (hka : (t.s c.ati).kind = 2) (hb : c.toi < 24) (hkb : (t.s c.toi).kind = 2) {e : En} (hl : look t c.ati c.nm = some e) {old : Option Nat}
    (hold : match old with | none => look t c.toi c.tn = none | some o => ∃ z, look t c.toi c.tn = some z ∧ z.ino = o ∧ o ≠ e.ino ∧ (t.s o).kind ≠ 0 ∧ ((t.s o).kind = 2 → ents t o = [])) :
    ∃ xv, Inv (gone t c old) xv ∧ ((gone t c old).s c.ati).kind = 2 ∧ ((gone t c old).s c.toi).kind = 2 ∧ look (gone t c old) c.ati c.nm = some e ∧ ((gone t c old).s e.ino).gen = (t.s e.ino).gen := by
  have hmem : e ∈ ents t c.ati := List.mem_of_find?_eq_some hl
  cases old with
  | none => exact ⟨_, h.inv, hka, hkb, hl, rfl⟩
  | some o =>
    obtain ⟨z, hz, hzo, hoe, hko, hemp⟩ := hold
    have hzm : z ∈ ents t c.toi := List.mem_of_find?_eq_some hz
    have ho24 : o < 24 := by rw [← hzo]; exact (h.inv.live c.toi hb hkb z hzm).1
    have hob : o ≠ c.toi := fun e1 => by
      have := hemp (by rw [e1]; exact hkb)
      rw [e1] at this
      rw [this] at hzm
      cases hzm
    have hoa : o ≠ c.ati := fun e1 => by
      have := hemp (by rw [e1]; exact hka)
      rw [e1] at this
      rw [this] at hmem
      cases hmem
    have hne : c.toi = c.ati → c.nm ≠ c.tn := fun e1 e2 => by
      rw [e1, ← e2, hl] at hz
      have := Option.some.inj hz
      exact hoe (by rw [← hzo, ← this])
    obtain ⟨hi1, hen⟩ := h.inv.leave hb hkb hz
    rw [hzo] at hi1
    have hs : (Op.leave t c.toi c.tn).s o = t.s o := set_other t _ hob
    have hi2 := hi1.unlink ho24 (by rw [hs]; exact hko) (by rw [Vl.upd_same]; omega) (by rw [hs]; intro h2; unfold ents; rw [hs]; exact hemp h2)
    refine ⟨_, hi2, ?_, ?_, ?_, ?_⟩
    · show ((Op.set _ o _).s c.ati).kind = 2
      rw [set_other _ _ (Ne.symm hoa)]
      by_cases e1 : c.ati = c.toi
      · rw [e1]
        show ((Op.set t c.toi _).s c.toi).kind = 2
        rw [set_same]
        exact hkb
      · show ((Op.set t c.toi _).s c.ati).kind = 2
        rw [set_other t _ e1]
        exact hka
    · show ((Op.set _ o _).s c.toi).kind = 2
      rw [set_other _ _ (Ne.symm hob)]
      show ((Op.set t c.toi _).s c.toi).kind = 2
      rw [set_same]
      exact hkb
    · unfold look
      have e0 : ents (Op.unlink (Op.leave t c.toi c.tn) o) c.ati = ents (Op.leave t c.toi c.tn) c.ati := ents_other _ _ (Ne.symm hoa)
      show List.find? _ (ents (Op.unlink (Op.leave t c.toi c.tn) o) c.ati) = some e
      rw [e0]
      by_cases e1 : c.ati = c.toi
      · rw [e1, hen]
        unfold look at hl hz
        rw [e1] at hl
        exact find_rem hl hz (hne e1.symm)
      · have e2 : ents (Op.leave t c.toi c.tn) c.ati = ents t c.ati := ents_other t _ e1
        rw [e2]
        exact hl
    · show ((Op.set _ o _).s e.ino).gen = _
      rw [set_other _ _ (Ne.symm hoe)]
      by_cases e1 : e.ino = c.toi
      · rw [e1]
        show ((Op.set t c.toi _).s c.toi).gen = _
        rw [set_same]
      · show ((Op.set t c.toi _).s e.ino).gen = _
        rw [set_other t _ e1]
/-- What the steps of a rename want to know. -/
structure Mid (t : TT) (c : Cl) (e : En) (v : TT) : Prop where
  da : Dir v c.ati
  la : look v c.ati c.nm = some e
  db : Dir (leave v c.ati c.nm) c.toi
  wb : ((leave v c.ati c.nm).s c.toi).Wide
  we : ((leave v c.ati c.nm).s e.ino).Wide
  no : ((leave v c.ati c.nm).s e.ino).ino = (t.s e.ino).ino ∧ (t.s e.ino).ino < 4294967296
  gn : ((leave v c.ati c.nm).s e.ino).gen = (t.s e.ino).gen
  dts : ∀ i, i < 24 → ((leave v c.ati c.nm).s i).dt.length ≤ 1000000
theorem Sound.mid (h : Sound t) (ha : c.ati < 24) (hka : (t.s c.ati).kind = 2) (hb : c.toi < 24) (hkb : (t.s c.toi).kind = 2) {e : En} (hl : look t c.ati c.nm = some e) {old : Option Nat}
    (hold : match old with | none => look t c.toi c.tn = none | some o => ∃ z, look t c.toi c.tn = some z ∧ z.ino = o ∧ o ≠ e.ino ∧ (t.s o).kind ≠ 0 ∧ ((t.s o).kind = 2 → ents t o = [])) : Mid t c e (Op.gone t c old) := by
  obtain ⟨xv, hiv, hva, hvb, hvl, hvg⟩ := h.gone hka hb hkb hl hold
  have hi : e.ino < 24 := (h.inv.live c.ati ha hka e (List.mem_of_find?_eq_some hl)).1
  obtain ⟨hi3, _⟩ := hiv.leave ha hva hvl
  generalize Op.gone t c old = v at *
  have hk3 : ∀ j, ((Op.leave v c.ati c.nm).s j).kind = (v.s j).kind ∧ ((Op.leave v c.ati c.nm).s j).gen = (v.s j).gen := fun j => by
    by_cases e1 : j = c.ati
    · rw [e1]
      exact ⟨by show ((Op.set v c.ati _).s c.ati).kind = _; rw [set_same], by show ((Op.set v c.ati _).s c.ati).gen = _; rw [set_same]⟩
    · exact ⟨by show ((Op.set v c.ati _).s j).kind = _; rw [set_other v _ e1], by show ((Op.set v c.ati _).s j).gen = _; rw [set_other v _ e1]⟩
  refine ⟨hiv.isDir ha hva, hvl, hi3.isDir hb (by rw [(hk3 _).1]; exact hvb), hi3.wide _ hb, hi3.wide _ hi, ⟨by rw [hi3.may.ino _ hi, h.inv.may.ino _ hi], by rw [h.inv.may.ino _ hi]; omega⟩, by rw [(hk3 _).2]; exact hvg, fun i hi => ?_⟩
  have := (Vl.okB_facts (hi3.may.ok i hi)).2.2
  omega
/-- What may not be replaced. -/
def replE (t : TT) (i j : Nat) : Int := if (t.s i).kind = 2 then (if (t.s j).kind ≠ 2 then 62 else if ents t j ≠ [] then 68 else 0) else if (t.s j).kind = 2 then 63 else 0
theorem repl_eq (t : TT) (i j : Nat) (X : Res) : (if (t.s i).kind = 2 ∧ (t.s j).kind ≠ 2 then Except.error 62 else if (t.s i).kind = 2 ∧ ents t j ≠ [] then .error 68 else if (t.s i).kind ≠ 2 ∧ (t.s j).kind = 2 then .error 63 else X) = if replE t i j ≠ 0 then Except.error (replE t i j) else X := by
  unfold replE
  by_cases h1 : (t.s i).kind = 2 <;> by_cases h2 : (t.s j).kind = 2 <;> by_cases h3 : ents t j = [] <;> simp [h1, h2, h3]
theorem repl_zero {t : TT} {i j : Nat} (h : replE t i j = 0) : (t.s j).kind = 2 → ents t j = [] := fun h2 => by
  unfold replE at h
  by_cases h1 : (t.s i).kind = 2 <;> by_cases h3 : ents t j = [] <;> simp_all
end
end Op
end Go.Proofs.YtpbpdnjlomhkdaaGreat
