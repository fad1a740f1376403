/-
  States of a move, plain: which may be, their bytes, what bytes are of them (layer 15). No program.
-/
import Derived.Test.YtjionpkflpnejaaKMath
namespace Go.Proofs.Ytjionpkflpnejaa

/-- How far a move has come. -/
structure Ms where
  ow : Bool
  ph : Nat
  pr : Nat
  ep : Nat
  sq : Nat
  fr : Nat
  gl : Nat
  nx : Nat
  rn : Nat
  deriving DecidableEq
structure Ms.Wide (s : Ms) : Prop where
  hph : s.ph < 4294967296
  hpr : s.pr < 4294967296
  hep : s.ep < 18446744073709551616
  hsq : s.sq < 18446744073709551616
  hfr : s.fr < 18446744073709551616
  hgl : s.gl < 18446744073709551616
  hnx : s.nx < 4294967296
  hrn : s.rn < 4294967296
namespace Mk
/-- Who owns in which phase. -/
def phB (s : Ms) : Bool := if s.ph = 0 then true else if s.ph ≤ 2 then s.ow else if s.ph ≤ 5 then !s.ow else false
/-- What comes next in which phase. -/
def nxB (s : Ms) : Bool := if s.ph = 3 then (decide (s.nx = 33) || decide (s.nx = 34)) else decide (s.nx < 33)
def okM (s : Ms) : Bool := decide (s.pr < 16) && decide (s.fr ≤ s.gl) && phB s && nxB s
def chkM (s : Ms) : Int := if okM s = true then 0 else 1
theorem okM_iff (s : Ms) : okM s = true ↔ s.pr < 16 ∧ s.fr ≤ s.gl ∧ phB s = true ∧ nxB s = true := by simp [okM, and_assoc]
theorem phB_le (s : Ms) (h : phB s = true) : s.ph ≤ 5 := by
  unfold phB at h
  split at h
  · omega
  · split at h
    · omega
    · split at h
      · omega
      · cases h
theorem nxB_le (s : Ms) (h : nxB s = true) : s.nx ≤ 34 := by
  unfold nxB at h
  split at h
  · simp at h; omega
  · simp at h; omega
def zero : Ms := ⟨false, 0, 0, 0, 0, 0, 0, 0, 0⟩
theorem zero_ok : okM zero = true := rfl
theorem zero_wide : Ms.Wide zero := ⟨by decide, by decide, by decide, by decide, by decide, by decide, by decide, by decide⟩
abbrev Ts := Bool × Nat × Nat × Nat × Nat × Nat × Nat × Nat × Nat
def markC : Cd Ts := cB.seq (c4.seq (c4.seq (c8.seq (c8.seq (c8.seq (c8.seq (c4.seq c4)))))))
def tup (s : Ms) : Ts := (s.ow, s.ph, s.pr, s.ep, s.sq, s.fr, s.gl, s.nx, s.rn)
def of (t : Ts) : Ms := ⟨t.1, t.2.1, t.2.2.1, t.2.2.2.1, t.2.2.2.2.1, t.2.2.2.2.2.1, t.2.2.2.2.2.2.1, t.2.2.2.2.2.2.2.1, t.2.2.2.2.2.2.2.2⟩
theorem of_tup (s : Ms) : of (tup s) = s := rfl
def enc (s : Ms) : List UInt8 := markC.enc (tup s)
def put (s : Ms) : List UInt8 := if okM s = true ∧ s ≠ zero then enc s else []
def rd (l : List UInt8) : Ms := of (markC.rd (l, 0)).2
def err (l : List UInt8) : Int := if l = [] then 0 else if markC.bad l ≠ 0 then markC.bad l else if okM (rd l) = true ∧ rd l ≠ zero then 0 else 11
def got (l : List UInt8) : Ms := if l ≠ [] ∧ err l = 0 then rd l else zero
theorem enc_eq (s : Ms) : enc s = be 4 (b01 s.ow) ++ (be 4 s.ph ++ (be 4 s.pr ++ (be 8 s.ep ++ (be 8 s.sq ++ (be 8 s.fr ++ (be 8 s.gl ++ (be 4 s.nx ++ be 4 s.rn))))))) := rfl
theorem enc_length (s : Ms) : (enc s).length = 52 := by
  rw [enc_eq]
  simp only [List.length_append, be_length]
theorem enc_ne (s : Ms) : enc s ≠ [] := by
  intro h
  have := enc_length s
  rw [h] at this
  cases this
theorem c_ok (s : Ms) (hw : s.Wide) : markC.ok (tup s) := ⟨trivial, hw.hph, hw.hpr, hw.hep, hw.hsq, hw.hfr, hw.hgl, hw.hnx, hw.hrn⟩
theorem of_ok (t : Ts) (h : markC.ok t) : (of t).Wide := by
  obtain ⟨_, h1, h2, h3, h4, h5, h6, h7, h8⟩ := h
  exact ⟨h1, h2, h3, h4, h5, h6, h7, h8⟩
theorem rd_enc (s : Ms) (hw : s.Wide) : rd (enc s) = s := by
  obtain ⟨_, h2⟩ := markC.bad_put (tup s) (c_ok s hw)
  show of (markC.rd (markC.enc (tup s), 0)).2 = s
  rw [h2, of_tup]
theorem bad_enc (s : Ms) (hw : s.Wide) : markC.bad (enc s) = 0 := (markC.bad_put (tup s) (c_ok s hw)).1
/-- What was put is got as it was. -/
theorem got_put (s : Ms) (hw : s.Wide) (h : okM s = true) : err (put s) = 0 ∧ got (put s) = s := by
  by_cases hz : s = zero
  · have hp : put s = [] := if_neg (fun h => h.2 hz)
    rw [hp]
    exact ⟨if_pos rfl, (if_neg (fun h => h.1 rfl)).trans hz.symm⟩
  · have hp : put s = enc s := if_pos ⟨h, hz⟩
    have h1 : err (enc s) = 0 := by
      unfold err
      rw [if_neg (enc_ne s), bad_enc s hw, if_neg (by simp), rd_enc s hw, if_pos ⟨h, hz⟩]
    rw [hp]
    refine ⟨h1, ?_⟩
    unfold got
    rw [if_pos ⟨enc_ne s, h1⟩, rd_enc s hw]
theorem err_cases (l : List UInt8) (h : err l = 0) (hl : l ≠ []) : markC.bad l = 0 ∧ okM (rd l) = true ∧ rd l ≠ zero ∧ got l = rd l := by
  have hg : got l = rd l := if_pos ⟨hl, h⟩
  unfold err at h
  rw [if_neg hl] at h
  split at h
  · rename_i h1; exact absurd h h1
  · rename_i h1
    split at h
    · rename_i h2; exact ⟨by simpa using h1, h2.1, h2.2, hg⟩
    · cases h
theorem got_nil : got [] = zero := if_neg (fun h => h.1 rfl)
theorem err_nil : err [] = 0 := if_pos rfl
theorem got_no (l : List UInt8) (h : err l ≠ 0) : got l = zero := if_neg (fun g => h g.2)
/-- What was got is put as the same bytes. -/
theorem put_back (l : List UInt8) (h : err l = 0) : okM (got l) = true ∧ put (got l) = l ∧ (got l).Wide := by
  by_cases hl : l = []
  · subst hl
    rw [got_nil]
    exact ⟨rfl, if_neg (fun h => h.2 rfl), zero_wide⟩
  · obtain ⟨h1, h2, h3, h4⟩ := err_cases l h hl
    obtain ⟨h5, h6⟩ := markC.bad_back l h1
    rw [h4]
    exact ⟨h2, (if_pos ⟨h2, h3⟩).trans h5.symm, of_ok _ h6⟩
theorem err_more (s : Ms) (t : List UInt8) (hw : s.Wide) (ht : 0 < t.length) : err (enc s ++ t) = 12 := by
  have := markC.bad_more (tup s) t (c_ok s hw) ht
  unfold err
  rw [if_neg (fun h => enc_ne s (List.append_eq_nil_iff.1 h).1), show markC.bad (enc s ++ t) = 12 from this]
  rfl
theorem err_cut (s : Ms) (j : Nat) (hw : s.Wide) (hj : j < (enc s).length) (h0 : 0 < j) : err ((enc s).take j) = 10 := by
  have := markC.bad_cut (tup s) j (c_ok s hw) hj
  unfold err
  rw [if_neg (fun h => by have := congrArg List.length h; rw [List.length_take, List.length_nil] at this; omega), show markC.bad ((enc s).take j) = 10 from this]
  rfl
theorem enc_inj (a b : Ms) (ha : a.Wide) (hb : b.Wide) (h : enc a = enc b) : a = b := by
  have := rd_enc a ha
  rw [h, rd_enc b hb] at this
  exact this.symm
theorem put_inj (a b : Ms) (ha : a.Wide) (hb : b.Wide) (h1 : okM a = true) (h2 : okM b = true) : put a = put b ↔ a = b := by
  constructor
  · intro h
    have := (got_put a ha h1).2
    rw [h, (got_put b hb h2).2] at this
    exact this.symm
  · intro h
    rw [h]
theorem put_length (s : Ms) (h : okM s = true) : (put s).length = if s = zero then 0 else 52 := by
  unfold put
  by_cases hz : s = zero
  · rw [if_neg (fun h => h.2 hz), if_pos hz]; rfl
  · rw [if_pos ⟨h, hz⟩, if_neg hz, enc_length]
end Mk
end Go.Proofs.Ytjionpkflpnejaa
