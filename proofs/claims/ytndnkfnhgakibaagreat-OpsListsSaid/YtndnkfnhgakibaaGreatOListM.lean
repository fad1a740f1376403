/-
  What OpsLists' walk wants, plain (layer 13). Nothing of the program is named here.
-/
import Derived.Test.YtndnkfnhgakibaaGreatOFlat
import Derived.Test.YtndnkfnhgakibaaGreatOKit
namespace Go.Proofs.YtndnkfnhgakibaaGreat
theorem frm_lastO {es : List En} (h : okB es = true) {N : Nat} (hN : N ≤ es.length) : frm es (lastAt es N) = N := by
  have hp := ((okB_char es).1 h).2.1
  have h0 := ((okB_char es).1 h).1
  have hlast : ∀ j (hj : j < es.length), decide (lastAt es N < es[j].ck) = decide (N ≤ j) := fun j hj => by
    by_cases hz : N = 0
    · subst hz
      have : lastAt es 0 = 0 := rfl
      rw [this]
      have := (h0 _ (List.getElem_mem hj)).2
      simp; omega
    · have e1 : lastAt es N = (es[N - 1]'(by omega)).ck := by
        unfold lastAt
        rw [if_neg hz, List.getD_eq_getElem?_getD, List.getElem?_eq_getElem (by omega), Option.getD_some]
      rw [e1]
      by_cases hj2 : N ≤ j
      · have := (List.pairwise_iff_getElem.1 hp) (N - 1) j (by omega) hj (by omega)
        simp [hj2, this]
      · by_cases hj3 : j = N - 1
        · subst hj3; simp; omega
        · have := (List.pairwise_iff_getElem.1 hp) j (N - 1) hj (by omega) (by omega)
          simp; omega
  unfold frm
  by_cases hN2 : N = es.length
  · subst hN2
    refine List.findIdx_eq_length.2 fun x hx => ?_
    obtain ⟨j, hj, rfl⟩ := List.getElem_of_mem hx
    rw [hlast j hj]
    simpa using hj
  · have hlt : N < es.length := by omega
    refine (List.findIdx_eq hlt).2 ⟨by rw [hlast N hlt]; simp, fun j hj => ?_⟩
    have := hlast j (by omega)
    rw [this]
    simpa using hj
namespace Op
/-- The root's entries bear these names, in order. -/
structure Ls (t : TT) (L : List (List UInt8)) (B : Nat) : Prop where
  snd : Sound t
  root : folderE t 0 1 = 0
  ck : (t.s 0).cookie ≤ B
  names : (ents t 0).map En.nm = L
def mkC (nm : List UInt8) : Cl := cl 7 0 1 nm
def rdC (o v p : Nat) : Cl := { cl 14 0 1 [] with off := o, vf := v, cnt := p }
theorem rdC_wide {o v p : Nat} (h1 : o < 18446744073709551616) (h2 : v < 18446744073709551616) (h3 : p < 4294967296) : (rdC o v p).Wide := by
  constructor <;> first | exact h1 | exact h2 | exact h3 | (show (0 : Nat) < _; omega) | (show (1 : Nat) < _; omega) | (show (14 : Nat) < _; omega)
section
variable {t : TT} {L : List (List UInt8)} {B : Nat}
theorem ls_zero : Ls (format 30) [] 0 := ⟨Sound.format, by decide, by decide, by decide⟩
theorem Ls.mono {B' : Nat} (h : Ls t L B) (hB : B ≤ B') : Ls t L B' := ⟨h.snd, h.root, Nat.le_trans h.ck hB, h.names⟩
theorem Ls.mkdir (h : Ls t L B) (nm : List UInt8) : ((step t (mkC nm)).2.st = 0 ∧ Ls (step t (mkC nm)).1 (L ++ [nm]) (B + 1)) ∨ ((step t (mkC nm)).2.st ≠ 0 ∧ Ls (step t (mkC nm)).1 L (B + 1)) := by
  have hf := folder_ok h.root
  cases hr : runK t (mkC nm) with
  | error e =>
    rw [step_no hr]
    refine .inr ⟨?_, h.mono (by omega)⟩
    have : run t (mkC nm) = .error e := by rw [run_k (by show 7 ≠ 12; omega)]; exact hr
    exact run_err this
  | ok y =>
    have hs2 : Sound y.1 := by
      have := h.snd.doT (c := mkC nm) (cl_wide (by decide) (by decide) (by decide))
      rw [(do_step h.snd.inv.may (by show 1 ≤ 7; omega) (by show 7 ≤ 16; omega) (by show 7 ≠ 12; omega)).1, step_ok hr] at this
      exact this
    rw [step_ok hr]
    have hr2 : Op.mkdir t (mkC nm) = .ok y := hr
    unfold Op.mkdir at hr2
    rw [show folderE t (mkC nm).ati (mkC nm).atg = 0 from h.root, if_neg (by decide)] at hr2
    by_cases hn : nameOk (mkC nm).nm = false
    · rw [if_pos hn] at hr2; cases hr2
    rw [if_neg hn] at hr2
    cases hl : look t (mkC nm).ati (mkC nm).nm with
    | some e => rw [hl] at hr2; cases hr2
    | none =>
      rw [hl] at hr2
      obtain ⟨k, hm⟩ := fresh_made h.snd (show (mkC nm).ati < 24 by show 0 < 24; omega) hf.2.1 (.inr (.inl rfl)) (by omega) (Nat.zero_le _) (fun _ => rfl) hr2
      have hsd : y.1.s 0 = _ := hm.sd
      refine .inl ⟨hm.st, ⟨hs2, ?_, ?_, ?_⟩⟩
      · have k0 : (y.1.s 0).kind = 2 := by rw [hsd]; exact hf.2.1
        have g0 : (y.1.s 0).gen = 1 := by rw [hsd]; exact hf.2.2
        unfold folderE thingE
        rw [k0, g0]
        decide
      · rw [hsd]
        have := h.ck
        show (t.s 0).cookie + 1 ≤ B + 1
        omega
      · have he : ents y.1 0 = ents t 0 ++ [_] := hm.en
        rw [he, List.map_append, h.names]
        rfl
theorem Ls.ok (h : Ls t L B) : okB (ents t 0) = true ∧ (ents t 0).length = L.length ∧ (ents t 0).length ≤ 38 ∧ ∀ e ∈ ents t 0, e.ck ≤ B := by
  have hf := folder_ok h.root
  have := ents_ok (h.snd.inv.may.ok 0 (by omega)) hf.2.1
  exact ⟨this.1, by rw [← h.names, List.length_map], ents_few (h.snd.inv.may.ok 0 (by omega)) hf.2.1, fun e he => Nat.le_trans (this.2.2 e he) h.ck⟩
theorem Ls.reads (h : Ls t L B) {o v p : Nat} (hp : 1 ≤ p ∧ p < 24) (hv : o ≠ 0 → v = 1) : step t (rdC o v p) = (t, told t { rep0 (rdC o v p) with es := aftL (ents t 0) o (p : Int), eof := aftB (ents t 0) o (p : Int), vf := 1 } 0) := by
  have hf := folder_ok h.root
  refine step_ok ?_
  show readdir t (rdC o v p) = _
  unfold readdir
  rw [show folderE t (rdC o v p).ati (rdC o v p).atg = 0 from h.root, if_neg (by decide), if_neg (by show ¬ p = 0; omega)]
  have hg : (t.s (rdC o v p).ati).gen = 1 := hf.2.2
  have hm : most (rdC o v p).cnt = (p : Int) := by unfold most; exact if_pos hp.2
  rw [hg, if_neg (fun h => h.2 (hv h.1)), hm]
  rfl
theorem Ls.read (h : Ls t L B) {got p : Nat} (hg : got ≤ L.length) (hp : 1 ≤ p ∧ p < 24) :
    (step t (rdC (lastAt (ents t 0) got) 1 p)).2.st = 0 ∧ (step t (rdC (lastAt (ents t 0) got) 1 p)).2.vf = 1 ∧ (step t (rdC (lastAt (ents t 0) got) 1 p)).2.es = ((ents t 0).drop got).take p ∧ (step t (rdC (lastAt (ents t 0) got) 1 p)).2.eof = decide (L.length - got ≤ p) := by
  obtain ⟨h1, h2, _, _⟩ := h.ok
  rw [h.reads hp (fun _ => rfl)]
  have hfr := frm_lastO h1 (N := got) (by omega)
  refine ⟨rfl, rfl, ?_, ?_⟩
  · show aftL _ _ _ = _
    unfold aftL
    rw [hfr, Int.toNat_natCast]
  · show aftB _ _ _ = _
    unfold aftB
    rw [hfr, Int.toNat_natCast, List.length_drop, h2]
theorem Ls.wrong (h : Ls t L B) (v : Nat) : (step t (rdC 1 v 1)).2.st = if v = 1 then 0 else 70 := by
  have hf := folder_ok h.root
  by_cases e : v = 1
  · rw [if_pos e, h.reads (by omega) (fun _ => e)]
    rfl
  · rw [if_neg e]
    rw [step_no (e := 70)]
    show readdir t (rdC 1 v 1) = _
    unfold readdir
    rw [show folderE t (rdC 1 v 1).ati (rdC 1 v 1).atg = 0 from h.root, if_neg (by decide), if_neg (by show ¬ 1 = 0; omega)]
    have hg : (t.s (rdC 1 v 1).ati).gen = 1 := hf.2.2
    rw [hg, if_pos ⟨(by show 1 ≠ 0; omega), e⟩]
theorem Ls.none (h : Ls t L B) : (step t (rdC 0 0 0)).2.st = 64 := by
  rw [step_no (e := 64)]
  show readdir t (rdC 0 0 0) = _
  unfold readdir
  rw [show folderE t (rdC 0 0 0).ati (rdC 0 0 0).atg = 0 from h.root, if_neg (by decide), if_pos (show (rdC 0 0 0).cnt = 0 from rfl)]
theorem last_succ (es : List En) {k : Nat} (hk : k < es.length) : lastAt es (k + 1) = es[k].ck := by
  unfold lastAt
  rw [if_neg (by omega), Nat.add_sub_cancel, List.getD_eq_getElem?_getD, List.getElem?_eq_getElem hk, Option.getD_some]
end
end Op
end Go.Proofs.YtndnkfnhgakibaaGreat
