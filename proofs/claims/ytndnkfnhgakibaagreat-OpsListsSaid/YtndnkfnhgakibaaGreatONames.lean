/-
  What OpsNames' walk wants, plain (layer 13). Nothing of the program is named here.
-/
import Derived.Test.YtndnkfnhgakibaaGreatOPA
namespace Go.Proofs.YtndnkfnhgakibaaGreat
namespace Op
/-- The law's call. -/
def nmC (k : Nat) (nm : List UInt8) : Cl := { cl k 0 1 nm with toi := 0, tog := 1, tn := [98], dt := [120] }
section
variable {nm : List UInt8}
theorem nm_look (nm : List UInt8) : look (format 20) 0 nm = none := by
  have : ents (format 20) 0 = [] := by decide
  unfold look
  rw [this]
  rfl
theorem nm_folder : folderE (format 20) 0 1 = 0 := by decide
theorem nm_ok24 (h : nameOk nm = true) : nm.length ≤ 24 := by
  unfold nameOk at h
  simp only [Bool.and_eq_true, decide_eq_true_eq] at h
  exact h.1.1.1.2
theorem nm_put (h : nameOk nm = true) : (putE [⟨1, 1, 1, nm⟩]).length ≤ 768 := by
  have h24 := nm_ok24 h
  unfold putE
  split
  · rw [encs_cons, List.length_append, enc1_length]
    have hp : pad nm.length ≤ 3 := by unfold pad; omega
    show 20 + nm.length + pad nm.length + 0 ≤ _
    omega
  · show 0 ≤ _; omega
theorem nm_add (h : nameOk nm = true) : addE [] ⟨1, 1, 1, nm⟩ = 0 := by
  refine (addE_zero (es := []) (by decide) _).2 ⟨h, ?_, ?_, by show 0 < 1; omega⟩
  · intro x hx; cases hx
  · intro x hx; cases hx
theorem tot_few {S : Nat → Vl.Th} {a b : Nat} (h0 : (S 0).dt.length ≤ a) (h1 : (S 1).dt.length ≤ b) (hr : ∀ i, 2 ≤ i → i < 24 → (S i).dt = []) : Vl.tot S ≤ (a + 95) / 96 + (b + 95) / 96 := by
  have e : Vl.tot S = Vl.sum24 (Vl.upd (Vl.upd (fun _ => 0) 0 (need (S 0).dt.length)) 1 (need (S 1).dt.length)) := by
    refine Vl.sum24_congr fun i hi => ?_
    unfold Vl.upd
    by_cases e1 : i = 1
    · rw [if_pos e1, e1]
    · rw [if_neg e1]
      by_cases e0 : i = 0
      · rw [if_pos e0, e0]
      · rw [if_neg e0, hr i (by omega) hi]; rfl
  have a1 := Vl.sum24_upd (fun _ => 0) (i := 0) (need (S 0).dt.length) (by omega)
  have a2 := Vl.sum24_upd (Vl.upd (fun _ => 0) 0 (need (S 0).dt.length)) (i := 1) (need (S 1).dt.length) (by omega)
  have z : Vl.sum24 (fun _ => 0) = 0 := by decide
  have z1 : Vl.upd (fun _ => 0) 0 (need (S 0).dt.length) 1 = 0 := rfl
  have n0 : need (S 0).dt.length ≤ (a + 95) / 96 := by show (_ + 95) / 96 ≤ _; omega
  have n1 : need (S 1).dt.length ≤ (b + 95) / 96 := by show (_ + 95) / 96 ≤ _; omega
  rw [z] at a1
  rw [z1] at a2
  omega
theorem fin_room {t : TT} {r : Rp} {l : List Nat} {k : Nat} (h : (Vl.tot (touch t l).s : Int) ≤ t.rm) : fin t r l k = .ok (touch t l, told (touch t l) r k) := if_neg (by omega)
/-- A new thing in an empty volume. -/
theorem nm_fresh (h : nameOk nm = true) {c : Cl} (hi : c.ati = 0) (hn : c.nm = nm) {kind vf : Nat} {dt : List UInt8} (hd : dt.length ≤ 1) : ∃ y, fresh (format 20) c kind vf dt = .ok y ∧ y.2.st = 0 := by
  have hl : lowest (format 20) = some 1 := by decide
  unfold fresh
  rw [hl]
  simp only
  have he : enter (set (format 20) 1 ⟨1, kind, (((format 20).s 1).gen + 1) % 4294967296, 1, c.md % 512, 0, 0, vf, dt⟩) c.ati c.nm 1 ((((format 20).s 1).gen + 1) % 4294967296) =
      .ok (set (set (format 20) 1 ⟨1, kind, (((format 20).s 1).gen + 1) % 4294967296, 1, c.md % 512, 0, 0, vf, dt⟩) 0 ⟨0, 2, 1, 1, 493, 1, 1, 0, putE [⟨1, 1, 1, nm⟩]⟩) := by
    rw [hi, hn]
    have hE : ents (set (format 20) 1 ⟨1, kind, (((format 20).s 1).gen + 1) % 4294967296, 1, c.md % 512, 0, 0, vf, dt⟩) 0 = [] := by
      show gotE ((format 20).s 0).dt = []
      decide
    have hN : newE (set (format 20) 1 ⟨1, kind, (((format 20).s 1).gen + 1) % 4294967296, 1, c.md % 512, 0, 0, vf, dt⟩) 0 nm 1 ((((format 20).s 1).gen + 1) % 4294967296) = ⟨1, 1, 1, nm⟩ := rfl
    have hK : ((set (format 20) 1 ⟨1, kind, (((format 20).s 1).gen + 1) % 4294967296, 1, c.md % 512, 0, 0, vf, dt⟩).s 0) = ⟨0, 2, 1, 1, 493, 1, 0, 0, []⟩ := rfl
    unfold enter
    rw [hE, hN, hK, if_neg (by decide), nm_add h, if_neg (by decide), List.nil_append, if_neg (by have := nm_put h; omega)]
  rw [he]
  refine ⟨_, fin_room ?_, rfl⟩
  rw [touch_tot]
  have := tot_few (S := (set (set (format 20) 1 ⟨1, kind, (((format 20).s 1).gen + 1) % 4294967296, 1, c.md % 512, 0, 0, vf, dt⟩) 0 ⟨0, 2, 1, 1, 493, 1, 1, 0, putE [⟨1, 1, 1, nm⟩]⟩).s) (a := 768) (b := 1) (nm_put h) hd (fun i h2 h24 => by
    show (Vl.upd (Vl.upd _ 1 _) 0 _ i : Vl.Th).dt = []
    rw [show Vl.upd _ 0 _ i = _ from if_neg (by omega), show Vl.upd _ 1 _ i = _ from if_neg (by omega)]
    show (if i = 0 then _ else (⟨i, 0, 0, 0, 0, 0, 0, 0, []⟩ : Vl.Th)).dt = []
    rw [if_neg (by omega)])
  show _ ≤ (20 : Int)
  omega
theorem run_1 {t : TT} {c : Cl} (h : c.op = 1) : run t c = lookup t c := by
  unfold run
  rw [h]
  rfl
theorem run_6 {t : TT} {c : Cl} (h : c.op = 6) : run t c = create t c := by
  unfold run
  rw [h]
  rfl
theorem run_7 {t : TT} {c : Cl} (h : c.op = 7) : run t c = mkdir t c := by
  unfold run
  rw [h]
  rfl
theorem run_8 {t : TT} {c : Cl} (h : c.op = 8) : run t c = symlink t c := by
  unfold run
  rw [h]
  rfl
theorem run_10 {t : TT} {c : Cl} (h : c.op = 10) : run t c = out t c false := by
  unfold run
  rw [h]
  rfl
theorem run_11 {t : TT} {c : Cl} (h : c.op = 11) : run t c = out t c true := by
  unfold run
  rw [h]
  rfl
theorem run_12 {t : TT} {c : Cl} (h : c.op = 12) : run t c = rename t c := by
  unfold run
  rw [h]
  rfl
theorem nm_bad (h : nameOk nm = false) {k : Nat} (hk : k = 1 ∨ k = 6 ∨ k = 7 ∨ k = 8 ∨ k = 10 ∨ k = 11 ∨ k = 12) : run (format 20) (nmC k nm) = .error 67 := by
  have hf := nm_folder
  rcases hk with rfl | rfl | rfl | rfl | rfl | rfl | rfl
  · rw [run_1 (t := format 20) (c := nmC 1 nm) rfl]
    unfold lookup
    rw [show folderE (format 20) (nmC 1 nm).ati (nmC 1 nm).atg = 0 from hf, if_neg (by decide), show nameOk (nmC 1 nm).nm = false from h, if_pos rfl]
  · rw [run_6 (t := format 20) (c := nmC 6 nm) rfl]
    unfold create
    rw [show folderE (format 20) (nmC 6 nm).ati (nmC 6 nm).atg = 0 from hf, if_neg (by decide), show nameOk (nmC 6 nm).nm = false from h, if_pos rfl]
  · rw [run_7 (t := format 20) (c := nmC 7 nm) rfl]
    unfold mkdir
    rw [show folderE (format 20) (nmC 7 nm).ati (nmC 7 nm).atg = 0 from hf, if_neg (by decide), show nameOk (nmC 7 nm).nm = false from h, if_pos rfl]
  · rw [run_8 (t := format 20) (c := nmC 8 nm) rfl]
    unfold symlink
    rw [show folderE (format 20) (nmC 8 nm).ati (nmC 8 nm).atg = 0 from hf, if_neg (by decide), show nameOk (nmC 8 nm).nm = false from h, if_pos rfl]
  · rw [run_10 (t := format 20) (c := nmC 10 nm) rfl]
    unfold out
    rw [show folderE (format 20) (nmC 10 nm).ati (nmC 10 nm).atg = 0 from hf, if_neg (by decide), show nameOk (nmC 10 nm).nm = false from h, if_pos rfl]
  · rw [run_11 (t := format 20) (c := nmC 11 nm) rfl]
    unfold out
    rw [show folderE (format 20) (nmC 11 nm).ati (nmC 11 nm).atg = 0 from hf, if_neg (by decide), show nameOk (nmC 11 nm).nm = false from h, if_pos rfl]
  · rw [run_12 (t := format 20) (c := nmC 12 nm) rfl]
    unfold rename renameBy
    rw [show folderE (format 20) (nmC 12 nm).ati (nmC 12 nm).atg = 0 from hf, if_neg (by decide), show folderE (format 20) (nmC 12 nm).toi (nmC 12 nm).tog = 0 from hf, if_neg (by decide), show nameOk (nmC 12 nm).nm = false from h, if_pos rfl]
theorem nm_none (h : nameOk nm = true) {k : Nat} (hk : k = 1 ∨ k = 10 ∨ k = 11 ∨ k = 12) : run (format 20) (nmC k nm) = .error 60 := by
  have hf := nm_folder
  have hl := nm_look nm
  rcases hk with rfl | rfl | rfl | rfl
  · rw [run_1 (t := format 20) (c := nmC 1 nm) rfl]
    unfold lookup
    rw [show folderE (format 20) (nmC 1 nm).ati (nmC 1 nm).atg = 0 from hf, if_neg (by decide), show nameOk (nmC 1 nm).nm = true from h, if_neg (by decide), show look (format 20) (nmC 1 nm).ati (nmC 1 nm).nm = none from hl]
  · rw [run_10 (t := format 20) (c := nmC 10 nm) rfl]
    unfold out
    rw [show folderE (format 20) (nmC 10 nm).ati (nmC 10 nm).atg = 0 from hf, if_neg (by decide), show nameOk (nmC 10 nm).nm = true from h, if_neg (by decide), show look (format 20) (nmC 10 nm).ati (nmC 10 nm).nm = none from hl]
  · rw [run_11 (t := format 20) (c := nmC 11 nm) rfl]
    unfold out
    rw [show folderE (format 20) (nmC 11 nm).ati (nmC 11 nm).atg = 0 from hf, if_neg (by decide), show nameOk (nmC 11 nm).nm = true from h, if_neg (by decide), show look (format 20) (nmC 11 nm).ati (nmC 11 nm).nm = none from hl]
  · rw [run_12 (t := format 20) (c := nmC 12 nm) rfl]
    unfold rename renameBy
    rw [show folderE (format 20) (nmC 12 nm).ati (nmC 12 nm).atg = 0 from hf, if_neg (by decide), show folderE (format 20) (nmC 12 nm).toi (nmC 12 nm).tog = 0 from hf, if_neg (by decide), show nameOk (nmC 12 nm).nm = true from h, if_neg (by decide), show nameOk (nmC 12 nm).tn = true from (by decide : nameOk [98] = true), if_neg (by decide), show look (format 20) (nmC 12 nm).ati (nmC 12 nm).nm = none from hl]
theorem nm_makes (h : nameOk nm = true) {k : Nat} (hk : k = 6 ∨ k = 7 ∨ k = 8) : ∃ y, run (format 20) (nmC k nm) = .ok y ∧ y.2.st = 0 := by
  have hf := nm_folder
  have hl := nm_look nm
  rcases hk with rfl | rfl | rfl
  · rw [run_6 (t := format 20) (c := nmC 6 nm) rfl]
    unfold create
    rw [show folderE (format 20) (nmC 6 nm).ati (nmC 6 nm).atg = 0 from hf, if_neg (by decide), show nameOk (nmC 6 nm).nm = true from h, if_neg (by decide), if_neg (by show ¬ 2 < 0; omega), show look (format 20) (nmC 6 nm).ati (nmC 6 nm).nm = none from hl]
    exact nm_fresh h rfl rfl (by show 0 ≤ 1; omega)
  · rw [run_7 (t := format 20) (c := nmC 7 nm) rfl]
    unfold mkdir
    rw [show folderE (format 20) (nmC 7 nm).ati (nmC 7 nm).atg = 0 from hf, if_neg (by decide), show nameOk (nmC 7 nm).nm = true from h, if_neg (by decide), show look (format 20) (nmC 7 nm).ati (nmC 7 nm).nm = none from hl]
    exact nm_fresh h rfl rfl (by show 0 ≤ 1; omega)
  · rw [run_8 (t := format 20) (c := nmC 8 nm) rfl]
    unfold symlink
    rw [show folderE (format 20) (nmC 8 nm).ati (nmC 8 nm).atg = 0 from hf, if_neg (by decide), show nameOk (nmC 8 nm).nm = true from h, if_neg (by decide), show look (format 20) (nmC 8 nm).ati (nmC 8 nm).nm = none from hl]
    simp only
    rw [show (nmC 8 nm).dt = [120] from rfl, if_neg (fun (h : ([120] : List UInt8) = [] ∨ 768 < ([120] : List UInt8).length) => h.elim (fun h => by cases h) (fun h => absurd h (by decide)))]
    exact nm_fresh h rfl rfl (by show 1 ≤ 1; omega)
/-- All that the law asks. -/
theorem names_all (hm : May (format 20)) (nm : List UInt8) {k : Nat} (hk : k = 1 ∨ k = 6 ∨ k = 7 ∨ k = 8 ∨ k = 10 ∨ k = 11 ∨ k = 12) :
    (nameOk nm = false → (doR (format 20) (nmC k nm)).st = 67 ∧ (doT (format 20) (nmC k nm)).ch = 1) ∧
    (nameOk nm = true → (doR (format 20) (nmC k nm)).st = if k = 6 ∨ k = 7 ∨ k = 8 then 0 else 60) := by
  have h1 : 1 ≤ (nmC k nm).op := by show 1 ≤ k; omega
  have h2 : (nmC k nm).op ≤ 16 := by show k ≤ 16; omega
  refine ⟨fun h => ?_, fun h => ?_⟩
  · have := do_err hm h1 h2 (nm_bad h hk)
    exact ⟨by rw [this.2], by rw [this.1]; rfl⟩
  · by_cases hc : k = 6 ∨ k = 7 ∨ k = 8
    · obtain ⟨y, hy, hs⟩ := nm_makes h hc
      rw [if_pos hc, (do_run hm h1 h2 hy).2, hs]
    · rw [if_neg hc, (do_err hm h1 h2 (nm_none h (by omega))).2]
end
end Op
end Go.Proofs.YtndnkfnhgakibaaGreat
