/-
  What a call leaves, plain: its reply's names, how often things changed, what stays (layer 13). Nothing of the program is named here.
-/
import Derived.Test.YtndnkfnhgakibaaGreatOPA
namespace Go.Proofs.YtndnkfnhgakibaaGreat
namespace Op
section
variable {t u : TT} {c : Cl} {y : TT × Rp}
/-- What is to be said of a call that went. -/
structure Good (t : TT) (c : Cl) (y : TT × Rp) : Prop where
  st : y.2.st = 0
  cli : y.2.cli = c.cli
  xid : y.2.xid = c.xid
  rm : y.1.rm = t.rm
  ch : y.1.ch = t.ch ∨ y.1.ch = bump t
theorem enter_ch {d : Nat} {nm : List UInt8} {i g : Nat} (h : enter t d nm i g = .ok u) : u.ch = t.ch ∧ u.rm = t.rm := by
  unfold enter at h
  by_cases c1 : ((t.s d).cookie + 1) % 18446744073709551616 = 0
  · rw [if_pos c1] at h; cases h
  rw [if_neg c1] at h
  by_cases c2 : addE (ents t d) (newE t d nm i g) ≠ 0
  · rw [if_pos c2] at h; cases h
  rw [if_neg c2] at h
  by_cases c3 : 768 < (putE (ents t d ++ [newE t d nm i g])).length
  · rw [if_pos c3] at h; cases h
  rw [if_neg c3] at h
  have h := Except.ok.inj h
  subst h
  exact ⟨rfl, rfl⟩
theorem enter_err {d : Nat} {nm : List UInt8} {i g : Nat} {e : Int} (h : enter t d nm i g = .error e) : e ≠ 0 := by
  unfold enter at h
  by_cases c1 : ((t.s d).cookie + 1) % 18446744073709551616 = 0
  · rw [if_pos c1] at h
    have := Except.error.inj h
    subst this; decide
  rw [if_neg c1] at h
  by_cases c2 : addE (ents t d) (newE t d nm i g) ≠ 0
  · rw [if_pos c2] at h
    have := Except.error.inj h
    subst this; exact c2
  rw [if_neg c2] at h
  by_cases c3 : 768 < (putE (ents t d ++ [newE t d nm i g])).length
  · rw [if_pos c3] at h
    have := Except.error.inj h
    subst this; decide
  rw [if_neg c3] at h
  cases h
theorem Good.told {v : TT} {r : Rp} {k : Nat} (h1 : r.st = 0) (h2 : r.cli = c.cli) (h3 : r.xid = c.xid) (h4 : v.rm = t.rm) (h5 : v.ch = t.ch ∨ v.ch = bump t) : Good t c (v, told v r k) := ⟨h1, h2, h3, h4, h5⟩
theorem Good.fin {v : TT} {l : List Nat} {k : Nat} (h : fin v (rep0 c) l k = .ok y) (h1 : v.ch = t.ch) (h2 : v.rm = t.rm) : Good t c y := by
  obtain ⟨rfl, _⟩ := fin_ok h
  exact ⟨rfl, rfl, rfl, h2, .inr (by show bump v = bump t; unfold bump; rw [h1])⟩
theorem fin_err {v : TT} {r : Rp} {l : List Nat} {k : Nat} {e : Int} (h : fin v r l k = .error e) : e = 66 := by
  unfold fin at h
  split at h
  · exact (Except.error.inj h).symm
  · cases h
theorem fresh_good {kind vf : Nat} {dt : List UInt8} (h : fresh t c kind vf dt = .ok y) : Good t c y := by
  unfold fresh at h
  cases hl : lowest t with
  | none => rw [hl] at h; cases h
  | some k =>
    rw [hl] at h
    simp only at h
    cases he : enter (set t k ⟨k, kind, ((t.s k).gen + 1) % 4294967296, 1, c.md % 512, 0, 0, vf, dt⟩) c.ati c.nm k (((t.s k).gen + 1) % 4294967296) with
    | error e => rw [he] at h; cases h
    | ok u =>
      rw [he] at h
      have := enter_ch he
      exact Good.fin h this.1 this.2
theorem fresh_err {kind vf : Nat} {dt : List UInt8} {e : Int} (h : fresh t c kind vf dt = .error e) : e ≠ 0 := by
  unfold fresh at h
  cases hl : lowest t with
  | none =>
    rw [hl] at h
    have := Except.error.inj h
    subst this; decide
  | some k =>
    rw [hl] at h
    simp only at h
    cases he : enter (set t k ⟨k, kind, ((t.s k).gen + 1) % 4294967296, 1, c.md % 512, 0, 0, vf, dt⟩) c.ati c.nm k (((t.s k).gen + 1) % 4294967296) with
    | error z =>
      rw [he] at h
      have := Except.error.inj h
      subst this
      exact enter_err he
    | ok u =>
      rw [he] at h
      have := fin_err h
      subst this; decide
theorem moved_good {k : Nat} {old : Option Nat} (h : moved t c k old = .ok y) : Good t c y := by
  rw [moved_eq] at h
  cases he : enter (leave (gone t c old) c.ati c.nm) c.toi c.tn (t.s k).ino (t.s k).gen with
  | error e => rw [he] at h; cases h
  | ok u =>
    rw [he] at h
    have h1 := enter_ch he
    have h2 : (gone t c old).ch = t.ch ∧ (gone t c old).rm = t.rm := by cases old <;> exact ⟨rfl, rfl⟩
    exact Good.fin h (h1.1.trans h2.1) (h1.2.trans h2.2)
theorem moved_err {k : Nat} {old : Option Nat} {e : Int} (h : moved t c k old = .error e) : e ≠ 0 := by
  rw [moved_eq] at h
  cases he : enter (leave (gone t c old) c.ati c.nm) c.toi c.tn (t.s k).ino (t.s k).gen with
  | error z =>
    rw [he] at h
    have := Except.error.inj h
    subst this
    exact enter_err he
  | ok u =>
    rw [he] at h
    have := fin_err h
    subst this; decide
theorem link_good (h : link t c = .ok y) : Good t c y := by
  unfold link at h
  split at h
  · cases h
  split at h
  · cases h
  split at h
  · cases h
  split at h
  · cases h
  split at h
  · cases h
  cases he : enter t c.toi c.tn (t.s c.ati).ino (t.s c.ati).gen with
  | error e => rw [he] at h; cases h
  | ok u =>
    rw [he] at h
    have := enter_ch he
    exact Good.fin h this.1 this.2
theorem lookup_good (h : lookup t c = .ok y) : Good t c y := by
  unfold lookup at h
  repeat' split at h
  all_goals first
    | (cases h; done)
    | exact fresh_good h
    | exact moved_good h
    | exact Good.fin h rfl rfl
    | (have h2 := Except.ok.inj h
       subst h2
       exact Good.told rfl rfl rfl rfl (.inl rfl))
theorem lookup_err {e : Int} (h : lookup t c = .error e) : e ≠ 0 := by
  unfold lookup at h
  repeat' split at h
  all_goals first
    | (cases h; done)
    | exact fresh_err h
    | exact moved_err h
    | (have h2 := fin_err h
       subst h2
       decide)
    | (have h2 := Except.error.inj h
       subst h2
       first | decide | assumption | exact (by assumption : _ ∧ _).2)
theorem getattr_good (h : getattr t c = .ok y) : Good t c y := by
  unfold getattr at h
  repeat' split at h
  all_goals first
    | (cases h; done)
    | exact fresh_good h
    | exact moved_good h
    | exact Good.fin h rfl rfl
    | (have h2 := Except.ok.inj h
       subst h2
       exact Good.told rfl rfl rfl rfl (.inl rfl))
theorem getattr_err {e : Int} (h : getattr t c = .error e) : e ≠ 0 := by
  unfold getattr at h
  repeat' split at h
  all_goals first
    | (cases h; done)
    | exact fresh_err h
    | exact moved_err h
    | (have h2 := fin_err h
       subst h2
       decide)
    | (have h2 := Except.error.inj h
       subst h2
       first | decide | assumption | exact (by assumption : _ ∧ _).2)
theorem setattr_good (h : setattr t c = .ok y) : Good t c y := by
  unfold setattr at h
  repeat' split at h
  all_goals first
    | (cases h; done)
    | exact fresh_good h
    | exact moved_good h
    | exact Good.fin h rfl rfl
    | (have h2 := Except.ok.inj h
       subst h2
       exact Good.told rfl rfl rfl rfl (.inl rfl))
theorem setattr_err {e : Int} (h : setattr t c = .error e) : e ≠ 0 := by
  unfold setattr at h
  repeat' split at h
  all_goals first
    | (cases h; done)
    | exact fresh_err h
    | exact moved_err h
    | (have h2 := fin_err h
       subst h2
       decide)
    | (have h2 := Except.error.inj h
       subst h2
       first | decide | assumption | exact (by assumption : _ ∧ _).2)
theorem read_good (h : read t c = .ok y) : Good t c y := by
  unfold read at h
  repeat' split at h
  all_goals first
    | (cases h; done)
    | exact fresh_good h
    | exact moved_good h
    | exact Good.fin h rfl rfl
    | (have h2 := Except.ok.inj h
       subst h2
       exact Good.told rfl rfl rfl rfl (.inl rfl))
theorem read_err {e : Int} (h : read t c = .error e) : e ≠ 0 := by
  unfold read at h
  repeat' split at h
  all_goals first
    | (cases h; done)
    | exact fresh_err h
    | exact moved_err h
    | (have h2 := fin_err h
       subst h2
       decide)
    | (have h2 := Except.error.inj h
       subst h2
       first | decide | assumption | exact (by assumption : _ ∧ _).2)
theorem write_good (h : write t c = .ok y) : Good t c y := by
  unfold write at h
  repeat' split at h
  all_goals first
    | (cases h; done)
    | exact fresh_good h
    | exact moved_good h
    | exact Good.fin h rfl rfl
    | (have h2 := Except.ok.inj h
       subst h2
       exact Good.told rfl rfl rfl rfl (.inl rfl))
theorem write_err {e : Int} (h : write t c = .error e) : e ≠ 0 := by
  unfold write at h
  repeat' split at h
  all_goals first
    | (cases h; done)
    | exact fresh_err h
    | exact moved_err h
    | (have h2 := fin_err h
       subst h2
       decide)
    | (have h2 := Except.error.inj h
       subst h2
       first | decide | assumption | exact (by assumption : _ ∧ _).2)
theorem create_good (h : create t c = .ok y) : Good t c y := by
  unfold create at h
  repeat' split at h
  all_goals first
    | (cases h; done)
    | exact fresh_good h
    | exact moved_good h
    | exact Good.fin h rfl rfl
    | (have h2 := Except.ok.inj h
       subst h2
       exact Good.told rfl rfl rfl rfl (.inl rfl))
theorem create_err {e : Int} (h : create t c = .error e) : e ≠ 0 := by
  unfold create at h
  repeat' split at h
  all_goals first
    | (cases h; done)
    | exact fresh_err h
    | exact moved_err h
    | (have h2 := fin_err h
       subst h2
       decide)
    | (have h2 := Except.error.inj h
       subst h2
       first | decide | assumption | exact (by assumption : _ ∧ _).2)
theorem mkdir_good (h : mkdir t c = .ok y) : Good t c y := by
  unfold mkdir at h
  repeat' split at h
  all_goals first
    | (cases h; done)
    | exact fresh_good h
    | exact moved_good h
    | exact Good.fin h rfl rfl
    | (have h2 := Except.ok.inj h
       subst h2
       exact Good.told rfl rfl rfl rfl (.inl rfl))
theorem mkdir_err {e : Int} (h : mkdir t c = .error e) : e ≠ 0 := by
  unfold mkdir at h
  repeat' split at h
  all_goals first
    | (cases h; done)
    | exact fresh_err h
    | exact moved_err h
    | (have h2 := fin_err h
       subst h2
       decide)
    | (have h2 := Except.error.inj h
       subst h2
       first | decide | assumption | exact (by assumption : _ ∧ _).2)
theorem symlink_good (h : symlink t c = .ok y) : Good t c y := by
  unfold symlink at h
  repeat' split at h
  all_goals first
    | (cases h; done)
    | exact fresh_good h
    | exact moved_good h
    | exact Good.fin h rfl rfl
    | (have h2 := Except.ok.inj h
       subst h2
       exact Good.told rfl rfl rfl rfl (.inl rfl))
theorem symlink_err {e : Int} (h : symlink t c = .error e) : e ≠ 0 := by
  unfold symlink at h
  repeat' split at h
  all_goals first
    | (cases h; done)
    | exact fresh_err h
    | exact moved_err h
    | (have h2 := fin_err h
       subst h2
       decide)
    | (have h2 := Except.error.inj h
       subst h2
       first | decide | assumption | exact (by assumption : _ ∧ _).2)
theorem readlink_good (h : readlink t c = .ok y) : Good t c y := by
  unfold readlink at h
  repeat' split at h
  all_goals first
    | (cases h; done)
    | exact fresh_good h
    | exact moved_good h
    | exact Good.fin h rfl rfl
    | (have h2 := Except.ok.inj h
       subst h2
       exact Good.told rfl rfl rfl rfl (.inl rfl))
theorem readlink_err {e : Int} (h : readlink t c = .error e) : e ≠ 0 := by
  unfold readlink at h
  repeat' split at h
  all_goals first
    | (cases h; done)
    | exact fresh_err h
    | exact moved_err h
    | (have h2 := fin_err h
       subst h2
       decide)
    | (have h2 := Except.error.inj h
       subst h2
       first | decide | assumption | exact (by assumption : _ ∧ _).2)
theorem readdir_good (h : readdir t c = .ok y) : Good t c y := by
  unfold readdir at h
  repeat' split at h
  all_goals first
    | (cases h; done)
    | exact fresh_good h
    | exact moved_good h
    | exact Good.fin h rfl rfl
    | (have h2 := Except.ok.inj h
       subst h2
       exact Good.told rfl rfl rfl rfl (.inl rfl))
theorem readdir_err {e : Int} (h : readdir t c = .error e) : e ≠ 0 := by
  unfold readdir at h
  repeat' split at h
  all_goals first
    | (cases h; done)
    | exact fresh_err h
    | exact moved_err h
    | (have h2 := fin_err h
       subst h2
       decide)
    | (have h2 := Except.error.inj h
       subst h2
       first | decide | assumption | exact (by assumption : _ ∧ _).2)
theorem fsstat_good (h : fsstat t c = .ok y) : Good t c y := by
  unfold fsstat at h
  repeat' split at h
  all_goals first
    | (cases h; done)
    | exact fresh_good h
    | exact moved_good h
    | exact Good.fin h rfl rfl
    | (have h2 := Except.ok.inj h
       subst h2
       exact Good.told rfl rfl rfl rfl (.inl rfl))
theorem fsstat_err {e : Int} (h : fsstat t c = .error e) : e ≠ 0 := by
  unfold fsstat at h
  repeat' split at h
  all_goals first
    | (cases h; done)
    | exact fresh_err h
    | exact moved_err h
    | (have h2 := fin_err h
       subst h2
       decide)
    | (have h2 := Except.error.inj h
       subst h2
       first | decide | assumption | exact (by assumption : _ ∧ _).2)
theorem commit_good (h : commit t c = .ok y) : Good t c y := by
  unfold commit at h
  repeat' split at h
  all_goals first
    | (cases h; done)
    | exact fresh_good h
    | exact moved_good h
    | exact Good.fin h rfl rfl
    | (have h2 := Except.ok.inj h
       subst h2
       exact Good.told rfl rfl rfl rfl (.inl rfl))
theorem commit_err {e : Int} (h : commit t c = .error e) : e ≠ 0 := by
  unfold commit at h
  repeat' split at h
  all_goals first
    | (cases h; done)
    | exact fresh_err h
    | exact moved_err h
    | (have h2 := fin_err h
       subst h2
       decide)
    | (have h2 := Except.error.inj h
       subst h2
       first | decide | assumption | exact (by assumption : _ ∧ _).2)
theorem out_good {b : Bool} (h : out t c b = .ok y) : Good t c y := by
  unfold out at h
  repeat' split at h
  all_goals first
    | (cases h; done)
    | exact fresh_good h
    | exact moved_good h
    | exact Good.fin h rfl rfl
    | (have h2 := Except.ok.inj h
       subst h2
       exact Good.told rfl rfl rfl rfl (.inl rfl))
theorem out_err {b : Bool} {e : Int} (h : out t c b = .error e) : e ≠ 0 := by
  unfold out at h
  repeat' split at h
  all_goals first
    | (cases h; done)
    | exact fresh_err h
    | exact moved_err h
    | (have h2 := fin_err h
       subst h2
       decide)
    | (have h2 := Except.error.inj h
       subst h2
       first | decide | assumption | exact (by assumption : _ ∧ _).2)
theorem rename_good {f : Nat → Bool} (h : renameBy t c f = .ok y) : Good t c y := by
  unfold renameBy at h
  repeat' split at h
  all_goals first
    | (cases h; done)
    | exact fresh_good h
    | exact moved_good h
    | exact Good.fin h rfl rfl
    | (have h2 := Except.ok.inj h
       subst h2
       exact Good.told rfl rfl rfl rfl (.inl rfl))
theorem rename_err {f : Nat → Bool} {e : Int} (h : renameBy t c f = .error e) : e ≠ 0 := by
  unfold renameBy at h
  repeat' split at h
  all_goals first
    | (cases h; done)
    | exact fresh_err h
    | exact moved_err h
    | (have h2 := fin_err h
       subst h2
       decide)
    | (have h2 := Except.error.inj h
       subst h2
       first | decide | assumption | exact (by assumption : _ ∧ _).2)
theorem link_err {e : Int} (h : link t c = .error e) : e ≠ 0 := by
  unfold link at h
  split at h
  · have := Except.error.inj h; subst this; decide
  split at h
  · have := Except.error.inj h; subst this; decide
  split at h
  · have := Except.error.inj h; subst this; assumption
  split at h
  · have := Except.error.inj h; subst this; decide
  split at h
  · have := Except.error.inj h; subst this; decide
  cases he : enter t c.toi c.tn (t.s c.ati).ino (t.s c.ati).gen with
  | error z =>
    rw [he] at h
    have := Except.error.inj h
    subst this
    exact enter_err he
  | ok u =>
    rw [he] at h
    have := fin_err h
    subst this; decide
/-- A call that went; one that did not. -/
theorem run_good (h : run t c = .ok y) : Good t c y := by
  unfold run at h
  by_cases o1 : c.op = 1
  · rw [if_pos o1] at h; exact lookup_good h
  rw [if_neg o1] at h
  by_cases o2 : c.op = 2
  · rw [if_pos o2] at h; exact getattr_good h
  rw [if_neg o2] at h
  by_cases o3 : c.op = 3
  · rw [if_pos o3] at h; exact setattr_good h
  rw [if_neg o3] at h
  by_cases o4 : c.op = 4
  · rw [if_pos o4] at h; exact read_good h
  rw [if_neg o4] at h
  by_cases o5 : c.op = 5
  · rw [if_pos o5] at h; exact write_good h
  rw [if_neg o5] at h
  by_cases o6 : c.op = 6
  · rw [if_pos o6] at h; exact create_good h
  rw [if_neg o6] at h
  by_cases o7 : c.op = 7
  · rw [if_pos o7] at h; exact mkdir_good h
  rw [if_neg o7] at h
  by_cases o8 : c.op = 8
  · rw [if_pos o8] at h; exact symlink_good h
  rw [if_neg o8] at h
  by_cases o9 : c.op = 9
  · rw [if_pos o9] at h; exact readlink_good h
  rw [if_neg o9] at h
  by_cases o10 : c.op = 10
  · rw [if_pos o10] at h; exact out_good h
  rw [if_neg o10] at h
  by_cases o11 : c.op = 11
  · rw [if_pos o11] at h; exact out_good h
  rw [if_neg o11] at h
  by_cases o12 : c.op = 12
  · rw [if_pos o12] at h; exact rename_good h
  rw [if_neg o12] at h
  by_cases o13 : c.op = 13
  · rw [if_pos o13] at h; exact link_good h
  rw [if_neg o13] at h
  by_cases o14 : c.op = 14
  · rw [if_pos o14] at h; exact readdir_good h
  rw [if_neg o14] at h
  by_cases o15 : c.op = 15
  · rw [if_pos o15] at h; exact fsstat_good h
  rw [if_neg o15] at h
  exact commit_good h
theorem run_err {e : Int} (h : run t c = .error e) : e ≠ 0 := by
  unfold run at h
  by_cases o1 : c.op = 1
  · rw [if_pos o1] at h; exact lookup_err h
  rw [if_neg o1] at h
  by_cases o2 : c.op = 2
  · rw [if_pos o2] at h; exact getattr_err h
  rw [if_neg o2] at h
  by_cases o3 : c.op = 3
  · rw [if_pos o3] at h; exact setattr_err h
  rw [if_neg o3] at h
  by_cases o4 : c.op = 4
  · rw [if_pos o4] at h; exact read_err h
  rw [if_neg o4] at h
  by_cases o5 : c.op = 5
  · rw [if_pos o5] at h; exact write_err h
  rw [if_neg o5] at h
  by_cases o6 : c.op = 6
  · rw [if_pos o6] at h; exact create_err h
  rw [if_neg o6] at h
  by_cases o7 : c.op = 7
  · rw [if_pos o7] at h; exact mkdir_err h
  rw [if_neg o7] at h
  by_cases o8 : c.op = 8
  · rw [if_pos o8] at h; exact symlink_err h
  rw [if_neg o8] at h
  by_cases o9 : c.op = 9
  · rw [if_pos o9] at h; exact readlink_err h
  rw [if_neg o9] at h
  by_cases o10 : c.op = 10
  · rw [if_pos o10] at h; exact out_err h
  rw [if_neg o10] at h
  by_cases o11 : c.op = 11
  · rw [if_pos o11] at h; exact out_err h
  rw [if_neg o11] at h
  by_cases o12 : c.op = 12
  · rw [if_pos o12] at h; exact rename_err h
  rw [if_neg o12] at h
  by_cases o13 : c.op = 13
  · rw [if_pos o13] at h; exact link_err h
  rw [if_neg o13] at h
  by_cases o14 : c.op = 14
  · rw [if_pos o14] at h; exact readdir_err h
  rw [if_neg o14] at h
  by_cases o15 : c.op = 15
  · rw [if_pos o15] at h; exact fsstat_err h
  rw [if_neg o15] at h
  exact commit_err h
theorem doT_rm (t : TT) (c : Cl) : (doT t c).rm = t.rm := by
  unfold doT
  split
  · cases h : run t c with
    | error e => rfl
    | ok y => exact (run_good h).rm
  · rfl
theorem doT_ch (t : TT) (c : Cl) : (doT t c).ch = t.ch ∨ (doT t c).ch = bump t := by
  unfold doT
  split
  · cases h : run t c with
    | error e => exact .inl rfl
    | ok y => exact (run_good h).ch
  · exact .inl rfl
theorem doR_names (t : TT) (c : Cl) : (doR t c).xid = c.xid ∧ (doR t c).cli = c.cli := by
  unfold doR
  split
  · cases h : run t c with
    | error e => exact ⟨rfl, rfl⟩
    | ok y => exact ⟨(run_good h).xid, (run_good h).cli⟩
  · exact ⟨rfl, rfl⟩
/-- What is refused changes nothing. -/
theorem doT_refused (h : (doR t c).st ≠ 0) : doT t c = t := by
  unfold doR at h
  unfold doT
  split
  · rename_i hc
    rw [if_pos hc] at h
    cases hr : run t c with
    | error e => rfl
    | ok y =>
      rw [hr] at h
      exact absurd (run_good hr).st h
  · rfl
end
end Op
end Go.Proofs.YtndnkfnhgakibaaGreat
