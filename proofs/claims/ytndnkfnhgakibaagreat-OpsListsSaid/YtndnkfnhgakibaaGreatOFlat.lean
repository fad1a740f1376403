/-
  A thing made under a new name, a file removed: what comes, plain (layer 13). Nothing of the program is named here.
-/
import Derived.Test.YtndnkfnhgakibaaGreatOGood
import Derived.Test.YtndnkfnhgakibaaGreatONames
namespace Go.Proofs.YtndnkfnhgakibaaGreat
namespace Op
theorem sum24_mono {f g : Nat → Nat} (h : ∀ i, i < 24 → f i ≤ g i) : Vl.sum24 f ≤ Vl.sum24 g := by
  unfold Vl.sum24
  have : ∀ l : List Nat, (∀ i ∈ l, i < 24) → (l.map f).sum ≤ (l.map g).sum := by
    intro l
    induction l with
    | nil => intro _; exact Nat.le_refl _
    | cons a r ih =>
      intro hl
      rw [List.map_cons, List.map_cons, List.sum_cons, List.sum_cons]
      have h2 := ih fun i hi => hl i (List.mem_cons_of_mem _ hi)
      have h3 := h a (hl a List.mem_cons_self)
      omega
  exact this _ fun i hi => List.mem_range.1 hi
/-- One directory alone has bytes. -/
theorem tot_one {S : Nat → Vl.Th} {d : Nat} (hd : d < 24) (h : ∀ i, i < 24 → i ≠ d → (S i).dt = []) : Vl.tot S = need (S d).dt.length := by
  have e : Vl.tot S = Vl.sum24 (Vl.upd (fun _ => 0) d (need (S d).dt.length)) := by
    refine Vl.sum24_congr fun i hi => ?_
    unfold Vl.upd
    by_cases e1 : i = d
    · rw [if_pos e1, e1]
    · rw [if_neg e1, h i hi e1]; rfl
  have a1 := Vl.sum24_upd (fun _ => 0) (i := d) (need (S d).dt.length) hd
  have z : Vl.sum24 (fun _ => 0) = 0 := by decide
  rw [z] at a1
  omega
section
variable {t : TT} {c : Cl} {y : TT × Rp} {x : Nat → Nat}
/-- A new thing in a directory. -/
structure Made (t : TT) (c : Cl) (kind vf : Nat) (dt : List UInt8) (y : TT × Rp) (k : Nat) : Prop where
  low : lowest t = some k
  ne : c.ati ≠ k
  sk : y.1.s k = ⟨k, kind, ((t.s k).gen + 1) % 4294967296, 1, c.md % 512, bump t, 0, vf, dt⟩
  sd : y.1.s c.ati = { t.s c.ati with change := bump t, cookie := (t.s c.ati).cookie + 1, dt := putE (ents t c.ati ++ [⟨(t.s c.ati).cookie + 1, k, ((t.s k).gen + 1) % 4294967296, c.nm⟩]) }
  so : ∀ i, i ≠ k → i ≠ c.ati → y.1.s i = t.s i
  en : ents y.1 c.ati = ents t c.ati ++ [⟨(t.s c.ati).cookie + 1, k, ((t.s k).gen + 1) % 4294967296, c.nm⟩]
  st : y.2.st = 0
  ati : y.2.ati = k
  atg : y.2.atg = ((t.s k).gen + 1) % 4294967296
  ch : y.1.ch = bump t
  rm : y.1.rm = t.rm
/-- The new thing's cells. -/
def newS (t : TT) (c : Cl) (kind vf k : Nat) (dt : List UInt8) : Vl.Th := ⟨k, kind, ((t.s k).gen + 1) % 4294967296, 1, c.md % 512, 0, 0, vf, dt⟩
theorem newS_inv (h : Sound t) {kind vf k : Nat} {dt : List UInt8} (hk24 : k < 24) (hk0 : (t.s k).kind = 0) (hk : kind = 1 ∨ kind = 2 ∨ kind = 3) (hv : vf < 18446744073709551616) (hdt : dt.length ≤ 768) (h20 : kind = 2 → dt = []) :
    Inv (set t k (newS t c kind vf k dt)) (Vl.upd (fun _ => 0) k 1) :=
  h.inv.new hk24 hk0 (s := newS t c kind vf k dt) rfl
    (by
      by_cases e2 : kind = 2
      · subst e2
        rw [h20 rfl]
        exact dir_mk rfl ⟨by show k ≤ 23; omega, by show (0 : Nat) ≤ 768; omega, Nat.le_refl _, rfl⟩
      · exact used_mk (by show kind ≠ 0; omega) e2 ⟨by show k ≤ 23; omega, by show kind ≤ 3; omega, hdt, Nat.le_refl _⟩)
    ⟨by show ((t.s k).gen + 1) % 4294967296 < _; omega, by show (1 : Nat) < _; omega, by show c.md % 512 < _; omega, by show (0 : Nat) < _; omega, by show (0 : Nat) < _; omega, hv⟩ (by show kind ≠ 0; omega) rfl h20
theorem fresh_made (h : Sound t) {kind vf : Nat} {dt : List UInt8} (hd : c.ati < 24) (hk2 : (t.s c.ati).kind = 2) (hk : kind = 1 ∨ kind = 2 ∨ kind = 3) (hv : vf < 18446744073709551616) (hdt : dt.length ≤ 768) (h20 : kind = 2 → dt = []) (hr : fresh t c kind vf dt = .ok y) : ∃ k, Made t c kind vf dt y k := by
  unfold Op.fresh at hr
  cases hl : lowest t with
  | none => rw [hl] at hr; cases hr
  | some k =>
    rw [hl] at hr
    obtain ⟨hk24, hk0, _⟩ := lowest_some hl
    have hne : c.ati ≠ k := fun e => by rw [e, hk0] at hk2; cases hk2
    have hi := newS_inv (c := c) h hk24 hk0 hk hv hdt h20
    simp only at hr
    change (match enter (set t k (newS t c kind vf k dt)) c.ati c.nm k (((t.s k).gen + 1) % 4294967296) with | Except.error e => (Except.error e : Res) | Except.ok u => fin u (rep0 c) [k, c.ati] k) = _ at hr
    cases he : enter (set t k (newS t c kind vf k dt)) c.ati c.nm k (((t.s k).gen + 1) % 4294967296) with
    | error e => rw [he] at hr; cases hr
    | ok u =>
      rw [he] at hr
      obtain ⟨_, hen, hu⟩ := hi.enter hd (by rw [set_other t _ hne]; exact hk2) hk24 (by rw [set_same]; show kind ≠ 0; omega) (by rw [set_same]; rfl) (by rw [Vl.upd_same]; exact Nat.le_refl _) he
      obtain ⟨rfl, htot⟩ := fin_ok hr
      have e1 : ents (set t k (newS t c kind vf k dt)) c.ati = ents t c.ati := ents_other t _ hne
      have e2 : (set t k (newS t c kind vf k dt)).s c.ati = t.s c.ati := set_other t _ hne
      have e3 : newE (set t k (newS t c kind vf k dt)) c.ati c.nm k (((t.s k).gen + 1) % 4294967296) = ⟨(t.s c.ati).cookie + 1, k, ((t.s k).gen + 1) % 4294967296, c.nm⟩ := by unfold newE; rw [e2]
      rw [e1, e3] at hen
      rw [e1, e2, e3] at hu
      have hb : bump u = bump t := by rw [hu]; rfl
      have usk : u.s k = newS t c kind vf k dt := by rw [hu, set_other _ _ (Ne.symm hne)]; exact set_same _ _ _
      have usd : u.s c.ati = { t.s c.ati with cookie := (t.s c.ati).cookie + 1, dt := putE (ents t c.ati ++ [⟨(t.s c.ati).cookie + 1, k, ((t.s k).gen + 1) % 4294967296, c.nm⟩]) } := by rw [hu, set_same]
      have uso : ∀ i, i ≠ k → i ≠ c.ati → u.s i = t.s i := fun i h1 h2 => by rw [hu, set_other _ _ h2]; exact set_other _ _ h1
      refine ⟨k, ⟨hl, hne, ?_, ?_, fun i h1 h2 => ?_, ?_, rfl, ?_, ?_, ?_, ?_⟩⟩
      · show (touch u [k, c.ati]).s k = _
        rw [touch_at, hb, usk]
        simp [newS]
      · show (touch u [k, c.ati]).s c.ati = _
        rw [touch_at, hb, usd]
        simp
      · show (touch u [k, c.ati]).s i = _
        rw [touch_at, uso i h1 h2]
        simp [h1, h2]
      · show ents (touch u [k, c.ati]) c.ati = _
        rw [touch_ents]
        exact hen
      · show ((touch u [k, c.ati]).s k).ino = _
        rw [touch_at, usk]
        rfl
      · show ((touch u [k, c.ati]).s k).gen = _
        rw [touch_at, usk]
        rfl
      · exact hb
      · show u.rm = _
        rw [hu]
        rfl
/-- A new name's entry may come: what alone can stop it. -/
theorem enter_no (h : Inv t x) {d i g : Nat} {nm : List UInt8} {e : Int} (hd : d < 24) (hk2 : (t.s d).kind = 2) (hn : nameOk nm = true) (hl : look t d nm = none) (hc : (t.s d).cookie + 1 < 18446744073709551616) (hr : enter t d nm i g = .error e) : e = 66 ∧ 768 < (putE (ents t d ++ [newE t d nm i g])).length := by
  obtain ⟨ho, hp, hck⟩ := ents_ok (h.may.ok d hd) hk2
  unfold enter at hr
  rw [if_neg (by omega)] at hr
  have ha : addE (ents t d) (newE t d nm i g) = 0 := by
    refine (addE_zero ho _).2 ⟨hn, (find_none hl).1, fun y hy => ?_, ?_⟩
    · have := hck y hy
      show y.ck < (t.s d).cookie + 1
      omega
    · show 0 < (t.s d).cookie + 1
      omega
  rw [if_neg (by rw [ha]; decide)] at hr
  by_cases c3 : 768 < (putE (ents t d ++ [newE t d nm i g])).length
  · rw [if_pos c3] at hr
    exact ⟨(Except.error.inj hr).symm, c3⟩
  · rw [if_neg c3] at hr; cases hr
theorem look_set {k d : Nat} {s : Vl.Th} {nm : List UInt8} (h : d ≠ k) : look (set t k s) d nm = look t d nm := by unfold look; rw [ents_other t s h]
theorem fresh_no (h : Sound t) {kind vf : Nat} {dt : List UInt8} {e : Int} (hd : c.ati < 24) (hk2 : (t.s c.ati).kind = 2) (hk : kind = 1 ∨ kind = 2 ∨ kind = 3) (hv : vf < 18446744073709551616) (hdt : dt.length ≤ 768) (h20 : kind = 2 → dt = []) (hn : nameOk c.nm = true) (hlk : look t c.ati c.nm = none) (hc : (t.s c.ati).cookie + 1 < 18446744073709551616) (hr : fresh t c kind vf dt = .error e) : e = 66 := by
  unfold Op.fresh at hr
  cases hl : lowest t with
  | none => rw [hl] at hr; exact (Except.error.inj hr).symm
  | some k =>
    rw [hl] at hr
    obtain ⟨hk24, hk0, _⟩ := lowest_some hl
    have hne : c.ati ≠ k := fun e => by rw [e, hk0] at hk2; cases hk2
    have hi := newS_inv (c := c) h hk24 hk0 hk hv hdt h20
    simp only at hr
    change (match enter (set t k (newS t c kind vf k dt)) c.ati c.nm k (((t.s k).gen + 1) % 4294967296) with | Except.error e => (Except.error e : Res) | Except.ok u => fin u (rep0 c) [k, c.ati] k) = _ at hr
    cases he : enter (set t k (newS t c kind vf k dt)) c.ati c.nm k (((t.s k).gen + 1) % 4294967296) with
    | error z =>
      rw [he] at hr
      have := (enter_no hi hd (by rw [set_other t _ hne]; exact hk2) hn (by rw [look_set hne]; exact hlk) (by rw [set_other t _ hne]; exact hc) he).1
      rw [← this]
      exact (Except.error.inj hr).symm
    | ok u =>
      rw [he] at hr
      exact fin_err hr
/-- .. and when it comes. -/
theorem fresh_can (h : Sound t) {kind vf k : Nat} {dt : List UInt8} (hd : c.ati < 24) (hk2 : (t.s c.ati).kind = 2) (hk : kind = 1 ∨ kind = 2 ∨ kind = 3) (hv : vf < 18446744073709551616) (hdt : dt.length ≤ 768) (h20 : kind = 2 → dt = []) (hn : nameOk c.nm = true) (hlk : look t c.ati c.nm = none) (hc : (t.s c.ati).cookie + 1 < 18446744073709551616) (hl : lowest t = some k)
    (hsz : (encs (ents t c.ati)).length + 48 ≤ 768)
    (hroom : ∀ L : List UInt8, L.length ≤ 768 → (Vl.tot (Vl.upd (Vl.upd t.s k (newS t c kind vf k dt)) c.ati { t.s c.ati with cookie := (t.s c.ati).cookie + 1, dt := L }) : Int) ≤ t.rm) : ∃ y, fresh t c kind vf dt = .ok y := by
  obtain ⟨hk24, hk0, _⟩ := lowest_some hl
  have hne : c.ati ≠ k := fun e => by rw [e, hk0] at hk2; cases hk2
  have hi := newS_inv (c := c) h hk24 hk0 hk hv hdt h20
  have hk2' : ((set t k (newS t c kind vf k dt)).s c.ati).kind = 2 := by rw [set_other t _ hne]; exact hk2
  unfold Op.fresh
  rw [hl]
  simp only
  change ∃ y, (match enter (set t k (newS t c kind vf k dt)) c.ati c.nm k (((t.s k).gen + 1) % 4294967296) with | Except.error e => (Except.error e : Res) | Except.ok u => fin u (rep0 c) [k, c.ati] k) = .ok y
  have e1 : ents (set t k (newS t c kind vf k dt)) c.ati = ents t c.ati := ents_other t _ hne
  have e2 : (set t k (newS t c kind vf k dt)).s c.ati = t.s c.ati := set_other t _ hne
  cases he : enter (set t k (newS t c kind vf k dt)) c.ati c.nm k (((t.s k).gen + 1) % 4294967296) with
  | error z =>
    have h7 := (enter_no hi hd hk2' hn (by rw [look_set hne]; exact hlk) (by rw [e2]; exact hc) he).2
    exfalso
    have : (putE (ents (set t k (newS t c kind vf k dt)) c.ati ++ [newE (set t k (newS t c kind vf k dt)) c.ati c.nm k (((t.s k).gen + 1) % 4294967296)])).length ≤ 768 := by
      unfold putE
      split
      · have h24 := nm_ok24 hn
        rw [e1, encs_app, List.length_append, encs_cons, List.length_append, enc1_length]
        have hp : pad c.nm.length ≤ 3 := by unfold pad; omega
        have hp2 : c.nm.length + pad c.nm.length ≤ 24 := by unfold pad; omega
        show _ + (20 + c.nm.length + pad c.nm.length + 0) ≤ _
        omega
      · show 0 ≤ _; omega
    omega
  | ok u =>
    obtain ⟨_, hen, hu⟩ := hi.enter hd hk2' hk24 (by rw [set_same]; show kind ≠ 0; omega) (by rw [set_same]; rfl) (by rw [Vl.upd_same]; exact Nat.le_refl _) he
    simp only
    refine ⟨_, fin_room ?_⟩
    rw [touch_tot]
    have hok := (Vl.okB_facts ((hi.enter hd hk2' hk24 (by rw [set_same]; show kind ≠ 0; omega) (by rw [set_same]; rfl) (by rw [Vl.upd_same]; exact Nat.le_refl _) he).1.may.ok c.ati hd)).2.2
    rw [hu, set_same] at hok
    rw [hu]
    have := hroom _ hok
    rw [e2]
    rw [e2] at this
    exact this
/-- A file that is removed. -/
structure Gone (t : TT) (c : Cl) (e : En) (y : TT × Rp) : Prop where
  ne : e.ino ≠ c.ati
  sd : y.1.s c.ati = { t.s c.ati with change := bump t, dt := putE (remL (ents t c.ati) c.nm) }
  se : y.1.s e.ino = if (t.s e.ino).links = 1 then ⟨e.ino, 0, (t.s e.ino).gen, 0, 0, bump t, 0, 0, []⟩ else { t.s e.ino with links := (t.s e.ino).links - 1, change := bump t }
  so : ∀ i, i ≠ e.ino → i ≠ c.ati → y.1.s i = t.s i
  en : ents y.1 c.ati = remL (ents t c.ati) c.nm
  st : y.2.st = 0
  ati : y.2.ati = c.ati
  atg : y.2.atg = (t.s c.ati).gen
  ch : y.1.ch = bump t
  rm : y.1.rm = t.rm
theorem out_gone (h : Sound t) {e : En} (hf : folderE t c.ati c.atg = 0) (hn : nameOk c.nm = true) (hl : look t c.ati c.nm = some e) (hk : (t.s e.ino).kind ≠ 2) : ∃ y, out t c false = .ok y ∧ Gone t c e y := by
  obtain ⟨hd, hk2, _⟩ := folder_ok hf
  have hmem : e ∈ ents t c.ati := List.mem_of_find?_eq_some hl
  obtain ⟨hi24, hen0, hgen⟩ := h.inv.live c.ati hd hk2 e hmem
  have hne : e.ino ≠ c.ati := fun e1 => hk (by rw [e1]; exact hk2)
  obtain ⟨hi1, hents⟩ := h.inv.leave hd hk2 hl
  have hth : thingE t e.ino e.gen = 0 := by unfold thingE; rw [if_pos ⟨by omega, hen0, hgen⟩]
  have hs : (leave t c.ati c.nm).s e.ino = t.s e.ino := set_other t _ hne
  have hls := inv_pos h.inv hi24 hen0
  have hle : less (t.s e.ino).links = (t.s e.ino).links - 1 := less_eq hls.1 hls.2
  have hino := h.inv.may.ino e.ino hi24
  have hsub : (remL (ents t c.ati) c.nm).Sublist (ents t c.ati) := by
    obtain ⟨_, a, b, h1, h2, _, _⟩ := find_some hl
    rw [h2, h1]
    exact List.Sublist.append_left (List.sublist_cons_self _ _) _
  obtain ⟨ho, hp, hck⟩ := ents_ok (h.inv.may.ok c.ati hd) hk2
  have hlen : (putE (remL (ents t c.ati) c.nm)).length ≤ (t.s c.ati).dt.length := by
    obtain ⟨_, a, b, h1, h2, _, _⟩ := find_some hl
    rw [← hp, putE_len ho, putE_len (okB_sub ho hsub), h2, h1, encs_app, encs_app, encs_cons]
    simp only [List.length_append]
    omega
  have htot : Vl.tot (unlink (leave t c.ati c.nm) e.ino).s ≤ Vl.tot t.s := by
    refine sum24_mono fun i hi => ?_
    have hnd : ∀ {a b : Nat}, a ≤ b → need a ≤ need b := fun {a b} hab => by unfold need; omega
    refine hnd ?_
    by_cases e1 : i = e.ino
    · subst e1
      unfold unlink
      rw [set_same, hs]
      split
      · show 0 ≤ _; omega
      · exact Nat.le_refl _
    · unfold unlink
      rw [set_other _ _ e1]
      by_cases e2 : i = c.ati
      · subst e2
        show ((set t c.ati _).s c.ati).dt.length ≤ _
        rw [set_same]
        exact hlen
      · show ((set t c.ati _).s i).dt.length ≤ _
        rw [set_other _ _ e2]
        exact Nat.le_refl _
  have hroom := h.room
  refine ⟨(touch (unlink (leave t c.ati c.nm) e.ino) [c.ati, e.ino], told (touch (unlink (leave t c.ati c.nm) e.ino) [c.ati, e.ino]) (rep0 c) c.ati), ?_, ?_⟩
  · unfold out
    rw [hf, if_neg (by decide), hn, if_neg (by decide), hl]
    simp only
    rw [hth, if_neg (by decide), if_neg (fun h => hk h.2), if_neg (fun h => by cases h.1), if_neg (fun h => by cases h.1)]
    refine fin_room ?_
    rw [touch_tot]
    show (_ : Int) ≤ t.rm
    omega
  · have hb : bump (unlink (leave t c.ati c.nm) e.ino) = bump t := rfl
    have sd : (unlink (leave t c.ati c.nm) e.ino).s c.ati = { t.s c.ati with dt := putE (remL (ents t c.ati) c.nm) } := by
      unfold unlink
      rw [set_other _ _ (Ne.symm hne)]
      exact set_same _ _ _
    have se : (unlink (leave t c.ati c.nm) e.ino).s e.ino = if (t.s e.ino).links = 1 then ⟨e.ino, 0, (t.s e.ino).gen, 0, 0, (t.s e.ino).change, 0, 0, []⟩ else { t.s e.ino with links := (t.s e.ino).links - 1 } := by
      unfold unlink
      rw [set_same, hs, hle, hino]
      by_cases h1 : (t.s e.ino).links = 1
      · rw [if_pos h1, if_pos (by omega)]
      · rw [if_neg h1, if_neg (by omega)]
    have so : ∀ i, i ≠ e.ino → i ≠ c.ati → (unlink (leave t c.ati c.nm) e.ino).s i = t.s i := fun i h1 h2 => by
      unfold unlink
      rw [set_other _ _ h1]
      exact set_other _ _ h2
    refine ⟨hne, ?_, ?_, fun i h1 h2 => ?_, ?_, rfl, ?_, ?_, rfl, rfl⟩
    · show (touch _ _).s c.ati = _
      rw [touch_at, hb, sd]
      simp
    · show (touch _ _).s e.ino = _
      rw [touch_at, hb, se]
      by_cases h1 : (t.s e.ino).links = 1
      · rw [if_pos h1, if_pos h1]
        simp
      · rw [if_neg h1, if_neg h1]
        simp
    · show (touch _ _).s i = _
      rw [touch_at, so i h1 h2]
      simp [h1, h2]
    · show ents (touch _ _) c.ati = _
      rw [touch_ents]
      have : ents (unlink (leave t c.ati c.nm) e.ino) c.ati = ents (leave t c.ati c.nm) c.ati := ents_other _ _ (Ne.symm hne)
      rw [this]
      exact hents
    · show ((touch _ _).s c.ati).ino = _
      rw [touch_at, sd]
      exact h.inv.may.ino c.ati hd
    · show ((touch _ _).s c.ati).gen = _
      rw [touch_at, sd]
end
end Op
end Go.Proofs.YtndnkfnhgakibaaGreat
