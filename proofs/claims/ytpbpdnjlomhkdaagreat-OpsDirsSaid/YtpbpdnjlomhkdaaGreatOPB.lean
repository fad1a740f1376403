/-
  Things, calls and replies in memory, and what the laws' walks want of package ops (layer 13).
  A law's variables: things and replies in blocks of the call's own (layer 13).
  A call that is executed, in memory: its struct, and its slots in a row of its own (layer 13).
-/
import Derived.Test.YtpbpdnjlomhkdaaGreatQ5
import Derived.Test.YtpbpdnjlomhkdaaGreatOPA
import Derived.Lib.SlBytesConst
namespace Go.Proofs.YtpbpdnjlomhkdaaGreat
open Go.RowKit Go.Shelf

/-- The cells of a call, of a reply. -/
def cc (c : Cl) (v : Value) : List Value := [.int .u32 (c.cli : Int), .int .u32 (c.xid : Int), .int .u32 (c.op : Int), .int .u32 (c.ati : Int), .int .u32 (c.atg : Int), .string (txt c.nm), .int .u32 (c.toi : Int), .int .u32 (c.tog : Int), .string (txt c.tn), .int .u64 (c.off : Int), .int .u64 (c.vf : Int), .int .u32 (c.cnt : Int), .int .u32 (c.md : Int), v]
def rc (r : Rp) (v u : Value) : List Value := [.int .u32 (r.cli : Int), .int .u32 (r.xid : Int), .int .i64 r.st, .int .u32 (r.ati : Int), .int .u32 (r.atg : Int), .int .u32 (r.kd : Int), .int .u32 (r.md : Int), .int .u32 (r.ln : Int), .int .u32 (r.sz : Int), .int .u64 (r.ch : Int), v, u, .bool r.eof, .int .u64 (r.vf : Int), .int .u32 (r.fr : Int)]
theorem size_C : (Tryz.prog.info? 42).map (·.size) = some 14 := by kernel_rfl
theorem size_Rp : (Tryz.prog.info? 49).map (·.size) = some 15 := by kernel_rfl
theorem zero_C : (Tryz.prog.info? 42).bind (·.zero) = some (.agg (cc Cl.zero (.slice none 0 0)).toArray) := by kernel_rfl
theorem zero_Rp : (Tryz.prog.info? 49).bind (·.zero) = some (.agg (rc Rp.zero (.slice none 0 0) (.slice none 0 0)).toArray) := by kernel_rfl
/-- The cells of things. -/
def tc (t : Op.TT) (v : Value) : List Value := [v, .int .u64 (t.ch : Int), .int .i64 t.rm]
/-- Things in memory. -/
structure TM (w : World) (A : Option Addr) (k : Nat) (t : Op.TT) : Prop where
  ss : SS w A 24 ((List.range 24).map t.s)
  cap : 24 ≤ k
theorem TM.below {w w' : World} {A : Option Addr} {k : Nat} {t : Op.TT} (h : TM w A k t) (hb : Below w.heap.size w w') : TM w' A k t := ⟨h.ss.below hb, h.cap⟩
/-- A reply in memory. -/
structure RM (w : World) (A : Option Addr) (n c : Nat) (B : Option Addr) (m d : Nat) (r : Rp) : Prop where
  data : BS w A n r.dt
  ents : ES w B m r.es
  few : n ≤ 1000 ∧ m ≤ 1000
theorem RM.below {w w' : World} {A : Option Addr} {n c : Nat} {B : Option Addr} {m d : Nat} {r : Rp} (h : RM w A n c B m d r) (hb : Below w.heap.size w w') : RM w' A n c B m d r := ⟨h.data.below hb, h.ents.below hb, h.few⟩
/-- What Do hands back. -/
def DoQ (t : Op.TT) (c : Cl) (w : World) (e : Ending) (w' : World) : Prop :=
  ∃ A k B n d C m f, e = .returned (.tuple #[.agg (tc (Op.doT t c) (.slice A 24 k)).toArray, .agg (rc (Op.doR t c) (.slice B n d) (.slice C m f)).toArray]) ∧ TM w' A k (Op.doT t c) ∧ RM w' B n d C m f (Op.doR t c) ∧ Below w.heap.size w w'
/-- What is wanted of package ops. -/
structure Pk : Prop where
  format : ∀ (room : Nat) (w : World), room ≤ 1000 → Calls Tryz.prog 18 #[.int .i64 (room : Int)] w fun e w' => ∃ A k, e = .returned (.agg (tc (Op.format room) (.slice A 24 k)).toArray) ∧ TM w' A k (Op.format room) ∧ Below w.heap.size w w'
  used : ∀ (t : Op.TT) (A : Option Addr) (k : Nat) (w : World), TM w A k t → Op.Sound t → Calls Tryz.prog 28 #[.agg (tc t (.slice A 24 k)).toArray] w fun e w' => e = .returned (.int .i64 (Vl.tot t.s : Int)) ∧ Below w.heap.size w w'
  run : ∀ (t : Op.TT) (A : Option Addr) (k : Nat) (c : Cl) (B : Option Addr) (n d : Nat) (w : World), TM w A k t → Op.Sound t → c.Wide → c.nm.length ≤ 100 → c.tn.length ≤ 100 → c.dt.length ≤ 1100 → BS w B n c.dt → n ≤ d →
    Calls Tryz.prog 21 #[.agg (tc t (.slice A 24 k)).toArray, .agg (cc c (.slice B n d)).toArray] w (DoQ t c w)
/-- An empty volume is sound. -/
theorem Op.Sound.format {room : Nat} : Op.Sound (Op.format room) := by
  have hz : ∀ i, i ≠ 0 → Op.formatS i = ⟨i, 0, 0, 0, 0, 0, 0, 0, []⟩ := fun i hi => if_neg hi
  have h0 : Op.formatS 0 = ⟨0, 2, 1, 1, 493, 1, 0, 0, []⟩ := rfl
  have hk : ∀ d, (Op.formatS d).kind = 2 → d = 0 := fun d h => by
    by_cases e : d = 0
    · exact e
    · rw [hz d e] at h; cases h
  have hown : ∀ j d, Op.own (Op.format room) j d = 0 := fun j d => by
    unfold Op.own
    split
    · rename_i h
      have := hk d h
      subst this
      rfl
    · rfl
  have hr : ∀ j, Op.refs (Op.format room) j = if j = 0 then 1 else 0 := fun j => by
    have : Vl.sum24 (Op.own (Op.format room) j) = Vl.sum24 (fun _ => 0) := Vl.sum24_congr fun d _ => hown j d
    unfold Op.refs
    rw [this]
    rfl
  refine ⟨⟨⟨fun i _ => ?_, fun i hi => ?_⟩, fun i _ => ?_, fun d _ h e he => ?_, fun j _ h => ?_, fun j _ h => ?_, fun j _ h => ?_⟩, ?_⟩
  · show (Op.formatS i).ino = i
    by_cases e : i = 0
    · subst e; rfl
    · rw [hz i e]
  · show Sl.okS (Op.formatS i) = true
    by_cases e : i = 0
    · subst e; rfl
    · rw [hz i e]
      exact Op.free_mk rfl ⟨by show i ≤ 23; omega, rfl, rfl, rfl, rfl, rfl⟩
  · show (Op.formatS i).Wide
    by_cases e : i = 0
    · subst e; exact ⟨by decide, by decide, by decide, by decide, by decide, by decide⟩
    · rw [hz i e]; exact ⟨by show (0 : Nat) < _; omega, by show (0 : Nat) < _; omega, by show (0 : Nat) < _; omega, by show (0 : Nat) < _; omega, by show (0 : Nat) < _; omega, by show (0 : Nat) < _; omega⟩
  · have := hk d h
    subst this
    cases he
  · rw [hr]
    show _ + 0 = (Op.formatS j).links
    by_cases e : j = 0
    · subst e; rfl
    · have : (Op.formatS j).kind ≠ 0 := h
      rw [hz j e] at this
      exact absurd rfl this
  · rw [hr]
    by_cases e : j = 0
    · subst e; cases h
    · exact ⟨if_neg e, rfl⟩
  · have := hk j h
    subst this
    rfl
  · show (Vl.tot Op.formatS : Int) ≤ _
    have : Vl.tot Op.formatS = 0 := by decide
    rw [this]
    show (0 : Int) ≤ (room : Int)
    omega
end Go.Proofs.YtpbpdnjlomhkdaaGreat

namespace Go.Proofs.YtpbpdnjlomhkdaaGreat
open Go.RowKit Go.Shelf

/-- What a variable holds. -/
inductive Vr
  | th (A : Option Addr) (k : Nat) (t : Op.TT)
  | rp (B : Option Addr) (n d : Nat) (C : Option Addr) (m f : Nat) (r : Rp)
def Vr.cells : Vr → List Value
  | .th A k t => tc t (.slice A 24 k)
  | .rp B n d C m f r => rc r (.slice B n d) (.slice C m f)
def Vr.ty : Vr → TypeId
  | .th .. => 27
  | .rp .. => 49
def Vr.ok (W : World) : Vr → Prop
  | .th A k t => TM W A k t
  | .rp B n d C m f r => RM W B n d C m f r
theorem size_Th : (Tryz.prog.info? 27).map (·.size) = some 3 := by kernel_rfl
def Op.zeroT : Op.TT := ⟨fun i => ⟨i, 0, 0, 0, 0, 0, 0, 0, []⟩, 0, 0⟩
theorem zero_Th : (Tryz.prog.info? 27).bind (·.zero) = some (.agg (tc Op.zeroT (.slice none 0 0)).toArray) := by kernel_rfl
section
variable {w0 W W' : World} {g : Nat} {v : Vr}
theorem var_cell (hb : Bw W g v.cells v.ty) {o : Nat} {u : Value} (h : W.cell? ⟨g, o, none⟩ = some u) : v.cells[o]? = some u := by
  rw [cell_of_row _ _ _ _ _ _ hb] at h
  simpa using h
theorem Vr.noByte (v : Vr) (o : Nat) (z : Int) : v.cells[o]? ≠ some (.int .u8 z) := by
  intro h
  cases v with
  | th A k t =>
    match o, h with
    | 0, h => cases h
    | 1, h => cases h
    | 2, h => cases h
    | o + 3, h => cases h
  | rp B n d C m f r =>
    match o, h with
    | 0, h => cases h
    | 1, h => cases h
    | 2, h => cases h
    | 3, h => cases h
    | 4, h => cases h
    | 5, h => cases h
    | 6, h => cases h
    | 7, h => cases h
    | 8, h => cases h
    | 9, h => cases h
    | 10, h => cases h
    | 11, h => cases h
    | 12, h => cases h
    | 13, h => cases h
    | 14, h => cases h
    | o + 15, h => cases h
theorem Vr.noText (v : Vr) (o : Nat) (z : ByteArray) : v.cells[o]? ≠ some (.string z) := by
  intro h
  cases v with
  | th A k t =>
    match o, h with
    | 0, h => cases h
    | 1, h => cases h
    | 2, h => cases h
    | o + 3, h => cases h
  | rp B n d C m f r =>
    match o, h with
    | 0, h => cases h
    | 1, h => cases h
    | 2, h => cases h
    | 3, h => cases h
    | 4, h => cases h
    | 5, h => cases h
    | 6, h => cases h
    | 7, h => cases h
    | 8, h => cases h
    | 9, h => cases h
    | 10, h => cases h
    | 11, h => cases h
    | 12, h => cases h
    | 13, h => cases h
    | 14, h => cases h
    | o + 15, h => cases h
theorem Vr.noSlot (v : Vr) (o : Nat) (s : Vl.Th) (x : Value) (h : ∀ j u, (sc s x)[j]? = some u → v.cells[o + j]? = some u) : False := by
  have h0 := h 0 _ rfl
  have h5 := h 5 _ rfl
  have h6 := h 6 _ rfl
  cases v with
  | th A k t =>
    match o, h0 with
    | 0, h0 => cases h0
    | 1, h0 => cases h0
    | 2, h0 => cases h0
    | o + 3, h0 => cases h0
  | rp B n d C m f r =>
    match o, h0, h5, h6 with
    | 0, h0, h5, h6 => cases h5
    | 1, h0, h5, h6 => cases h5
    | 2, h0, h5, h6 => cases h0
    | 3, h0, h5, h6 => cases h5
    | 4, h0, h5, h6 => cases h6
    | 5, h0, h5, h6 => cases h5
    | 6, h0, h5, h6 => cases h5
    | 7, h0, h5, h6 => cases h5
    | 8, h0, h5, h6 => cases h6
    | 9, h0, h5, h6 => cases h0
    | 10, h0, h5, h6 => cases h0
    | 11, h0, h5, h6 => cases h0
    | 12, h0, h5, h6 => cases h0
    | 13, h0, h5, h6 => cases h0
    | 14, h0, h5, h6 => cases h5
    | o + 15, h0, h5, h6 => cases h0
theorem BS.offV (hb : Bw W g v.cells v.ty) {A : Option Addr} {n : Nat} {l : List UInt8} (h : BS W A n l) (hk : Keep (· ≠ g) W W') : BS W' A n l :=
  h.off (fun o z hz => v.noByte o z (var_cell hb hz)) (fun k _ hne => hk.block k hne)
theorem SS.offV (hb : Bw W g v.cells v.ty) {A : Option Addr} {n : Nat} {l : List Vl.Th} (h : SS W A n l) (hk : Keep (· ≠ g) W W') : SS W' A n l := by
  refine ⟨h.1, fun hn => ?_⟩
  obtain ⟨b, o, e, hc⟩ := h.2 hn
  have hbg : b ≠ g := by
    rintro rfl
    have h0 : 0 < l.length := by rw [h.1]; exact hn
    obtain ⟨y, h1, _⟩ := hc 0 h0
    exact v.noSlot (o + 0 * 9) _ _ fun j u hu => var_cell hb (h1 j u hu)
  refine ⟨b, o, e, fun k hl => ?_⟩
  obtain ⟨y, h1, h2, h3⟩ := hc k hl
  exact ⟨y, fun j u hu => (World.cell?_of_block (hk.block b hbg)).trans (h1 j u hu), h2.offV hb hk, h3⟩
theorem TM.offV (hb : Bw W g v.cells v.ty) {A : Option Addr} {k : Nat} {t : Op.TT} (h : TM W A k t) (hk : Keep (· ≠ g) W W') : TM W' A k t := ⟨h.ss.offV hb hk, h.cap⟩
end
end Go.Proofs.YtpbpdnjlomhkdaaGreat
namespace Go.Proofs.YtpbpdnjlomhkdaaGreat
open Go.RowKit Go.Shelf
section
variable {w0 W W' : World} {vs : List (Nat × Vr)} {g : Nat} {v : Vr}
theorem Vr.ok.below (h : v.ok W) (hb : Below W.heap.size W W') : v.ok W' := by
  cases v with
  | th A k t => exact TM.below h hb
  | rp B n d C m f r => exact RM.below h hb
theorem Vr.ok.offV {u : Vr} (hb : Bw W g u.cells u.ty) (h : v.ok W) (hk : Keep (· ≠ g) W W') : v.ok W' := by
  cases v with
  | th A k t => exact TM.offV hb h hk
  | rp B n d C m f r => exact ⟨BS.offV hb h.data hk, h.ents.off (fun o z hz => u.noText o z (var_cell hb hz)) hk, h.few⟩
/-- The variables of a law, each in a block of its own. -/
structure VT (w0 W : World) (vs : List (Nat × Vr)) : Prop where
  bel : Below w0.heap.size w0 W
  var : ∀ (i g : Nat) (v : Vr), vs[i]? = some (g, v) → w0.heap.size ≤ g ∧ Bw W g v.cells v.ty ∧ v.ok W
  dis : ∀ (i j g : Nat) (u v : Vr), vs[i]? = some (g, u) → vs[j]? = some (g, v) → i = j
theorem VT.nil (h : Below w0.heap.size w0 W) : VT w0 W [] := ⟨h, fun i g v hi => by simp at hi, fun i j g u v hi _ => by simp at hi⟩
theorem VT.below (h : VT w0 W vs) (hb : Below W.heap.size W W') : VT w0 W' vs :=
  ⟨h.bel.trans (hb.mono h.bel.size), fun i g v hi => by
    obtain ⟨h1, h2, h3⟩ := h.var i g v hi
    exact ⟨h1, h2.below hb, h3.below hb⟩, h.dis⟩
theorem VT.bw (h : VT w0 W vs) (i : Nat) {g : Nat} {v : Vr} (hi : vs[i]? = some (g, v)) : Bw W g v.cells v.ty := (h.var i g v hi).2.1
theorem VT.ok (h : VT w0 W vs) (i : Nat) {g : Nat} {v : Vr} (hi : vs[i]? = some (g, v)) : v.ok W := (h.var i g v hi).2.2
theorem VT.cell (h : VT w0 W vs) (i : Nat) {g : Nat} {v : Vr} (hi : vs[i]? = some (g, v)) (o : Nat) (u : Value) (hu : v.cells[o]? = some u) : W.cell? ⟨g, o, none⟩ = some u := (h.bw i hi).cell o u hu
/-- One more variable. -/
theorem VT.push (h : VT w0 W vs) {g : Nat} {v : Vr} (hg : W.heap.size ≤ g) (hb : Bw W' g v.cells v.ty) (hbe : Below W.heap.size W W') (hv : v.ok W) : VT w0 W' (vs ++ [(g, v)]) := by
  have hlt : ∀ i g' u, vs[i]? = some (g', u) → g' < W.heap.size := fun i g' u hi => (h.var i g' u hi).2.1.lt
  have hat : ∀ i g' u, (vs ++ [(g, v)])[i]? = some (g', u) → vs[i]? = some (g', u) ∨ (i = vs.length ∧ g' = g ∧ u = v) := fun i g' u hi => by
    by_cases e : i < vs.length
    · rw [List.getElem?_append_left e] at hi
      exact .inl hi
    · rw [List.getElem?_append_right (by omega)] at hi
      have : i - vs.length = 0 := by have := (List.getElem?_eq_some_iff.1 hi).1; simp at this; omega
      rw [this] at hi
      simp only [List.getElem?_cons_zero, Option.some.injEq, Prod.mk.injEq] at hi
      exact .inr ⟨by omega, hi.1.symm, hi.2.symm⟩
  refine ⟨h.bel.trans (hbe.mono h.bel.size), fun i g' u hi => ?_, fun i j g' u u' hi hj => ?_⟩
  · rcases hat i g' u hi with hi | ⟨_, rfl, rfl⟩
    · obtain ⟨h1, h2, h3⟩ := h.var i g' u hi
      exact ⟨h1, h2.below hbe, h3.below hbe⟩
    · exact ⟨Nat.le_trans h.bel.size hg, hb, hv.below hbe⟩
  · rcases hat i g' u hi with hi | ⟨e1, e2, _⟩
    · rcases hat j g' u' hj with hj | ⟨e3, e4, _⟩
      · exact h.dis i j g' u u' hi hj
      · have := hlt i g' u hi; omega
    · rcases hat j g' u' hj with hj | ⟨e3, _, _⟩
      · have := hlt j g' u' hj; omega
      · omega
/-- A variable is set. -/
theorem VT.put (h : VT w0 W vs) (i : Nat) {g : Nat} {v u : Vr} (hi : vs[i]? = some (g, v)) (hb : Bw W' g u.cells u.ty) (hk : Keep (· ≠ g) W W') (hu : u.ok W) : VT w0 W' (vs.set i (g, u)) := by
  have hv := h.var i g v hi
  have hil := (List.getElem?_eq_some_iff.1 hi).1
  have hat : ∀ j g' z, (vs.set i (g, u))[j]? = some (g', z) → (j ≠ i ∧ vs[j]? = some (g', z)) ∨ (j = i ∧ g' = g ∧ z = u) := fun j g' z hj => by
    rw [List.getElem?_set] at hj
    by_cases e : i = j
    · rw [if_pos e, if_pos (by omega)] at hj
      simp only [Option.some.injEq, Prod.mk.injEq] at hj
      exact .inr ⟨e.symm, hj.1.symm, hj.2.symm⟩
    · rw [if_neg e] at hj
      exact .inl ⟨fun h => e h.symm, hj⟩
  refine ⟨h.bel.trans (hk.below2 (fun k hk' => by have := hv.1; omega)), fun j g' z hj => ?_, fun a b g' z z' ha hb' => ?_⟩
  · rcases hat j g' z hj with ⟨e, hj2⟩ | ⟨_, rfl, rfl⟩
    · obtain ⟨h1, h2, h3⟩ := h.var j g' z hj2
      have hne : g' ≠ g := fun eg => by
        subst eg
        exact e (h.dis j i g' z v hj2 hi)
      exact ⟨h1, h2.keep hk hne, h3.offV hv.2.1 hk⟩
    · exact ⟨hv.1, hb, hu.offV hv.2.1 hk⟩
  · rcases hat a g' z ha with ⟨e, ha2⟩ | ⟨e1, e2, _⟩
    · rcases hat b g' z' hb' with ⟨e', hb2⟩ | ⟨e3, e4, _⟩
      · exact h.dis a b g' z z' ha2 hb2
      · subst e4
        exact absurd (h.dis a i g' z v ha2 hi) e
    · rcases hat b g' z' hb' with ⟨e', hb2⟩ | ⟨e3, _, _⟩
      · subst e2
        exact absurd (h.dis b i g' z' v hb2 hi) e'
      · omega
end
end Go.Proofs.YtpbpdnjlomhkdaaGreat
namespace Go.Proofs.YtpbpdnjlomhkdaaGreat
open Go.RowKit Go.Shelf
/-- Two more variables. -/
theorem VT.push2 {w0 W W' : World} {vs : List (Nat × Vr)} {g g' : Nat} {v v' : Vr} (h : VT w0 W vs) (hg : W.heap.size ≤ g) (hg' : W.heap.size ≤ g') (hne : g ≠ g') (hb : Bw W' g v.cells v.ty) (hb' : Bw W' g' v'.cells v'.ty) (hbe : Below W.heap.size W W') (hv : v.ok W) (hv' : v'.ok W) : VT w0 W' (vs ++ [(g, v)] ++ [(g', v')]) := by
  have h1 := h.push hg hb hbe hv
  have hlt : ∀ (i k : Nat) (u : Vr), vs[i]? = some (k, u) → k < W.heap.size := fun i k u hi => (h.var i k u hi).2.1.lt
  have hat : ∀ (i k : Nat) (u : Vr), (vs ++ [(g, v)] ++ [(g', v')])[i]? = some (k, u) → (vs ++ [(g, v)])[i]? = some (k, u) ∨ (i = (vs ++ [(g, v)]).length ∧ k = g' ∧ u = v') := fun i k u hi => by
    by_cases e : i < (vs ++ [(g, v)]).length
    · rw [List.getElem?_append_left e] at hi
      exact .inl hi
    · rw [List.getElem?_append_right (by omega)] at hi
      have : i - (vs ++ [(g, v)]).length = 0 := by have := (List.getElem?_eq_some_iff.1 hi).1; simp only [List.length_singleton] at this; omega
      rw [this] at hi
      simp only [List.getElem?_cons_zero, Option.some.injEq, Prod.mk.injEq] at hi
      exact .inr ⟨by omega, hi.1.symm, hi.2.symm⟩
  have hno : ∀ (i : Nat) (u : Vr), (vs ++ [(g, v)])[i]? ≠ some (g', u) := fun i u hi => by
    by_cases e : i < vs.length
    · rw [List.getElem?_append_left e] at hi
      have := hlt i g' u hi
      omega
    · rw [List.getElem?_append_right (by omega)] at hi
      have : i - vs.length = 0 := by have := (List.getElem?_eq_some_iff.1 hi).1; simp only [List.length_singleton] at this; omega
      rw [this] at hi
      simp only [List.getElem?_cons_zero, Option.some.injEq, Prod.mk.injEq] at hi
      exact hne hi.1
  refine ⟨h1.bel, fun i k u hi => ?_, fun i j k u u' hi hj => ?_⟩
  · rcases hat i k u hi with hi2 | ⟨_, rfl, rfl⟩
    · exact h1.var i k u hi2
    · exact ⟨Nat.le_trans h.bel.size hg', hb', hv'.below hbe⟩
  · rcases hat i k u hi with hi2 | ⟨e1, e2, _⟩
    · rcases hat j k u' hj with hj2 | ⟨e3, e4, _⟩
      · exact h1.dis i j k u u' hi2 hj2
      · subst e4; exact absurd hi2 (hno i u)
    · rcases hat j k u' hj with hj2 | ⟨e3, _, _⟩
      · subst e2; exact absurd hj2 (hno j u')
      · omega
theorem BS.ofB {w : World} {g : Nat} {l : List UInt8} {t : TypeId} (h : Bw w g (bc l) t) : BS w (some ⟨g, 0, none⟩) l.length l := by
  refine ⟨rfl, fun _ => ⟨g, 0, rfl, fun j hj => ?_⟩⟩
  rw [Nat.zero_add, cell_of_row _ _ _ _ _ _ h]
  simp [bc, hj]
theorem BS.ofM {w : World} {g : Nat} {l : List UInt8} {t : TypeId} {fz : Nat × Nat} (h : w.heap[g]? = some (.cells (bc l).toArray t fz)) : BS w (some ⟨g, 0, none⟩) l.length l := by
  refine ⟨rfl, fun _ => ⟨g, 0, rfl, fun j hj => ?_⟩⟩
  rw [Nat.zero_add, cell_of_row _ _ _ _ _ _ h]
  simp [bc, hj]
/-- '[]byte("..")': a constant's row. -/
theorem conv_const (W : World) (C : Array Value) (n c B : Nat) (h : B = W.heap.size) : (convert 38 38 (.slice (some ⟨B, 0, none⟩) n c)).run Tryz.prog (W.alloc (.cells C 5)) = .ok (.slice (some ⟨B, 0, none⟩) n c) (W.alloc (.cells C 5 (C.size, C.size + 1))) := by
  subst h
  exact Lib.run_convert_bytes_const (P := Tryz.prog) W 38 5 C n c Tryz.underlying38 Tryz.underlying5
end Go.Proofs.YtpbpdnjlomhkdaaGreat

namespace Go.Proofs.YtpbpdnjlomhkdaaGreat
open Go.RowKit Go.Shelf

/-- The cells of so many slots. -/
def kro (N : Nat → Vl.Th) (sl : Nat → Sl) : Nat → List Value
  | 0 => []
  | k + 1 => kro N sl k ++ sc (N k) (sl k).v
theorem kro_len (N : Nat → Vl.Th) (sl : Nat → Sl) : ∀ k, (kro N sl k).length = k * 9
  | 0 => rfl
  | k + 1 => by
    simp only [kro, List.length_append, kro_len N sl k, sc_len]
    omega
theorem kro_get (N : Nat → Vl.Th) (sl : Nat → Sl) (i j : Nat) (hj : j < 9) : ∀ k, i < k → (kro N sl k)[i * 9 + j]? = (sc (N i) (sl i).v)[j]?
  | 0, h => by omega
  | k + 1, h => by
    simp only [kro]
    by_cases e : i = k
    · subst e
      rw [List.getElem?_append_right (by rw [kro_len]; omega), kro_len, show i * 9 + j - i * 9 = j by omega]
    · rw [List.getElem?_append_left (by rw [kro_len]; omega)]
      exact kro_get N sl i j hj k (by omega)
theorem kro_congr {N M : Nat → Vl.Th} {sl sm : Nat → Sl} : ∀ k, (∀ i, i < k → N i = M i ∧ sl i = sm i) → kro N sl k = kro M sm k
  | 0, _ => rfl
  | k + 1, h => by
    simp only [kro, kro_congr k fun i hi => h i (by omega), (h k (by omega)).1, (h k (by omega)).2]
theorem kro_one (N : Nat → Vl.Th) (sl : Nat → Sl) (k : Nat) : ∀ v ∈ kro N sl k, v.oneCell' = true := by
  induction k with
  | zero => intro v hv; cases hv
  | succ k ih =>
    intro v hv
    simp only [kro, List.mem_append] at hv
    rcases hv with hv | hv
    · exact ih v hv
    · exact sc_row _ _ _ _ v hv
/-- One cell of one slot is set. -/
theorem kro_setK {N : Nat → Vl.Th} {sl : Nat → Sl} {rest : List Value} {i j K : Nat} (hi : i < K) (hj : j < 9) {x : Vl.Th} {s : Sl} {v : Value} (h : sc x s.v = (sc (N i) (sl i).v).set j v) : (kro N sl K ++ rest).set (i * 9 + j) v = kro (Vl.upd N i x) (Vl.upd sl i s) K ++ rest := by
  have hl := kro_len N sl K
  have hl2 := kro_len (Vl.upd N i x) (Vl.upd sl i s) K
  rw [List.set_append_left _ _ (by omega)]
  congr 1
  apply List.ext_getElem?
  intro o
  by_cases ho : o < K * 9
  · have hq : o = o / 9 * 9 + o % 9 := by omega
    have hr : o % 9 < 9 := by omega
    have hk : o / 9 < K := by omega
    by_cases e : o = i * 9 + j
    · subst e
      rw [kro_get _ _ i j hj K hi, Vl.upd_same, Vl.upd_same, h, List.getElem?_set, if_pos rfl, if_pos (by omega), List.getElem?_set, if_pos rfl, if_pos (by rw [sc_len]; exact hj)]
    · rw [List.getElem?_set, if_neg (fun h => e h.symm)]
      by_cases e2 : o / 9 = i
      · rw [hq, e2, kro_get _ _ i _ hr K hi, kro_get _ _ i _ hr K hi, Vl.upd_same, Vl.upd_same, h, List.getElem?_set, if_neg (by omega)]
      · rw [hq, kro_get _ _ _ _ hr K hk, kro_get _ _ _ _ hr K hk, Vl.upd_other _ _ e2, Vl.upd_other _ _ e2]
  · rw [List.getElem?_eq_none (by rw [List.length_set]; omega), List.getElem?_eq_none (by omega)]
theorem kro_set {N : Nat → Vl.Th} {sl : Nat → Sl} {rest : List Value} {i j : Nat} (hi : i < 24) (hj : j < 9) {x : Vl.Th} {s : Sl} {v : Value} (h : sc x s.v = (sc (N i) (sl i).v).set j v) : (kro N sl 24 ++ rest).set (i * 9 + j) v = kro (Vl.upd N i x) (Vl.upd sl i s) 24 ++ rest := kro_setK hi hj h
/-- A whole slot is set. -/
theorem kro_put (N : Nat → Vl.Th) (sl : Nat → Sl) (i : Nat) (x : Vl.Th) (s : Sl) : ∀ k, i < k → (kro N sl k).take (i * 9) ++ sc x s.v ++ (kro N sl k).drop (i * 9 + 9) = kro (Vl.upd N i x) (Vl.upd sl i s) k
  | 0, h => by omega
  | k + 1, h => by
    have hl := kro_len N sl k
    simp only [kro]
    by_cases e : i = k
    · subst e
      rw [List.take_append_of_le_length (by omega), List.take_of_length_le (by omega), List.drop_eq_nil_of_le (by rw [List.length_append, hl, sc_len]; omega), List.append_nil, Vl.upd_same, Vl.upd_same]
      congr 1
      exact kro_congr i fun j hj => ⟨(Vl.upd_other _ _ (by omega)).symm, (Vl.upd_other _ _ (by omega)).symm⟩
    · rw [List.take_append_of_le_length (by omega), List.drop_append_of_le_length (by omega), ← List.append_assoc, kro_put N sl i x s k (by omega), Vl.upd_other _ _ (by omega), Vl.upd_other _ _ (by omega)]
theorem kro_putsK (N : Nat → Vl.Th) (sl : Nat → Sl) (rest : List Value) {i K : Nat} (hi : i < K) (x : Vl.Th) (s : Sl) : (kro N sl K ++ rest).take (i * 9) ++ sc x s.v ++ (kro N sl K ++ rest).drop (i * 9 + 9) = kro (Vl.upd N i x) (Vl.upd sl i s) K ++ rest := by
  have hl := kro_len N sl K
  rw [List.take_append_of_le_length (by omega), List.drop_append_of_le_length (by omega), ← List.append_assoc, kro_put N sl i x s K hi]
theorem kro_puts (N : Nat → Vl.Th) (sl : Nat → Sl) (rest : List Value) {i : Nat} (hi : i < 24) (x : Vl.Th) (s : Sl) : (kro N sl 24 ++ rest).take (i * 9) ++ sc x s.v ++ (kro N sl 24 ++ rest).drop (i * 9 + 9) = kro (Vl.upd N i x) (Vl.upd sl i s) 24 ++ rest := kro_putsK N sl rest hi x s
theorem upd_self {α : Type} (f : Nat → α) (i : Nat) : Vl.upd f i (f i) = f := by
  funext j
  unfold Vl.upd
  split <;> simp_all
/-- The cells of a call that is executed. -/
def xc (t : Op.TT) (g k : Nat) (c : Cl) (v : Value) (r : Rp) (y z : Value) : List Value := tc t (.slice (some ⟨g, 0, none⟩) 24 k) ++ (cc c v ++ rc r y z)
theorem size_X : (Tryz.prog.info? 104).map (·.size) = some 32 := by kernel_rfl
/-- No byte lies in such a row of cells. -/
theorem xc_noByte (t : Op.TT) (g k : Nat) (c : Cl) (B : Option Addr) (n d : Nat) (r : Rp) (D : Option Addr) (m e : Nat) (E : Option Addr) (q f : Nat) : ∀ v ∈ xc t g k c (.slice B n d) r (.slice D m e) (.slice E q f), ∀ z, v ≠ .int .u8 z := by
  intro v hv z
  simp only [xc, tc, cc, rc, List.mem_append, List.mem_cons, List.not_mem_nil, or_false] at hv
  rcases hv with (rfl | rfl | rfl) | (rfl | rfl | rfl | rfl | rfl | rfl | rfl | rfl | rfl | rfl | rfl | rfl | rfl | rfl) | (rfl | rfl | rfl | rfl | rfl | rfl | rfl | rfl | rfl | rfl | rfl | rfl | rfl | rfl | rfl) <;> (intro h; cases h)
/-- The slice lies not in the block g. -/
def Off (g : Nat) (A : Option Addr) (n : Nat) : Prop := 0 < n → ∀ ad, A = some ad → ad.block ≠ g
theorem Off.zero {g : Nat} {A : Option Addr} : Off g A 0 := fun h => absurd h (by omega)
theorem BS.offB {w w' : World} {g : Nat} {A : Option Addr} {n : Nat} {l : List UInt8} (h : BS w A n l) (ho : Off g A n) (hk : Keep (· ≠ g) w w') : BS w' A n l :=
  ⟨h.1, fun hn => by
    obtain ⟨b, o, e, hc⟩ := h.2 hn
    exact ⟨b, o, e, fun j hj => (World.cell?_of_block (hk.block b (ho hn _ e))).trans (hc j hj)⟩⟩
/-- A slice that lay there before g was made lies not in g. -/
theorem BS.off_new {w : World} {g : Nat} {A : Option Addr} {n : Nat} {l : List UInt8} (h : BS w A n l) (hg : w.heap.size ≤ g) : Off g A n := fun hn ad e => by
  have := h.lt_block hn ad e
  omega
/-- A row of slots in the block g (room for k), which is the call's own. -/
structure SX (w : World) (g k : Nat) (N : Nat → Vl.Th) (sl : Nat → Sl) : Prop where
  row : ∃ rest, Bw w g (kro N sl 24 ++ rest) 92
  cap : 24 ≤ k
  bs : ∀ i, i < 24 → BS w (sl i).a (sl i).n (N i).dt ∧ (sl i).n ≤ (sl i).c ∧ Off g (sl i).a (sl i).n
section
variable {w w' : World} {g k : Nat} {N M : Nat → Vl.Th} {sl : Nat → Sl}
theorem SX.below (h : SX w g k N sl) (hb : Below w.heap.size w w') : SX w' g k N sl :=
  ⟨by obtain ⟨rest, hr⟩ := h.row; exact ⟨rest, hr.below hb⟩, h.cap, fun i hi => ⟨(h.bs i hi).1.below hb, (h.bs i hi).2⟩⟩
theorem SX.lt (h : SX w g k N sl) : g < w.heap.size := by
  obtain ⟨rest, hr⟩ := h.row
  exact hr.lt
theorem SX.cellS (h : SX w g k N sl) {i : Nat} (hi : i < 24) (j : Nat) (v : Value) (hv : (sc (N i) (.slice (sl i).a (sl i).n (sl i).c))[j]? = some v) : w.cell? ⟨g, i * 9 + j, none⟩ = some v := by
  obtain ⟨rest, hr⟩ := h.row
  have hj : j < 9 := by have := (List.getElem?_eq_some_iff.1 hv).1; rwa [sc_len] at this
  refine hr.cell _ _ ?_
  rw [List.getElem?_append_left (by rw [kro_len]; omega), kro_get N sl i j hj 24 hi]
  exact hv
theorem SX.frozS (h : SX w g k N sl) (o : Nat) : w.frozen? ⟨g, o, none⟩ = false := by
  obtain ⟨rest, hr⟩ := h.row
  exact hr.froz o
/-- Another block is written, in which no byte lies. -/
theorem SX.other {p : Nat} (h : SX w g k N sl) (hp : p ≠ g) (hb : ∀ o z, w.cell? ⟨p, o, none⟩ ≠ some (.int .u8 z)) (hk : Keep (· ≠ p) w w') : SX w' g k N sl :=
  ⟨by obtain ⟨rest, hr⟩ := h.row; exact ⟨rest, hr.keep hk (Ne.symm hp)⟩, h.cap, fun i hi => ⟨(h.bs i hi).1.off hb (fun j _ hj => hk.block j hj), (h.bs i hi).2⟩⟩
/-- One slot is written. -/
theorem SX.put (h : SX w g k N sl) (hk : Keep (· ≠ g) w w') {i : Nat} (hi : i < 24) {x : Vl.Th} {s : Sl} (hb : ∃ rest, Bw w' g (kro (Vl.upd N i x) (Vl.upd sl i s) 24 ++ rest) 92) (hx : BS w s.a s.n x.dt) (hc : s.n ≤ s.c) (ho : Off g s.a s.n) : SX w' g k (Vl.upd N i x) (Vl.upd sl i s) := by
  refine ⟨hb, h.cap, fun j hj => ?_⟩
  by_cases e : j = i
  · subst e
    rw [Vl.upd_same, Vl.upd_same]
    exact ⟨hx.offB ho hk, hc, ho⟩
  · rw [Vl.upd_other _ _ e, Vl.upd_other _ _ e]
    exact ⟨(h.bs j hj).1.offB (h.bs j hj).2.2 hk, (h.bs j hj).2⟩
theorem SX.set (h : SX w g k N sl) {i : Nat} (hi : i < 24) (j : Nat) (hj : j < 9) (v : Value) {x : Vl.Th} {s : Sl} (hv : sc x s.v = (sc (N i) (sl i).v).set j v) (hx : BS w s.a s.n x.dt) (hc : s.n ≤ s.c) (ho : Off g s.a s.n) : SX (w.setCell ⟨g, i * 9 + j, none⟩ v) g k (Vl.upd N i x) (Vl.upd sl i s) := by
  obtain ⟨rest, hr⟩ := h.row
  refine h.put ((Keep.refl _ w).setCell (p := ⟨g, i * 9 + j, none⟩) (fun h => h rfl) v) hi ⟨rest, ?_⟩ hx hc ho
  rw [← kro_set hi hj hv]
  exact hr.set _ v
theorem SX.ss (h : SX w g k N sl) : SS w (some ⟨g, 0, none⟩) 24 ((List.range 24).map N) := by
  refine ⟨by simp, fun _ => ⟨g, 0, rfl, fun i hi => ⟨sl i, ?_, ?_, ?_⟩⟩⟩
  · have hi' : i < 24 := by simpa using hi
    simp only [List.getElem_map, List.getElem_range]
    intro j u hu
    rw [Nat.zero_add]
    exact h.cellS hi' j u hu
  · simp only [List.getElem_map, List.getElem_range]
    exact (h.bs i (by simpa using hi)).1
  · exact (h.bs i (by simpa using hi)).2.1
/-- The cells of one, as a load asks for them. -/
theorem SX.load (h : SX w g k N sl) {i : Nat} (hi : i < 24) : ∀ j u, (sc (N i) (.slice (sl i).a (sl i).n (sl i).c))[j]? = some u → w.cell? ((⟨g, i * 9, none⟩ : Addr).add j) = some u := fun j u hu => by
  rw [add_plain]
  exact h.cellS hi j u hu
end
/-- A call that is executed: its struct at p, its slots in the block g (room for k). -/
structure RX (w0 w : World) (p g k : Nat) (t : Op.TT) (sl : Nat → Sl) (c : Cl) (B : Option Addr) (n d : Nat) (r : Rp) (D : Option Addr) (m e : Nat) (E : Option Addr) (q f : Nat) : Prop where
  bel : Below w0.heap.size w0 w
  pos : w0.heap.size ≤ p ∧ w0.heap.size ≤ g ∧ p ≠ g
  run : Bw w p (xc t g k c (.slice B n d) r (.slice D m e) (.slice E q f)) 104
  sx : SX w g k t.s sl
  data : BS w0 B n c.dt ∧ n ≤ d
section
variable {w0 w w' : World} {p g k : Nat} {t u : Op.TT} {sl : Nat → Sl} {c : Cl} {B : Option Addr} {n d : Nat} {r r' : Rp} {D D' : Option Addr} {m e m' e' : Nat} {E E' : Option Addr} {q f q' f' : Nat}
theorem RX.below (h : RX w0 w p g k t sl c B n d r D m e E q f) (hb : Below w.heap.size w w') : RX w0 w' p g k t sl c B n d r D m e E q f :=
  ⟨h.bel.trans (hb.mono h.bel.size), h.pos, h.run.below hb, h.sx.below hb, h.data⟩
theorem RX.drew (h : RX w0 w p g k t sl c B n d r D m e E q f) : RX w0 w.drew p g k t sl c B n d r D m e E q f := h.below (Below.refl _ w).drew
theorem RX.dat (h : RX w0 w p g k t sl c B n d r D m e E q f) : BS w B n c.dt := h.data.1.below h.bel
theorem RX.cellR (h : RX w0 w p g k t sl c B n d r D m e E q f) (o : Nat) (v : Value) (hv : (xc t g k c (.slice B n d) r (.slice D m e) (.slice E q f))[o]? = some v) : w.cell? ⟨p, o, none⟩ = some v := h.run.cell o v hv
theorem RX.cellS (h : RX w0 w p g k t sl c B n d r D m e E q f) {i : Nat} (hi : i < 24) (j : Nat) (v : Value) (hv : (sc (t.s i) (.slice (sl i).a (sl i).n (sl i).c))[j]? = some v) : w.cell? ⟨g, i * 9 + j, none⟩ = some v := h.sx.cellS hi j v hv
theorem RX.frozS (h : RX w0 w p g k t sl c B n d r D m e E q f) (o : Nat) : w.frozen? ⟨g, o, none⟩ = false := h.sx.frozS o
theorem RX.noByte (h : RX w0 w p g k t sl c B n d r D m e E q f) : ∀ o z, w.cell? ⟨p, o, none⟩ ≠ some (.int .u8 z) := fun o z hz => by
  rw [cell_of_row _ _ _ _ _ _ h.run] at hz
  have hz' : (xc t g k c (.slice B n d) r (.slice D m e) (.slice E q f))[o]? = some (.int .u8 z) := by simpa using hz
  exact xc_noByte t g k c B n d r D m e E q f _ (List.mem_of_getElem? hz') z rfl
theorem RX.offP (h : RX w0 w p g k t sl c B n d r D m e E q f) {A : Option Addr} {x : Nat} {l : List UInt8} (hb : BS w A x l) (hk : Keep (· ≠ p) w w') : BS w' A x l :=
  hb.off h.noByte (fun j _ hj => hk.block j hj)
/-- The struct is set. -/
theorem RX.putR (h : RX w0 w p g k t sl c B n d r D m e E q f) (hk : Keep (· ≠ p) w w') (hb : Bw w' p (xc u g k c (.slice B n d) r' (.slice D' m' e') (.slice E' q' f')) 104) (hs : u.s = t.s) : RX w0 w' p g k u sl c B n d r' D' m' e' E' q' f' :=
  ⟨h.bel.trans (hk.below2 (fun j hj => by have := h.pos.1; omega)), h.pos, hb, by rw [hs]; exact h.sx.other h.pos.2.2 h.noByte hk, h.data⟩
/-- A cell of the struct is set. -/
theorem RX.setR (h : RX w0 w p g k t sl c B n d r D m e E q f) (o : Nat) (v : Value) (hx : xc u g k c (.slice B n d) r' (.slice D' m' e') (.slice E' q' f') = (xc t g k c (.slice B n d) r (.slice D m e) (.slice E q f)).set o v) (hs : u.s = t.s) : RX w0 (w.setCell ⟨p, o, none⟩ v) p g k u sl c B n d r' D' m' e' E' q' f' :=
  h.putR ((Keep.refl _ w).setCell (p := ⟨p, o, none⟩) (fun h => h rfl) v) (by rw [hx]; exact h.run.set o v) hs
/-- The row of slots is written. -/
theorem RX.putS (h : RX w0 w p g k t sl c B n d r D m e E q f) (hk : Keep (· ≠ g) w w') {N : Nat → Vl.Th} {sm : Nat → Sl} (hx : SX w' g k N sm) : RX w0 w' p g k ⟨N, t.ch, t.rm⟩ sm c B n d r D m e E q f :=
  ⟨h.bel.trans (hk.below2 (fun j hj => by have := h.pos.2.1; omega)), h.pos, h.run.keep hk h.pos.2.2, hx, h.data⟩
/-- A cell of a slot is set. -/
theorem RX.setS (h : RX w0 w p g k t sl c B n d r D m e E q f) {i : Nat} (hi : i < 24) (j : Nat) (hj : j < 9) (v : Value) {x : Vl.Th} {s : Sl} (hv : sc x s.v = (sc (t.s i) (sl i).v).set j v) (hx : BS w s.a s.n x.dt) (hc : s.n ≤ s.c) (ho : Off g s.a s.n) : RX w0 (w.setCell ⟨g, i * 9 + j, none⟩ v) p g k (Op.set t i x) (Vl.upd sl i s) c B n d r D m e E q f :=
  h.putS ((Keep.refl _ w).setCell (p := ⟨g, i * 9 + j, none⟩) (fun h => h rfl) v) (h.sx.set hi j hj v hv hx hc ho)
/-- The same, where the bytes stay. -/
theorem RX.setN (h : RX w0 w p g k t sl c B n d r D m e E q f) {i : Nat} (hi : i < 24) (j : Nat) (hj : j < 9) (v : Value) {x : Vl.Th} (hv : sc x (sl i).v = (sc (t.s i) (sl i).v).set j v) (hx : x.dt = (t.s i).dt) : RX w0 (w.setCell ⟨g, i * 9 + j, none⟩ v) p g k (Op.set t i x) sl c B n d r D m e E q f := by
  have := h.setS hi j hj v hv (by rw [hx]; exact (h.sx.bs i hi).1) (h.sx.bs i hi).2.1 (h.sx.bs i hi).2.2
  rw [upd_self] at this
  exact this
end
theorem Below.drewM {b : Nat} {a w : World} (h : Below b a w) (n : Nat) : Below b a (w.drewN n) := ⟨h.os, h.tape, h.output, h.size, h.block⟩
/-- A panic with an error. -/
def pan (z : Int) : List PanicEntry := [{ v := .iface 44 (.int .i64 z), recovered := false }]
end Go.Proofs.YtpbpdnjlomhkdaaGreat
