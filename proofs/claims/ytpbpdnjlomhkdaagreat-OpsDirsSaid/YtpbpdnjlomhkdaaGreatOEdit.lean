/-
  Contracts of setEntries, removeEntry, unlink (layer 13).
-/
import Derived.Test.YtpbpdnjlomhkdaaGreatOPC
import Derived.Test.YtpbpdnjlomhkdaaGreatODirPut
import Derived.StillTail
import Derived.StillTailTactics
namespace Go.Proofs.YtpbpdnjlomhkdaaGreat
open Go.RowKit Go.Shelf

/-- What lay there lies there still, but for the blocks p and g. -/
structure PG (p g : Nat) (w w' : World) : Prop where
  size : w.heap.size ≤ w'.heap.size
  block : ∀ j, j < w.heap.size → j ≠ p → j ≠ g → w'.heap[j]? = w.heap[j]?
theorem PG.below {p g : Nat} {w w' : World} (h : Below w.heap.size w w') : PG p g w w' := ⟨h.size, fun j hj _ _ => h.block j hj⟩
theorem PG.keep {p g : Nat} {w w' : World} (h : Keep (· ≠ g) w w') : PG p g w w' := ⟨h.size, fun j _ _ hg => h.block j hg⟩
theorem PG.trans {p g : Nat} {w w1 w' : World} (h : PG p g w w1) (h2 : PG p g w1 w') : PG p g w w' := ⟨Nat.le_trans h.size h2.size, fun j hj hp hg => (h2.block j (Nat.lt_of_lt_of_le hj h.size) hp hg).trans (h.block j hj hp hg)⟩
theorem PG.set (w : World) (p g o : Nat) (v : Value) : PG p g w (w.setCell ⟨g, o, none⟩ v) := .keep ((Keep.refl _ w).setCell (p := ⟨g, o, none⟩) (fun h => h rfl) v)
/-- What a step leaves: an error, or things. -/
def EdQ (w0 w : World) (p g k : Nat) (R : Except Int Op.TT) (c : Cl) (B : Option Addr) (n d : Nat) (r : Rp) (D : Option Addr) (m e : Nat) (E : Option Addr) (q f : Nat) (en : Ending) (w' : World) : Prop :=
  match R with
  | .error z => en = .panicked (pan z) ∧ Below w0.heap.size w0 w'
  | .ok u => en = .returned (.tuple #[]) ∧ ∃ sl, RX w0 w' p g k u sl c B n d r D m e E q f ∧ PG p g w w'
namespace Op
theorem set_set (t : TT) (i : Nat) (x y : Vl.Th) : set (set t i x) i y = set t i y := by
  show (⟨Vl.upd (Vl.upd t.s i x) i y, t.ch, t.rm⟩ : TT) = ⟨Vl.upd t.s i y, t.ch, t.rm⟩
  congr 1
  funext j
  unfold Vl.upd
  split <;> rfl
theorem set_at (t : TT) (i : Nat) (x : Vl.Th) : (set t i x).s i = x := Vl.upd_same _ _ _
/-- What entries make of a directory. -/
def putR (t : TT) (i : Nat) (es : List En) : Except Int TT := if 768 < (putE es).length then .error 66 else .ok (set t i { t.s i with dt := putE es })
/-- Without a name. -/
theorem Dir.rem {t : TT} {i : Nat} (h : Dir t i) {nm : List UInt8} {e : En} (hl : look t i nm = some e) : okB (remL (ents t i) nm) = true ∧ (putE (remL (ents t i) nm)).length ≤ 768 ∧ remE (ents t i) nm = 0 ∧ (∀ x ∈ remL (ents t i) nm, x.Wide) ∧ (encs (remL (ents t i) nm)).length ≤ 768 ∧ (remL (ents t i) nm).length ≤ 38 := by
  obtain ⟨ho, hp, _⟩ := ents_ok h.ok h.kind
  obtain ⟨_, a, b, h1, h2, h3, _⟩ := find_some hl
  have hsub : (remL (ents t i) nm).Sublist (ents t i) := by
    rw [h2, h1]
    exact List.Sublist.append_left (List.sublist_cons_self _ _) _
  have hoks := okB_sub ho hsub
  have hlen : (encs (remL (ents t i) nm)).length ≤ 768 := by
    have h768 := h.len
    rw [← hp, putE_len ho, h1, encs_app, encs_cons] at h768
    rw [h2, encs_app]
    simp only [List.length_append] at *
    omega
  exact ⟨hoks, by rw [putE_len hoks]; exact hlen, if_neg (by omega), fun y hy => ents_wide t i y (hsub.subset hy), hlen, Nat.le_trans hsub.length_le h.few⟩
end Op
section
variable {w0 w w' : World} {p g k : Nat} {t u : Op.TT} {sl : Nat → Sl} {c : Cl} {B : Option Addr} {n d : Nat} {r r' : Rp} {D D' : Option Addr} {m e m' e' : Nat} {E E' : Option Addr} {q f q' f' : Nat} {R : Except Int Op.TT}
theorem EdQ.no {z : Int} (hR : R = .error z) (hb : Below w0.heap.size w0 w') : EdQ w0 w p g k R c B n d r D m e E q f (.panicked (pan z)) w' := by
  subst hR
  exact ⟨rfl, hb⟩
theorem EdQ.ok (hR : R = .ok u) (hx : RX w0 w' p g k u sl c B n d r D m e E q f) (hp : PG p g w w') : EdQ w0 w p g k R c B n d r D m e E q f (.returned (.tuple #[])) w' := by
  subst hR
  exact ⟨rfl, sl, hx, hp⟩
/-- A whole slot is written. -/
theorem RX.putSlot (h : RX w0 w p g k t sl c B n d r D m e E q f) {rest : List Value} (hk : Keep (· ≠ g) w w') {i : Nat} (hi : i < 24) {x : Vl.Th} {s : Sl} (hw : Bw w' g ((kro t.s sl 24 ++ rest).take (i * 9) ++ sc x s.v ++ (kro t.s sl 24 ++ rest).drop (i * 9 + 9)) 92) (hb : BS w s.a s.n x.dt) (hc : s.n ≤ s.c) (ho : Off g s.a s.n) : RX w0 w' p g k (Op.set t i x) (Vl.upd sl i s) c B n d r D m e E q f :=
  h.putS hk (h.sx.put hk hi ⟨rest, by rw [← kro_puts t.s sl rest hi x s]; exact hw⟩ hb hc ho)
set_option maxRecDepth 100000 in
set_option maxHeartbeats 4000000 in
theorem setEntries_any (h : RX w0 w p g k t sl c B n d r D m e E q f) {i : Nat} (hi : i < 24) {A : Option Addr} {x y : Nat} {es : List En} (he : ES w A x es) (hw : ∀ e ∈ es, e.Wide) (ho : okB es = true) (hx : x ≤ 1000) (hl : (encs es).length ≤ 100000) :
    Calls Tryz.prog 151 #[.pointer (some ⟨g, i * 9, none⟩), .slice A x y] w (EdQ w0 w p g k (Op.putR t i es) c B n d r D m e E q f) := by
  have HX := Lib.hid h
  have HC := Lib.hid (putNew_any A x y es w he hw (by omega) (fun _ => by omega))
  have HCK : Hid (chkE es = 0) := if_pos ho
  obtain ⟨Z, hZ⟩ : ∃ Z, Z = Op.putR t i es := ⟨_, rfl⟩
  rw [← hZ]
  have HZ := Lib.hid hZ
  have HLE : Hid ((putE es).length ≤ 100000) := by show _ ≤ _; unfold putE; rw [if_pos ho]; exact hl
  clear h he hw ho hl hZ
  go_enter Tryz.func151, Tryz.ntmps151
  go_wp2_with fail
  refine HC.out.mono ?_
  rintro e w1 ⟨A1, n1, c1, rfl, h1, h2, h3, h4⟩
  rw [HCK.out]
  have HX1 := Lib.hid (HX.out.below h4)
  have HPG : Hid (PG p g w w1) := .below h4
  have H1 := Lib.hid h1
  have H2 := Lib.hid h2
  have H3 : Hid (Off g A1 n1) := fun hn ad ea => by
    have := h3 hn ad ea
    have := HX.out.sx.lt
    omega
  have HN1 : Hid ((putE es).length = n1) := h1.1
  have hle : n1 ≤ 100000 := by rw [← h1.1]; exact HLE.out
  clear h1 h2 h3 h4 HX HC HLE hx
  by_cases hn : 768 < n1
  · have HZ2 : Hid (Z = .error 66) := HZ.out.trans (if_pos (by rw [HN1.out]; exact hn))
    have hd : decide ((768 : Int) < (n1 : Int)) = true := by simp; omega
    go_wp2_with (first | (refine (check_ok _).mono ?_; rintro e w' ⟨rfl, rfl⟩) | (refine (refuse_yes 66 _).mono ?_; rintro e w' ⟨rfl, rfl⟩))
    exact ⟨rfl, .no HZ2.out HX1.out.bel⟩
  · have HZ2 : Hid (Z = .ok (Op.set t i { t.s i with dt := putE es })) := HZ.out.trans (if_neg (by rw [HN1.out]; exact hn))
    have q8 := HX1.out.cellS hi 8 _ rfl
    have f8 := HX1.out.frozS (i * 9 + 8)
    have hd : decide ((768 : Int) < (n1 : Int)) = false := by simp; omega
    go_wp2_with (first | (refine (check_ok _).mono ?_; rintro e w' ⟨rfl, rfl⟩) | (refine (refuse_no 66 _).mono ?_; rintro e w' ⟨rfl, rfl⟩))
    go_end0
    exact .ok HZ2.out (HX1.out.setS hi 8 (by omega) _ (x := { t.s i with dt := putE es }) (s := ⟨A1, n1, c1⟩) rfl H1.out H2.out H3.out) (HPG.out.trans (.set _ _ _ _ _))
set_option maxRecDepth 100000 in
set_option maxHeartbeats 4000000 in
theorem removeEntry_any (h : RX w0 w p g k t sl c B n d r D m e E q f) {i : Nat} (hd : Op.Dir t i) {nm : List UInt8} {z : En} (hl : Op.look t i nm = some z) :
    Calls Tryz.prog 121 #[.pointer (some ⟨g, i * 9, none⟩), .string (txt nm)] w (EdQ w0 w p g k (.ok (Op.leave t i nm)) c B n d r D m e E q f) := by
  have HC := Lib.hid (entries_any h hd)
  obtain ⟨r1, r2, r3, r4, r5, r6⟩ := hd.rem hl
  have HX := Lib.hid h
  have hi := hd.lt
  have HF := hd.few
  have HE : Hid (remE (Op.ents t i) nm = 0) := r3
  have HS : Hid (∀ w2, Below w.heap.size w w2 → ∀ A x y, ES w2 A x (remL (Op.ents t i) nm) → Calls Tryz.prog 151 #[.pointer (some ⟨g, i * 9, none⟩), .slice A x y] w2 (EdQ w0 w2 p g k (Op.putR t i (remL (Op.ents t i) nm)) c B n d r D m e E q f)) := fun w2 hb A x y he => setEntries_any (h.below hb) hi he r4 r1 (by rw [← he.1]; omega) (by omega)
  have HR : Hid (Op.putR t i (remL (Op.ents t i) nm) = .ok (Op.leave t i nm)) := if_neg (by omega)
  rw [HR.out] at HS
  have HREM : Hid (∀ w1 A x y, ES w1 A x (Op.ents t i) → (x ≤ y ∧ y ≤ 9223372036854775807) → Calls Tryz.prog 150 #[.slice A x y, .string (txt nm)] w1 (EsQ (remL (Op.ents t i) nm) (remE (Op.ents t i) nm) w1)) := fun w1 A x y he hy => remove_any A x y _ nm w1 he hy.1 hy.2 (by rw [← he.1]; omega)
  rw [HE.out] at HREM
  generalize remL (Op.ents t i) nm = rs at *
  generalize Op.leave t i nm = u at *
  clear h hd hl r1 r2 r3 r4 r5 r6 HE HR HF
  go_enter Tryz.func121, Tryz.ntmps121
  go_wp2_with fail
  refine HC.out.mono ?_
  rintro e w1 ⟨A, x, y, rfl, h1, h2, h3⟩
  have HR1 := Lib.hid (HREM.out w1 A x y h1 h2)
  have HB1 := Lib.hid h3
  clear h1 h2 h3 HC HREM
  go_wp2_with fail
  refine HR1.out.mono ?_
  rintro e w2 ⟨A2, x2, y2, rfl, h1, h2, h3⟩
  have HB2 : Hid (Below w.heap.size w w2) := HB1.out.trans (h3.mono HB1.out.size)
  have HS2 := Lib.hid (HS.out w2 HB2.out A2 x2 y2 h1)
  clear h1 h2 h3 HR1 HS HB1
  go_wp2_with (refine (check_ok _).mono ?_; rintro e w' ⟨rfl, rfl⟩)
  refine HS2.out.mono ?_
  rintro e w3 ⟨rfl, sl3, hx3, hp3⟩
  have HX3 := Lib.hid hx3
  have HP3 : Hid (PG p g w w3) := (PG.below HB2.out).trans hp3
  clear hx3 hp3
  go_wp2_with fail
  go_end0
  exact .ok rfl HX3.out HP3.out
/-- The spec's count, one less. -/
theorem less_i (x : Nat) : ((x : Int) - 1) % 4294967296 = (Op.less x : Int) := by
  unfold Op.less
  omega
theorem built_Sl3 (a b c : Int) : Tryz.prog.built 92 [(0, .int .u32 a), (2, .int .u32 b), (5, .int .u64 c)] = some #[.int .u32 a, .int .u32 0, .int .u32 b, .int .u32 0, .int .u32 0, .int .u64 c, .int .u64 0, .int .u64 0, .slice none 0 0] := by kernel_rfl
set_option maxRecDepth 100000 in
set_option maxHeartbeats 4000000 in
theorem unlink_any (h : RX w0 w p g k t sl c B n d r D m e E q f) {i : Nat} (hi : i < 24) :
    Calls Tryz.prog 122 #[.pointer (some ⟨g, i * 9, none⟩)] w (EdQ w0 w p g k (.ok (Op.unlink t i)) c B n d r D m e E q f) := by
  have HX := Lib.hid h
  have q3 := h.cellS hi 3 _ rfl
  have f3 := h.frozS (i * 9 + 3)
  clear h
  go_enter Tryz.func122, Tryz.ntmps122
  go_upto_region 1 with fail
  rw [less_i]
  have HX1 : Hid (RX w0 (w.setCell ⟨g, i * 9 + 3, none⟩ (.int .u32 (Op.less (t.s i).links : Int))) p g k (Op.set t i { t.s i with links := Op.less (t.s i).links }) sl c B n d r D m e E q f) := HX.out.setN hi 3 (by omega) _ rfl rfl
  have HPG : Hid (PG p g w (w.setCell ⟨g, i * 9 + 3, none⟩ (.int .u32 (Op.less (t.s i).links : Int)))) := .set _ _ _ _ _
  generalize w.setCell ⟨g, i * 9 + 3, none⟩ (.int .u32 (Op.less (t.s i).links : Int)) = w1 at *
  clear q3 f3 HX
  have q3 : w1.cell? ⟨g, i * 9 + 3, none⟩ = some (.int .u32 (Op.less (t.s i).links : Int)) := HX1.out.cellS hi 3 _ (by rw [Op.set_at]; rfl)
  generalize hz : Op.less (t.s i).links = z at *
  generalize hv : (((t.s i).links : Int) - 1) % 4294967296 = V at *
  clear hv
  by_cases h0 : z = 0
  · have HR : Hid (Op.unlink t i = Op.set t i ⟨(t.s i).ino, 0, (t.s i).gen, 0, 0, (t.s i).change, 0, 0, []⟩) := by show _ = _; unfold Op.unlink; rw [if_pos (by rw [hz]; exact h0)]
    subst h0
    obtain ⟨rest, hrow⟩ := HX1.out.sx.row
    have HROW : Hid (Bw w1.drew g (kro (Op.set t i { t.s i with links := 0 }).s sl 24 ++ rest) 92) := hrow
    have q0 : w1.cell? ⟨g, i * 9 + 0, none⟩ = some (.int .u32 ((t.s i).ino : Int)) := HX1.out.cellS hi 0 _ (by rw [Op.set_at]; rfl)
    have q0' : w1.cell? ⟨g, i * 9, none⟩ = some (.int .u32 ((t.s i).ino : Int)) := q0
    have q2 : w1.cell? ⟨g, i * 9 + 2, none⟩ = some (.int .u32 ((t.s i).gen : Int)) := HX1.out.cellS hi 2 _ (by rw [Op.set_at]; rfl)
    have q5 : w1.cell? ⟨g, i * 9 + 5, none⟩ = some (.int .u64 ((t.s i).change : Int)) := HX1.out.cellS hi 5 _ (by rw [Op.set_at]; rfl)
    have HX1d := Lib.hid HX1.out.drew
    clear hrow HX1 hz q0
    go_upto_region 2 with fail
    refine wp_region_still_tail 15 (by kernel_rfl) (by kernel_rfl) ?_
    simp only [List.take_succ_cons, List.take_zero, List.drop_succ_cons, List.drop_zero]
    change wpStill _ _ (World.drew _) _ _ _
    iterate 15 still_step
    refine wpStill_nil ?_
    change wpList _ _ _ _ _ (World.drew _)
    have hk := kro_len (Op.set t i { t.s i with links := 0 }).s sl 24
    go_wp2_with (refine wpList_store_part rfl 92 (.tmp 28) (.tmp 27) rfl g (i * 9) (sc ⟨(t.s i).ino, 0, (t.s i).gen, 0, 0, (t.s i).change, 0, 0, []⟩ (.slice none 0 0)) rfl rfl 92 _ HROW.out size_Sl (by simp [sc, hk]; omega) (sc_row _ _ _ _) ?_
                 intro w4 hb4 hs4 hk4)
    have HX4 : Hid (RX w0 w4 p g k (Op.set (Op.set t i { t.s i with links := 0 }) i ⟨(t.s i).ino, 0, (t.s i).gen, 0, 0, (t.s i).change, 0, 0, []⟩) (Vl.upd sl i ⟨none, 0, 0⟩) c B n d r D m e E q f) := HX1d.out.putSlot hk4 hi hb4 BS.nil (Nat.le_refl _) Off.zero
    have HP4 : Hid (PG p g w w4) := HPG.out.trans ⟨hk4.size, fun j _ _ hg => hk4.block j hg⟩
    clear hb4 hs4 hk4
    go_end0
    rw [Op.set_set] at HX4
    exact .ok (by rw [HR.out]) HX4.out HP4.out
  · have HR : Hid (Op.unlink t i = Op.set t i { t.s i with links := z }) := by show _ = _; unfold Op.unlink; rw [if_neg (by rw [hz]; exact h0), hz]
    have hd : ((z : Int) == 0) = false := by simp; omega
    clear hz
    go_wp2_with fail
    go_end0
    exact .ok (by rw [HR.out]) HX1.out HPG.out
end
end Go.Proofs.YtpbpdnjlomhkdaaGreat
