/-
  Contract of addEntry (layer 13).
-/
import Derived.Test.YtpbpdnjlomhkdaaGreatOEdit
namespace Go.Proofs.YtpbpdnjlomhkdaaGreat
open Go.RowKit Go.Shelf

theorem load_slot (W : World) (g j : Nat) (s : Vl.Th) (v : Value) {a : Act} {o : Oper} {x : Operand} (ho : o.op = .load 92 x) (hx : a.eval x = .pointer (some ⟨g, j * 9, none⟩)) (h : ∀ b y, (sc s v)[b]? = some y → W.cell? ((⟨g, j * 9, none⟩ : Addr).add b) = some y) :
    (execOp a.eval o).run Tryz.prog W = .ok (.value (.agg (sc s v).toArray)) W := by
  rcases did_load (P := Tryz.prog) (o := o) (a := a) (w := W) 92 x ho ⟨g, j * 9, none⟩ hx _ Tryz.underlying92 rfl (sc s v) size_Sl h with h | ⟨_, h⟩
  · exact h
  · cases h
theorem built_En (ck ino gen : Int) (v : ByteArray) : Tryz.prog.built 87 [(0, .int .u64 ck), (1, .agg #[.int .u32 ino, .int .u32 gen]), (2, .string v)] = some #[.int .u64 ck, .int .u32 ino, .int .u32 gen, .string v] := by kernel_rfl
theorem build_entry (W : World) (ck ino gen : Nat) (nm : List UInt8) {a : Act} {o : Oper} {x y z : Operand} (ho : o.op = .build 87 #[(0, x), (1, y), (2, z)]) (hx : a.eval x = .int .u64 (ck : Int)) (hy : a.eval y = .agg (hc ino gen).toArray) (hz : a.eval z = .string (txt nm)) :
    (execOp a.eval o).run Tryz.prog W = .ok (.value (.agg (ec ⟨ck, ino, gen, nm⟩).toArray)) W := by
  rcases did_build (P := Tryz.prog) (o := o) (a := a) (w := W) 87 #[(0, x), (1, y), (2, z)] ho #[.int .u64 (ck : Int), .int .u32 (ino : Int), .int .u32 (gen : Int), .string (txt nm)] (by simp only [List.map_toArray, List.map_cons, List.map_nil, hx, hy, hz]; exact built_En _ _ _ _) with h | ⟨_, h⟩
  · exact h
  · cases h
namespace Op
theorem Dir.more {t : TT} {i : Nat} (h : Dir t i) : Dir (set t i { t.s i with cookie := (t.s i).cookie + 1 }) i := by
  refine ⟨h.lt, ?_, by rw [set_at]; exact h.kind⟩
  rw [set_at]
  obtain ⟨h1, h2, h3, h4⟩ := (Sl.dir_iff (t.s i) h.kind).1 h.ok
  refine dir_mk h.kind ⟨h1, h2, h3, ?_⟩
  obtain ⟨h5, h6⟩ := (Sl.dirB_iff _ _).1 h4
  exact (Sl.dirB_iff _ _).2 ⟨h5, fun e he => Nat.le_trans (h6 e he) (Nat.le_succ _)⟩
theorem Dir.ents_more (t : TT) (i : Nat) (n : Nat) : ents (set t i { t.s i with cookie := n }) i = ents t i := by
  unfold ents
  rw [set_at]
/-- What one more entry makes. -/
theorem enter_eq (t : TT) (i : Nat) (nm : List UInt8) (a b : Nat) (h : ¬ ((t.s i).cookie + 1) % 18446744073709551616 = 0) (h0 : addE (ents t i) (newE t i nm a b) = 0) : enter t i nm a b = putR (set t i { t.s i with cookie := (t.s i).cookie + 1 }) i (ents t i ++ [newE t i nm a b]) := by
  unfold enter putR
  rw [if_neg h, if_neg (by rw [h0]; decide), set_set, set_at]
theorem Dir.push {t : TT} {i : Nat} (h : Dir t i) {nm : List UInt8} {a b : Nat} (h0 : addE (ents t i) (newE t i nm a b) = 0) : okB (ents t i ++ [newE t i nm a b]) = true ∧ (encs (ents t i ++ [newE t i nm a b])).length ≤ 1000 := by
  obtain ⟨ho, hp, _⟩ := ents_ok h.ok h.kind
  obtain ⟨a1, a2, a3, a4⟩ := (addE_zero ho _).1 h0
  refine ⟨okB_push ho a1 a2 a3 a4, ?_⟩
  have h768 := h.len
  rw [← hp, putE_len ho] at h768
  have hn := nameOk_len _ a1
  rw [encs_app, List.length_append]
  have h1 : encs [newE t i nm a b] = enc1 (newE t i nm a b) ++ [] := rfl
  rw [h1, List.append_nil, enc1_length]
  have := pad_lt (newE t i nm a b).nm.length
  omega
end Op
section
variable {w0 w w' : World} {p g k : Nat} {t u : Op.TT} {sl : Nat → Sl} {c : Cl} {B : Option Addr} {n d : Nat} {r r' : Rp} {D D' : Option Addr} {m e m' e' : Nat} {E E' : Option Addr} {q f q' f' : Nat} {R : Except Int Op.TT}
set_option maxRecDepth 100000 in
set_option maxHeartbeats 4000000 in
theorem addEntry_any (h : RX w0 w p g k t sl c B n d r D m e E q f) {i j : Nat} (hd : Op.Dir t i) (hj : j < 24) (hwi : (t.s i).Wide) (hwj : (t.s j).Wide) (hij : (t.s j).ino < 4294967296) (nm : List UInt8) :
    Calls Tryz.prog 123 #[.pointer (some ⟨g, i * 9, none⟩), .string (txt nm), .pointer (some ⟨g, j * 9, none⟩)] w (EdQ w0 w p g k (Op.enter t i nm (t.s j).ino (t.s j).gen) c B n d r D m e E q f) := by
  have hi := hd.lt
  have HX := Lib.hid h
  have q6 := h.cellS hi 6 _ rfl
  have f6 := h.frozS (i * 9 + 6)
  have hck := hwi.cookie
  obtain ⟨RR, hRR⟩ : ∃ RR, RR = Op.enter t i nm (t.s j).ino (t.s j).gen := ⟨_, rfl⟩
  rw [← hRR]
  have HR := Lib.hid hRR
  by_cases hm : (t.s i).cookie = 18446744073709551615
  · have HR2 : Hid (RR = .error 70) := hRR.trans (if_pos (by rw [hm]))
    have hb : (((t.s i).cookie : Int) == 18446744073709551615) = true := by simp; omega
    have HBE := Lib.hid h.bel
    clear hRR HR hd hwi hwj hij hck h hm
    go_enter Tryz.func123, Tryz.ntmps123
    go_wp2_with (refine (refuse_yes 70 _).mono ?_; rintro e w' ⟨rfl, rfl⟩)
    exact ⟨rfl, .no HR2.out HBE.out⟩
  have hb : (((t.s i).cookie : Int) == 18446744073709551615) = false := by simp; omega
  have HCK : Hid (¬ ((t.s i).cookie + 1) % 18446744073709551616 = 0) := by show ¬ _; omega
  have HW : Hid (IntKind.u64.wrap (((t.s i).cookie : Int) + 1) = (((t.s i).cookie + 1 : Nat) : Int)) := by show _ = _; rw [IntKind.wrap_u64]; omega
  have HEW : Hid (∀ a b, a < 4294967296 → b < 4294967296 → (Op.newE t i nm a b).Wide) := fun a b ha hb => ⟨by show (t.s i).cookie + 1 < _; omega, ha, hb⟩
  have HD := Lib.hid hd
  have HIJ : Hid ((t.s j).ino < 4294967296 ∧ (t.s j).gen < 4294967296) := ⟨hij, hwj.gen⟩
  clear hRR hd hwi hwj hij hck h hm
  go_enter Tryz.func123, Tryz.ntmps123
  go_upto_region 2 with (refine (refuse_no 70 _).mono ?_; rintro e w' ⟨rfl, rfl⟩)
  rw [HW.out]
  have HX1 : Hid (RX w0 (w.setCell ⟨g, i * 9 + 6, none⟩ (.int .u64 (((t.s i).cookie + 1 : Nat) : Int))) p g k (Op.set t i { t.s i with cookie := (t.s i).cookie + 1 }) sl c B n d r D m e E q f) := HX.out.setN hi 6 (by omega) _ rfl rfl
  have HPG : Hid (PG p g w (w.setCell ⟨g, i * 9 + 6, none⟩ (.int .u64 (((t.s i).cookie + 1 : Nat) : Int)))) := .set _ _ _ _ _
  generalize w.setCell ⟨g, i * 9 + 6, none⟩ (.int .u64 (((t.s i).cookie + 1 : Nat) : Int)) = w1 at *
  generalize hv : IntKind.u64.wrap (((t.s i).cookie : Int) + 1) = V at *
  clear hv q6 f6 HX HW hb
  have HXd := Lib.hid HX1.out.drew
  have hst : ((Op.set t i { t.s i with cookie := (t.s i).cookie + 1 }).s j).ino = (t.s j).ino ∧ ((Op.set t i { t.s i with cookie := (t.s i).cookie + 1 }).s j).gen = (t.s j).gen := by
    by_cases e : j = i
    · subst e; rw [Op.set_at]; exact ⟨rfl, rfl⟩
    · rw [Op.set_other t _ e]; exact ⟨rfl, rfl⟩
  have HS : Hid ((fun W : World => W.cell? ⟨g, i * 9 + 6, none⟩ = some (.int .u64 (((t.s i).cookie + 1 : Nat) : Int)) ∧ ∀ a x, (sc ((Op.set t i { t.s i with cookie := (t.s i).cookie + 1 }).s j) (.slice (sl j).a (sl j).n (sl j).c))[a]? = some x → W.cell? ((⟨g, j * 9, none⟩ : Addr).add a) = some x) w1.drew) :=
    ⟨HXd.out.cellS hi 6 _ (by rw [Op.set_at]; rfl), HXd.out.sx.load hj⟩
  have HC := Lib.hid (entries_any HXd.out HD.out.more)
  rw [Op.Dir.ents_more] at HC
  have HXE : Hid (∀ w5, Below w1.drew.heap.size w1.drew w5 → ∀ A x y, ES w5 A x (Op.ents t i ++ [Op.newE t i nm (t.s j).ino (t.s j).gen]) → addE (Op.ents t i) (Op.newE t i nm (t.s j).ino (t.s j).gen) = 0 → Calls Tryz.prog 151 #[.pointer (some ⟨g, i * 9, none⟩), .slice A x y] w5 (EdQ w0 w5 p g k RR c B n d r D m e E q f)) := fun w5 hb A x y he h0 => by
    obtain ⟨h1, h2⟩ := HD.out.push h0
    have := HD.out.few
    rw [HR.out, Op.enter_eq t i nm _ _ HCK.out h0]
    refine setEntries_any (HXd.out.below hb) hi he (fun e he' => ?_) h1 (by rw [← he.1]; simp; omega) (by omega)
    rcases List.mem_append.1 he' with h3 | h3
    · exact Op.ents_wide t i e h3
    · rw [List.mem_singleton.1 h3]; exact HEW.out _ _ HIJ.out.1 HIJ.out.2
  have HNO : Hid (addE (Op.ents t i) (Op.newE t i nm (t.s j).ino (t.s j).gen) ≠ 0 → RR = .error (addE (Op.ents t i) (Op.newE t i nm (t.s j).ino (t.s j).gen))) := fun h0 => by
    rw [HR.out]
    unfold Op.enter
    rw [if_neg HCK.out, if_pos h0]
  have HADD : Hid (∀ w4 A x y, ES w4 A x (Op.ents t i) → Calls Tryz.prog 152 #[.slice A x y, .agg (ec (Op.newE t i nm (t.s j).ino (t.s j).gen)).toArray] w4 (EsQ (addL (Op.ents t i) (Op.newE t i nm (t.s j).ino (t.s j).gen)) (addE (Op.ents t i) (Op.newE t i nm (t.s j).ino (t.s j).gen)) w4)) := fun w4 A x y he => add_any A x y _ _ w4 he (Op.ents_wide t i) (HEW.out _ _ HIJ.out.1 HIJ.out.2) (by rw [← he.1]; have := HD.out.few; omega)
  have HAL : Hid (addE (Op.ents t i) (Op.newE t i nm (t.s j).ino (t.s j).gen) = 0 → addL (Op.ents t i) (Op.newE t i nm (t.s j).ino (t.s j).gen) = Op.ents t i ++ [Op.newE t i nm (t.s j).ino (t.s j).gen]) := fun h0 => if_pos h0
  have HNE : Hid (Op.newE t i nm (t.s j).ino (t.s j).gen = ⟨(t.s i).cookie + 1, ((Op.set t i { t.s i with cookie := (t.s i).cookie + 1 }).s j).ino, ((Op.set t i { t.s i with cookie := (t.s i).cookie + 1 }).s j).gen, nm⟩) := by
    show _ = _
    rw [hst.1, hst.2]
    rfl
  have HBE : Hid (∀ w5, Below w1.drew.heap.size w1.drew w5 → Below w0.heap.size w0 w5) := fun w5 hb => (HXd.out.below hb).bel
  have HKS : Hid (∀ W, Below w1.drew.heap.size w1.drew W → (fun W : World => W.cell? ⟨g, i * 9 + 6, none⟩ = some (.int .u64 (((t.s i).cookie + 1 : Nat) : Int)) ∧ ∀ a x, (sc ((Op.set t i { t.s i with cookie := (t.s i).cookie + 1 }).s j) (.slice (sl j).a (sl j).n (sl j).c))[a]? = some x → W.cell? ((⟨g, j * 9, none⟩ : Addr).add a) = some x) W) := fun W hb => ⟨(HXd.out.below hb).cellS hi 6 _ (by rw [Op.set_at]; rfl), (HXd.out.below hb).sx.load hj⟩
  generalize Op.newE t i nm (t.s j).ino (t.s j).gen = en at *
  generalize (Op.set t i { t.s i with cookie := (t.s i).cookie + 1 }).s j = s at *
  generalize (Value.slice (sl j).a (sl j).n (sl j).c) = v at *
  generalize Op.ents t i = es at *
  obtain ⟨Z, hZ⟩ : ∃ Z, Z = addE es en := ⟨_, rfl⟩
  rw [← hZ] at HXE HNO HADD HAL
  clear hZ HX1 HXd HR HD HEW HIJ HCK hst
  refine wp_region_held_drew (S := (fun W : World => W.cell? ⟨g, i * 9 + 6, none⟩ = some (.int .u64 (((t.s i).cookie + 1 : Nat) : Int)) ∧ ∀ a x, (sc s v)[a]? = some x → W.cell? ((⟨g, j * 9, none⟩ : Addr).add a) = some x)) (by kernel_rfl) HS.out (fun _ => ?_)
  change wpAnyH _ _ _ _ _ 18 (Array.replicate 18 false) _ _
  refine takeH (i := 0) 22 (.pointer (some ⟨g, i * 9, none⟩)) rfl rfl (by kernel_rfl) (by kernel_rfl) (by kernel_rfl) (fun _ _ _ h => h) (.inl ⟨by rfl, fun W hW => by go_simp⟩) HS.out ?_
  simp only [Act.put, List.setIfInBounds_toArray, List.set_cons_zero, List.set_cons_succ]
  refine takeH (i := 2) 24 (.pointer (some ⟨g, i * 9, none⟩)) rfl rfl (by kernel_rfl) (by kernel_rfl) (by kernel_rfl) (fun _ _ _ h => h) (.inl ⟨by rfl, fun W hW => by go_simp⟩) HS.out ?_
  simp only [Act.put, List.setIfInBounds_toArray, List.set_cons_zero, List.set_cons_succ]
  refine takeH (i := 3) 25 (.pointer (some ⟨g, i * 9, none⟩)) rfl rfl (by kernel_rfl) (by kernel_rfl) (by kernel_rfl) (fun _ _ _ h => h) (.inl ⟨by rfl, fun W hW => by go_simp⟩) HS.out ?_
  simp only [Act.put, List.setIfInBounds_toArray, List.set_cons_zero, List.set_cons_succ]
  refine takeH (i := 4) 26 (.pointer (some ⟨g, i * 9 + 6, none⟩)) rfl rfl (by kernel_rfl) (by kernel_rfl) (by kernel_rfl) (fun _ _ _ h => h) (.inl ⟨by rfl, fun W hW => by go_simp⟩) HS.out ?_
  simp only [Act.put, List.setIfInBounds_toArray, List.set_cons_zero, List.set_cons_succ]
  refine takeH (i := 5) 27 (.int .u64 (((t.s i).cookie + 1 : Nat) : Int)) rfl rfl (by kernel_rfl) (by kernel_rfl) (by kernel_rfl) (fun _ _ _ h => h) (.inl ⟨by rfl, fun W hW => by (have hz := hW.1; go_simp)⟩) HS.out ?_
  simp only [Act.put, List.setIfInBounds_toArray, List.set_cons_zero, List.set_cons_succ]
  refine takeH (i := 6) 28 (.pointer (some ⟨g, j * 9, none⟩)) rfl rfl (by kernel_rfl) (by kernel_rfl) (by kernel_rfl) (fun _ _ _ h => h) (.inl ⟨by rfl, fun W hW => by go_simp⟩) HS.out ?_
  simp only [Act.put, List.setIfInBounds_toArray, List.set_cons_zero, List.set_cons_succ]
  refine takeH (i := 7) 29 (.pointer (some ⟨g, j * 9, none⟩)) rfl rfl (by kernel_rfl) (by kernel_rfl) (by kernel_rfl) (fun _ _ _ h => h) (.inl ⟨by rfl, fun W hW => by go_simp⟩) HS.out ?_
  simp only [Act.put, List.setIfInBounds_toArray, List.set_cons_zero, List.set_cons_succ]
  refine takeH (i := 8) 30 (.agg (sc s v).toArray) rfl rfl (by kernel_rfl) (by kernel_rfl) (by kernel_rfl) (fun _ _ _ h => h) (.inl ⟨by rfl, fun W hW => by (exact load_slot W g j s v rfl rfl hW.2)⟩) HS.out ?_
  simp only [Act.put, List.setIfInBounds_toArray, List.set_cons_zero, List.set_cons_succ]
  refine takeH (i := 10) 32 (.string (txt nm)) rfl rfl (by kernel_rfl) (by kernel_rfl) (by kernel_rfl) (fun _ _ _ h => h) (.inl ⟨by rfl, fun W hW => by go_simp⟩) HS.out ?_
  simp only [Act.put, List.setIfInBounds_toArray, List.set_cons_zero, List.set_cons_succ]
  refine wpAnyH_ready (rs := [1]) (by kernel_rfl) (by simp) ?_
  refine AllReadyH.cons rfl (fun K hK => ?_) AllReadyH.nil
  go_simp
  refine HC.out.mono ?_
  rintro e w3 ⟨A3, n3, c3, rfl, h1, h2, h3⟩
  have HS3 := Lib.hid (HKS.out w3 h3)
  have HE3 := Lib.hid h1
  have HB3 := Lib.hid h3
  refine hK.out _ _ HS3.out fun _ => ?_
  clear hK K h1 h2 h3 HC HS
  refine wpAnyH_ready (rs := [9]) (by kernel_rfl) (by simp) ?_
  refine AllReadyH.cons rfl (fun K hK => ?_) AllReadyH.nil
  go_simp
  refine (handleS_any s v w3).mono ?_
  rintro e w4 ⟨rfl, h1⟩
  have HB4 : Hid (Below w1.drew.heap.size w1.drew w4) := HB3.out.trans (h1.mono HB3.out.size)
  have HS4 := Lib.hid (HKS.out w4 HB4.out)
  have HA4 := Lib.hid (HADD.out w4 A3 n3 c3 (HE3.out.below h1))
  refine hK.out _ _ HS4.out fun _ => ?_
  clear hK K h1 HS3 HE3 HB3 HADD
  refine takeH (i := 11) 33 (.agg (ec ⟨(t.s i).cookie + 1, s.ino, s.gen, nm⟩).toArray) rfl rfl (by kernel_rfl) (by kernel_rfl) (by kernel_rfl) (fun _ _ _ h => h) (.inl ⟨by rfl, fun W hW => by (exact build_entry W _ _ _ nm rfl rfl rfl rfl)⟩) HS4.out ?_
  simp only [Act.put, List.setIfInBounds_toArray, List.set_cons_zero, List.set_cons_succ]
  rw [← HNE.out]
  refine wpAnyH_ready (rs := [12]) (by kernel_rfl) (by simp) ?_
  refine AllReadyH.cons rfl (fun K hK => ?_) AllReadyH.nil
  go_simp
  refine HA4.out.mono ?_
  rintro e w5 ⟨A5, n5, c5, rfl, h1, h2, h3⟩
  have HB5 : Hid (Below w1.drew.heap.size w1.drew w5) := HB4.out.trans (h3.mono HB4.out.size)
  have HS5 := Lib.hid (HKS.out w5 HB5.out)
  have HE5 := Lib.hid h1
  refine hK.out _ _ HS5.out fun _ => ?_
  clear hK K h1 h2 h3 HS4 HA4 HB4
  refine takeH (i := 13) 21 (.tuple #[.slice A5 n5 c5, .int .i64 Z]) rfl rfl (by kernel_rfl) (by kernel_rfl) (by kernel_rfl) (fun _ _ _ h => h) (.inl ⟨by rfl, fun W hW => by go_simp⟩) HS5.out ?_
  simp only [Act.put, List.setIfInBounds_toArray, List.set_cons_zero, List.set_cons_succ]
  refine takeH (i := 14) 35 (.slice A5 n5 c5) rfl rfl (by kernel_rfl) (by kernel_rfl) (by kernel_rfl) (fun _ _ _ h => h) (.inl ⟨by rfl, fun W hW => by go_simp⟩) HS5.out ?_
  simp only [Act.put, List.setIfInBounds_toArray, List.set_cons_zero, List.set_cons_succ]
  refine takeH (i := 15) 36 (.int .i64 Z) rfl rfl (by kernel_rfl) (by kernel_rfl) (by kernel_rfl) (fun _ _ _ h => h) (.inl ⟨by rfl, fun W hW => by go_simp⟩) HS5.out ?_
  simp only [Act.put, List.setIfInBounds_toArray, List.set_cons_zero, List.set_cons_succ]
  refine takeH (i := 16) 6 (.slice A5 n5 c5) rfl rfl (by kernel_rfl) (by kernel_rfl) (by kernel_rfl) (fun _ _ _ h => h) (.inl ⟨by rfl, fun W hW => by go_simp⟩) HS5.out ?_
  simp only [Act.put, List.setIfInBounds_toArray, List.set_cons_zero, List.set_cons_succ]
  refine takeH (i := 17) 7 (.int .i64 Z) rfl rfl (by kernel_rfl) (by kernel_rfl) (by kernel_rfl) (fun _ _ _ h => h) (.inl ⟨by rfl, fun W hW => by go_simp⟩) HS5.out ?_
  simp only [Act.put, List.setIfInBounds_toArray, List.set_cons_zero, List.set_cons_succ]
  refine wpAnyH_done (by kernel_rfl) ?_ _
  by_cases h0 : Z = 0
  · have HF5 := Lib.hid (HXE.out w5 HB5.out A5 n5 c5 (by rw [← HAL.out h0]; exact HE5.out) h0)
    subst h0
    clear HXE HAL HNO HE5 HS5 HKS
    go_wp2_with (refine (check_ok _).mono ?_; rintro e w' ⟨rfl, rfl⟩)
    refine HF5.out.mono ?_
    rintro e w6 hq
    have HQ := Lib.hid hq
    clear hq
    cases RR with
    | error z =>
      obtain ⟨rfl, hb⟩ := HQ.out
      exact ⟨rfl, .no rfl hb⟩
    | ok u =>
      obtain ⟨rfl, sl6, hx, hp6⟩ := HQ.out
      have HP6 : Hid (PG p g w w6) := (HPG.out.trans ⟨HB5.out.size, fun j hj _ _ => HB5.out.block j hj⟩).trans hp6
      clear HQ
      have HX6 := Lib.hid hx
      clear hx hp6
      go_wp2_with fail
      go_end0
      exact .ok rfl HX6.out HP6.out
  · have HR5 := Lib.hid (HNO.out h0)
    clear HXE HAL HNO HE5 HS5 HKS
    go_wp2_with (refine (check_no Z h0 _).mono ?_; rintro e w' ⟨rfl, rfl⟩)
    exact ⟨rfl, .no HR5.out (HBE.out _ HB5.out)⟩
end
end Go.Proofs.YtpbpdnjlomhkdaaGreat
