/-
  Contracts of Do's deferred function (layer 13).
-/
import Derived.Test.YtpbpdnjlomhkdaaGreatOClone
import Derived.Test.YtpbpdnjlomhkdaaGreatOPC
import Derived.Test.YtpbpdnjlomhkdaaGreatOEdit
import Derived.Test.YtpbpdnjlomhkdaaGreatOChange
import Derived.Defers
import Derived.Recover
namespace Go.Proofs.YtpbpdnjlomhkdaaGreat
open Go.RowKit Go.Shelf

theorem assert_nil (w : World) : (Instr.typeAssert .nilIface 20 44 true).run Tryz.prog w = .ok (.tuple #[.int .i64 0, .bool false]) w := by kernel_rfl
theorem assert_err (z : Int) (w : World) : (Instr.typeAssert (.iface 44 (.int .i64 z)) 20 44 true).run Tryz.prog w = .ok (.tuple #[.int .i64 z, .bool true]) w := by kernel_rfl
set_option maxRecDepth 100000 in
set_option maxHeartbeats 1000000 in
theorem catch_idle (a b c d : Value) (w : World) :
    CallsD Tryz.prog 33 #[a, b, c, d] .returning w fun e u' w' => e = .returned (.tuple #[]) ∧ u' = .returning ∧ w' = w := by
  refine callsD_of_wpS Tryz.func33 rfl fun c₀ cs hu => ?_
  apply wpS_seq
  apply wpS_region
  have ht := assert_nil
  simp [wpOpsS, go_sem, recoverD, hu, Tryz.ntmps33, Exit.thenS, Array.replicate, ht]
  apply wpS_seq
  apply wpS_region
  simp [wpOpsS, go_sem, Exit.thenS]
  refine wpS_cond (t := false) (by simp [Act.eval]) ?_
  simp only [Bool.false_eq_true, if_false]
  refine wpS_of_wp (wp_skip ?_)
  cases c₀
  simp_all [bodyPostS, results, Tryz.results33]
theorem load_Tb (W : World) (b : Nat) {a : Act} {o : Oper} {x : Operand} (ho : o.op = .load 27 x) (hx : a.eval x = .pointer (some ⟨b, 0, none⟩)) {t : Op.TT} {v : Value} (h : Bw W b (tc t v) 27) :
    (execOp a.eval o).run Tryz.prog W = .ok (.value (.agg (tc t v).toArray)) W := by
  rcases did_load (P := Tryz.prog) (o := o) (a := a) (w := W) 27 x ho ⟨b, 0, none⟩ hx _ Tryz.underlying27 rfl (tc t v) size_Th (fun j u hu => by rw [add_plain, Nat.zero_add]; exact h.cell _ _ hu) with h | ⟨_, h⟩
  · exact h
  · cases h
theorem built_Rp3 (a b z : Int) : Tryz.prog.built 49 [(0, .int .u32 a), (1, .int .u32 b), (2, .int .i64 z)] = some #[.int .u32 a, .int .u32 b, .int .i64 z, .int .u32 0, .int .u32 0, .int .u32 0, .int .u32 0, .int .u32 0, .int .u32 0, .int .u64 0, .slice none 0 0, .slice none 0 0, .bool false, .int .u64 0, .int .u32 0] := by kernel_rfl
theorem build_reply (W : World) (c : Cl) (z : Int) {a : Act} {o : Oper} {x y u : Operand} (ho : o.op = .build 49 #[(0, x), (1, y), (2, u)]) (hx : a.eval x = .int .u32 (c.cli : Int)) (hy : a.eval y = .int .u32 (c.xid : Int)) (hu : a.eval u = .int .i64 z) :
    (execOp a.eval o).run Tryz.prog W = .ok (.value (.agg (rc { Op.rep0 c with st := z } (.slice none 0 0) (.slice none 0 0)).toArray)) W := by
  rcases did_build (P := Tryz.prog) (o := o) (a := a) (w := W) 49 #[(0, x), (1, y), (2, u)] ho (rc { Op.rep0 c with st := z } (.slice none 0 0) (.slice none 0 0)).toArray (by simp only [List.map_toArray, List.map_cons, List.map_nil, hx, hy, hu]; exact built_Rp3 _ _ _) with h | ⟨_, h⟩
  · exact h
  · cases h
/-- A whole block is written. -/
theorem store_all {P : Program} {w : World} {a : Act} {o : Oper} (ty : TypeId) (x y : Operand) (ho : o.op = .store ty x y) (g : Nat) (vs : List Value) (hx : a.eval x = .pointer (some ⟨g, 0, none⟩)) (hy : a.eval y = .agg vs.toArray)
    (t : TypeId) (cs : List Value) (hg : Bw w g cs t) (hi : (P.info? ty).map (·.size) = some vs.length) (hl : vs.length = cs.length) (h1 : ∀ v ∈ vs, v.oneCell' = true) :
    ∃ w', Did P o a w undef w' ∧ Bw w' g vs t ∧ w'.heap.size = w.heap.size ∧ Keep (· ≠ g) w w' := by
  have hr := run_storeCells_at P g 0 t vs 0 cs.toArray w hg (by simp; omega) h1
  simp only [Nat.add_zero, Nat.zero_add, List.take_zero, List.nil_append] at hr
  have hb := setRow_heap w g cs.toArray vs.toArray t _ hg
  have hd : cs.drop vs.length = [] := List.drop_eq_nil_of_le (by omega)
  rw [hd, List.append_nil] at hr
  refine ⟨w.setRow g vs.toArray, .inr ⟨?_, rfl⟩, hb, by simp, setRow_keep g _⟩
  cases hq : P.info? ty with
  | none => simp [hq] at hi
  | some i =>
    have hs : vs.length = i.size := by simp [hq] at hi; omega
    have hsv : (storeVar ty ⟨g, 0, none⟩ (.agg vs.toArray)).run P w = .ok () (w.setRow g vs.toArray) := by
      simp [storeVar, sizeOf, typeInfo, hq, Value.cells, hs.symm, hr]
    unfold execOp
    simp only [ho, hx, hy, Instr.storeAt, Instr.sureAddr, Sem.run_bind, Sem.run_pure, Result.andThen_ok, hsv]
theorem Bw.noByte {w : World} {b : Nat} {cs : List Value} {t : TypeId} (h : Bw w b cs t) (hn : ∀ v ∈ cs, ∀ x, v ≠ .int .u8 x) : ∀ o z, w.cell? ⟨b, o, none⟩ ≠ some (.int .u8 z) := fun o z hz => by
  rw [cell_of_row _ _ _ _ _ _ h] at hz
  have hz' : cs[o]? = some (.int .u8 z) := by simpa using hz
  exact hn _ (List.mem_of_getElem? hz') z rfl
theorem store_wp {P : Program} {w : World} {a : Act} {o : Oper} {K : Act → World → Prop} {Q : Exit → Act → World → Prop} (ty : TypeId) (x y : Operand) (ho : o.op = .store ty x y) (g : Nat) (vs : List Value) (hx : a.eval x = .pointer (some ⟨g, 0, none⟩)) (hy : a.eval y = .agg vs.toArray)
    (t : TypeId) (cs : List Value) (hg : Bw w g cs t) (hi : (P.info? ty).map (·.size) = some vs.length) (hl : vs.length = cs.length) (h1 : ∀ v ∈ vs, v.oneCell' = true)
    (h : ∀ w', Bw w' g vs t → w'.heap.size = w.heap.size → Keep (· ≠ g) w w' → K (a.put o.dst undef) w') : o.wp P a w K Q := by
  obtain ⟨w', hd, h2, h3, h4⟩ := store_all (P := P) (w := w) (a := a) (o := o) ty x y ho g vs hx hy t cs hg hi hl h1
  exact hd.wp (h w' h2 h3 h4)
/-- What it leaves. -/
def CatchQ (t : Op.TT) (c : Cl) (z : Int) (ba br : Nat) (w : World) (e : Ending) (u' : FrameMode) (w' : World) : Prop :=
  e = .returned (.tuple #[]) ∧ u' = .panicking [{ v := .iface 44 (.int .i64 z), recovered := true }] ∧ ∃ g k sl, SX w' g k t.s sl ∧ w.heap.size ≤ g ∧ Bw w' ba (tc t (.slice (some ⟨g, 0, none⟩) 24 k)) 27 ∧ Bw w' br (rc { Op.rep0 c with st := z } (.slice none 0 0) (.slice none 0 0)) 49 ∧ PG ba br w w' ∧ w'.os = w.os ∧ w'.tape = w.tape ∧ w'.output = w.output
set_option maxRecDepth 100000 in
set_option maxHeartbeats 1000000 in
theorem catch_err (t : Op.TT) (c : Cl) (z : Int) {A : Option Addr} {k : Nat} {X : Value} {Y U : List Value} {bt bc ba br : Nat} {w : World} (hs : SS w A 24 ((List.range 24).map t.s)) (hn : ∀ i, i < 24 → (t.s i).dt.length ≤ 1000000)
    (ht : Bw w bt (tc t (.slice A 24 k)) 27) (hc : Bw w bc (cc c X) 42) (ha : Bw w ba Y 27) (hy : Y.length = 3) (hr : Bw w br U 49) (hul : U.length = 15) (hyb : ∀ v ∈ Y, ∀ x, v ≠ .int .u8 x) (hub : ∀ v ∈ U, ∀ x, v ≠ .int .u8 x) (hne : ba ≠ br ∧ bt ≠ ba ∧ bc ≠ ba ∧ bt ≠ br ∧ bc ≠ br) :
    CallsD Tryz.prog 33 #[.pointer (some ⟨bt, 0, none⟩), .pointer (some ⟨bc, 0, none⟩), .pointer (some ⟨ba, 0, none⟩), .pointer (some ⟨br, 0, none⟩)] (.panicking (pan z)) w (CatchQ t c z ba br w) := by
  refine callsD_of_wpS Tryz.func33 rfl fun c₀ cs hu => ?_
  apply wpS_seq
  apply wpS_region
  have hta := assert_err z
  unfold pan at hu
  simp [wpOpsS, go_sem, recoverD, hu, Tryz.ntmps33, Exit.thenS, Array.replicate, hta]
  apply wpS_seq
  apply wpS_region
  simp [wpOpsS, go_sem, Exit.thenS]
  refine wpS_cond (t := true) (by simp [Act.eval]) ?_
  simp only [if_true]
  refine wpS_of_wp ?_
  have HS : Hid ((fun W : World => Bw W bt (tc t (.slice A 24 k)) 27 ∧ Bw W bc (cc c X) 42) w.drew) := ⟨ht, hc⟩
  have HC := Lib.hid (copyOf_any (w := w.drew) (c := k) hs hn)
  have HKS : Hid (∀ W, Below w.drew.heap.size w.drew W → (fun W : World => Bw W bt (tc t (.slice A 24 k)) 27 ∧ Bw W bc (cc c X) 42) W) := fun W hb => ⟨Bw.below (w := w.drew) ht hb, Bw.below (w := w.drew) hc hb⟩
  have HA : Hid (∀ W, Below w.drew.heap.size w.drew W → Bw W ba Y 27 ∧ Bw W br U 49) := (show Hid _ from fun W hb => ⟨Bw.below (w := w.drew) ha hb, Bw.below (w := w.drew) hr hb⟩)
  have hal := ha.lt
  have hrl := hr.lt
  clear hs hn ht hc ha hr
  refine wp_region_held_drew (S := (fun W : World => Bw W bt (tc t (.slice A 24 k)) 27 ∧ Bw W bc (cc c X) 42)) (by kernel_rfl) HS.out (fun _ => ?_)
  change wpAnyH _ _ _ _ _ 10 (Array.replicate 10 false) _ _
  refine takeH (i := 0) 12 (.agg (tc t (.slice A 24 k)).toArray) rfl rfl (by kernel_rfl) (by kernel_rfl) (by kernel_rfl) (fun _ _ _ h => h) (.inl ⟨by rfl, fun W hW => by (exact load_Tb W bt rfl rfl hW.1)⟩) HS.out ?_
  simp only [Act.put, List.setIfInBounds_toArray, List.set_cons_zero, List.set_cons_succ]
  refine takeH (i := 2) 14 (.pointer (some ⟨bc, 0, none⟩)) rfl rfl (by kernel_rfl) (by kernel_rfl) (by kernel_rfl) (fun _ _ _ h => h) (.inl ⟨by rfl, fun W hW => by go_simp⟩) HS.out ?_
  simp only [Act.put, List.setIfInBounds_toArray, List.set_cons_zero, List.set_cons_succ]
  refine takeH (i := 3) 15 (.int .u32 (c.cli : Int)) rfl rfl (by kernel_rfl) (by kernel_rfl) (by kernel_rfl) (fun _ _ _ h => h) (.inl ⟨by rfl, fun W hW => by (have hz := hW.2.cell 0 _ rfl; go_simp)⟩) HS.out ?_
  simp only [Act.put, List.setIfInBounds_toArray, List.set_cons_zero, List.set_cons_succ]
  refine takeH (i := 4) 16 (.pointer (some ⟨bc, 1, none⟩)) rfl rfl (by kernel_rfl) (by kernel_rfl) (by kernel_rfl) (fun _ _ _ h => h) (.inl ⟨by rfl, fun W hW => by go_simp⟩) HS.out ?_
  simp only [Act.put, List.setIfInBounds_toArray, List.set_cons_zero, List.set_cons_succ]
  refine takeH (i := 5) 17 (.int .u32 (c.xid : Int)) rfl rfl (by kernel_rfl) (by kernel_rfl) (by kernel_rfl) (fun _ _ _ h => h) (.inl ⟨by rfl, fun W hW => by (have hz := hW.2.cell 1 _ rfl; go_simp)⟩) HS.out ?_
  simp only [Act.put, List.setIfInBounds_toArray, List.set_cons_zero, List.set_cons_succ]
  refine takeH (i := 6) 18 (.int .i64 z) rfl rfl (by kernel_rfl) (by kernel_rfl) (by kernel_rfl) (fun _ _ _ h => h) (.inl ⟨by rfl, fun W hW => by go_simp⟩) HS.out ?_
  simp only [Act.put, List.setIfInBounds_toArray, List.set_cons_zero, List.set_cons_succ]
  refine takeH (i := 7) 19 (.agg (rc { Op.rep0 c with st := z } (.slice none 0 0) (.slice none 0 0)).toArray) rfl rfl (by kernel_rfl) (by kernel_rfl) (by kernel_rfl) (fun _ _ _ h => h) (.inl ⟨by rfl, fun W hW => by (exact build_reply W c z rfl rfl rfl rfl)⟩) HS.out ?_
  simp only [Act.put, List.setIfInBounds_toArray, List.set_cons_zero, List.set_cons_succ]
  refine wpAnyH_ready (rs := [1]) (by kernel_rfl) (by simp) ?_
  refine AllReadyH.cons rfl (fun K hK => ?_) AllReadyH.nil
  go_simp
  refine HC.out.mono ?_
  rintro e w1 ⟨g, k1, sl, rfl, h1, h2, h3⟩
  have HS1 := Lib.hid (HKS.out w1 h3)
  have HSX := Lib.hid h1
  have HG := Lib.hid h2
  have HB := Lib.hid h3
  refine hK.out _ _ HS1.out fun _ => ?_
  clear hK K h1 h2 h3 HC HS
  obtain ⟨hA1, hR1⟩ := HA.out w1 HB.out
  refine wpAnyH_ready (rs := [8]) (by kernel_rfl) (by simp) ?_
  refine AllReadyH.cons rfl (fun K hK => ?_) AllReadyH.nil
  refine store_wp (P := Tryz.prog) 27 (.tmp 2) (.tmp 13) rfl ba (tc t (.slice (some ⟨g, 0, none⟩) 24 k1)) rfl rfl 27 Y hA1 size_Th (by rw [hy]; rfl) (fun v hv => by simp only [tc, List.mem_cons, List.not_mem_nil, or_false] at hv; rcases hv with rfl | rfl | rfl <;> rfl) ?_
  intro w2 hb2 hs2 hk2
  have HS2 : Hid ((fun W : World => Bw W bt (tc t (.slice A 24 k)) 27 ∧ Bw W bc (cc c X) 42) w2) := ⟨Bw.keep HS1.out.1 hk2 hne.2.1, Bw.keep HS1.out.2 hk2 hne.2.2.1⟩
  refine hK.out _ _ HS2.out fun _ => ?_
  clear hK K
  have hR2 : Bw w2 br U 49 := hR1.keep hk2 (Ne.symm hne.1)
  refine wpAnyH_ready (rs := [9]) (by kernel_rfl) (by simp) ?_
  refine AllReadyH.cons rfl (fun K hK => ?_) AllReadyH.nil
  refine store_wp (P := Tryz.prog) 49 (.tmp 3) (.tmp 19) rfl br (rc { Op.rep0 c with st := z } (.slice none 0 0) (.slice none 0 0)) rfl rfl 49 U hR2 size_Rp (by rw [hul]; rfl) (fun v hv => by simp only [rc, List.mem_cons, List.not_mem_nil, or_false] at hv; rcases hv with rfl | rfl | rfl | rfl | rfl | rfl | rfl | rfl | rfl | rfl | rfl | rfl | rfl | rfl | rfl <;> rfl) ?_
  intro w3 hb3 hs3 hk3
  have HS3 : Hid ((fun W : World => Bw W bt (tc t (.slice A 24 k)) 27 ∧ Bw W bc (cc c X) 42) w3) := ⟨Bw.keep HS2.out.1 hk3 hne.2.2.2.1, Bw.keep HS2.out.2 hk3 hne.2.2.2.2⟩
  refine hK.out _ _ HS3.out fun _ => ?_
  clear hK K
  refine wpAnyH_done (by kernel_rfl) ?_ _
  have hgb : ba ≠ g ∧ br ≠ g := by
    have h1 := HG.out
    have h2 : ba < w.heap.size := hal
    have h3 : br < w.heap.size := hrl
    have h4 : w.heap.size ≤ g := h1
    exact ⟨by omega, by omega⟩
  have h2 := HSX.out.other hgb.1 (hA1.noByte hyb) hk2
  have h3 := h2.other hgb.2 (hR2.noByte hub) hk3
  have hpg : PG ba br w w3 := by
    have e1 : PG ba br w w1 := ⟨HB.out.size, fun j hj _ _ => HB.out.block j hj⟩
    have e2 : PG ba br w1 w2 := ⟨hk2.size, fun j _ hj _ => hk2.block j hj⟩
    exact (e1.trans e2).trans (.keep hk3)
  refine ⟨rfl, _, ?_, .tuple #[], ?_, rfl, rfl, g, k1, sl, h3, HG.out, hb2.keep hk3 hne.1, hb3, hpg, hk3.os.trans (hk2.os.trans HB.out.os), hk3.tape.trans (hk2.tape.trans HB.out.tape), hk3.output.trans (hk2.output.trans HB.out.output)⟩
  · cases c₀
    simp_all
  · simp [results, Tryz.results33]
end Go.Proofs.YtpbpdnjlomhkdaaGreat
