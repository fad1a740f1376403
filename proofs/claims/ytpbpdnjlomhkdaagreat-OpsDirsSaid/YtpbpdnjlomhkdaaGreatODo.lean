/-
  Contract of Do (layer 13).
-/
import Derived.Test.YtpbpdnjlomhkdaaGreatORunAll
import Derived.Test.YtpbpdnjlomhkdaaGreatOCatch
import Derived.Test.YtpbpdnjlomhkdaaGreatOValid
namespace Go.Proofs.YtpbpdnjlomhkdaaGreat
open Go.RowKit Go.Shelf

theorem Leaves.same {P : Program} {fn : Func} {tm tm' : Array Value} {R : Ending → World → Prop} (he : results fn tm = results fn tm') : ∀ (ds : List Deferred) (u : FrameMode) (w : World), Leaves P fn tm R ds u w → Leaves P fn tm' R ds u w
  | [], .returning, w, h => by
    unfold Leaves at h ⊢
    rw [← he]
    exact h
  | [], .panicking chain, w, h => by
    unfold Leaves at h ⊢
    exact h
  | [], .run, _, h => by
    unfold Leaves at h
    exact h.elim
  | d :: ds, u, w, h => by
    unfold Leaves at h ⊢
    obtain ⟨h1, fv, cap, f, args, h2, h3, h4⟩ := h
    refine ⟨h1, fv, cap, f, args, h2, h3, h4.mono fun e u' w' hq => ?_⟩
    cases e with
    | returned v => exact Leaves.same he ds _ _ hq
    | panicked chain => exact Leaves.same he ds _ _ hq
    | outgrown => exact hq
theorem res_put (a : Act) (dst : Nat) (v : Value) (h4 : dst ≠ 4) (h5 : dst ≠ 5) : results Tryz.f21 (a.put (some dst) v).tmps = results Tryz.f21 a.tmps := by
  simp [results, Tryz.results21, Act.put, Array.getElem?_setIfInBounds, h4, h5]
theorem quitD {K : Act → World → Prop} {R : Ending → World → Prop} {dst : Nat} {v : Value} (h4 : dst ≠ 4) (h5 : dst ≠ 5) : ∀ c a w, Exit.then K (bodyPostD Tryz.prog Tryz.f21 R) (.panic c) (a.put (some dst) v) w → Exit.then K (bodyPostD Tryz.prog Tryz.f21 R) (.panic c) a w := fun _ a _ h =>
  Leaves.same (res_put a dst v h4 h5) _ _ _ h
theorem ret_any {w : World} {ba br : Nat} {tm : Array Value} {t : Op.TT} {v x y : Value} {r : Rp} (h4 : tm.getD 4 undef = .pointer (some ⟨ba, 0, none⟩)) (h5 : tm.getD 5 undef = .pointer (some ⟨br, 0, none⟩)) (ha : Bw w ba (tc t v) 27) (hr : Bw w br (rc r x y) 49) :
    (results Tryz.f21 tm).run Tryz.prog w = .ok (.tuple #[.agg (tc t v).toArray, .agg (rc r x y).toArray]) w := by
  have l1 := run_loadVar_row (P := Tryz.prog) w ba 27 27 (tc t v).toArray (0, 0) _ ha Tryz.underlying27 rfl size_Th
  have l2 := run_loadVar_row (P := Tryz.prog) w br 49 49 (rc r x y).toArray (0, 0) _ hr Tryz.underlying49 rfl size_Rp
  simp only [Array.getD_eq_getD_getElem?] at h4 h5
  simp [results, Tryz.results21, h4, h5, l1, l2, asAddr, Result.andThen]
theorem load_Cb (W : World) (b : Nat) {a : Act} {o : Oper} {x : Operand} (ho : o.op = .load 42 x) (hx : a.eval x = .pointer (some ⟨b, 0, none⟩)) {c : Cl} {v : Value} (h : Bw W b (cc c v) 42) :
    (execOp a.eval o).run Tryz.prog W = .ok (.value (.agg (cc c v).toArray)) W := by
  rcases did_load (P := Tryz.prog) (o := o) (a := a) (w := W) 42 x ho ⟨b, 0, none⟩ hx _ Tryz.underlying42 rfl (cc c v) size_C (fun j u hu => by rw [add_plain, Nat.zero_add]; exact h.cell _ _ hu) with h | ⟨_, h⟩
  · exact h
  · cases h
theorem built_Rp2 (a b : Int) : Tryz.prog.built 49 [(0, .int .u32 a), (1, .int .u32 b)] = some #[.int .u32 a, .int .u32 b, .int .i64 0, .int .u32 0, .int .u32 0, .int .u32 0, .int .u32 0, .int .u32 0, .int .u32 0, .int .u64 0, .slice none 0 0, .slice none 0 0, .bool false, .int .u64 0, .int .u32 0] := by kernel_rfl
theorem build_rep0 (W : World) (c : Cl) {a : Act} {o : Oper} {x y : Operand} (ho : o.op = .build 49 #[(0, x), (1, y)]) (hx : a.eval x = .int .u32 (c.cli : Int)) (hy : a.eval y = .int .u32 (c.xid : Int)) :
    (execOp a.eval o).run Tryz.prog W = .ok (.value (.agg (rc (Op.rep0 c) (.slice none 0 0) (.slice none 0 0)).toArray)) W := by
  rcases did_build (P := Tryz.prog) (o := o) (a := a) (w := W) 49 #[(0, x), (1, y)] ho (rc (Op.rep0 c) (.slice none 0 0) (.slice none 0 0)).toArray (by simp only [List.map_toArray, List.map_cons, List.map_nil, hx, hy]; exact built_Rp2 _ _) with h | ⟨_, h⟩
  · exact h
  · cases h
theorem built_run (t : Op.TT) (g k : Nat) (c : Cl) (X : Value) (r : Rp) (Y Z : Value) : Tryz.prog.built 104 [(0, .agg (tc t (.slice (some ⟨g, 0, none⟩) 24 k)).toArray), (1, .agg (cc c X).toArray), (2, .agg (rc r Y Z).toArray)] = some (xc t g k c X r Y Z).toArray := by kernel_rfl
theorem build_run (W : World) (t : Op.TT) (g k : Nat) (c : Cl) (X : Value) {a : Act} {o : Oper} {x y u : Operand} (ho : o.op = .build 104 #[(0, x), (1, y), (2, u)]) (hx : a.eval x = .agg (tc t (.slice (some ⟨g, 0, none⟩) 24 k)).toArray) (hy : a.eval y = .agg (cc c X).toArray) (hu : a.eval u = .agg (rc (Op.rep0 c) (.slice none 0 0) (.slice none 0 0)).toArray) :
    (execOp a.eval o).run Tryz.prog W = .ok (.value (.agg (xc t g k c X (Op.rep0 c) (.slice none 0 0) (.slice none 0 0)).toArray)) W := by
  rcases did_build (P := Tryz.prog) (o := o) (a := a) (w := W) 104 #[(0, x), (1, y), (2, u)] ho (xc t g k c X (Op.rep0 c) (.slice none 0 0) (.slice none 0 0)).toArray (by simp only [List.map_toArray, List.map_cons, List.map_nil, hx, hy, hu]; exact built_run _ _ _ _ _ _ _ _) with h | ⟨_, h⟩
  · exact h
  · cases h
theorem zero_fn (w : World) : (zeroValue 97).run Tryz.prog w = .ok .nilFunc w := by kernel_rfl
/-- Where Do's variables lie: the things, the call, what is handed back. -/
structure DV (w0 w : World) (t : Op.TT) (A : Option Addr) (k : Nat) (c : Cl) (X : Value) : Prop where
  bel : Below w0.heap.size w0 w
  th : Bw w w0.heap.size (tc t (.slice A 24 k)) 27
  cl : Bw w (w0.heap.size + 1) (cc c X) 42
  ra : Bw w (w0.heap.size + 2) [.slice none 0 0, .int .u64 0, .int .i64 0] 27
  rr : Bw w (w0.heap.size + 3) (rc Rp.zero (.slice none 0 0) (.slice none 0 0)) 49
theorem DV.below {w0 w w' : World} {t : Op.TT} {A : Option Addr} {k : Nat} {c : Cl} {X : Value} (h : DV w0 w t A k c X) (hb : Below w.heap.size w w') : DV w0 w' t A k c X :=
  ⟨h.bel.trans (hb.mono h.bel.size), h.th.below hb, h.cl.below hb, h.ra.below hb, h.rr.below hb⟩
theorem DV.start (w : World) (t : Op.TT) (A : Option Addr) (k : Nat) (c : Cl) (X : Value) :
    DV w ((((w.alloc (.cells (tc t (.slice A 24 k)).toArray 27)).alloc (.cells (cc c X).toArray 42)).alloc (.cells #[.slice none 0 0, .int .u64 0, .int .i64 0] 27)).alloc (.cells (rc Rp.zero (.slice none 0 0) (.slice none 0 0)).toArray 49)) t A k c X := by
  have e1 := alloc_below w (.cells (tc t (.slice A 24 k)).toArray 27)
  generalize hw1 : w.alloc (.cells (tc t (.slice A 24 k)).toArray 27) = w1 at *
  have s1 : w1.heap.size = w.heap.size + 1 := by rw [← hw1]; exact World.size_alloc _ _
  have h1 : Bw w1 w.heap.size (tc t (.slice A 24 k)) 27 := by rw [← hw1]; exact heap_alloc_new w _
  have e2 := alloc_below w1 (.cells (cc c X).toArray 42)
  have h2 : Bw (w1.alloc (.cells (cc c X).toArray 42)) w1.heap.size (cc c X) 42 := heap_alloc_new w1 _
  have s2 := World.size_alloc w1 (.cells (cc c X).toArray 42)
  generalize w1.alloc (.cells (cc c X).toArray 42) = w2 at *
  have e3 := alloc_below w2 (.cells #[.slice none 0 0, .int .u64 0, .int .i64 0] 27)
  have h3 : Bw (w2.alloc (.cells #[.slice none 0 0, .int .u64 0, .int .i64 0] 27)) w2.heap.size [.slice none 0 0, .int .u64 0, .int .i64 0] 27 := heap_alloc_new w2 _
  have s3 := World.size_alloc w2 (.cells #[.slice none 0 0, .int .u64 0, .int .i64 0] 27)
  generalize w2.alloc (.cells #[.slice none 0 0, .int .u64 0, .int .i64 0] 27) = w3 at *
  have e4 := alloc_below w3 (.cells (rc Rp.zero (.slice none 0 0) (.slice none 0 0)).toArray 49)
  have h4 : Bw (w3.alloc (.cells (rc Rp.zero (.slice none 0 0) (.slice none 0 0)).toArray 49)) w3.heap.size (rc Rp.zero (.slice none 0 0) (.slice none 0 0)) 49 := heap_alloc_new w3 _
  generalize w3.alloc (.cells (rc Rp.zero (.slice none 0 0) (.slice none 0 0)).toArray 49) = w4 at *
  have hs3 : w3.heap.size = w.heap.size + 3 := by omega
  have hs2 : w2.heap.size = w.heap.size + 2 := by omega
  rw [s1] at h2
  rw [hs2] at h3
  rw [hs3] at h4
  exact ⟨((e1.trans (e2.mono (by omega))).trans (e3.mono (by omega))).trans (e4.mono (by omega)), ((h1.below e2).below e3).below e4, (h2.below e3).below e4, h3.below e4, h4⟩
/-- What comes to the door by a panic goes back as an error. -/
theorem DV.caught {w0 w : World} {t : Op.TT} {A : Option Addr} {k : Nat} {c : Cl} {X : Value} (h : DV w0 w t A k c X) (hs : SS w0 A 24 ((List.range 24).map t.s)) (hn : ∀ i, i < 24 → (t.s i).dt.length ≤ 1000000) (z : Int) :
    CallsD Tryz.prog 33 #[.pointer (some ⟨w0.heap.size, 0, none⟩), .pointer (some ⟨w0.heap.size + 1, 0, none⟩), .pointer (some ⟨w0.heap.size + 2, 0, none⟩), .pointer (some ⟨w0.heap.size + 3, 0, none⟩)] (.panicking (pan z)) w (CatchQ t c z (w0.heap.size + 2) (w0.heap.size + 3) w) :=
  catch_err t c z (hs.below h.bel) hn h.th h.cl h.ra rfl h.rr rfl
    (by intro v hv x; simp at hv; rcases hv with rfl | rfl | rfl <;> (intro h; cases h))
    (by intro v hv x; simp only [rc, List.mem_cons, List.not_mem_nil, or_false] at hv; rcases hv with rfl | rfl | rfl | rfl | rfl | rfl | rfl | rfl | rfl | rfl | rfl | rfl | rfl | rfl | rfl <;> (intro h; cases h))
    ⟨by omega, by omega, by omega, by omega, by omega⟩
theorem Op.do_bad {t : Op.TT} {c : Cl} (h : ¬ (1 ≤ c.op ∧ c.op ≤ 16)) : Op.doT t c = t ∧ Op.doR t c = { Op.rep0 c with st := 64 } :=
  ⟨if_neg (fun hh => h hh.2), if_neg (fun hh => h hh.2)⟩
theorem Op.do_err2 {t : Op.TT} {c : Cl} (hm : Op.May t) (h : 1 ≤ c.op ∧ c.op ≤ 16) (z : Int) (hr : Op.run t c = .error z) : Op.doT t c = t ∧ Op.doR t c = { Op.rep0 c with st := z } := by
  unfold Op.doT Op.doR
  rw [if_pos ⟨hm, h⟩, if_pos ⟨hm, h⟩, hr]
  exact ⟨rfl, rfl⟩
theorem Op.do_ok2 {t : Op.TT} {c : Cl} (hm : Op.May t) (h : 1 ≤ c.op ∧ c.op ≤ 16) (y : Op.TT × Rp) (hr : Op.run t c = .ok y) : Op.doT t c = y.1 ∧ Op.doR t c = y.2 := by
  unfold Op.doT Op.doR
  rw [if_pos ⟨hm, h⟩, if_pos ⟨hm, h⟩, hr]
  exact ⟨rfl, rfl⟩
theorem opF_enters (o : Nat) (h1 : 1 ≤ o) (h2 : o ≤ 16) : ∀ args w, (callFunc (opF o) args).run Tryz.prog w = .ok (.enter (opF o) args) w := by
  match o, h1, h2 with
  | 1, _, _ => exact enters_of Tryz.func53 (by kernel_rfl) rfl
  | 2, _, _ => exact enters_of Tryz.func54 (by kernel_rfl) rfl
  | 3, _, _ => exact enters_of Tryz.func55 (by kernel_rfl) rfl
  | 4, _, _ => exact enters_of Tryz.func56 (by kernel_rfl) rfl
  | 5, _, _ => exact enters_of Tryz.func57 (by kernel_rfl) rfl
  | 6, _, _ => exact enters_of Tryz.func58 (by kernel_rfl) rfl
  | 7, _, _ => exact enters_of Tryz.func59 (by kernel_rfl) rfl
  | 8, _, _ => exact enters_of Tryz.func60 (by kernel_rfl) rfl
  | 9, _, _ => exact enters_of Tryz.func61 (by kernel_rfl) rfl
  | 10, _, _ => exact enters_of Tryz.func62 (by kernel_rfl) rfl
  | 11, _, _ => exact enters_of Tryz.func63 (by kernel_rfl) rfl
  | 12, _, _ => exact enters_of Tryz.func64 (by kernel_rfl) rfl
  | 13, _, _ => exact enters_of Tryz.func65 (by kernel_rfl) rfl
  | 14, _, _ => exact enters_of Tryz.func66 (by kernel_rfl) rfl
  | 15, _, _ => exact enters_of Tryz.func67 (by kernel_rfl) rfl
  | 16, _, _ => exact enters_of Tryz.func68 (by kernel_rfl) rfl
  | o + 17, _, h => omega
theorem load_xT (W : World) (p : Nat) {a : Act} {o : Oper} {x : Operand} (ho : o.op = .load 27 x) (hx : a.eval x = .pointer (some ⟨p, 0, none⟩)) {t : Op.TT} {g k : Nat} {c : Cl} {v u z : Value} {r : Rp} (h : Bw W p (xc t g k c v r u z) 104) :
    (execOp a.eval o).run Tryz.prog W = .ok (.value (.agg (tc t (.slice (some ⟨g, 0, none⟩) 24 k)).toArray)) W := by
  rcases did_load (P := Tryz.prog) (o := o) (a := a) (w := W) 27 x ho ⟨p, 0, none⟩ hx _ Tryz.underlying27 rfl (tc t (.slice (some ⟨g, 0, none⟩) 24 k)) size_Th (fun j u hu => by
    rw [add_plain, Nat.zero_add]
    refine h.cell _ _ ?_
    unfold xc
    rw [List.getElem?_append_left (List.getElem?_eq_some_iff.1 hu).1]
    exact hu) with h | ⟨_, h⟩
  · exact h
  · cases h
theorem load_xR (W : World) (p : Nat) {a : Act} {o : Oper} {x : Operand} (ho : o.op = .load 49 x) (hx : a.eval x = .pointer (some ⟨p, 17, none⟩)) {t : Op.TT} {g k : Nat} {c : Cl} {v u z : Value} {r : Rp} (h : Bw W p (xc t g k c v r u z) 104) :
    (execOp a.eval o).run Tryz.prog W = .ok (.value (.agg (rc r u z).toArray)) W := by
  rcases did_load (P := Tryz.prog) (o := o) (a := a) (w := W) 49 x ho ⟨p, 17, none⟩ hx _ Tryz.underlying49 rfl (rc r u z) size_Rp (fun j y hy => by
    rw [add_plain]
    refine h.cell _ _ ?_
    unfold xc
    have h1 : (tc t (.slice (some ⟨g, 0, none⟩) 24 k)).length = 3 := rfl
    have h2 : (cc c v).length = 14 := rfl
    rw [List.getElem?_append_right (by omega), List.getElem?_append_right (by omega), h1, h2, show 17 + j - 3 - 14 = j by omega]
    exact hy) with h | ⟨_, h⟩
  · exact h
  · cases h
theorem zero_noByte : ∀ v ∈ [Value.slice none 0 0, .int .u64 0, .int .i64 0], ∀ x, v ≠ .int .u8 x := by
  intro v hv x; simp at hv; rcases hv with rfl | rfl | rfl <;> (intro h; cases h)
theorem zeroR_noByte : ∀ v ∈ rc Rp.zero (.slice none 0 0) (.slice none 0 0), ∀ x, v ≠ .int .u8 x := by
  intro v hv x; simp only [rc, List.mem_cons, List.not_mem_nil, or_false] at hv; rcases hv with rfl | rfl | rfl | rfl | rfl | rfl | rfl | rfl | rfl | rfl | rfl | rfl | rfl | rfl | rfl <;> (intro h; cases h)
theorem noStr_of {w : World} {b : Nat} {cs : List Value} {t : TypeId} (h : Bw w b cs t) (hn : ∀ v ∈ cs, ∀ x, v ≠ .string x) : ∀ o z, w.cell? ⟨b, o, none⟩ ≠ some (.string z) := fun o z hz => by
  rw [cell_of_row _ _ _ _ _ _ h] at hz
  have hz' : cs[o]? = some (.string z) := by simpa using hz
  exact hn _ (List.mem_of_getElem? hz') z rfl
/-- The two results are stored. -/
theorem stored {w0 w w1 w2 : World} {t u : Op.TT} {A : Option Addr} {k : Nat} {c : Cl} {X : Value} {g k1 : Nat} {sl : Nat → Sl} {D : Option Addr} {m e : Nat} {E : Option Addr} {q f : Nat} {r : Rp} (h : DV w0 w t A k c X) (hx : SX w g k1 u.s sl) (hm : RM w D m e E q f r) (hg : w0.heap.size + 4 ≤ g)
    (h1 : Keep (· ≠ w0.heap.size + 2) w w1) (h2 : Keep (· ≠ w0.heap.size + 3) w1 w2) : TM w2 (some ⟨g, 0, none⟩) k1 u ∧ RM w2 D m e E q f r ∧ Below w0.heap.size w0 w2 := by
  have hr1 := h.rr.keep h1 (by omega)
  have x1 := hx.other (p := w0.heap.size + 2) (by omega) (h.ra.noByte zero_noByte) h1
  have x2 := x1.other (p := w0.heap.size + 3) (by omega) (hr1.noByte zeroR_noByte) h2
  have z1 := noStr_of h.ra (by intro v hv x; simp at hv; rcases hv with rfl | rfl | rfl <;> (intro h; cases h))
  have z2 := noStr_of hr1 (by intro v hv x; simp only [rc, List.mem_cons, List.not_mem_nil, or_false] at hv; rcases hv with rfl | rfl | rfl | rfl | rfl | rfl | rfl | rfl | rfl | rfl | rfl | rfl | rfl | rfl | rfl <;> (intro h; cases h))
  refine ⟨⟨x2.ss, x2.cap⟩, ⟨(hm.data.off (h.ra.noByte zero_noByte) (fun j _ hj => h1.block j hj)).off (hr1.noByte zeroR_noByte) (fun j _ hj => h2.block j hj), (hm.ents.off z1 h1).off z2 h2, hm.few⟩, (h.bel.trans (h1.below2 (fun j hj => by omega))).trans (h2.below2 (fun j hj => by omega))⟩
/-- A panic at the door. -/
theorem door_err {w0 w : World} {t : Op.TT} {A : Option Addr} {k : Nat} {c : Cl} {X : Value} {z : Int} {tm : Array Value} (h : DV w0 w t A k c X) (hs : SS w0 A 24 ((List.range 24).map t.s)) (hn : ∀ i, i < 24 → (t.s i).dt.length ≤ 1000000)
    (h4 : tm.getD 4 undef = .pointer (some ⟨w0.heap.size + 2, 0, none⟩)) (h5 : tm.getD 5 undef = .pointer (some ⟨w0.heap.size + 3, 0, none⟩)) (hd : Op.doT t c = t ∧ Op.doR t c = { Op.rep0 c with st := z }) :
    bodyPostD Tryz.prog Tryz.f21 (DoQ t c w0) (Exit.panic (pan z)) { tmps := tm, defers := [{ target := Target.fn (Fn.func 33) #[.pointer (some ⟨w0.heap.size, 0, none⟩), .pointer (some ⟨w0.heap.size + 1, 0, none⟩), .pointer (some ⟨w0.heap.size + 2, 0, none⟩), .pointer (some ⟨w0.heap.size + 3, 0, none⟩)], args := #[] }] } w := by
  show Leaves _ _ _ _ _ _ _
  refine leaves_cons (f := 33) (args := #[.pointer (some ⟨w0.heap.size, 0, none⟩), .pointer (some ⟨w0.heap.size + 1, 0, none⟩), .pointer (some ⟨w0.heap.size + 2, 0, none⟩), .pointer (some ⟨w0.heap.size + 3, 0, none⟩)]) (by simp) (by simp [go_sem]) ?_
  refine (h.caught hs hn z).mono ?_
  rintro e u' w1 ⟨rfl, rfl, g, k1, sl, hsx, hg, hb2, hb3, hpg, ho1, ho2, ho3⟩
  show Leaves _ _ _ _ [] .returning _
  unfold Leaves
  refine ⟨_, ret_any h4 h5 hb2 hb3, ?_⟩
  have hbel : Below w0.heap.size w0 w1 := ⟨ho1.trans h.bel.os, ho2.trans h.bel.tape, ho3.trans h.bel.output, Nat.le_trans h.bel.size hpg.size, fun j hj => (hpg.block j (Nat.lt_of_lt_of_le hj h.bel.size) (by omega) (by omega)).trans (h.bel.block j hj)⟩
  refine ⟨_, k1, none, 0, 0, none, 0, 0, by rw [hd.1, hd.2], ?_, ?_, hbel⟩
  · rw [hd.1]
    exact ⟨hsx.ss, hsx.cap⟩
  · rw [hd.2]
    exact RM.none rfl rfl
/-- A return at the door. -/
theorem door_ok {w0 w : World} {t u : Op.TT} {c : Cl} {a b x y : Value} {g k : Nat} {D : Option Addr} {m e : Nat} {E : Option Addr} {q f : Nat} {r : Rp} {tm : Array Value}
    (h4 : tm.getD 4 undef = .pointer (some ⟨w0.heap.size + 2, 0, none⟩)) (h5 : tm.getD 5 undef = .pointer (some ⟨w0.heap.size + 3, 0, none⟩)) (h1 : Bw w (w0.heap.size + 2) (tc u (.slice (some ⟨g, 0, none⟩) 24 k)) 27) (h2 : Bw w (w0.heap.size + 3) (rc r (.slice D m e) (.slice E q f)) 49)
    (ht : TM w (some ⟨g, 0, none⟩) k u) (hr : RM w D m e E q f r) (hb : Below w0.heap.size w0 w) (hd : Op.doT t c = u ∧ Op.doR t c = r) :
    bodyPostD Tryz.prog Tryz.f21 (DoQ t c w0) Exit.ret { tmps := tm, defers := [{ target := Target.fn (Fn.func 33) #[a, b, x, y], args := #[] }] } w := by
  show Leaves _ _ _ _ _ _ _
  refine leaves_cons (f := 33) (args := #[a, b, x, y]) (by simp) (by simp [go_sem]) ?_
  refine (catch_idle a b x y w).mono ?_
  rintro e u' w1 ⟨rfl, rfl, rfl⟩
  show Leaves _ _ _ _ [] .returning _
  unfold Leaves
  refine ⟨_, ret_any h4 h5 h1 h2, ?_⟩
  exact ⟨_, k, _, _, _, _, _, _, by rw [hd.1, hd.2], by rw [hd.1]; exact ht, by rw [hd.2]; exact hr, hb⟩
set_option maxRecDepth 100000 in
set_option maxHeartbeats 1000000 in
theorem do_any {A : Option Addr} {k : Nat} {c : Cl} {B : Option Addr} {n d : Nat} {t : Op.TT} {w : World} (h : TM w A k t) (hs : Op.Sound t) (hw : c.Wide) (hdl : c.dt.length ≤ 1100) (hb : BS w B n c.dt) (hnd : n ≤ d) :
    Calls Tryz.prog 21 #[.agg (tc t (.slice A 24 k)).toArray, .agg (cc c (.slice B n d)).toArray] w (DoQ t c w) := by
  have hmf : ∀ (fn : Fn) (first cap : Array Value) (w : World), (Instr.makeFunc fn first cap).run Tryz.prog w = .ok (.func fn first cap) w := fun _ _ _ _ => rfl
  have HV := Lib.hid (DV.start w t A k c (.slice B n d))
  go_enter_defers Tryz.func21, Tryz.ntmps21
  go_upto_region 2 with fail
  show Code.wp _ _ _ _ ((((w.alloc (.cells (tc t (.slice A 24 k)).toArray 27)).alloc (.cells (cc c (.slice B n d)).toArray 42)).alloc (.cells #[.slice none 0 0, .int .u64 0, .int .i64 0] 27)).alloc (.cells (rc Rp.zero (.slice none 0 0) (.slice none 0 0)).toArray 49))
  generalize ((((w.alloc (.cells (tc t (.slice A 24 k)).toArray 27)).alloc (.cells (cc c (.slice B n d)).toArray 42)).alloc (.cells #[.slice none 0 0, .int .u64 0, .int .i64 0] 27)).alloc (.cells (rc Rp.zero (.slice none 0 0) (.slice none 0 0)).toArray 49)) = w1 at HV ⊢
  have HS : Hid ((fun W : World => Bw W (w.heap.size + 1) (cc c (.slice B n d)) 42) w1.drew) := HV.out.cl
  have HOPS := Lib.hid (operations_any w1.drew)
  refine wp_region_held_drew (S := (fun W : World => Bw W (w.heap.size + 1) (cc c (.slice B n d)) 42)) (by kernel_rfl) HS.out (fun _ => ?_)
  change wpAnyH _ _ _ _ _ 9 (Array.replicate 9 false) _ _
  refine takeH (i := 1) 12 (.pointer (some ⟨w.heap.size + 1, 2, none⟩)) rfl rfl (by kernel_rfl) (by kernel_rfl) (by kernel_rfl) (quitD (by decide) (by decide)) (.inl ⟨by rfl, fun W hW => by go_simp⟩) HS.out ?_
  simp only [Act.put, List.setIfInBounds_toArray, List.set_cons_zero, List.set_cons_succ]
  refine takeH (i := 2) 13 (.int .u32 (c.op : Int)) rfl rfl (by kernel_rfl) (by kernel_rfl) (by kernel_rfl) (quitD (by decide) (by decide)) (.inl ⟨by rfl, fun W hW => by (have hz := Bw.cell hW 2 _ rfl; go_simp)⟩) HS.out ?_
  simp only [Act.put, List.setIfInBounds_toArray, List.set_cons_zero, List.set_cons_succ]
  refine wpAnyH_ready (rs := [0]) (by kernel_rfl) (by simp) ?_
  refine AllReadyH.cons rfl (fun K hK => ?_) AllReadyH.nil
  go_simp
  refine HOPS.out.mono ?_
  rintro e w2 ⟨rfl, h1, h2⟩
  have HV2 : Hid (DV w w2 t A k c (.slice B n d)) := DV.below (w := w1.drew) ⟨HV.out.bel.drew, HV.out.th, HV.out.cl, HV.out.ra, HV.out.rr⟩ h2
  have HS2 : Hid ((fun W : World => Bw W (w.heap.size + 1) (cc c (.slice B n d)) 42) w2) := HV2.out.cl
  refine hK.out _ _ HS2.out fun _ => ?_
  have hask := h1.ask (by omega) Tryz.underlying99 (zero_fn w2) (n := c.op) hw.op
  clear hK K h2 HOPS HS HV h1
  generalize w1.drew.heap.size = bm at *
  obtain ⟨V, hV⟩ : ∃ V : Value, V = if 1 ≤ c.op ∧ c.op ≤ 16 then opV c.op else .nilFunc := ⟨_, rfl⟩
  obtain ⟨OK, hOK⟩ : ∃ b : Bool, b = decide (1 ≤ c.op ∧ c.op ≤ 16) := ⟨_, rfl⟩
  rw [← hV, ← hOK] at hask
  have HVV := Lib.hid hV
  have HOK := Lib.hid hOK
  clear hV hOK
  refine wpAnyH_ready (rs := [3]) (by kernel_rfl) (by simp) ?_
  refine AllReadyH.cons rfl (fun K hK => ?_) AllReadyH.nil
  go_simp
  refine hK.out _ _ HS2.out fun _ => ?_
  clear hK K hask
  refine takeH (i := 4) 10 (.tuple #[V, .bool OK]) rfl rfl (by kernel_rfl) (by kernel_rfl) (by kernel_rfl) (quitD (by decide) (by decide)) (.inl ⟨by rfl, fun W hW => by go_simp⟩) HS2.out ?_
  simp only [Act.put, List.setIfInBounds_toArray, List.set_cons_zero, List.set_cons_succ]
  refine takeH (i := 5) 15 (V) rfl rfl (by kernel_rfl) (by kernel_rfl) (by kernel_rfl) (quitD (by decide) (by decide)) (.inl ⟨by rfl, fun W hW => by go_simp⟩) HS2.out ?_
  simp only [Act.put, List.setIfInBounds_toArray, List.set_cons_zero, List.set_cons_succ]
  refine takeH (i := 6) 16 (.bool OK) rfl rfl (by kernel_rfl) (by kernel_rfl) (by kernel_rfl) (quitD (by decide) (by decide)) (.inl ⟨by rfl, fun W hW => by go_simp⟩) HS2.out ?_
  simp only [Act.put, List.setIfInBounds_toArray, List.set_cons_zero, List.set_cons_succ]
  refine takeH (i := 7) 6 (V) rfl rfl (by kernel_rfl) (by kernel_rfl) (by kernel_rfl) (quitD (by decide) (by decide)) (.inl ⟨by rfl, fun W hW => by go_simp⟩) HS2.out ?_
  simp only [Act.put, List.setIfInBounds_toArray, List.set_cons_zero, List.set_cons_succ]
  refine takeH (i := 8) 7 (.bool OK) rfl rfl (by kernel_rfl) (by kernel_rfl) (by kernel_rfl) (quitD (by decide) (by decide)) (.inl ⟨by rfl, fun W hW => by go_simp⟩) HS2.out ?_
  simp only [Act.put, List.setIfInBounds_toArray, List.set_cons_zero, List.set_cons_succ]
  refine wpAnyH_done (by kernel_rfl) ?_ _
  have c0 := HV2.out.th.cell 0 _ rfl
  have c1 := HV2.out.th.cell 1 _ rfl
  have c2 := HV2.out.th.cell 2 _ rfl
  cases OK with
  | false =>
    clear HS2 HVV
    go_wp2_with (refine (refuse_yes 64 _).mono ?_; rintro e w' ⟨rfl, rfl⟩)
    have HRE : Hid (Op.doT t c = t ∧ Op.doR t c = { Op.rep0 c with st := 64 }) := Op.do_bad (fun hh => by have := HOK.out; rw [decide_eq_true hh] at this; cases this)
    exact door_err HV2.out h.ss hs.dts (by show ([_, _, _, _, _, _] ++ _ : List Value).toArray.getD 4 undef = _; rfl) rfl HRE.out
  | true =>
    have HIN := Lib.hid (show 1 ≤ c.op ∧ c.op ≤ 16 from of_decide_eq_true HOK.out.symm)
    obtain rfl : V = .func (.func (opF c.op)) #[] #[] := HVV.out.trans (if_pos HIN.out)
    clear HVV HOK
    have HVA : Hid (Calls Tryz.prog 37 #[.agg #[.slice A 24 k, .int .u64 (t.ch : Int), .int .i64 t.rm]] w2 fun e w' => e = .returned (.bool true) ∧ Below w2.heap.size w2 w') := validT_any (c := k) (h.ss.below HV2.out.bel) hs
    clear HS2
    go_wp2_with fail
    refine HVA.out.mono ?_
    rintro e w3 ⟨rfl, hb3⟩
    have HV3 := Lib.hid (HV2.out.below hb3)
    clear hb3 HVA HV2 c0 c1 c2
    go_upto_region 4 with (refine (refuse_no 64 _).mono ?_; rintro e w' ⟨rfl, rfl⟩)
    have HS3 : Hid ((fun W : World => Bw W w.heap.size (tc t (.slice A 24 k)) 27 ∧ Bw W (w.heap.size + 1) (cc c (.slice B n d)) 42) w3.drew) := ⟨HV3.out.th, HV3.out.cl⟩
    have HV4 : Hid (DV w w3.drew t A k c (.slice B n d)) := ⟨HV3.out.bel.drew, HV3.out.th, HV3.out.cl, HV3.out.ra, HV3.out.rr⟩
    have HCO := Lib.hid (copyOf_any (w := w3.drew) (c := k) (h.ss.below HV4.out.bel) hs.dts)
    clear HV3
    refine wp_region_held_drew (S := (fun W : World => Bw W w.heap.size (tc t (.slice A 24 k)) 27 ∧ Bw W (w.heap.size + 1) (cc c (.slice B n d)) 42)) (by kernel_rfl) HS3.out (fun _ => ?_)
    change wpAnyH _ _ _ _ _ 11 (Array.replicate 11 false) _ _
    refine takeH (i := 0) 25 (.agg (tc t (.slice A 24 k)).toArray) rfl rfl (by kernel_rfl) (by kernel_rfl) (by kernel_rfl) (quitD (by decide) (by decide)) (.inl ⟨by rfl, fun W hW => by (exact load_Tb W _ rfl rfl hW.1)⟩) HS3.out ?_
    simp only [Act.put, List.setIfInBounds_toArray, List.set_cons_zero, List.set_cons_succ]
    refine takeH (i := 2) 27 (.agg (cc c (.slice B n d)).toArray) rfl rfl (by kernel_rfl) (by kernel_rfl) (by kernel_rfl) (quitD (by decide) (by decide)) (.inl ⟨by rfl, fun W hW => by (exact load_Cb W _ rfl rfl hW.2)⟩) HS3.out ?_
    simp only [Act.put, List.setIfInBounds_toArray, List.set_cons_zero, List.set_cons_succ]
    refine takeH (i := 3) 28 (.pointer (some ⟨w.heap.size + 1, 0, none⟩)) rfl rfl (by kernel_rfl) (by kernel_rfl) (by kernel_rfl) (quitD (by decide) (by decide)) (.inl ⟨by rfl, fun W hW => by go_simp⟩) HS3.out ?_
    simp only [Act.put, List.setIfInBounds_toArray, List.set_cons_zero, List.set_cons_succ]
    refine takeH (i := 4) 29 (.int .u32 (c.cli : Int)) rfl rfl (by kernel_rfl) (by kernel_rfl) (by kernel_rfl) (quitD (by decide) (by decide)) (.inl ⟨by rfl, fun W hW => by (have hz := Bw.cell hW.2 0 _ rfl; go_simp)⟩) HS3.out ?_
    simp only [Act.put, List.setIfInBounds_toArray, List.set_cons_zero, List.set_cons_succ]
    refine takeH (i := 5) 30 (.pointer (some ⟨w.heap.size + 1, 1, none⟩)) rfl rfl (by kernel_rfl) (by kernel_rfl) (by kernel_rfl) (quitD (by decide) (by decide)) (.inl ⟨by rfl, fun W hW => by go_simp⟩) HS3.out ?_
    simp only [Act.put, List.setIfInBounds_toArray, List.set_cons_zero, List.set_cons_succ]
    refine takeH (i := 6) 31 (.int .u32 (c.xid : Int)) rfl rfl (by kernel_rfl) (by kernel_rfl) (by kernel_rfl) (quitD (by decide) (by decide)) (.inl ⟨by rfl, fun W hW => by (have hz := Bw.cell hW.2 1 _ rfl; go_simp)⟩) HS3.out ?_
    simp only [Act.put, List.setIfInBounds_toArray, List.set_cons_zero, List.set_cons_succ]
    refine takeH (i := 7) 32 (.agg (rc (Op.rep0 c) (.slice none 0 0) (.slice none 0 0)).toArray) rfl rfl (by kernel_rfl) (by kernel_rfl) (by kernel_rfl) (quitD (by decide) (by decide)) (.inl ⟨by rfl, fun W hW => by (exact build_rep0 W c rfl rfl rfl)⟩) HS3.out ?_
    simp only [Act.put, List.setIfInBounds_toArray, List.set_cons_zero, List.set_cons_succ]
    refine wpAnyH_ready (rs := [1]) (by kernel_rfl) (by simp) ?_
    refine AllReadyH.cons rfl (fun K hK => ?_) AllReadyH.nil
    go_simp
    refine HCO.out.mono ?_
    rintro e w4 ⟨g, k1, sl, rfl, h1, h2, h3⟩
    have HV5 := Lib.hid (HV4.out.below h3)
    have HSX := Lib.hid h1
    have HB4 := Lib.hid h3
    have HS4 : Hid ((fun W : World => Bw W w.heap.size (tc t (.slice A 24 k)) 27 ∧ Bw W (w.heap.size + 1) (cc c (.slice B n d)) 42) w4) := ⟨HV5.out.th, HV5.out.cl⟩
    have HG4 : Hid (w3.drew.heap.size ≤ g ∧ w.heap.size + 4 ≤ w3.drew.heap.size) := ⟨h2, by have := HV4.out.rr.lt; omega⟩
    refine hK.out _ _ HS4.out fun _ => ?_
    clear hK K h1 h2 h3 HCO HS3
    refine takeH (i := 8) 33 (.agg (xc t g k1 c (.slice B n d) (Op.rep0 c) (.slice none 0 0) (.slice none 0 0)).toArray) rfl rfl (by kernel_rfl) (by kernel_rfl) (by kernel_rfl) (quitD (by decide) (by decide)) (.inl ⟨by rfl, fun W hW => by (exact build_run W t g k1 c _ rfl rfl rfl rfl)⟩) HS4.out ?_
    simp only [Act.put, List.setIfInBounds_toArray, List.set_cons_zero, List.set_cons_succ]
    refine wpAnyH_ready (rs := [9]) (by kernel_rfl) (by simp) ?_
    refine AllReadyH.cons rfl (fun K hK => ?_) AllReadyH.nil
    go_simp
    have HX5 : Hid (RX w3.drew (w4.alloc (.cells (xc t g k1 c (.slice B n d) (Op.rep0 c) (.slice none 0 0) (.slice none 0 0)).toArray 104)) w4.heap.size g k1 t sl c B n d (Op.rep0 c) none 0 0 none 0 0) :=
      ⟨HB4.out.trans ((alloc_below w4 _).mono HB4.out.size), ⟨HB4.out.size, HG4.out.1, fun e => by have := HSX.out.lt; omega⟩, heap_alloc_new w4 _, HSX.out.below (alloc_below w4 _), ⟨hb.below HV4.out.bel, hnd⟩⟩
    have HV6 := Lib.hid (HV5.out.below (alloc_below w4 (.cells (xc t g k1 c (.slice B n d) (Op.rep0 c) (.slice none 0 0) (.slice none 0 0)).toArray 104)))
    have HS5 : Hid ((fun W : World => Bw W w.heap.size (tc t (.slice A 24 k)) 27 ∧ Bw W (w.heap.size + 1) (cc c (.slice B n d)) 42) (w4.alloc (.cells (xc t g k1 c (.slice B n d) (Op.rep0 c) (.slice none 0 0) (.slice none 0 0)).toArray 104))) := ⟨HV6.out.th, HV6.out.cl⟩
    refine hK.out _ _ HS5.out fun _ => ?_
    clear hK K HS4 HSX HV5 HV6
    have hpp : w.heap.size + 4 ≤ w4.heap.size := by have := HB4.out.size; have := HG4.out.2; omega
    generalize w4.alloc (.cells (xc t g k1 c (.slice B n d) (Op.rep0 c) (.slice none 0 0) (.slice none 0 0)).toArray 104) = w5 at *
    generalize w4.heap.size = p at *
    refine takeH (i := 10) 8 (.pointer (some ⟨p, 0, none⟩)) rfl rfl (by kernel_rfl) (by kernel_rfl) (by kernel_rfl) (quitD (by decide) (by decide)) (.inl ⟨by rfl, fun W hW => by go_simp⟩) HS5.out ?_
    simp only [Act.put, List.setIfInBounds_toArray, List.set_cons_zero, List.set_cons_succ]
    refine wpAnyH_done (by kernel_rfl) ?_ _
    have HRUN := Lib.hid (run_any HX5.out hs hw hdl HIN.out.1 HIN.out.2)
    have HDE : Hid (∀ z, Op.run t c = .error z → Op.doT t c = t ∧ Op.doR t c = { Op.rep0 c with st := z }) := Op.do_err2 hs.inv.may HIN.out
    have HDO : Hid (∀ y, Op.run t c = .ok y → Op.doT t c = y.1 ∧ Op.doR t c = y.2) := Op.do_ok2 hs.inv.may HIN.out
    have eg := opF_enters c.op HIN.out.1 HIN.out.2
    generalize opF c.op = N at *
    clear HS5 HX5 HB4
    go_wp2_with fail
    go_at_fn N
    refine HRUN.out.mono ?_
    rintro e w6 hq
    have HQ := Lib.hid hq
    clear hq HRUN
    cases hR : Op.run t c with
    | error z =>
      rw [hR] at HQ
      obtain ⟨rfl, hb6⟩ := HQ.out
      exact door_err (HV4.out.below hb6) h.ss hs.dts rfl rfl (HDE.out z hR)
    | ok y =>
      rw [hR] at HQ
      obtain ⟨rfl, sl6, D6, m6, e6, E6, q6, f6, hx6, hm6⟩ := HQ.out
      have HX6 := Lib.hid hx6
      have HM6 := Lib.hid hm6
      have HV6 := Lib.hid (HV4.out.below hx6.bel)
      have HDD := Lib.hid (HDO.out y hR)
      clear hx6 hm6 HQ HDE HDO HV4 hR
      have hp0 : w.heap.size + 4 ≤ p := hpp
      have hg0 : w.heap.size + 4 ≤ g := by have := HG4.out.1; have := HG4.out.2; omega
      go_upto_region 6 with fail
      have HS6 : Hid ((fun W : World => Bw W p (xc y.1 g k1 c (.slice B n d) y.2 (.slice D6 m6 e6) (.slice E6 q6 f6)) 104) w6.drew) := HX6.out.run
      refine wp_region_held_drew (S := (fun W : World => Bw W p (xc y.1 g k1 c (.slice B n d) y.2 (.slice D6 m6 e6) (.slice E6 q6 f6)) 104)) (by kernel_rfl) HS6.out (fun _ => ?_)
      change wpAnyH _ _ _ _ _ 10 (Array.replicate 10 false) _ _
      refine takeH (i := 0) 38 (.pointer (some ⟨p, 0, none⟩)) rfl rfl (by kernel_rfl) (by kernel_rfl) (by kernel_rfl) (quitD (by decide) (by decide)) (.inl ⟨by rfl, fun W hW => by go_simp⟩) HS6.out ?_
      simp only [Act.put, List.setIfInBounds_toArray, List.set_cons_zero, List.set_cons_succ]
      refine takeH (i := 1) 39 (.pointer (some ⟨p, 0, none⟩)) rfl rfl (by kernel_rfl) (by kernel_rfl) (by kernel_rfl) (quitD (by decide) (by decide)) (.inl ⟨by rfl, fun W hW => by go_simp⟩) HS6.out ?_
      simp only [Act.put, List.setIfInBounds_toArray, List.set_cons_zero, List.set_cons_succ]
      refine takeH (i := 2) 40 (.pointer (some ⟨p, 0, none⟩)) rfl rfl (by kernel_rfl) (by kernel_rfl) (by kernel_rfl) (quitD (by decide) (by decide)) (.inl ⟨by rfl, fun W hW => by go_simp⟩) HS6.out ?_
      simp only [Act.put, List.setIfInBounds_toArray, List.set_cons_zero, List.set_cons_succ]
      refine takeH (i := 3) 41 (.agg (tc y.1 (.slice (some ⟨g, 0, none⟩) 24 k1)).toArray) rfl rfl (by kernel_rfl) (by kernel_rfl) (by kernel_rfl) (quitD (by decide) (by decide)) (.inl ⟨by rfl, fun W hW => by (exact load_xT W p rfl rfl hW)⟩) HS6.out ?_
      simp only [Act.put, List.setIfInBounds_toArray, List.set_cons_zero, List.set_cons_succ]
      refine takeH (i := 4) 42 (.pointer (some ⟨p, 0, none⟩)) rfl rfl (by kernel_rfl) (by kernel_rfl) (by kernel_rfl) (quitD (by decide) (by decide)) (.inl ⟨by rfl, fun W hW => by go_simp⟩) HS6.out ?_
      simp only [Act.put, List.setIfInBounds_toArray, List.set_cons_zero, List.set_cons_succ]
      refine takeH (i := 5) 43 (.pointer (some ⟨p, 0, none⟩)) rfl rfl (by kernel_rfl) (by kernel_rfl) (by kernel_rfl) (quitD (by decide) (by decide)) (.inl ⟨by rfl, fun W hW => by go_simp⟩) HS6.out ?_
      simp only [Act.put, List.setIfInBounds_toArray, List.set_cons_zero, List.set_cons_succ]
      refine takeH (i := 6) 44 (.pointer (some ⟨p, 17, none⟩)) rfl rfl (by kernel_rfl) (by kernel_rfl) (by kernel_rfl) (quitD (by decide) (by decide)) (.inl ⟨by rfl, fun W hW => by go_simp⟩) HS6.out ?_
      simp only [Act.put, List.setIfInBounds_toArray, List.set_cons_zero, List.set_cons_succ]
      refine takeH (i := 7) 45 (.agg (rc y.2 (.slice D6 m6 e6) (.slice E6 q6 f6)).toArray) rfl rfl (by kernel_rfl) (by kernel_rfl) (by kernel_rfl) (quitD (by decide) (by decide)) (.inl ⟨by rfl, fun W hW => by (exact load_xR W p rfl rfl hW)⟩) HS6.out ?_
      simp only [Act.put, List.setIfInBounds_toArray, List.set_cons_zero, List.set_cons_succ]
      have HV7 : Hid (DV w w6.drew t A k c (.slice B n d)) := ⟨HV6.out.bel.drew, HV6.out.th, HV6.out.cl, HV6.out.ra, HV6.out.rr⟩
      have HSX7 : Hid (SX w6.drew g k1 y.1.s sl6) := HX6.out.drew.sx
      have HM7 : Hid (RM w6.drew D6 m6 e6 E6 q6 f6 y.2) := HM6.out.below (Below.refl _ w6).drew
      clear HX6 HM6 HV6
      generalize w6.drew = w7 at *
      refine wpAnyH_ready (rs := [8]) (by kernel_rfl) (by simp) ?_
      refine AllReadyH.cons rfl (fun K hK => ?_) AllReadyH.nil
      refine store_wp (P := Tryz.prog) 27 (.tmp 4) (.tmp 41) rfl (w.heap.size + 2) (tc y.1 (.slice (some ⟨g, 0, none⟩) 24 k1)) rfl rfl 27 _ HV7.out.ra size_Th rfl (fun v hv => by simp only [tc, List.mem_cons, List.not_mem_nil, or_false] at hv; rcases hv with rfl | rfl | rfl <;> rfl) ?_
      intro w8 hb8 hs8 hk8
      have HS8 : Hid ((fun W : World => Bw W p (xc y.1 g k1 c (.slice B n d) y.2 (.slice D6 m6 e6) (.slice E6 q6 f6)) 104) w8) := Bw.keep HS6.out hk8 (by omega)
      refine hK.out _ _ HS8.out fun _ => ?_
      clear hK K
      refine wpAnyH_ready (rs := [9]) (by kernel_rfl) (by simp) ?_
      refine AllReadyH.cons rfl (fun K hK => ?_) AllReadyH.nil
      have hr8 := HV7.out.rr.keep hk8 (by omega)
      refine store_wp (P := Tryz.prog) 49 (.tmp 5) (.tmp 45) rfl (w.heap.size + 3) (rc y.2 (.slice D6 m6 e6) (.slice E6 q6 f6)) rfl rfl 49 _ hr8 size_Rp rfl (fun v hv => by simp only [rc, List.mem_cons, List.not_mem_nil, or_false] at hv; rcases hv with rfl | rfl | rfl | rfl | rfl | rfl | rfl | rfl | rfl | rfl | rfl | rfl | rfl | rfl | rfl <;> rfl) ?_
      intro w9 hb9 hs9 hk9
      have HS9 : Hid ((fun W : World => Bw W p (xc y.1 g k1 c (.slice B n d) y.2 (.slice D6 m6 e6) (.slice E6 q6 f6)) 104) w9) := Bw.keep HS8.out hk9 (by omega)
      refine hK.out _ _ HS9.out fun _ => ?_
      clear hK K
      refine wpAnyH_done (by kernel_rfl) ?_ _
      have HOUT := Lib.hid (stored HV7.out HSX7.out HM7.out hg0 hk8 hk9)
      have HB9 := Lib.hid (hb8.keep hk9 (by omega))
      have HR9 := Lib.hid hb9
      clear hb8 hs8 hk8 hb9 hs9 hk9 hr8 HS6 HS8 HS9 HV7 HSX7 HM7
      go_wp2_with fail
      exact door_ok (by rfl) (by rfl) HB9.out HR9.out HOUT.out.1 HOUT.out.2.1 HOUT.out.2.2 HDD.out
end Go.Proofs.YtpbpdnjlomhkdaaGreat
