/-
  Blocks known whole, parts of them that are stored and loaded, and package call's putHandle, putAttr, getHandle, getAttr (layer 9).
-/
import Derived.Test.YtobhmjokoicpoaaDoorKMem
import Derived.Test.YtobhmjokoicpoaaDoorReader2
namespace Go.Proofs.YtobhmjokoicpoaaDoor
open Go.RowKit

/-- A block known whole. -/
def Bw (w : World) (g : Nat) (cs : List Value) (t : TypeId) : Prop := w.heap[g]? = some (.cells cs.toArray t (0, 0))
section
variable {w w' : World} {g : Nat} {cs : List Value} {t : TypeId}
theorem Bw.lt (h : Bw w g cs t) : g < w.heap.size := (Array.getElem?_eq_some_iff.1 h).1
theorem Bw.froz (h : Bw w g cs t) (o : Nat) : w.frozen? ⟨g, o, none⟩ = false := by unfold Bw at h; simp [World.frozen?, h]
theorem Bw.grown {row : Option Nat} (h : Bw w g cs t) (hg : w.grownBy w' row) (hr : row ≠ some g) : Bw w' g cs t := (hg.block g h.lt (fun e => hr e.symm)).trans h
theorem Bw.below (h : Bw w g cs t) (hb : Below w.heap.size w w') : Bw w' g cs t := (hb.block g h.lt).trans h
theorem Bw.keep {K : Nat → Prop} (h : Bw w g cs t) (hb : Keep K w w') (hk : K g) : Bw w' g cs t := (hb.block g hk).trans h
theorem Bw.cell (h : Bw w g cs t) (o : Nat) (v : Value) (hv : cs[o]? = some v) : w.cell? ⟨g, o, none⟩ = some v := by
  rw [cell_of_row w g o _ _ (0, 0) h]
  simpa using hv
/-- Some cells of it, as a load asks for them. -/
theorem Bw.part (h : Bw w g cs t) (k : Nat) (l : List Value) (hl : ∀ j u, l[j]? = some u → cs[k + j]? = some u) : ∀ j u, l[j]? = some u → w.cell? ((⟨g, k, none⟩ : Addr).add j) = some u := fun j u hu => by
  rw [add_plain]
  exact h.cell _ _ (hl j u hu)
end
section
variable {P : Program} {o : Oper} {a : Act} {w : World} {ops : Array Oper} {rest : List Oper} {Q : Exit → Act → World → Prop}
theorem wpList_store_part (hgd : o.guard = none) (ty : TypeId) (x y : Operand) (ho : o.op = .store ty x y) (g k : Nat) (vs : List Value) (hx : a.eval x = .pointer (some ⟨g, k, none⟩)) (hy : a.eval y = .agg vs.toArray)
    (t : TypeId) (cs : List Value) (hg : Bw w g cs t) (hi : (P.info? ty).map (·.size) = some vs.length) (hfit : k + vs.length ≤ cs.length) (h1 : ∀ v ∈ vs, v.oneCell' = true)
    (h : ∀ w', Bw w' g (cs.take k ++ vs ++ cs.drop (k + vs.length)) t → w'.heap.size = w.heap.size → Keep (· ≠ g) w w' → wpList P ops Q rest (a.put o.dst undef) w') : wpList P ops Q (o :: rest) a w := by
  have hr := run_storeCells_at P g k t vs 0 cs.toArray w hg (by simpa using hfit) h1
  simp only [Nat.add_zero] at hr
  refine Did.list hgd (v := undef) (w' := w.setRow g (cs.take k ++ vs ++ cs.drop (k + vs.length)).toArray) (.inr ⟨?_, rfl⟩) (h _ (setRow_heap w g _ _ t _ hg) (by simp) (setRow_keep g _))
  cases hq : P.info? ty with
  | none => simp [hq] at hi
  | some i =>
    have hs : vs.length = i.size := by simp [hq] at hi; omega
    have hsv : (storeVar ty ⟨g, k, none⟩ (.agg vs.toArray)).run P w = .ok () (w.setRow g (cs.take k ++ vs ++ cs.drop (k + vs.length)).toArray) := by
      simp [storeVar, sizeOf, typeInfo, hq, Value.cells, hs.symm, hr]
    unfold execOp
    simp only [ho, hx, hy, Instr.storeAt, Instr.sureAddr, Sem.run_bind, Sem.run_pure, Result.andThen_ok, hsv]
theorem wpList_store_cell (hgd : o.guard = none) (ty : TypeId) (x y : Operand) (ho : o.op = .store ty x y) (g k : Nat) (v : Value) (hx : a.eval x = .pointer (some ⟨g, k, none⟩)) (hy : a.eval y = v)
    (t : TypeId) (cs : List Value) (hg : Bw w g cs t) (hi : (P.info? ty).map (·.size) = some 1) (hv : v.cells = #[v]) (hfit : k < cs.length) (h1 : v.oneCell' = true)
    (h : ∀ w', Bw w' g (cs.take k ++ [v] ++ cs.drop (k + 1)) t → w'.heap.size = w.heap.size → Keep (· ≠ g) w w' → wpList P ops Q rest (a.put o.dst undef) w') : wpList P ops Q (o :: rest) a w := by
  have hr := run_storeCells_at P g k t [v] 0 cs.toArray w hg (by simp; omega) (by simpa using h1)
  simp only [Nat.add_zero, List.length_singleton] at hr
  refine Did.list hgd (v := undef) (w' := w.setRow g (cs.take k ++ [v] ++ cs.drop (k + 1)).toArray) (.inr ⟨?_, rfl⟩) (h _ (setRow_heap w g _ _ t _ hg) (by simp) (setRow_keep g _))
  cases hq : P.info? ty with
  | none => simp [hq] at hi
  | some i =>
    have hs : 1 = i.size := by simp [hq] at hi; omega
    have hsv : (storeVar ty ⟨g, k, none⟩ v).run P w = .ok () (w.setRow g (cs.take k ++ [v] ++ cs.drop (k + 1)).toArray) := by
      simpa [storeVar, sizeOf, typeInfo, hq, hv, hs.symm] using hr
    unfold execOp
    simp only [ho, hx, hy, Instr.storeAt, Instr.sureAddr, Sem.run_bind, Sem.run_pure, Result.andThen_ok, hsv]
/-- A struct or an array out of a part of a block. -/
theorem wpList_load_part (hgd : o.guard = none) (ty : TypeId) (x : Operand) (ho : o.op = .load ty x) (g k : Nat) (hx : a.eval x = .pointer (some ⟨g, k, none⟩)) (d : TypeDesc) (hu : P.underlying ty = some d)
    (hd : (match d with | .struct _ | .array _ _ => true | _ => false) = true) (l : List Value) (t : TypeId) (cs : List Value) (hg : Bw w g cs t) (hi : (P.info? ty).map (·.size) = some l.length) (hl : ∀ j u, l[j]? = some u → cs[k + j]? = some u)
    (h : wpList P ops Q rest (a.put o.dst (.agg l.toArray)) w) : wpList P ops Q (o :: rest) a w :=
  Did.list hgd (did_load ty x ho ⟨g, k, none⟩ hx d hu hd l hi (hg.part k l hl)) h
end
/-- A change of one block, known whole before. -/
theorem grown_keep {w w' : World} {g : Nat} (h : Keep (· ≠ g) w w') : w.grownBy w' (some g) := ⟨h.os, h.tape, h.output, h.size, fun k _ hk => h.block k (fun e => hk (by rw [e]))⟩

/-- The result that lies in a block of its own, and a number. -/
theorem results_cell {t : TypeId} {fs : Array Field} {cs : List Value} {fn : Func} {p q : Tmp} (h : fn.results = #[.cell p t, .tmp q]) (tmps : Array Value) (w : World) (g : Nat) (v : Value) (hg : Bw w g cs t) (hi : (Tryd.prog.info? t).map (·.size) = some cs.length)
    (hp : tmps.getD p undef = .pointer (some ⟨g, 0, none⟩)) (hq : tmps.getD q undef = v) (hu : Tryd.prog.underlying t = some (.struct fs)) : (results fn tmps).run Tryd.prog w = .ok (.tuple #[.agg cs.toArray, v]) w := by
  have hp' : tmps[p]?.getD undef = .pointer (some ⟨g, 0, none⟩) := by simpa using hp
  have hq' : tmps[q]?.getD undef = v := by simpa using hq
  have hl := run_loadVar_row (P := Tryd.prog) w g t t cs.toArray (0, 0) _ hg hu rfl (by simpa using hi)
  simp [results, h, hp', hq', asAddr, hl]
/-- The result that lies in a block of its own, alone. -/
theorem results_one {t : TypeId} {fs : Array Field} {cs : List Value} {fn : Func} {p : Tmp} (h : fn.results = #[.cell p t]) (tmps : Array Value) (w : World) (g : Nat) (hg : Bw w g cs t) (hi : (Tryd.prog.info? t).map (·.size) = some cs.length)
    (hp : tmps.getD p undef = .pointer (some ⟨g, 0, none⟩)) (hu : Tryd.prog.underlying t = some (.struct fs)) : (results fn tmps).run Tryd.prog w = .ok (.agg cs.toArray) w := by
  have hp' : tmps[p]?.getD undef = .pointer (some ⟨g, 0, none⟩) := by simpa using hp
  have hl := run_loadVar_row (P := Tryd.prog) w g t t cs.toArray (0, 0) _ hg hu rfl (by simpa using hi)
  simp [results, h, hp', asAddr, hl]

/-- The cells of a handle, of attributes. -/
def hc (a b : Nat) : List Value := [.int .u32 (a : Int), .int .u32 (b : Int)]
def ac (k m l s c : Nat) : List Value := [.int .u32 (k : Int), .int .u32 (m : Int), .int .u32 (l : Int), .int .u32 (s : Int), .int .u64 (c : Int)]
theorem size_H : (Tryd.prog.info? 24).map (·.size) = some 2 := by kernel_rfl
theorem size_At : (Tryd.prog.info? 45).map (·.size) = some 5 := by kernel_rfl
theorem zero_H : (Tryd.prog.info? 24).bind (·.zero) = some (.agg (hc 0 0).toArray) := by kernel_rfl
theorem zero_At : (Tryd.prog.info? 45).bind (·.zero) = some (.agg (ac 0 0 0 0 0).toArray) := by kernel_rfl
theorem hc_one (a b : Nat) : ∀ v ∈ hc a b, v.oneCell' = true := by
  intro v hv
  simp only [hc, List.mem_cons, List.not_mem_nil, or_false] at hv
  rcases hv with rfl | rfl <;> rfl
theorem ac_one (k m l s c : Nat) : ∀ v ∈ ac k m l s c, v.oneCell' = true := by
  intro v hv
  simp only [ac, List.mem_cons, List.not_mem_nil, or_false] at hv
  rcases hv with rfl | rfl | rfl | rfl | rfl <;> rfl

set_option maxRecDepth 100000 in
set_option maxHeartbeats 1000000 in
theorem putHandle_any (K : Nat → Prop) (w : World) (p : Nat) (l : List UInt8) (a b : Nat) (h : Wr K w p l) (hl : l.length ≤ 10000000) :
    Calls Tryd.prog 26 #[.pointer (some ⟨p, 0, none⟩), .agg (hc a b).toArray] w fun e w' => e = .returned (.tuple #[]) ∧ Wr K w' p (l ++ (be 4 a ++ be 4 b)) ∧ Keep K w w' := by
  have HR := Lib.hid h
  clear h
  go_enter Tryd.func26, Tryd.ntmps26
  go_upto_region 1 with fail
  have HB0 : Hid (Bw (w.alloc (.cells (hc a b).toArray 24)) w.heap.size (hc a b) 24) := heap_alloc_new w _
  have HR0 := Lib.hid (HR.out.add (.cells (hc a b).toArray 24))
  have HK0 : Hid (Keep K w (w.alloc (.cells (hc a b).toArray 24))) := (Keep.refl K w).alloc HR.out.ks _
  clear HR
  generalize w.alloc (.cells (hc a b).toArray 24) = w0 at *
  generalize w.heap.size = b0 at *
  have c0 := HB0.out.cell 0 _ rfl
  go_wp2_with fail
  refine (u32w _ _ p _ _ (by omega) HR0.out (by (try simp only [List.length_append, be_length]); omega)).mono ?_
  rintro e w1 ⟨rfl, hwr, hkp⟩
  have HR1 := Lib.hid hwr
  have HB1 := Lib.hid (HB0.out.keep hkp (.inr rfl))
  have HK1 := Lib.hid (HK0.out.trans (hkp.mono fun k hk => .inl hk))
  clear hwr hkp HR0 HK0 HB0 c0
  have c1 := HB1.out.cell 1 _ rfl
  go_wp2_with fail
  refine (u32w _ _ p _ _ (by omega) HR1.out (by (try simp only [List.length_append, be_length]); omega)).mono ?_
  rintro e w2 ⟨rfl, hwr, hkp⟩
  have HR2 := Lib.hid hwr
  have HK2 := Lib.hid (HK1.out.trans (hkp.mono fun k hk => .inl hk))
  clear hwr hkp HR1 HK1 HB1 c1
  go_wp2_with fail
  go_end0
  refine ⟨rfl, ?_, HK2.out⟩
  have hx := HR2.out.less (fun k hk => Or.inl hk)
  simpa using hx

set_option maxRecDepth 100000 in
set_option maxHeartbeats 1000000 in
theorem putAttr_any (K : Nat → Prop) (w : World) (p : Nat) (l : List UInt8) (k m ln s c : Nat) (h : Wr K w p l) (hl : l.length ≤ 10000000) :
    Calls Tryd.prog 45 #[.pointer (some ⟨p, 0, none⟩), .agg (ac k m ln s c).toArray] w fun e w' => e = .returned (.tuple #[]) ∧ Wr K w' p (l ++ (be 4 k ++ (be 4 m ++ (be 4 ln ++ (be 4 s ++ be 8 c))))) ∧ Keep K w w' := by
  have HR := Lib.hid h
  clear h
  go_enter Tryd.func45, Tryd.ntmps45
  go_upto_region 1 with fail
  have HB0 : Hid (Bw (w.alloc (.cells (ac k m ln s c).toArray 45)) w.heap.size (ac k m ln s c) 45) := heap_alloc_new w _
  have HR0 := Lib.hid (HR.out.add (.cells (ac k m ln s c).toArray 45))
  have HK0 : Hid (Keep K w (w.alloc (.cells (ac k m ln s c).toArray 45))) := (Keep.refl K w).alloc HR.out.ks _
  clear HR
  generalize w.alloc (.cells (ac k m ln s c).toArray 45) = w0 at *
  generalize w.heap.size = b0 at *
  have c0 := HB0.out.cell 0 _ rfl
  go_wp2_with fail
  refine (u32w _ _ p _ _ (by omega) HR0.out (by (try simp only [List.length_append, be_length]); omega)).mono ?_
  rintro e w1 ⟨rfl, hwr, hkp⟩
  have HR1 := Lib.hid hwr
  have HB1 := Lib.hid (HB0.out.keep hkp (.inr rfl))
  have HK1 := Lib.hid (HK0.out.trans (hkp.mono fun k hk => .inl hk))
  clear hwr hkp HR0 HK0 HB0 c0
  have c1 := HB1.out.cell 1 _ rfl
  go_wp2_with fail
  refine (u32w _ _ p _ _ (by omega) HR1.out (by (try simp only [List.length_append, be_length]); omega)).mono ?_
  rintro e w2 ⟨rfl, hwr, hkp⟩
  have HR2 := Lib.hid hwr
  have HB2 := Lib.hid (HB1.out.keep hkp (.inr rfl))
  have HK2 := Lib.hid (HK1.out.trans (hkp.mono fun k hk => .inl hk))
  clear hwr hkp HR1 HK1 HB1 c1
  have c2 := HB2.out.cell 2 _ rfl
  go_wp2_with fail
  refine (u32w _ _ p _ _ (by omega) HR2.out (by (try simp only [List.length_append, be_length]); omega)).mono ?_
  rintro e w3 ⟨rfl, hwr, hkp⟩
  have HR3 := Lib.hid hwr
  have HB3 := Lib.hid (HB2.out.keep hkp (.inr rfl))
  have HK3 := Lib.hid (HK2.out.trans (hkp.mono fun k hk => .inl hk))
  clear hwr hkp HR2 HK2 HB2 c2
  have c3 := HB3.out.cell 3 _ rfl
  go_wp2_with fail
  refine (u32w _ _ p _ _ (by omega) HR3.out (by (try simp only [List.length_append, be_length]); omega)).mono ?_
  rintro e w4 ⟨rfl, hwr, hkp⟩
  have HR4 := Lib.hid hwr
  have HB4 := Lib.hid (HB3.out.keep hkp (.inr rfl))
  have HK4 := Lib.hid (HK3.out.trans (hkp.mono fun k hk => .inl hk))
  clear hwr hkp HR3 HK3 HB3 c3
  have c4 := HB4.out.cell 4 _ rfl
  go_wp2_with fail
  refine (u64w _ _ p _ _ (by omega) HR4.out (by (try simp only [List.length_append, be_length]); omega)).mono ?_
  rintro e w5 ⟨rfl, hwr, hkp⟩
  have HR5 := Lib.hid hwr
  have HK5 := Lib.hid (HK4.out.trans (hkp.mono fun k hk => .inl hk))
  clear hwr hkp HR4 HK4 HB4 c4
  go_wp2_with fail
  go_end0
  refine ⟨rfl, ?_, HK5.out⟩
  have hx := HR5.out.less (fun k hk => Or.inl hk)
  simpa using hx

/-- While a handle or attributes are read: the result's block r, the variable's block g, the Reader. -/
structure GS (w : World) (q r g : Nat) (t : TypeId) (z cs : List Value) (s : St) (W : World) : Prop where
  rd : Rd W q s.1 s.2
  res : Bw W r z t
  var : Bw W g cs t
  but : w.grownBy W (some q)
  lr : w.heap.size ≤ r
  lg : w.heap.size ≤ g
  rg : r ≠ g
  qr : q ≠ r
  qg : q ≠ g
  nt : t ≠ 5
theorem Bw.ne_rd {w : World} {q g : Nat} {l : List UInt8} {e : Int} {cs : List Value} {t : TypeId} (h : Bw w g cs t) (hr : Rd w q l e) (ht : t ≠ 117) : q ≠ g := by
  rintro rfl
  obtain ⟨A, c, h1, _⟩ := hr
  unfold Bw at h
  rw [h] at h1
  injection h1 with h1
  injection h1 with _ h1 _
  exact ht h1
section
variable {w W W' : World} {q r g : Nat} {t : TypeId} {z cs cs' : List Value} {s s' : St}
theorem GS.read (h : GS w q r g t z cs s W) (hr : Rd W' q s'.1 s'.2) (hg : W.grownBy W' (some q)) : GS w q r g t z cs s' W' :=
  ⟨hr, h.res.grown hg (fun e => h.qr (by injection e)), h.var.grown hg (fun e => h.qg (by injection e)),
    ⟨hg.os.trans h.but.os, hg.tape.trans h.but.tape, hg.output.trans h.but.output, Nat.le_trans h.but.size hg.size, fun k hk hn => (hg.block k (Nat.lt_of_lt_of_le hk h.but.size) hn).trans (h.but.block k hk hn)⟩, h.lr, h.lg, h.rg, h.qr, h.qg, h.nt⟩
theorem GS.set (h : GS w q r g t z cs s W) (hb : Bw W' g cs' t) (hs : W'.heap.size = W.heap.size) (hk : Keep (· ≠ g) W W') : GS w q r g t z cs' s W' := by
  have lg := h.lg
  exact ⟨h.rd.off h.var h.nt h.qg (fun k _ hn => hk.block k hn), h.res.keep hk h.rg, hb,
    ⟨hk.os.trans h.but.os, hk.tape.trans h.but.tape, hk.output.trans h.but.output, by rw [hs]; exact h.but.size, fun k hk1 hn => (hk.block k (by omega)).trans (h.but.block k hk1 hn)⟩, h.lr, h.lg, h.rg, h.qr, h.qg, h.nt⟩
theorem GS.start (h : Rd w q s.1 s.2) (h1 : W.heap[w.heap.size]? = some (.cells z.toArray t (0, 0))) (s1 : W.heap.size = w.heap.size + 1) (b1 : Below w.heap.size w W)
    (h2 : W'.heap[W.heap.size]? = some (.cells z.toArray t (0, 0))) (b2 : Below W.heap.size W W') (hn : t ≠ 5) : GS w q w.heap.size W.heap.size t z z s W' := by
  have hq := h.lt
  have hb := b1.trans (b2.mono (by omega))
  exact ⟨h.kept hb, (b2.block _ (by omega)).trans h1, h2, ⟨hb.os, hb.tape, hb.output, hb.size, fun k hk _ => hb.block k hk⟩, Nat.le_refl _, by omega, by omega, by omega, by omega, hn⟩
end

set_option maxRecDepth 100000 in
set_option maxHeartbeats 1000000 in
theorem getHandle_any (w : World) (q : Nat) (s : St) (h : Rd w q s.1 s.2) :
    Calls Tryd.prog 35 #[.pointer (some ⟨q, 0, none⟩)] w (RdPost w q (.agg (hc (cH.rd s).2.1 (cH.rd s).2.2).toArray) (cH.rd s).1) := by
  have HR := Lib.hid h
  clear h
  go_enter Tryd.func35, Tryd.ntmps35
  go_upto_region 1 with (refine wpList_alloc_any rfl 24 rfl _ zero_H ?_; intro w1 hb1 hs1 hw1)
  go_upto_region 2 with (refine wpList_alloc_any rfl 24 rfl _ zero_H ?_; intro w2 hb2 hs2 hw2)
  have H0 : Hid (GS w q w.heap.size w1.heap.size 24 (hc 0 0) (hc 0 0) s w2) := GS.start HR.out hb1 hs1 hw1 hb2 hw2 (by decide)
  clear hb1 hs1 hw1 hb2 hs2 hw2 HR
  go_wp2_with fail
  refine (u32r _ q _ _ H0.out.rd).mono ?_
  rintro e v0 ⟨rfl, hr, hgr⟩
  have H1 := Lib.hid (H0.out.read (s' := (rdN 4 s).1) hr hgr)
  clear hr hgr H0
  go_upto_region 3 with (refine wpList_store_cell rfl 22 (.tmp 6) (.tmp 5) rfl _ 0 (.int .u32 ((rdN 4 s).2 : Int)) rfl rfl 24 _ H1.out.var (by kernel_rfl) rfl (by simp [hc]) rfl ?_; intro x0 hb hs hk)
  have H2 : Hid (GS w q w.heap.size w1.heap.size 24 (hc 0 0) (hc (rdN 4 s).2 0) (rdN 4 s).1 x0) := H1.out.set hb hs hk
  clear hb hs hk H1
  go_wp2_with fail
  refine (u32r _ q _ _ H2.out.rd).mono ?_
  rintro e v1 ⟨rfl, hr, hgr⟩
  have H3 := Lib.hid (H2.out.read (s' := (rdN 4 (rdN 4 s).1).1) hr hgr)
  clear hr hgr H2
  go_upto_region 4 with (refine wpList_store_cell rfl 22 (.tmp 9) (.tmp 8) rfl _ 1 (.int .u32 ((rdN 4 (rdN 4 s).1).2 : Int)) rfl rfl 24 _ H3.out.var (by kernel_rfl) rfl (by simp [hc]) rfl ?_; intro x1 hb hs hk)
  have H4 : Hid (GS w q w.heap.size w1.heap.size 24 (hc 0 0) (hc (rdN 4 s).2 (rdN 4 (rdN 4 s).1).2) (rdN 4 (rdN 4 s).1).1 x1) := H3.out.set hb hs hk
  clear hb hs hk H3
  go_wp2_with (first
    | (refine wpList_load_part rfl 24 (.tmp 3) rfl _ 0 rfl _ Tryd.underlying24 rfl (hc (rdN 4 s).2 (rdN 4 (rdN 4 s).1).2) 24 _ H4.out.var size_H (fun j u hu => by rw [Nat.zero_add]; exact hu) ?_)
    | (refine wpList_store_part rfl 24 (.tmp 2) (.tmp 10) rfl w.heap.size 0 (hc (rdN 4 s).2 (rdN 4 (rdN 4 s).1).2) rfl rfl 24 _ H4.out.res size_H (by simp [hc]) (hc_one _ _) ?_
       intro y hb hs hk
       have HB := Lib.hid hb
       have HK := Lib.hid hk
       have HS := Lib.hid hs
       clear hb hs hk))
  have hl := H4.out.lr
  exact bodyPost_ret (results_one rfl _ y w.heap.size HB.out size_H (by rfl) Tryd.underlying24) rfl ⟨rfl, H4.out.rd.off H4.out.res (by decide) H4.out.qr (fun k _ hn => HK.out.block k hn), ⟨HK.out.os.trans H4.out.but.os, HK.out.tape.trans H4.out.but.tape, HK.out.output.trans H4.out.but.output, by rw [HS.out]; exact H4.out.but.size, fun k hk1 hn => (HK.out.block k (by omega)).trans (H4.out.but.block k hk1 hn)⟩⟩

set_option maxRecDepth 100000 in
set_option maxHeartbeats 1000000 in
theorem getAttr_any (w : World) (q : Nat) (s : St) (h : Rd w q s.1 s.2) :
    Calls Tryd.prog 50 #[.pointer (some ⟨q, 0, none⟩)] w (RdPost w q (.agg (ac (cA.rd s).2.1 (cA.rd s).2.2.1 (cA.rd s).2.2.2.1 (cA.rd s).2.2.2.2.1 (cA.rd s).2.2.2.2.2).toArray) (cA.rd s).1) := by
  have HR := Lib.hid h
  clear h
  go_enter Tryd.func50, Tryd.ntmps50
  go_upto_region 1 with (refine wpList_alloc_any rfl 45 rfl _ zero_At ?_; intro w1 hb1 hs1 hw1)
  go_upto_region 2 with (refine wpList_alloc_any rfl 45 rfl _ zero_At ?_; intro w2 hb2 hs2 hw2)
  have H0 : Hid (GS w q w.heap.size w1.heap.size 45 (ac 0 0 0 0 0) (ac 0 0 0 0 0) s w2) := GS.start HR.out hb1 hs1 hw1 hb2 hw2 (by decide)
  clear hb1 hs1 hw1 hb2 hs2 hw2 HR
  go_wp2_with fail
  refine (u32r _ q _ _ H0.out.rd).mono ?_
  rintro e v0 ⟨rfl, hr, hgr⟩
  have H1 := Lib.hid (H0.out.read (s' := (rdN 4 s).1) hr hgr)
  clear hr hgr H0
  go_upto_region 3 with (refine wpList_store_cell rfl 22 (.tmp 6) (.tmp 5) rfl _ 0 (.int .u32 ((rdN 4 s).2 : Int)) rfl rfl 45 _ H1.out.var (by kernel_rfl) rfl (by simp [ac]) rfl ?_; intro x0 hb hs hk)
  have H2 : Hid (GS w q w.heap.size w1.heap.size 45 (ac 0 0 0 0 0) (ac (rdN 4 s).2 0 0 0 0) (rdN 4 s).1 x0) := H1.out.set hb hs hk
  clear hb hs hk H1
  go_wp2_with fail
  refine (u32r _ q _ _ H2.out.rd).mono ?_
  rintro e v1 ⟨rfl, hr, hgr⟩
  have H3 := Lib.hid (H2.out.read (s' := (rdN 4 (rdN 4 s).1).1) hr hgr)
  clear hr hgr H2
  go_upto_region 4 with (refine wpList_store_cell rfl 22 (.tmp 9) (.tmp 8) rfl _ 1 (.int .u32 ((rdN 4 (rdN 4 s).1).2 : Int)) rfl rfl 45 _ H3.out.var (by kernel_rfl) rfl (by simp [ac]) rfl ?_; intro x1 hb hs hk)
  have H4 : Hid (GS w q w.heap.size w1.heap.size 45 (ac 0 0 0 0 0) (ac (rdN 4 s).2 (rdN 4 (rdN 4 s).1).2 0 0 0) (rdN 4 (rdN 4 s).1).1 x1) := H3.out.set hb hs hk
  clear hb hs hk H3
  go_wp2_with fail
  refine (u32r _ q _ _ H4.out.rd).mono ?_
  rintro e v2 ⟨rfl, hr, hgr⟩
  have H5 := Lib.hid (H4.out.read (s' := (rdN 4 (rdN 4 (rdN 4 s).1).1).1) hr hgr)
  clear hr hgr H4
  go_upto_region 5 with (refine wpList_store_cell rfl 22 (.tmp 12) (.tmp 11) rfl _ 2 (.int .u32 ((rdN 4 (rdN 4 (rdN 4 s).1).1).2 : Int)) rfl rfl 45 _ H5.out.var (by kernel_rfl) rfl (by simp [ac]) rfl ?_; intro x2 hb hs hk)
  have H6 : Hid (GS w q w.heap.size w1.heap.size 45 (ac 0 0 0 0 0) (ac (rdN 4 s).2 (rdN 4 (rdN 4 s).1).2 (rdN 4 (rdN 4 (rdN 4 s).1).1).2 0 0) (rdN 4 (rdN 4 (rdN 4 s).1).1).1 x2) := H5.out.set hb hs hk
  clear hb hs hk H5
  go_wp2_with fail
  refine (u32r _ q _ _ H6.out.rd).mono ?_
  rintro e v3 ⟨rfl, hr, hgr⟩
  have H7 := Lib.hid (H6.out.read (s' := (rdN 4 (rdN 4 (rdN 4 (rdN 4 s).1).1).1).1) hr hgr)
  clear hr hgr H6
  go_upto_region 6 with (refine wpList_store_cell rfl 22 (.tmp 15) (.tmp 14) rfl _ 3 (.int .u32 ((rdN 4 (rdN 4 (rdN 4 (rdN 4 s).1).1).1).2 : Int)) rfl rfl 45 _ H7.out.var (by kernel_rfl) rfl (by simp [ac]) rfl ?_; intro x3 hb hs hk)
  have H8 : Hid (GS w q w.heap.size w1.heap.size 45 (ac 0 0 0 0 0) (ac (rdN 4 s).2 (rdN 4 (rdN 4 s).1).2 (rdN 4 (rdN 4 (rdN 4 s).1).1).2 (rdN 4 (rdN 4 (rdN 4 (rdN 4 s).1).1).1).2 0) (rdN 4 (rdN 4 (rdN 4 (rdN 4 s).1).1).1).1 x3) := H7.out.set hb hs hk
  clear hb hs hk H7
  go_wp2_with fail
  refine (u64r _ q _ _ H8.out.rd).mono ?_
  rintro e v4 ⟨rfl, hr, hgr⟩
  have H9 := Lib.hid (H8.out.read (s' := (rdN 8 (rdN 4 (rdN 4 (rdN 4 (rdN 4 s).1).1).1).1).1) hr hgr)
  clear hr hgr H8
  go_upto_region 7 with (refine wpList_store_cell rfl 25 (.tmp 18) (.tmp 17) rfl _ 4 (.int .u64 ((rdN 8 (rdN 4 (rdN 4 (rdN 4 (rdN 4 s).1).1).1).1).2 : Int)) rfl rfl 45 _ H9.out.var (by kernel_rfl) rfl (by simp [ac]) rfl ?_; intro x4 hb hs hk)
  have H10 : Hid (GS w q w.heap.size w1.heap.size 45 (ac 0 0 0 0 0) (ac (rdN 4 s).2 (rdN 4 (rdN 4 s).1).2 (rdN 4 (rdN 4 (rdN 4 s).1).1).2 (rdN 4 (rdN 4 (rdN 4 (rdN 4 s).1).1).1).2 (rdN 8 (rdN 4 (rdN 4 (rdN 4 (rdN 4 s).1).1).1).1).2) (rdN 8 (rdN 4 (rdN 4 (rdN 4 (rdN 4 s).1).1).1).1).1 x4) := H9.out.set hb hs hk
  clear hb hs hk H9
  go_wp2_with (first
    | (refine wpList_load_part rfl 45 (.tmp 3) rfl _ 0 rfl _ Tryd.underlying45 rfl (ac (rdN 4 s).2 (rdN 4 (rdN 4 s).1).2 (rdN 4 (rdN 4 (rdN 4 s).1).1).2 (rdN 4 (rdN 4 (rdN 4 (rdN 4 s).1).1).1).2 (rdN 8 (rdN 4 (rdN 4 (rdN 4 (rdN 4 s).1).1).1).1).2) 45 _ H10.out.var size_At (fun j u hu => by rw [Nat.zero_add]; exact hu) ?_)
    | (refine wpList_store_part rfl 45 (.tmp 2) (.tmp 19) rfl w.heap.size 0 (ac (rdN 4 s).2 (rdN 4 (rdN 4 s).1).2 (rdN 4 (rdN 4 (rdN 4 s).1).1).2 (rdN 4 (rdN 4 (rdN 4 (rdN 4 s).1).1).1).2 (rdN 8 (rdN 4 (rdN 4 (rdN 4 (rdN 4 s).1).1).1).1).2) rfl rfl 45 _ H10.out.res size_At (by simp [ac]) (ac_one _ _ _ _ _) ?_
       intro y hb hs hk
       have HB := Lib.hid hb
       have HK := Lib.hid hk
       have HS := Lib.hid hs
       clear hb hs hk))
  have hl := H10.out.lr
  exact bodyPost_ret (results_one rfl _ y w.heap.size HB.out size_At (by rfl) Tryd.underlying45) rfl ⟨rfl, H10.out.rd.off H10.out.res (by decide) H10.out.qr (fun k _ hn => HK.out.block k hn), ⟨HK.out.os.trans H10.out.but.os, HK.out.tape.trans H10.out.but.tape, HK.out.output.trans H10.out.but.output, by rw [HS.out]; exact H10.out.but.size, fun k hk1 hn => (HK.out.block k (by omega)).trans (H10.out.but.block k hk1 hn)⟩⟩
end Go.Proofs.YtobhmjokoicpoaaDoor
