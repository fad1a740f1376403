
/-
  What package slot's texts share: blocks known whole, parts of them that are stored and loaded, cells that came in (layer 11; rows of call's texts that name no package).
-/
import Derived.Test.YtjionpkflpnejaaKMath
import Derived.Test.YtjionpkflpnejaaEPut
import Derived.Test.YtjionpkflpnejaaDMem
import Derived.Test.YtjionpkflpnejaaReader2
import Derived.Test.YtjionpkflpnejaaEKit
import Derived.Test.YtjionpkflpnejaaEIn
namespace Go.Proofs.Ytjionpkflpnejaa
open Go.RowKit Go.Shelf

/-- A block known whole. -/
def Bw (w : World) (g : Nat) (cs : List Value) (t : TypeId) : Prop := w.heap[g]? = some (.cells cs.toArray t (0, 0))
section
variable {w w' : World} {g : Nat} {cs : List Value} {t : TypeId}
theorem Bw.lt (h : Bw w g cs t) : g < w.heap.size := (Array.getElem?_eq_some_iff.1 h).1
theorem Bw.froz (h : Bw w g cs t) (o : Nat) : w.frozen? ⟨g, o, none⟩ = false := by unfold Bw at h; simp [World.frozen?, h]
theorem Bw.grown {row : Option Nat} (h : Bw w g cs t) (hg : w.grownBy w' row) (hr : row ≠ some g) : Bw w' g cs t := (hg.block g h.lt (fun e => hr e.symm)).trans h
theorem Bw.below (h : Bw w g cs t) (hb : Below w.heap.size w w') : Bw w' g cs t := (hb.block g h.lt).trans h
theorem Bw.keep {K : Nat → Prop} (h : Bw w g cs t) (hb : Keep K w w') (hk : K g) : Bw w' g cs t := (hb.block g hk).trans h
theorem Bw.cell (h : Bw w g cs t) (o : Nat) (v : Value) (hv : cs[o]? = some v) : w.cell? ⟨g, o, none⟩ = some v := by
  rw [cell_of_row w g o _ _ (0, 0) h]
  simpa using hv
/-- Some cells of it, as a load asks for them. -/
theorem Bw.part (h : Bw w g cs t) (k : Nat) (l : List Value) (hl : ∀ j u, l[j]? = some u → cs[k + j]? = some u) : ∀ j u, l[j]? = some u → w.cell? ((⟨g, k, none⟩ : Addr).add j) = some u := fun j u hu => by
  rw [add_plain]
  exact h.cell _ _ (hl j u hu)
end
section
variable {P : Program} {o : Oper} {a : Act} {w : World} {ops : Array Oper} {rest : List Oper} {Q : Exit → Act → World → Prop}
theorem wpList_store_part (hgd : o.guard = none) (ty : TypeId) (x y : Operand) (ho : o.op = .store ty x y) (g k : Nat) (vs : List Value) (hx : a.eval x = .pointer (some ⟨g, k, none⟩)) (hy : a.eval y = .agg vs.toArray)
    (t : TypeId) (cs : List Value) (hg : Bw w g cs t) (hi : (P.info? ty).map (·.size) = some vs.length) (hfit : k + vs.length ≤ cs.length) (h1 : ∀ v ∈ vs, v.oneCell' = true)
    (h : ∀ w', Bw w' g (cs.take k ++ vs ++ cs.drop (k + vs.length)) t → w'.heap.size = w.heap.size → Keep (· ≠ g) w w' → wpList P ops Q rest (a.put o.dst undef) w') : wpList P ops Q (o :: rest) a w := by
  have hr := run_storeCells_at P g k t vs 0 cs.toArray w hg (by simpa using hfit) h1
  simp only [Nat.add_zero] at hr
  refine Did.list hgd (v := undef) (w' := w.setRow g (cs.take k ++ vs ++ cs.drop (k + vs.length)).toArray) (.inr ⟨?_, rfl⟩) (h _ (setRow_heap w g _ _ t _ hg) (by simp) (setRow_keep g _))
  cases hq : P.info? ty with
  | none => simp [hq] at hi
  | some i =>
    have hs : vs.length = i.size := by simp [hq] at hi; omega
    have hsv : (storeVar ty ⟨g, k, none⟩ (.agg vs.toArray)).run P w = .ok () (w.setRow g (cs.take k ++ vs ++ cs.drop (k + vs.length)).toArray) := by
      simp [storeVar, sizeOf, typeInfo, hq, Value.cells, hs.symm, hr]
    unfold execOp
    simp only [ho, hx, hy, Instr.storeAt, Instr.sureAddr, Sem.run_bind, Sem.run_pure, Result.andThen_ok, hsv]
theorem wpList_store_cell (hgd : o.guard = none) (ty : TypeId) (x y : Operand) (ho : o.op = .store ty x y) (g k : Nat) (v : Value) (hx : a.eval x = .pointer (some ⟨g, k, none⟩)) (hy : a.eval y = v)
    (t : TypeId) (cs : List Value) (hg : Bw w g cs t) (hi : (P.info? ty).map (·.size) = some 1) (hv : v.cells = #[v]) (hfit : k < cs.length) (h1 : v.oneCell' = true)
    (h : ∀ w', Bw w' g (cs.take k ++ [v] ++ cs.drop (k + 1)) t → w'.heap.size = w.heap.size → Keep (· ≠ g) w w' → wpList P ops Q rest (a.put o.dst undef) w') : wpList P ops Q (o :: rest) a w := by
  have hr := run_storeCells_at P g k t [v] 0 cs.toArray w hg (by simp; omega) (by simpa using h1)
  simp only [Nat.add_zero, List.length_singleton] at hr
  refine Did.list hgd (v := undef) (w' := w.setRow g (cs.take k ++ [v] ++ cs.drop (k + 1)).toArray) (.inr ⟨?_, rfl⟩) (h _ (setRow_heap w g _ _ t _ hg) (by simp) (setRow_keep g _))
  cases hq : P.info? ty with
  | none => simp [hq] at hi
  | some i =>
    have hs : 1 = i.size := by simp [hq] at hi; omega
    have hsv : (storeVar ty ⟨g, k, none⟩ v).run P w = .ok () (w.setRow g (cs.take k ++ [v] ++ cs.drop (k + 1)).toArray) := by
      simpa [storeVar, sizeOf, typeInfo, hq, hv, hs.symm] using hr
    unfold execOp
    simp only [ho, hx, hy, Instr.storeAt, Instr.sureAddr, Sem.run_bind, Sem.run_pure, Result.andThen_ok, hsv]
/-- A struct or an array out of a part of a block. -/
theorem wpList_load_part (hgd : o.guard = none) (ty : TypeId) (x : Operand) (ho : o.op = .load ty x) (g k : Nat) (hx : a.eval x = .pointer (some ⟨g, k, none⟩)) (d : TypeDesc) (hu : P.underlying ty = some d)
    (hd : (match d with | .struct _ | .array _ _ => true | _ => false) = true) (l : List Value) (t : TypeId) (cs : List Value) (hg : Bw w g cs t) (hi : (P.info? ty).map (·.size) = some l.length) (hl : ∀ j u, l[j]? = some u → cs[k + j]? = some u)
    (h : wpList P ops Q rest (a.put o.dst (.agg l.toArray)) w) : wpList P ops Q (o :: rest) a w :=
  Did.list hgd (did_load ty x ho ⟨g, k, none⟩ hx d hu hd l hi (hg.part k l hl)) h
end
/-- A change of one block, known whole before. -/
theorem grown_keep {w w' : World} {g : Nat} (h : Keep (· ≠ g) w w') : w.grownBy w' (some g) := ⟨h.os, h.tape, h.output, h.size, fun k _ hk => h.block k (fun e => hk (by rw [e]))⟩

/-- The result that lies in a block of its own, and a number. -/
theorem results_cell {t : TypeId} {fs : Array Field} {cs : List Value} {fn : Func} {p q : Tmp} (h : fn.results = #[.cell p t, .tmp q]) (tmps : Array Value) (w : World) (g : Nat) (v : Value) (hg : Bw w g cs t) (hi : (Try.prog.info? t).map (·.size) = some cs.length)
    (hp : tmps.getD p undef = .pointer (some ⟨g, 0, none⟩)) (hq : tmps.getD q undef = v) (hu : Try.prog.underlying t = some (.struct fs)) : (results fn tmps).run Try.prog w = .ok (.tuple #[.agg cs.toArray, v]) w := by
  have hp' : tmps[p]?.getD undef = .pointer (some ⟨g, 0, none⟩) := by simpa using hp
  have hq' : tmps[q]?.getD undef = v := by simpa using hq
  have hl := run_loadVar_row (P := Try.prog) w g t t cs.toArray (0, 0) _ hg hu rfl (by simpa using hi)
  simp [results, h, hp', hq', asAddr, hl]
/-- The result that lies in a block of its own, alone. -/
theorem results_one {t : TypeId} {fs : Array Field} {cs : List Value} {fn : Func} {p : Tmp} (h : fn.results = #[.cell p t]) (tmps : Array Value) (w : World) (g : Nat) (hg : Bw w g cs t) (hi : (Try.prog.info? t).map (·.size) = some cs.length)
    (hp : tmps.getD p undef = .pointer (some ⟨g, 0, none⟩)) (hu : Try.prog.underlying t = some (.struct fs)) : (results fn tmps).run Try.prog w = .ok (.agg cs.toArray) w := by
  have hp' : tmps[p]?.getD undef = .pointer (some ⟨g, 0, none⟩) := by simpa using hp
  have hl := run_loadVar_row (P := Try.prog) w g t t cs.toArray (0, 0) _ hg hu rfl (by simpa using hi)
  simp [results, h, hp', asAddr, hl]

/-- The cells of a handle, of attributes. -/
def hc (a b : Nat) : List Value := [.int .u32 (a : Int), .int .u32 (b : Int)]
theorem hc_one (a b : Nat) : ∀ v ∈ hc a b, v.oneCell' = true := by
  intro v hv
  simp only [hc, List.mem_cons, List.not_mem_nil, or_false] at hv
  rcases hv with rfl | rfl <;> rfl
theorem Bw.ne_rd {w : World} {q g : Nat} {l : List UInt8} {e : Int} {cs : List Value} {t : TypeId} (h : Bw w g cs t) (hr : Rd w q l e) (ht : t ≠ 91) : q ≠ g := by
  rintro rfl
  obtain ⟨A, c, h1, _⟩ := hr
  unfold Bw at h
  rw [h] at h1
  injection h1 with h1
  injection h1 with _ h1 _
  exact ht h1
/-- What a Put hands back: bytes of its own. -/
def PutQ (b : List UInt8) (z : Int) (w : World) (e : Ending) (w' : World) : Prop := ∃ A n cp, e = .returned (.tuple #[.slice A n cp, .int .i64 z]) ∧ Own w w' A n cp b
theorem PutQ.no {z : Int} {w w' : World} (h : Below w.heap.size w w') : PutQ [] z w (.returned (.tuple #[.slice none 0 0, .int .i64 z])) w' := ⟨none, 0, 0, rfl, World.ownsRow_nil _ _ _ _, h⟩
theorem own_base {w : World} {b b' : Nat} {t : TypeId} {k n : Nat} {v : Value} {xs : List Value} (h : w.ownsRow b t k v n xs) (hb : b' ≤ b) : w.ownsRow b' t k v n xs := by
  refine ⟨h.1, ?_⟩
  rcases h.2 with h1 | ⟨g, cap, cur, h1, h2, h3⟩
  · exact .inl h1
  · exact .inr ⟨g, cap, cur, h1, Nat.le_trans hb h2, h3⟩

/-- While a call or a reply is read: the result's block r, the variable's block g, the Reader q. -/
structure GG (w : World) (q r g : Nat) (t : TypeId) (z cs : List Value) (s : St) (W : World) : Prop where
  rd : Rd W q s.1 s.2
  res : Bw W r z t
  var : Bw W g cs t
  bel : Below w.heap.size w W
  lr : w.heap.size ≤ r
  lg : w.heap.size ≤ g
  lq : w.heap.size ≤ q
  rg : r ≠ g
  qr : q ≠ r
  qg : q ≠ g
  nt : t ≠ 5
section
variable {w W W' : World} {q r g : Nat} {t : TypeId} {z cs cs' : List Value} {s s' : St}
theorem GG.read (h : GG w q r g t z cs s W) (hr : Rd W' q s'.1 s'.2) (hg : W.grownBy W' (some q)) : GG w q r g t z cs s' W' :=
  ⟨hr, h.res.grown hg (fun e => h.qr (by injection e)), h.var.grown hg (fun e => h.qg (by injection e)),
    h.bel.trans ⟨hg.os, hg.tape, hg.output, hg.size, fun k hk => hg.block k (Nat.lt_of_lt_of_le hk h.bel.size) (fun e => by injection e with e; have := h.lq; omega)⟩, h.lr, h.lg, h.lq, h.rg, h.qr, h.qg, h.nt⟩
theorem GG.set (h : GG w q r g t z cs s W) (hb : Bw W' g cs' t) (hk : Keep (· ≠ g) W W') : GG w q r g t z cs' s W' := by
  have lg := h.lg
  exact ⟨h.rd.off h.var h.nt h.qg (fun k _ hn => hk.block k hn), h.res.keep hk h.rg, hb, h.bel.trans (hk.below2 (fun k hk => by omega)), h.lr, h.lg, h.lq, h.rg, h.qr, h.qg, h.nt⟩
theorem GG.below (h : GG w q r g t z cs s W) (hb : Below W.heap.size W W') : GG w q r g t z cs s W' :=
  ⟨h.rd.kept hb, h.res.below hb, h.var.below hb, h.bel.trans (hb.mono h.bel.size), h.lr, h.lg, h.lq, h.rg, h.qr, h.qg, h.nt⟩
theorem GG.start {w1 w2 w3 : World} {l : List UInt8} (h1 : w1.heap[w.heap.size]? = some (.cells z.toArray t (0, 0))) (s1 : w1.heap.size = w.heap.size + 1) (b1 : Below w.heap.size w w1)
    (h2 : w2.heap[w1.heap.size]? = some (.cells z.toArray t (0, 0))) (s2 : w2.heap.size = w1.heap.size + 1) (b2 : Below w1.heap.size w1 w2) (h : Rd w3 q l 0) (b3 : Below w2.heap.size w2 w3) (hq : w2.heap.size ≤ q) (hn : t ≠ 5) : GG w q w.heap.size w1.heap.size t z z (l, 0) w3 := by
  exact ⟨h, (b3.block _ (by omega)).trans ((b2.block _ (by omega)).trans h1), (b3.block _ (by omega)).trans h2, b1.trans ((b2.mono (by omega)).trans (b3.mono (by omega))), Nat.le_refl _, by omega, by omega, by omega, by omega, by omega, hn⟩
end

theorem seq_rd {α β : Type} (A : Cd α) (B : Cd β) (s : St) : (A.seq B).rd s = ((B.rd (A.rd s).1).1, ((A.rd s).2, (B.rd (A.rd s).1).2)) := rfl
/-- A struct out of a part of a block, as a region that draws its order asks for it. -/
theorem run_load_part {P : Program} {o : Oper} {a : Act} {w : World} (ty : TypeId) (x : Operand) (ho : o.op = .load ty x) (g k : Nat) (hx : a.eval x = .pointer (some ⟨g, k, none⟩)) (d : TypeDesc) (hu : P.underlying ty = some d)
    (hd : (match d with | .struct _ | .array _ _ => true | _ => false) = true) (l : List Value) (t : TypeId) (cs : List Value) (hg : Bw w g cs t) (hi : (P.info? ty).map (·.size) = some l.length) (hl : ∀ j u, l[j]? = some u → cs[k + j]? = some u) :
    (execOp a.eval o).run P w = .ok (.value (.agg l.toArray)) w := by
  have hl2 := run_loadCells_list (P := P) w ⟨g, k, none⟩ l (hg.part k l hl)
  cases hq : P.info? ty with
  | none => simp [hq] at hi
  | some i =>
    have hs : i.size = l.length := by simpa [hq] using hi
    have hagg : (isAgg ty).run P w = .ok true w := by
      unfold isAgg
      rw [Sem.run_bind, run_underlying hu w]
      cases d <;> simp_all
    unfold execOp
    simp [ho, hx, Instr.loadAt, Instr.sureAddr, loadVar, Sem.run_bind, hagg, sizeOf, typeInfo, hq, hs, hl2]

section
open Go.ChangeShapes Go.WideShapes Go.ChangeAt
section
variable {H : Type} {enc : TypeId × Value → H} {W : World} {m : Nat} {v : Value} {y : DataW H × List MemPlace}
theorem u32_cell {t : TypeId} (ht : Try.prog.underlying t = some (.int .u32)) (h : DataW.trod enc Try.prog W 0 (fun _ => true) true m t [v] = some y) : ∃ a : Nat, v = .int .u32 (a : Int) ∧ a < 4294967296 := by
  obtain ⟨a, h1, _, w1⟩ := DataW.trod_int ht h
  simp only [List.cons.injEq, and_true] at h1
  subst h1
  have b := wf_u32 w1
  obtain ⟨a, rfl⟩ := Int.eq_ofNat_of_zero_le b.1
  exact ⟨a, rfl, by omega⟩
theorem u64_cell {t : TypeId} (ht : Try.prog.underlying t = some (.int .u64)) (h : DataW.trod enc Try.prog W 0 (fun _ => true) true m t [v] = some y) : ∃ a : Nat, v = .int .u64 (a : Int) ∧ a < 18446744073709551616 := by
  obtain ⟨a, h1, _, w1⟩ := DataW.trod_int ht h
  simp only [List.cons.injEq, and_true] at h1
  subst h1
  have b := wf_u64 w1
  obtain ⟨a, rfl⟩ := Int.eq_ofNat_of_zero_le b.1
  exact ⟨a, rfl, by omega⟩
theorem i64_cell {t : TypeId} (ht : Try.prog.underlying t = some (.int .i64)) (h : DataW.trod enc Try.prog W 0 (fun _ => true) true m t [v] = some y) : ∃ a : Int, v = .int .i64 a ∧ -9223372036854775808 ≤ a ∧ a ≤ 9223372036854775807 := by
  obtain ⟨a, h1, _, w1⟩ := DataW.trod_int ht h
  simp only [List.cons.injEq, and_true] at h1
  subst h1
  exact ⟨a, rfl, wf_i64 w1⟩
theorem bool_cell {t : TypeId} (ht : Try.prog.underlying t = some .bool) (h : DataW.trod enc Try.prog W 0 (fun _ => true) true m t [v] = some y) : ∃ b : Bool, v = .bool b := by
  obtain ⟨a, h1, _⟩ := DataW.trod_bool ht h
  simp only [List.cons.injEq, and_true] at h1
  exact ⟨a, h1⟩
theorem str_cell {t : TypeId} (ht : Try.prog.underlying t = some .string) (h : DataW.trod enc Try.prog W 0 (fun _ => true) true m t [v] = some y) : ∃ l : List UInt8, v = .string (txt l) ∧ l.length ≤ maxLen := by
  obtain ⟨s, h1, _, w1⟩ := DataW.trod_string ht h
  simp only [List.cons.injEq, and_true] at h1
  subst h1
  refine ⟨s.data.toList, by rw [txt_data], ?_⟩
  have := Lib.size_eq s
  omega
theorem bytes_cell (h : DataW.trod enc Try.prog W 0 (fun _ => true) true m 27 [v] = some y) : ∃ (A : Option Addr) (n cp : Nat) (l : List UInt8), v = .slice A n cp ∧ BS W A n l ∧ n ≤ maxLen := by
  rcases open_ints Try.underlying27 Try.underlying5 (by kernel_rfl) h with ⟨hcs, _⟩ | ⟨x, l, cap, zs, hcs, _, hl, hm, hz, _, hcell, hwz⟩
  · simp only [List.cons.injEq, and_true] at hcs
    exact ⟨none, 0, 0, [], hcs, BS.nil, Nat.zero_le _⟩
  · simp only [List.cons.injEq, and_true] at hcs
    have hr : IsRow .u8 W (some x) l cap zs := .inr ⟨_, rfl, hl, hm, by simpa using hz, hcell, hwz⟩
    obtain ⟨xs, h1⟩ := hr.bs
    exact ⟨some x, l, cap, xs, hcs, h1, Nat.le_trans hl hm⟩
end
end
/-- The cells of the reference's reader. -/
def rv (s : St) : List Value := [.string (txt s.1), .int .i64 s.2]
theorem rv_one (s : St) : ∀ v ∈ rv s, v.oneCell' = true := by
  intro v hv
  simp only [rv, List.mem_cons, List.not_mem_nil, or_false] at hv
  rcases hv with rfl | rfl <;> rfl
/-- While the reference reads: the result's block r, the variable's block g, the reader's block k. -/
structure GH (w : World) (r g k : Nat) (t : TypeId) (z cs : List Value) (s : St) (W : World) : Prop where
  rd : Bw W k (rv s) 77
  res : Bw W r z t
  var : Bw W g cs t
  bel : Below w.heap.size w W
  lr : w.heap.size ≤ r
  lg : w.heap.size ≤ g
  lk : w.heap.size ≤ k
  rg : r ≠ g
  kr : k ≠ r
  kg : k ≠ g
section
variable {w W W' : World} {r g k : Nat} {t : TypeId} {z cs cs' : List Value} {s s' : St}
theorem GH.below (h : GH w r g k t z cs s W) (hb : Below W.heap.size W W') : GH w r g k t z cs s W' :=
  ⟨h.rd.below hb, h.res.below hb, h.var.below hb, h.bel.trans (hb.mono h.bel.size), h.lr, h.lg, h.lk, h.rg, h.kr, h.kg⟩
theorem GH.read (h : GH w r g k t z cs s W) (hb : Bw W' k (rv s') 77) (hk : Keep (· ≠ k) W W') : GH w r g k t z cs s' W' := by
  have lk := h.lk
  exact ⟨hb, h.res.keep hk (fun e => h.kr e.symm), h.var.keep hk (fun e => h.kg e.symm), h.bel.trans (hk.below2 (fun j hj => by omega)), h.lr, h.lg, h.lk, h.rg, h.kr, h.kg⟩
theorem GH.set (h : GH w r g k t z cs s W) (hb : Bw W' g cs' t) (hk : Keep (· ≠ g) W W') : GH w r g k t z cs' s W' := by
  have lg := h.lg
  exact ⟨h.rd.keep hk h.kg, h.res.keep hk h.rg, hb, h.bel.trans (hk.below2 (fun j hj => by omega)), h.lr, h.lg, h.lk, h.rg, h.kr, h.kg⟩
end
theorem built_R1 (s : ByteArray) : Try.prog.built 77 [(0, .string s)] = some #[.string s, .int .i64 0] := by kernel_rfl

end Go.Proofs.Ytjionpkflpnejaa
