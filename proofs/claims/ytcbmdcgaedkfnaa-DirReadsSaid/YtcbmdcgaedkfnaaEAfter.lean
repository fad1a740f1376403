/-
  Contract of package dir's After (layer 8).
-/
import Derived.Test.YtcbmdcgaedkfnaaEFrom
namespace Go.Proofs.Ytcbmdcgaedkfnaa
open Go.RowKit Go.Shelf
attribute [local go_sem] Oper.semAt_some

theorem wpListIn_append_es {F : Fence} {m : Nat} {P : Program} (w : World) {ops : Array Oper} {rest : List Oper} {o : Oper} {a : Act} {Q : Exit → Act → World → Prop}
    (hgd : o.guard = none) (s x : Operand) (t : TypeId) (hop : o.op = Op.call { callee := Callee.builtin Builtin.append, args := #[s, x], argTypes := #[t, t] })
    (base : Nat) (e : TypeId) (i : TypeInfo) (z : Value) (ht : P.underlying t = some (.slice e)) (hi : P.info? e = some i) (hz : i.zero = some z) (hsize : i.size = 4) (hby : i.bytes = 32) (hzs : z.cells.size = 4)
    (A0 : Option Addr) (n0 c0 : Nat) (l0 : List En) (hs : a.eval s = .slice A0 n0 c0) (hown : w.ownsRow base e 4 (.slice A0 n0 c0) n0 (ecs l0))
    (A : Option Addr) (k c : Nat) (l : List En) (hx : a.eval x = .slice A k c) (hr : ES w A k l) (hb : n0 + k ≤ 400000000) (hbase : base ≤ w.heap.size)
    (h : ∀ A' c' w', w'.ownsRow base e 4 (.slice A' (n0 + k) c') (n0 + k) (ecs (l0 ++ l)) → w.grownBy w' (Value.slice A0 n0 c0).ownBlock → wpListIn F m P ops Q rest (a.put o.dst (.slice A' (n0 + k) c')) w') : wpListIn F m P ops Q (o :: rest) a w := by
  refine wpListIn_plain hgd fun K hK' => ?_
  obtain ⟨A', c', w', hrun, r1, r2, _⟩ := run_append_es (P := P) w base t o.type e i z ht hi hz hsize hby hzs A0 n0 c0 l0 hown A k c l hr hb hbase
  unfold Oper.wpIn
  refine ⟨?_, ?_⟩
  · simp [Oper.about, hop, resolve, Target.leads, Sem.run_pure]
  · rw [Oper.semAt_plain F _ _ (by rw [hop]; intro c hc'; cases hc')]
    simp [execOp, hop, resolve, invoke, builtin, hs, hx, hrun, Result.andThen]
    exact hK' _ _ (h A' c' w' r1 r2)

/-- What After knows between two rounds: what was taken lies in a row of its own. -/
structure AfI (W0 : World) (b : Nat) (most : Int) (pre : List En) (W : World) : Prop where
  keep : Keep (fun k => k ≠ b ∧ k < W0.heap.size) W0 W
  st : ∃ A c, W.heap[b]? = some (.cells #[.slice A pre.length c] 24 (0, 0)) ∧ W.ownsRow W0.heap.size 41 4 (.slice A pre.length c) pre.length (ecs pre)
  few : (pre.length : Int) ≤ max most 0
  blt : b < W0.heap.size
theorem own_ncells {W W' : World} {base : Nat} {t : TypeId} {v : Value} {n : Nat} {xs : List Value} {row : Option Nat} (h : W.ownsRow base t 4 v n xs) (hg : W.grownBy W' row) (hr : ∀ r, row = some r → ∃ o : Obj, W.heap[r]? = some o ∧ o.isCells = false) : W'.ownsRow base t 4 v n xs := by
  refine h.kept hg ?_
  rcases h.2 with ⟨h1, _⟩ | ⟨g, cap, cur, h1, _, h2, _⟩
  · left; rw [h1]; rfl
  · right
    rw [h1]
    intro e
    obtain ⟨o, ho, hc⟩ := hr g (by rw [← e]; rfl)
    rw [h2] at ho
    injection ho with ho
    subst ho
    cases hc
theorem AfI.grown {W0 : World} {b : Nat} {most : Int} {pre : List En} {W W' : World} {row : Option Nat} (h : AfI W0 b most pre W) (hg : W.grownBy W' row) (hr : ∀ r, row = some r → W0.heap.size ≤ r ∧ ∃ o : Obj, W.heap[r]? = some o ∧ o.isCells = false) : AfI W0 b most pre W' := by
  have hs := h.keep.size
  obtain ⟨A, c, h1, h2⟩ := h.st
  have hb := h.blt
  exact ⟨h.keep.trans ⟨hg.os, hg.tape, hg.output, hg.size, fun k hk => hg.block k (by omega) (fun e => by have := (hr k e.symm).1; omega)⟩,
    ⟨A, c, (hg.block _ (by omega) (fun e => by have := (hr b e.symm).1; omega)).trans h1, own_ncells h2 hg fun r e => (hr r e).2⟩, h.few, h.blt⟩
theorem AfI.own {W0 : World} {b : Nat} {most : Int} : OwnFrom W0.heap.size (AfI W0 b most) := fun _ _ _ _ h hg hr => h.grown hg hr
/-- What After knows behind its early return. -/
structure AfX (W0 : World) (b b6 b7 : Nat) (most : Int) (c : Code) (pre : List En) (W : World) : Prop where
  ret : c = Code.ret
  keep : Keep (fun k => k ≠ b6 ∧ k ≠ b7 ∧ k ≠ b ∧ k < W0.heap.size) W0 W
  st : ∃ A c, W.heap[b6]? = some (.cells #[.slice A pre.dropLast.length c] 24 (0, 0)) ∧ W.ownsRow W0.heap.size 41 4 (.slice A pre.dropLast.length c) pre.dropLast.length (ecs pre.dropLast)
  no : W.heap[b7]? = some (.cells #[.bool false] 4 (0, 0))
  few : (pre.dropLast.length : Int) = max most 0
  ne : pre ≠ []
  lt : b6 < W0.heap.size ∧ b7 < W0.heap.size
theorem AfX.own {W0 : World} {b b6 b7 : Nat} {most : Int} {c : Code} : OwnFrom W0.heap.size (AfX W0 b b6 b7 most c) := fun pre W W' row h hg hr => by
  have hs := h.keep.size
  obtain ⟨A, cc, h1, h2⟩ := h.st
  have hl := h.lt
  exact ⟨h.ret, h.keep.trans ⟨hg.os, hg.tape, hg.output, hg.size, fun k hk => hg.block k (by omega) (fun e => by have := (hr k e.symm).1; omega)⟩,
    ⟨A, cc, (hg.block _ (by omega) (fun e => by have := (hr b6 e.symm).1; omega)).trans h1, own_ncells h2 hg fun r e => (hr r e).2⟩, (hg.block _ (by omega) (fun e => by have := (hr b7 e.symm).1; omega)).trans h.no, h.few, h.ne, h.lt⟩
/-- The loop's variable in a block of its own. -/
def AfA (W0 : World) (f : Nat → Act) (x : En) (a : Act) (W : World) : Prop := ∃ q, W0.heap.size ≤ q ∧ EB W q 41 x ∧ a = f q
theorem AfA.own {W0 : World} {f : Nat → Act} {x : En} {a : Act} : OwnFrom W0.heap.size (fun (_ : Unit) W => AfA W0 f x a W) := fun _ W W' row h hg hr => by
  obtain ⟨q, h1, h2, h3⟩ := h
  refine ⟨q, h1, (hg.block q h2.lt (fun e => ?_)).trans h2, h3⟩
  obtain ⟨o, ho, hc⟩ := (hr q e.symm).2
  unfold EB at h2
  rw [h2] at ho
  injection ho with ho
  subst ho
  cases hc
/-- What After hands back. -/
def AftP (es : List En) (c : Nat) (most : Int) (w : World) (en : Ending) (w' : World) : Prop := ∃ A n cp, en = .returned (.tuple #[.slice A n cp, .bool (aftB es c most)]) ∧ ES w' A n (aftL es c most) ∧ n ≤ cp ∧ Below w.heap.size w w'

theorem vals_stops (n : Nat) (hn : 1 ≤ n) (Bs : Nat) (A : Option Addr) (m c : Nat) (es : List En) (K : Nat → Prop) (w : World) (hBs : w.cell? ⟨Bs, 0, none⟩ = some (.slice A m c)) (hE : ES w A m es) (hKA : 0 < m → ∀ ad, A = some ad → K ad.block) (hKl : ∀ k, K k → k < w.heap.size) (hm : m ≤ 100000000) :
    SeqStopsK Fence.wide n Try.prog 70 #[.pointer (some ⟨Bs, 0, none⟩)] (fun x : En => #[Value.agg (ec x).toArray]) (Keep K) (fun ys => ys = es) (fun pre => ∃ r, es = pre ++ r) es.length w := fun l J Jx W hW hJ _ hY h0 =>
  vals1_in n hn l Bs A m c es K J Jx hY W hJ ((hW.cell (p := ⟨Bs, 0, none⟩) (World.block_lt_of_cell? w _ hBs)).trans hBs) (hE.below hW) hKA (fun k hk => Nat.lt_of_lt_of_le (hKl k hk) hW.size) hm h0
theorem foldl_one (p : Tmp) (v : Value) (t : Array Value) : (#[p].zip #[v]).foldl (fun (t : Array Value) (x : Tmp × Value) => match x with | (p, v) => t.setIfInBounds p v) t = t.setIfInBounds p v := by simp
theorem Keep.trans2 {b b6 b7 B : Nat} {a w w' : World} (h : Keep (fun k => k ≠ b ∧ k < B) a w) (k : Keep (fun k => k ≠ b6 ∧ k ≠ b7) w w') : Keep (fun k => k ≠ b6 ∧ k ≠ b7 ∧ k ≠ b ∧ k < B) a w' :=
  (h.mono fun _ hk => ⟨hk.2.2.1, hk.2.2.2⟩).trans (k.mono fun _ hk => ⟨hk.1, hk.2.1⟩)
theorem results_two {t u : TypeId} {fn : Func} {p q : Tmp} (h : fn.results = #[.cell p t, .cell q u]) (tmps : Array Value) (w : World) (a b : Addr) (v x : Value) (hp : tmps.getD p undef = .pointer (some a)) (hq : tmps.getD q undef = .pointer (some b))
    (hu : (Try.prog.underlying t).map (fun d => match d with | .struct _ | .array _ _ => true | _ => false) = some false) (hu2 : (Try.prog.underlying u).map (fun d => match d with | .struct _ | .array _ _ => true | _ => false) = some false) (hc : w.cell? a = some v) (hc2 : w.cell? b = some x) :
    (results fn tmps).run Try.prog w = .ok (.tuple #[v, x]) w := by
  have hp' : tmps[p]?.getD undef = .pointer (some a) := by simpa using hp
  have hq' : tmps[q]?.getD undef = .pointer (some b) := by simpa using hq
  have one : ∀ (t : TypeId) (ad : Addr) (v : Value), (Try.prog.underlying t).map (fun d => match d with | .struct _ | .array _ _ => true | _ => false) = some false → w.cell? ad = some v → (loadVar t ad).run Try.prog w = .ok v w := by
    intro t ad v hu hc
    have hagg : (isAgg t).run Try.prog w = .ok false w := by
      cases hq : Try.prog.underlying t with
      | none => simp [hq] at hu
      | some d =>
        unfold isAgg
        rw [Sem.run_bind, run_underlying hq w]
        cases d <;> simp_all
    unfold loadVar
    rw [Sem.run_bind, hagg]
    simp [hc]
  simp [results, h, hp', hq', asAddr, one t a v hu hc, one u b x hu2 hc2]
theorem put_block {W : World} {k Dd : Nat} {o o' : Obj} (h : W.heap[k]? = some o) (hk : k ≠ Dd) : (W.putObj Dd o').heap[k]? = some o := by
  have hg := grownBy_putObj' W Dd o'
  exact (hg.block k (Array.getElem?_eq_some_iff.1 h).1 (fun e => hk (by simpa using e))).trans h
/-- Both results are stored; then the mark of the calls that wait is put away. -/
theorem fin2 {W : World} {b6 b7 D : Nat} {u6 u7 : Value} {t6 t7 : TypeId} (hne : b6 ≠ b7) (h6 : W.heap[b6]? = some (.cells #[u6] t6 (0, 0))) (h7 : W.heap[b7]? = some (.cells #[u7] t7 (0, 0))) (v6 v7 : Value) (hK : W.heap[D]? = some (.deferred (some []))) (hD6 : b6 < D) (hD7 : b7 < D) :
    ((W.setCell ⟨b6, 0, none⟩ v6).setCell ⟨b7, 0, none⟩ v7).heap[b6]? = some (.cells #[v6] t6 (0, 0)) ∧ ((W.setCell ⟨b6, 0, none⟩ v6).setCell ⟨b7, 0, none⟩ v7).heap[b7]? = some (.cells #[v7] t7 (0, 0)) ∧ ((W.setCell ⟨b6, 0, none⟩ v6).setCell ⟨b7, 0, none⟩ v7).heap[D]? = some (.deferred (some [])) := by
  have e6 : (W.setCell ⟨b6, 0, none⟩ v6).heap[b6]? = some (.cells #[v6] t6 (0, 0)) := by
    rw [setCell_eq_setRow _ _ _ _ _ _ _ h6, setRow_heap _ _ _ _ _ _ h6]
    simp
  have e7 : (W.setCell ⟨b6, 0, none⟩ v6).heap[b7]? = some (.cells #[u7] t7 (0, 0)) := (Below.heap_setCell _ ⟨b6, 0, none⟩ _ _ (fun e => hne e.symm)).trans h7
  refine ⟨(Below.heap_setCell _ ⟨b7, 0, none⟩ _ _ hne).trans e6, ?_, ?_⟩
  · rw [setCell_eq_setRow _ _ _ _ _ _ _ e7, setRow_heap _ _ _ _ _ _ e7]
    simp
  · rw [Below.heap_setCell _ ⟨b7, 0, none⟩ _ _ (by show D ≠ b7; omega), Below.heap_setCell _ ⟨b6, 0, none⟩ _ _ (by show D ≠ b6; omega)]
    exact hK
/-- Five blocks that a call lays. -/
theorem five (w : World) (a1 a2 a3 a4 a5 : Array Value) (t1 t2 t3 t4 t5 : TypeId) : ∃ W, (((((w.alloc (.cells a1 t1)).alloc (.cells a2 t2)).alloc (.cells a3 t3)).alloc (.cells a4 t4)).alloc (.cells a5 t5)) = W ∧ W.heap.size = w.heap.size + 5 ∧ Below w.heap.size w W ∧
    W.heap[w.heap.size]? = some (.cells a1 t1 (0, 0)) ∧ W.heap[w.heap.size + 1]? = some (.cells a2 t2 (0, 0)) ∧ W.heap[w.heap.size + 1 + 1]? = some (.cells a3 t3 (0, 0)) ∧ W.heap[w.heap.size + 1 + 1 + 1]? = some (.cells a4 t4 (0, 0)) ∧ W.heap[w.heap.size + 1 + 1 + 1 + 1]? = some (.cells a5 t5 (0, 0)) := by
  have s1 : (w.alloc (.cells a1 t1)).heap.size = w.heap.size + 1 := by simp
  have s2 : ((w.alloc (.cells a1 t1)).alloc (.cells a2 t2)).heap.size = w.heap.size + 1 + 1 := by simp
  have s3 : (((w.alloc (.cells a1 t1)).alloc (.cells a2 t2)).alloc (.cells a3 t3)).heap.size = w.heap.size + 1 + 1 + 1 := by simp
  have s4 : ((((w.alloc (.cells a1 t1)).alloc (.cells a2 t2)).alloc (.cells a3 t3)).alloc (.cells a4 t4)).heap.size = w.heap.size + 1 + 1 + 1 + 1 := by simp
  have n1 := heap_alloc_new w (.cells a1 t1)
  have n2 := heap_alloc_new (w.alloc (.cells a1 t1)) (.cells a2 t2)
  have n3 := heap_alloc_new ((w.alloc (.cells a1 t1)).alloc (.cells a2 t2)) (.cells a3 t3)
  have n4 := heap_alloc_new (((w.alloc (.cells a1 t1)).alloc (.cells a2 t2)).alloc (.cells a3 t3)) (.cells a4 t4)
  have n5 := heap_alloc_new ((((w.alloc (.cells a1 t1)).alloc (.cells a2 t2)).alloc (.cells a3 t3)).alloc (.cells a4 t4)) (.cells a5 t5)
  rw [s1] at n2
  rw [s2] at n3
  rw [s3] at n4
  rw [s4] at n5
  have b5 := Below.heap_alloc ((((w.alloc (.cells a1 t1)).alloc (.cells a2 t2)).alloc (.cells a3 t3)).alloc (.cells a4 t4)) (.cells a5 t5)
  have b4 := Below.heap_alloc (((w.alloc (.cells a1 t1)).alloc (.cells a2 t2)).alloc (.cells a3 t3)) (.cells a4 t4)
  have b3 := Below.heap_alloc ((w.alloc (.cells a1 t1)).alloc (.cells a2 t2)) (.cells a3 t3)
  have b2 := Below.heap_alloc (w.alloc (.cells a1 t1)) (.cells a2 t2)
  refine ⟨_, rfl, by simp, ((((((Below.refl _ _).alloc (Nat.le_refl _) _).alloc (by simp) _).alloc (by simp; omega) _).alloc (by simp; omega) _).alloc (by simp; omega) _), ?_, ?_, ?_, ?_, n5⟩
  · rw [b5 _ (by omega), b4 _ (by omega), b3 _ (by omega), b2 _ (by omega)]; exact n1
  · rw [b5 _ (by omega), b4 _ (by omega), b3 _ (by omega)]; exact n2
  · rw [b5 _ (by omega), b4 _ (by omega)]; exact n3
  · rw [b5 _ (by omega)]; exact n4

set_option maxRecDepth 100000 in
set_option maxHeartbeats 4000000 in
theorem after_any (A : Option Addr) (n cp : Nat) (es : List En) (c : Nat) (most : Int) (w : World) (h : ES w A n es) (hc : n ≤ cp) (hcm : cp ≤ 9223372036854775807) (hn : n ≤ 10000000) :
    Calls Try.prog 26 #[.slice A n cp, .int .u64 (c : Int), .int .i64 most] w (AftP es c most w) := by
  obtain ⟨i0, hi0, hz0, hz1, hz2⟩ := info_parts info_E
  have HI0 := Lib.hid hi0
  have HZ0 := Lib.hid hz0
  have HZ1 := Lib.hid hz1
  have HZ2 := Lib.hid hz2
  have HX := Lib.hid h
  have HN : Hid (es.length = n) := h.1
  clear h hi0 hz0 hz1 hz2
  refine (callsIn_wide (n := 9)).1 ?_
  refine callsIn_of_wp_marks Try.func26 rfl trivial ?_ rfl
  simp only [Try.ntmps26, List.size_toArray, List.length_cons, List.length_nil, Nat.reduceAdd, Nat.reduceSub, Array.replicate_succ, Array.replicate_zero, List.push_toArray, List.append_toArray, List.nil_append, List.cons_append]
  refine wpIn_wide.2 ?_
  go_wp2_with fail
  obtain ⟨wA, hwA, hsA, hbA, p0, p1, p2, p3, p4⟩ := five w #[.int .u64 (c : Int)] #[.int .i64 most] #[.slice none 0 0] #[.bool false] #[.slice none 0 0] 36 3 24 4 24
  rw [hwA]
  have HSA := Lib.hid hsA
  have HBA := Lib.hid hbA
  have P0 := Lib.hid p0
  have P1 := Lib.hid p1
  have P2 := Lib.hid p2
  have P3 := Lib.hid p3
  have P4 := Lib.hid p4
  have HXA := Lib.hid (HX.out.below hbA)
  clear hwA hsA hbA p0 p1 p2 p3 p4
  refine (from_any A n cp es w.heap.size c wA HXA.out hc hcm hn (by rw [cell_of_row _ _ _ _ _ _ P0.out]; rfl)).mono ?_
  rintro en w1 ⟨q, A', m', c', rfl, hq, hq1, hb1, hE, hm', hA'⟩
  have HQ := Lib.hid hq
  have HB1 := Lib.hid hb1
  have HE1 := Lib.hid (hE.below hb1)
  have HS1 : Hid (w.heap.size + 5 ≤ w1.heap.size) := by show _ ≤ _; have := hb1.size; have := HSA.out; omega
  have HQL : Hid (w.heap.size + 5 ≤ q) := by show _ ≤ _; have := HSA.out; omega
  have HA' : Hid (0 < m' → ∀ ad, A' = some ad → ad.block < w.heap.size) := fun h0 ad e => by
    obtain ⟨a0, e0, e1⟩ := hA' h0 ad e
    rw [e1]
    exact HX.out.lt_block (by omega) a0 e0
  have HM' : Hid (m' ≤ 100000000) := by show _ ≤ _; omega
  have P1' : Hid (w1.heap[w.heap.size + 1]? = some (.cells #[.int .i64 most] 3 (0, 0))) := (hb1.block _ (by have := HSA.out; omega)).trans P1.out
  have P2' : Hid (w1.heap[w.heap.size + 1 + 1]? = some (.cells #[.slice none 0 0] 24 (0, 0))) := (hb1.block _ (by have := HSA.out; omega)).trans P2.out
  have P3' : Hid (w1.heap[w.heap.size + 1 + 1 + 1]? = some (.cells #[.bool false] 4 (0, 0))) := (hb1.block _ (by have := HSA.out; omega)).trans P3.out
  have P4' : Hid (w1.heap[w.heap.size + 1 + 1 + 1 + 1]? = some (.cells #[.slice none 0 0] 24 (0, 0))) := (hb1.block _ (by have := HSA.out; omega)).trans P4.out
  have HBW : Hid (Below w.heap.size w w1) := HBA.out.trans (hb1.mono HBA.out.size)
  clear hq hq1 hb1 hE hm' hA' P0 P1 P2 P3 P4 HXA HB1 HBA HSA
  go_wp2_with fail
  refine (wpIn_wide (n := 9)).1 ?_
  refine wpIn_rangeFunc_ownH rfl (by omega) (gf := 70) (lb := #[.pointer (some ⟨q, 0, none⟩)]) ?hg trivial (enters_of Try.func70 (by kernel_rfl) rfl)
    (vals_stops (9 - 1) (by omega) q A' m' c' (es.drop (frm es c)) (fun k => k ≠ w.heap.size + 1 + 1 + 1 + 1 ∧ k < w1.heap.size) w1 (by rw [cell_of_row _ _ _ _ _ _ HQ.out]; rfl) HE1.out (fun h0 ad e => by have := HA'.out h0 ad e; have := HS1.out; exact ⟨by omega, by omega⟩) (fun k hk => hk.2) HM'.out)
    (fun h k => Keep.trans h k) ?hKb (Below.refl _ _) (fun _ => rfl) (AfI w1 (w.heap.size + 1 + 1 + 1 + 1) most) (AfX w1 (w.heap.size + 1 + 1 + 1 + 1) (w.heap.size + 1 + 1) (w.heap.size + 1 + 1 + 1) most) AfI.own (fun _ => AfX.own) ?h0
    (fun x => AfA w1 (fun g => { tmps := #[.slice A n cp, .int .u64 (c : Int), .int .i64 most, undef, .pointer (some ⟨w.heap.size, 0, none⟩), .pointer (some ⟨w.heap.size + 1, 0, none⟩), .pointer (some ⟨w.heap.size + 1 + 1, 0, none⟩), .pointer (some ⟨w.heap.size + 1 + 1 + 1, 0, none⟩), .pointer (some ⟨w.heap.size + 1 + 1 + 1 + 1, 0, none⟩), .pointer (some ⟨g, 0, none⟩), .slice A n cp, .func (.func 53) #[] #[.pointer (some ⟨w.heap.size, 0, none⟩)], .func (.func 70) #[] #[.pointer (some ⟨q, 0, none⟩)], .agg (ec x).toArray, undef, undef, undef, undef, undef, undef, undef, undef, undef, undef], defers := [] }) x) (fun _ _ => AfA.own) ?assign ?body ?done ?stop
  case hg => rfl
  case hKb =>
    intro W l o o' hl hb ho hw'
    have hg := grownBy_putObj' W l o'
    have hlt := (Array.getElem?_eq_some_iff.1 hb).1
    exact ⟨hg.os, hg.tape, hg.output, hg.size, fun k hk => hg.block k (by omega) (fun e => by cases e; omega)⟩
  case h0 =>
    exact ⟨Keep.refl _ _, ⟨none, 0, P4'.out, World.ownsRow_nil _ _ _ _⟩, by simp; omega, by have := HS1.out; omega⟩
  case assign =>
    intro l pre x W K hI hK
    rw [foldl_one]
    simp only [List.setIfInBounds_toArray, List.set_cons_succ, List.set_cons_zero]
    gi_wp2_with (first
      | (refine wpListIn_alloc_any rfl 41 rfl _ zero_E ?_
         intro w2 hb2 hs2 hw2)
      | (go_must (refine wpListIn_store_any rfl 41 (.tmp 9) (.tmp 13) rfl W.heap.size (ec x).toArray rfl rfl 41 _ hb2 size_E rfl (ec_one x) ?_)
         intro w3 hb3 hs3 hw3))
    obtain ⟨heb, hbw⟩ := box_E hw2 hb3 hw3
    have hWs := hI.keep.size
    exact hK _ _ ⟨hbw.size, fun k o _ hk _ => (hbw.block k (Array.getElem?_eq_some_iff.1 hk).1).trans hk⟩ ((Keep.refl _ W).trans ⟨hbw.os, hbw.tape, hbw.output, hbw.size, fun k hk => hbw.block k (by omega)⟩) (hI.grown (below_grown hbw) (fun r e => by cases e)) ⟨W.heap.size, hWs, heb, rfl⟩
  case body =>
    rintro lp pre x a' W hl ⟨r, hr⟩ hI ⟨g, hg1, hg2, rfl⟩ hlen
    obtain ⟨A2, c2, hb8, hrow⟩ := hI.st
    have HI := Lib.hid hI
    have HROW := Lib.hid hrow
    have HB8 := Lib.hid hb8
    have HG2 := Lib.hid hg2
    have HWS : Hid (w1.heap.size ≤ W.heap.size) := hI.keep.size
    have hs1 := HS1.out
    have Q5 : Hid (W.heap[w.heap.size + 1]? = some (.cells #[.int .i64 most] 3 (0, 0))) := (hI.keep.block _ ⟨by omega, by omega⟩).trans P1'.out
    have Q6 : Hid (W.heap[w.heap.size + 1 + 1]? = some (.cells #[.slice none 0 0] 24 (0, 0))) := (hI.keep.block _ ⟨by omega, by omega⟩).trans P2'.out
    have Q7 : Hid (W.heap[w.heap.size + 1 + 1 + 1]? = some (.cells #[.bool false] 4 (0, 0))) := (hI.keep.block _ ⟨by omega, by omega⟩).trans P3'.out
    have c5 : W.cell? ⟨w.heap.size + 1, 0, none⟩ = some (.int .i64 most) := by rw [cell_of_row _ _ _ _ _ _ Q5.out]; rfl
    have c8 : W.cell? ⟨w.heap.size + 1 + 1 + 1 + 1, 0, none⟩ = some (.slice A2 pre.length c2) := by rw [cell_of_row _ _ _ _ _ _ hb8]; rfl
    have HLEN := Lib.hid hlen
    have HOB : Hid (∀ k, (Value.slice A2 pre.length c2).ownBlock = some k → w1.heap.size ≤ k) := fun k e => (hrow.lt k e).1
    clear hI hb8 hrow hg2 hr hlen hs1
    by_cases hm : most ≤ (pre.length : Int)
    · have hd : decide (most ≤ (pre.length : Int)) = true := decide_eq_true hm
      have HM := Lib.hid hm
      have c6 : W.cell? ⟨w.heap.size + 1 + 1, 0, none⟩ = some (.slice none 0 0) := by rw [cell_of_row _ _ _ _ _ _ Q6.out]; rfl
      have f6 : W.frozen? ⟨w.heap.size + 1 + 1, 0, none⟩ = false := by simp [World.frozen?, Q6.out]
      have c7 : W.cell? ⟨w.heap.size + 1 + 1 + 1, 0, none⟩ = some (.bool false) := by rw [cell_of_row _ _ _ _ _ _ Q7.out]; rfl
      have f7 : W.frozen? ⟨w.heap.size + 1 + 1 + 1, 0, none⟩ = false := by simp [World.frozen?, Q7.out]
      clear hm
      gi_wp2
      have hs1 := HS1.out
      have hws := HWS.out
      have g1 := off_setCell W (w.heap.size + 1 + 1) 0 (.slice A2 pre.length c2)
      have g2 := off_setCell (W.setCell ⟨w.heap.size + 1 + 1, 0, none⟩ (.slice A2 pre.length c2)) (w.heap.size + 1 + 1 + 1) 0 (.bool false)
      have e1 : (W.setCell ⟨w.heap.size + 1 + 1, 0, none⟩ (.slice A2 pre.length c2)).heap[w.heap.size + 1 + 1]? = some (.cells #[.slice A2 pre.length c2] 24 (0, 0)) := by
        rw [setCell_eq_setRow _ _ _ _ _ _ _ Q6.out, setRow_heap _ _ _ _ _ _ Q6.out]
        simp
      have z1 : (W.setCell ⟨w.heap.size + 1 + 1, 0, none⟩ (.slice A2 pre.length c2)).heap.size = W.heap.size := by simp [World.setCell]
      have e7 := (g1.block (w.heap.size + 1 + 1 + 1) (by omega) (by simp)).trans Q7.out
      have hk : Keep (fun k => k ≠ w.heap.size + 1 + 1 ∧ k ≠ w.heap.size + 1 + 1 + 1) W ((W.setCell ⟨w.heap.size + 1 + 1, 0, none⟩ (.slice A2 pre.length c2)).setCell ⟨w.heap.size + 1 + 1 + 1, 0, none⟩ (.bool false)) :=
        ((Keep.refl _ W).setCell (p := ⟨w.heap.size + 1 + 1, 0, none⟩) (fun h => h.1 rfl) _).setCell (p := ⟨w.heap.size + 1 + 1 + 1, 0, none⟩) (fun h => h.2 rfl) _
      have hlast : (pre ++ [x]).dropLast = pre := List.dropLast_concat
      refine ⟨⟨hk.size, fun k o hB hk' ho => (hk.block k ⟨by omega, by omega⟩).trans hk'⟩, rfl, HI.out.keep.trans2 hk, ?_, ?_, ?_, by simp, by omega, by omega⟩
      · rw [hlast]
        refine ⟨A2, c2, (g2.block _ (by omega) (by simp)).trans e1, ?_⟩
        exact (HROW.out.kept g1 (.inr fun e => by have := HOB.out _ e; omega)).kept g2 (.inr fun e => by have := HOB.out _ e; omega)
      · rw [setCell_eq_setRow _ _ _ _ _ _ _ e7, setRow_heap _ _ _ _ _ _ e7]
        simp
      · rw [hlast]
        have := HI.out.few
        have := HM.out
        omega
    · have hd : decide (most ≤ (pre.length : Int)) = false := decide_eq_false hm
      have HM := Lib.hid hm
      have HLD := Lib.hid HG2.out.load
      have hecl := ec_length x
      have HEA : Hid (ES (W.alloc (.cells (ec x).toArray 41)) (some ⟨W.heap.size, 0, none⟩) 1 [x]) := (EB.new W 41 x).es
      have HRA : Hid ((W.alloc (.cells (ec x).toArray 41)).ownsRow w1.heap.size 41 4 (.slice A2 pre.length c2) pre.length (ecs pre)) := HROW.out.alloc _
      have HBS : Hid (w1.heap.size ≤ (W.alloc (.cells (ec x).toArray 41)).heap.size) := by show _ ≤ _; have := HWS.out; simp; omega
      have hpl : pre.length + 1 ≤ 400000000 := by have := HLEN.out; have := HE1.out.1; have := HM'.out; omega
      have HBA8 : Hid ((W.alloc (.cells (ec x).toArray 41)).heap[w.heap.size + 1 + 1 + 1 + 1]? = some (.cells #[.slice A2 pre.length c2] 24 (0, 0))) := (Below.heap_alloc _ _ _ (by have := HS1.out; have := HWS.out; omega)).trans HB8.out
      clear hm HROW HB8
      gi_wp2_with (first
        | (refine Did.listIn rfl (by intro c h; cases h) (by intro c h; cases h) (did_load 41 (.tmp 9) rfl ⟨g, 0, none⟩ rfl _ Try.underlying41 rfl (ec x) size_E HLD.out) ?_)
        | (gi_at_builtin
           (refine wpListIn_append_es (w := W.alloc (.cells (ec x).toArray 41)) rfl (.tmp 19) (.tmp 21) 24 rfl w1.heap.size 41 i0 _ Try.underlying24 HI0.out HZ0.out HZ1.out HZ2.out rfl A2 pre.length c2 pre rfl HRA.out (some ⟨W.heap.size, 0, none⟩) 1 1 [x] rfl HEA.out (by omega) HBS.out ?_)
           intro A4 c4 w4 ho4 hg4
           have HO4 := Lib.hid ho4
           have HG4 := Lib.hid hg4
           have HB84 : Hid (w4.heap[w.heap.size + 1 + 1 + 1 + 1]? = some (.cells #[.slice A2 pre.length c2] 24 (0, 0))) := (hg4.block _ (by have := HS1.out; have := HWS.out; simp; omega) (fun e => by have := HOB.out _ e.symm; have := HS1.out; omega)).trans HBA8.out
           have c84 : w4.cell? ⟨w.heap.size + 1 + 1 + 1 + 1, 0, none⟩ = some (.slice A2 pre.length c2) := by rw [cell_of_row _ _ _ _ _ _ HB84.out]; rfl
           have f84 : w4.frozen? ⟨w.heap.size + 1 + 1 + 1 + 1, 0, none⟩ = false := by simp [World.frozen?, HB84.out]
           clear ho4 hg4))
      have hs1 := HS1.out
      have hws := HWS.out
      have hk4 : Keep (fun k => k < W.heap.size ∧ k < w1.heap.size) W w4 := ((Keep.refl _ W).alloc (fun k hk => hk.1) _).trans ⟨HG4.out.os, HG4.out.tape, HG4.out.output, HG4.out.size, fun k hk => HG4.out.block k (by have := hk.1; simp; omega) (fun e => by have := HOB.out _ e.symm; omega)⟩
      have hz4 : W.heap.size + 1 ≤ w4.heap.size := by have := HG4.out.size; simpa using this
      have hk5 : Keep (fun k => k ≠ w.heap.size + 1 + 1 + 1 + 1 ∧ k < w1.heap.size) W (w4.setCell ⟨w.heap.size + 1 + 1 + 1 + 1, 0, none⟩ (.slice A4 (pre.length + 1) c4)) :=
        (hk4.mono (fun k hk => ⟨by have := hk.2; omega, hk.2⟩)).setCell (p := ⟨w.heap.size + 1 + 1 + 1 + 1, 0, none⟩) (fun h => h.1 rfl) _
      have g5 := off_setCell w4 (w.heap.size + 1 + 1 + 1 + 1) 0 (.slice A4 (pre.length + 1) c4)
      have hrow5 := HO4.out.kept g5 (.inr fun e => by have := (HO4.out.lt _ e).1; omega)
      refine ⟨⟨hk5.size, fun k o hB hk ho => ?_⟩, hk5, HI.out.keep.trans hk5, ⟨A4, c4, ?_, ?_⟩, ?_, by omega⟩
      · have hlt := (Array.getElem?_eq_some_iff.1 hk).1
        rw [Below.heap_setCell _ _ _ _ (by show k ≠ w.heap.size + 1 + 1 + 1 + 1; omega)]
        have hne : some k ≠ (Value.slice A2 pre.length c2).ownBlock := by
          intro e
          rcases HRA.out.2 with ⟨h1, _⟩ | ⟨g', cap', cur', h1, _, h2, _⟩
          · rw [h1] at e; cases e
          · rw [h1] at e
            obtain rfl : k = g' := by simpa [Value.ownBlock] using e
            rw [Below.heap_alloc _ _ _ hlt, hk] at h2
            injection h2 with h2
            subst h2
            cases ho
        rw [HG4.out.block k (by simp; omega) hne, Below.heap_alloc _ _ _ hlt]
        exact hk
      · rw [setCell_eq_setRow _ _ _ _ _ _ _ HB84.out, setRow_heap _ _ _ _ _ _ HB84.out]
        simp
      · have e1 : (pre ++ [x]).length = pre.length + 1 := by simp
        rw [e1]
        exact hrow5
      · have := HI.out.few
        have := HM.out
        rw [List.length_append]
        simp
        omega
  case done =>
    rintro D ys W hD hys hI hK
    have HYS := Lib.hid hys
    clear hys
    obtain ⟨A2, c2, hb8, hrow⟩ := hI.st
    have HI := Lib.hid hI
    have HROW := Lib.hid hrow
    have HK := Lib.hid hK
    have HWS : Hid (w1.heap.size ≤ W.heap.size) := hI.keep.size
    have hs1 := HS1.out
    have Q6 : Hid (W.heap[w.heap.size + 1 + 1]? = some (.cells #[.slice none 0 0] 24 (0, 0))) := (hI.keep.block _ ⟨by omega, by omega⟩).trans P2'.out
    have Q7 : Hid (W.heap[w.heap.size + 1 + 1 + 1]? = some (.cells #[.bool false] 4 (0, 0))) := (hI.keep.block _ ⟨by omega, by omega⟩).trans P3'.out
    have c8 : W.cell? ⟨w.heap.size + 1 + 1 + 1 + 1, 0, none⟩ = some (.slice A2 ys.length c2) := by rw [cell_of_row _ _ _ _ _ _ hb8]; rfl
    have c6 : W.cell? ⟨w.heap.size + 1 + 1, 0, none⟩ = some (.slice none 0 0) := by rw [cell_of_row _ _ _ _ _ _ Q6.out]; rfl
    have f6 : W.frozen? ⟨w.heap.size + 1 + 1, 0, none⟩ = false := by simp [World.frozen?, Q6.out]
    have c7 : W.cell? ⟨w.heap.size + 1 + 1 + 1, 0, none⟩ = some (.bool false) := by rw [cell_of_row _ _ _ _ _ _ Q7.out]; rfl
    have f7 : W.frozen? ⟨w.heap.size + 1 + 1 + 1, 0, none⟩ = false := by simp [World.frozen?, Q7.out]
    have HOB : Hid (∀ k, (Value.slice A2 ys.length c2).ownBlock = some k → w1.heap.size ≤ k) := fun k e => (hrow.lt k e).1
    clear hI hb8 hrow hK hs1
    go_wp2
    have hs1 := HS1.out
    have hws := HWS.out
    have hne : w.heap.size + 1 + 1 ≠ w.heap.size + 1 + 1 + 1 := by omega
    obtain ⟨k6, k7, kD⟩ := fin2 (D := D) hne Q6.out Q7.out (.slice A2 ys.length c2) (.bool true) HK.out (by omega) (by omega)
    have g1 := off_setCell W (w.heap.size + 1 + 1) 0 (.slice A2 ys.length c2)
    have g2 := off_setCell (W.setCell ⟨w.heap.size + 1 + 1, 0, none⟩ (.slice A2 ys.length c2)) (w.heap.size + 1 + 1 + 1) 0 (.bool true)
    have hrow2 := (HROW.out.kept g1 (.inr fun e => by have := HOB.out _ e; omega)).kept g2 (.inr fun e => by have := HOB.out _ e; omega)
    have hkk : Keep (fun k => k ≠ w.heap.size + 1 + 1 ∧ k ≠ w.heap.size + 1 + 1 + 1) W ((W.setCell ⟨w.heap.size + 1 + 1, 0, none⟩ (.slice A2 ys.length c2)).setCell ⟨w.heap.size + 1 + 1 + 1, 0, none⟩ (.bool true)) :=
      ((Keep.refl _ W).setCell (p := ⟨w.heap.size + 1 + 1, 0, none⟩) (fun h => h.1 rfl) _).setCell (p := ⟨w.heap.size + 1 + 1 + 1, 0, none⟩) (fun h => h.2 rfl) _
    have hbl : Below w.heap.size w ((W.setCell ⟨w.heap.size + 1 + 1, 0, none⟩ (.slice A2 ys.length c2)).setCell ⟨w.heap.size + 1 + 1 + 1, 0, none⟩ (.bool true)) :=
      HBW.out.trans (Keep.below ((HI.out.keep.trans2 hkk).mono fun k hk => by omega))
    generalize (W.setCell ⟨w.heap.size + 1 + 1, 0, none⟩ (.slice A2 ys.length c2)).setCell ⟨w.heap.size + 1 + 1 + 1, 0, none⟩ (.bool true) = V at *
    have hfew := HI.out.few
    refine ⟨by simp, .inl ⟨_, _, rfl, run_takeDeferred kD, ?_⟩⟩
    have hgD := grownBy_putObj' V D (.deferred none)
    refine ⟨_, results_two rfl _ _ ⟨w.heap.size + 1 + 1, 0, none⟩ ⟨w.heap.size + 1 + 1 + 1, 0, none⟩ (.slice A2 ys.length c2) (.bool true) rfl rfl (by kernel_rfl) (by kernel_rfl) (by rw [cell_of_row _ _ _ _ _ _ (put_block k6 (by omega))]; rfl) (by rw [cell_of_row _ _ _ _ _ _ (put_block k7 (by omega))]; rfl), A2, _, c2, ?_, ?_, (own_le hrow2).1, ?_⟩
    · rw [show aftB es c most = true from decide_eq_true (by rw [← HYS.out]; omega)]
    · rw [show aftL es c most = ys from by unfold aftL; rw [← HYS.out]; exact List.take_of_length_le (by omega)]
      exact ES.of_own (own_ncells hrow2 hgD (fun r e => by cases e; exact ⟨_, kD, rfl⟩))
    · exact hbl.trans (belowK_b (w := w) (Nat.le_refl _) _ D _ _ (by omega) kD rfl rfl)
  case stop =>
    rintro D cd pre W hD ⟨r, hr⟩ hX hK
    obtain ⟨A2, c2, hb6, hrow⟩ := hX.st
    have HXX := Lib.hid hX
    have HROW := Lib.hid hrow
    have HB6 := Lib.hid hb6
    have HK := Lib.hid hK
    have HR := Lib.hid hr
    obtain rfl := hX.ret
    clear hX hb6 hrow hK hr
    refine wpIn_wide.2 ?_
    go_wp2
    have hs1 := HS1.out
    have hws := HXX.out.keep.size
    have hlt := HXX.out.lt
    have hfew := HXX.out.few
    obtain ⟨z, hz⟩ : ∃ z, pre = pre.dropLast ++ [z] := ⟨_, (List.dropLast_concat_getLast HXX.out.ne).symm⟩
    have hR := HR.out
    rw [hz, List.append_assoc] at hR
    have hbl : Below w.heap.size w W := HBW.out.trans (Keep.below (HXX.out.keep.mono fun k hk => by omega))
    have hgD := grownBy_putObj' W D (.deferred none)
    have hN := HXX.out.no
    generalize pre.dropLast = q2 at *
    refine ⟨by simp, .inl ⟨_, _, rfl, run_takeDeferred HK.out, ?_⟩⟩
    refine ⟨_, results_two rfl _ _ ⟨w.heap.size + 1 + 1, 0, none⟩ ⟨w.heap.size + 1 + 1 + 1, 0, none⟩ (.slice A2 q2.length c2) (.bool false) rfl rfl (by kernel_rfl) (by kernel_rfl) (by rw [cell_of_row _ _ _ _ _ _ (put_block HB6.out (by omega))]; rfl) (by rw [cell_of_row _ _ _ _ _ _ (put_block hN (by omega))]; rfl), A2, _, c2, ?_, ?_, (own_le HROW.out).1, ?_⟩
    · rw [show aftB es c most = false from decide_eq_false (by rw [hR]; simp; omega)]
    · rw [show aftL es c most = q2 from by unfold aftL; rw [hR, show most.toNat = q2.length by omega, List.take_left]]
      exact ES.of_own (own_ncells HROW.out hgD (fun r e => by cases e; exact ⟨_, HK.out, rfl⟩))
    · exact hbl.trans (belowK_b (w := w) (Nat.le_refl _) _ D _ _ (by omega) HK.out rfl rfl)
end Go.Proofs.Ytcbmdcgaedkfnaa
