
/-
  Plain laws on memory for the proofs over layer 3 (disk): an operation by what it did, aggregates that are loaded and stored whole, maps from integers to bytes. Nothing of the program is named here.
-/
import Derived.Test.YtjionpkflpnejaaBase
import Derived.Laws.Tables
import Derived.Laws.Rows
import Derived.Laws.CopyRow
import Derived.Great.BuildSlice
import Derived.RegionTactic
import Derived.StillTail
import Derived.MapKept
import Derived.TacticsIn
import Derived.OrdersIn
namespace Go.Proofs.Ytjionpkflpnejaa
open Go.RowKit

/-- The operation o yields v and leaves w'. -/
def Did (P : Program) (o : Oper) (a : Act) (w : World) (v : Value) (w' : World) : Prop :=
  (execOp a.eval o).run P w = .ok (.value v) w' ∨ ((execOp a.eval o).run P w = .ok .skip w' ∧ v = undef)

section
variable {P : Program} {o : Oper} {a : Act} {w w' : World} {v : Value}
theorem Did.wp {K : Act → World → Prop} {Q : Exit → Act → World → Prop} (h : Did P o a w v w') (hK : K (a.put o.dst v) w') : o.wp P a w K Q := by
  unfold Oper.wp
  rcases h with h | ⟨h, rfl⟩
  · rw [h]; exact hK
  · rw [h]; exact hK
theorem Did.list {ops : Array Oper} {rest : List Oper} {Q : Exit → Act → World → Prop} (hg : o.guard = none) (h : Did P o a w v w') (hK : wpList P ops Q rest (a.put o.dst v) w') : wpList P ops Q (o :: rest) a w :=
  wpList_plain hg fun _ hk => h.wp (hk _ _ hK)
theorem Did.step {ops : Array Oper} {K : Act → World → Prop} {Q : Exit → Act → World → Prop} {E : Prop} (hg : o.guard = none) (h : Did P o a w v w') (hK : K (a.put o.dst v) w') :
    if Region.wanted o (yielded ops a.tmps) = true then Oper.wp P o a w K Q else E := by
  have hw : Region.wanted o (yielded ops a.tmps) = true := by simp [Region.wanted, hg]
  rw [if_pos hw]
  exact h.wp hK
theorem Did.wpIn {F : Fence} {n : Nat} {K : Act → World → Prop} {Q : Exit → Act → World → Prop} (hc : ∀ c, o.op ≠ .call c) (hd : ∀ c, o.op ≠ .defer c) (h : Did P o a w v w') (hK : K (a.put o.dst v) w') : o.wpIn F n P a w K Q := by
  refine ⟨fun f hf => ?_, ?_⟩
  · unfold Oper.about at hf
    split at hf
    · exact absurd (by assumption) (hc _)
    · cases hf
  · rw [Oper.semAt_eq _ _ _ hd]
    rcases h with h | ⟨h, rfl⟩
    · rw [h]; exact hK
    · rw [h]; exact hK
end

section
variable {P : Program} {o : Oper} {a : Act} {w : World}
/-- A whole aggregate is loaded. -/
theorem did_load (ty : TypeId) (x : Operand) (ho : o.op = .load ty x) (ad : Addr) (hx : a.eval x = .pointer (some ad)) (d : TypeDesc) (hu : P.underlying ty = some d)
    (hd : (match d with | .struct _ | .array _ _ => true | _ => false) = true) (l : List Value) (hi : (P.info? ty).map (·.size) = some l.length) (hc : ∀ j u, l[j]? = some u → w.cell? (ad.add j) = some u) :
    Did P o a w (.agg l.toArray) w := by
  left
  have hl := run_loadCells_list (P := P) w ad l hc
  cases hq : P.info? ty with
  | none => simp [hq] at hi
  | some i =>
    have hs : i.size = l.length := by simpa [hq] using hi
    have hagg : (isAgg ty).run P w = .ok true w := by
      unfold isAgg
      rw [Sem.run_bind, run_underlying hu w]
      cases d <;> simp_all
    unfold execOp
    simp [ho, hx, Instr.loadAt, Instr.sureAddr, loadVar, Sem.run_bind, hagg, sizeOf, typeInfo, hq, hs, hl]
/-- A whole block is stored. -/
theorem did_store (ty : TypeId) (x y : Operand) (ho : o.op = .store ty x y) (g : Nat) (cells : Array Value) (hx : a.eval x = .pointer (some ⟨g, 0, none⟩)) (hy : a.eval y = .agg cells)
    (t : TypeId) (old : Array Value) (hg : w.heap[g]? = some (.cells old t (0, 0))) (hi : (P.info? ty).map (·.size) = some cells.size) (hold : old.size = cells.size) (h1 : cells.all (·.oneCell') = true) :
    Did P o a w undef (w.setRow g cells) := by
  right
  refine ⟨?_, rfl⟩
  unfold execOp
  simp only [ho, hx, hy, Instr.storeAt, Instr.sureAddr, Sem.run_bind, Sem.run_pure, Result.andThen_ok, run_storeVar_row w g t ty old cells hg hi hold h1]
/-- A new block of noughts. -/
theorem did_alloc (ty : TypeId) (ho : o.op = .alloc ty) (z : Value) (hz : (P.info? ty).bind (·.zero) = some z) : Did P o a w (.pointer (some ⟨w.heap.size, 0, none⟩)) (w.alloc (.cells z.cells ty)) := by
  left
  cases hq : P.info? ty with
  | none => simp [hq] at hz
  | some i =>
    have hz' : i.zero = some z := by simpa [hq] using hz
    unfold execOp
    simp [ho, Instr.alloc, zeroValue, typeInfo, hq, hz', newVar, newRow]
theorem did_build (t : TypeId) (parts : Array (Nat × Operand)) (ho : o.op = .build t parts) (cells : Array Value) (hf : P.built t (parts.map fun (i, x) => (i, a.eval x)).toList = some cells) : Did P o a w (.agg cells) w := by
  left
  unfold execOp
  simp only [ho, Sem.run_bind, run_build w t _ cells hf, Result.andThen_ok]
  rfl
theorem did_build_one (t : TypeId) (j : Nat) (x : Operand) (ho : o.op = .build t #[(j, x)]) (v : Value) (hx : a.eval x = v) (cells : Array Value) (hf : P.built t [(j, v)] = some cells) : Did P o a w (.agg cells) w :=
  did_build t #[(j, x)] ho cells (by simpa [hx] using hf)
/-- A slice of one element, whatever cells that has. -/
theorem did_buildSlice_one (t e : TypeId) (x : Operand) (ho : o.op = .buildSlice t 1 #[(0, x)]) (cells : Array Value) (hx : a.eval x = .agg cells) (hu : P.underlying t = some (.slice e)) (z : Value)
    (hz : (P.info? e).map (fun i => (i.zero, i.size)) = some (some z, cells.size)) (hpos : 0 < cells.size) (hsmall : cells.size ≤ 2 ^ 24) :
    Did P o a w (.slice (some ⟨w.heap.size, 0, none⟩) 1 1) (w.alloc (.cells cells e)) := by
  left
  cases hq : P.info? e with
  | none => simp [hq] at hz
  | some i =>
    simp only [hq, Option.map_some, Option.some.injEq, Prod.mk.injEq] at hz
    obtain ⟨hz1, hz2⟩ := hz
    have hfold : ∀ (cs acc : List Value) (k : Nat), acc.length = k + cs.length → (cs.zipIdx k).foldl (fun (A : Array Value) x => A.setIfInBounds (0 + x.2) x.1) acc.toArray = (acc.take k ++ cs).toArray := by
      intro cs
      induction cs with
      | nil => intro acc k hk; simp at hk; subst hk; simp
      | cons c cs ih =>
        intro acc k hk
        simp only [List.zipIdx_cons, List.foldl_cons, Nat.zero_add]
        have : (acc.toArray.setIfInBounds k c) = (acc.set k c).toArray := by simp
        rw [this]
        have h2 := ih (acc.set k c) (k + 1) (by simp at hk ⊢; omega)
        simp only [Nat.zero_add] at h2
        rw [h2]
        congr 1
        rw [List.take_succ_eq_append_getElem (by simp at hk ⊢; omega)]
        simp
        exact List.take_set_of_le (Nat.le_refl _)
    have hfill : Instr.fill (fun i' => some (i' * i.size, i.size)) ((Array.range (1 * i.size)).map (z.cells[· % z.cells.size]!)) [(0, .agg cells)] = some cells := by
      generalize z.cells = zc
      simp only [Instr.fill, Value.cells, hz2, Nat.zero_mul, Nat.one_mul, Array.size_map, Array.size_range]
      simp
      have := hfold cells.toList ((Array.range cells.size).map (zc[· % zc.size]!)).toList 0 (by simp)
      simp only [List.take_zero, List.nil_append, Nat.zero_add] at this
      have e1 : cells.zipIdx = (cells.toList.zipIdx 0).toArray := by
        apply Array.ext'
        simp
      rw [e1]
      have e2 : Array.map (fun x => zc[x % zc.size]!) (Array.range cells.size) = (List.map (fun x => zc[x % zc.size]!) (List.range cells.size)).toArray := by
        apply Array.ext'
        simp
      rw [e2]
      simpa using this
    unfold execOp
    simp only [ho, Sem.run_bind]
    have := run_buildSlice (P := P) w t e 1 #[(0, .agg cells)] cells i z hu hq hz1 (by rw [hz2]; omega) (by rw [hz2]; omega) hfill
    simp [hx, this]
end

section
variable {P : Program} {o : Oper} {a : Act} {w : World} {ops : Array Oper} {rest : List Oper} {Q : Exit → Act → World → Prop}
/-- A new block of noughts, the world under a name of its own. -/
theorem wpList_alloc_any (hg : o.guard = none) (ty : TypeId) (ho : o.op = .alloc ty) (z : Value) (hz : (P.info? ty).bind (·.zero) = some z)
    (h : ∀ w', w'.heap[w.heap.size]? = some (.cells z.cells ty (0, 0)) → w'.heap.size = w.heap.size + 1 → Below w.heap.size w w' → wpList P ops Q rest (a.put o.dst (.pointer (some ⟨w.heap.size, 0, none⟩))) w') : wpList P ops Q (o :: rest) a w :=
  (did_alloc ty ho z hz).list hg (h _ (heap_alloc_new w _) (by simp) ((Below.refl _ _).alloc (Nat.le_refl _) _))
theorem setRow_keep (g : Nat) (cells : Array Value) : Keep (· ≠ g) w (w.setRow g cells) := ⟨rfl, rfl, rfl, by simp, fun k hk => setRow_other w g k cells hk⟩
/-- A whole block is stored, the world under a name of its own. -/
theorem wpList_store_any (hgd : o.guard = none) (ty : TypeId) (x y : Operand) (ho : o.op = .store ty x y) (g : Nat) (cells : Array Value) (hx : a.eval x = .pointer (some ⟨g, 0, none⟩)) (hy : a.eval y = .agg cells)
    (t : TypeId) (old : Array Value) (hg : w.heap[g]? = some (.cells old t (0, 0))) (hi : (P.info? ty).map (·.size) = some cells.size) (hold : old.size = cells.size) (h1 : cells.all (·.oneCell') = true)
    (h : ∀ w', w'.heap[g]? = some (.cells cells t (0, 0)) → w'.heap.size = w.heap.size → Keep (· ≠ g) w w' → wpList P ops Q rest (a.put o.dst undef) w') : wpList P ops Q (o :: rest) a w :=
  (did_store ty x y ho g cells hx hy t old hg hi hold h1).list hgd (h _ (setRow_heap w g old cells t _ hg) (by simp) (setRow_keep g cells))
/-- copy of a slice of one-cell elements into a part of a block, the world under a name of its own. -/
theorem wpList_copy_any (hgd : o.guard = none) (s x : Operand) (dT sT : TypeId) (ho : o.op = .call { callee := .builtin .copy, args := #[s, x], argTypes := #[dT, sT] }) (elem : TypeId) (g k dLen dCap : Nat) (ad : Addr) (sLen sCap : Nat)
    (hs : a.eval s = .slice (some ⟨g, k, none⟩) dLen dCap) (hx : a.eval x = .slice (some ad) sLen sCap) (cur : List Value) (t : TypeId) (cs : List Value) (hu : P.underlying dT = some (.slice elem)) (hsz : (P.info? elem).map (·.size) = some 1)
    (hg : w.heap[g]? = some (.cells cur.toArray t (0, 0))) (hn : cs.length = Nat.min sLen dLen) (hsrc : ∀ j v, cs[j]? = some v → w.cell? (ad.add j) = some v) (hfit : k + cs.length ≤ cur.length) (h1 : ∀ v ∈ cs, v.oneCell' = true)
    (h : ∀ w', w'.heap[g]? = some (.cells (cur.take k ++ cs ++ cur.drop (k + cs.length)).toArray t (0, 0)) → w'.heap.size = w.heap.size → Keep (· ≠ g) w w' → wpList P ops Q rest (a.put o.dst (goInt cs.length)) w') : wpList P ops Q (o :: rest) a w := by
  have hr := run_copy_row P w dT sT o.type elem g k dLen dCap ad sLen sCap cur.toArray t cs hu hsz hg hn hsrc (by simpa using hfit) h1
  refine Did.list hgd (v := goInt cs.length) (w' := w.setRow g (cur.take k ++ cs ++ cur.drop (k + cs.length)).toArray) (.inl ?_) (h _ (setRow_heap w g _ _ t _ hg) (by simp) (setRow_keep g _))
  unfold execOp
  simp only [ho, resolve, invoke, builtin, Sem.run_bind, Sem.run_pure, Result.andThen_ok, List.map_toArray, List.map_cons, List.map_nil, hs, hx, hr]
end

section
variable {P : Program} {md : Region.Mode} {ops : Array Oper} {Q : Exit → Act → World → Prop} {o : Oper} {a : Act} {w w' : World} {v : Value}
theorem Did.op {i : Nat} {K : Act → World → Prop} (hi : ops[i]? = some o) (hg : o.guard = none) (h : Did P o a w v w') (hK : K (a.put o.dst v) w') : wpOp P ops Q i K a w :=
  wpOp_step hi fun _ hk => h.step hg (hk _ _ hK)
/-- One that alone is ready. -/
theorem wpAny_one {i fuel : Nat} {listed : Array Bool} (hi : ops[i]? = some o) (hg : o.guard = none) (r : Region.ready md ops listed = [i]) (d : Did P o a w v w')
    (h : wpAny P md ops Q fuel (listed.setIfInBounds i true) (a.put o.dst v) w') : wpAny P md ops Q (fuel + 1) listed a w :=
  wpAny_all r (by simp) fun j hj => by
    obtain rfl : j = i := by simpa using hj
    exact d.op hi hg h
/-- The rest goes one by one. -/
theorem wpAny_tail {k fuel : Nat} {listed : Array Bool} (hf : (ops.toList.drop k).length = fuel) (hB : Region.seqB md ops fuel k listed = true) (h : wpList P ops Q (ops.toList.drop k) a w) : wpAny P md ops Q fuel listed a w := by
  subst hf
  exact wpAny_of_seq _ k listed a w (fun j => by simp) hB h
theorem put_comm (a : Act) {d d' : Option Tmp} (h : d ≠ d') (v v' : Value) : (a.put d v).put d' v' = (a.put d' v').put d v := by
  rcases d with _ | d <;> rcases d' with _ | d' <;> simp [Act.put]
  exact Array.setIfInBounds_comm _ _ (fun e => h (by rw [e]))
/-- Two that read, one of which a third, which makes memory, waits for. -/
theorem wpAny_three {i j k fuel : Nat} {listed : Array Bool} {oi oj ok : Oper} {vi vj vk : Value} (hi : ops[i]? = some oi) (hj : ops[j]? = some oj) (hk : ops[k]? = some ok) (gi : oi.guard = none) (gj : oj.guard = none) (gk : ok.guard = none)
    (r0 : Region.ready md ops listed = [i, j]) (r1 : Region.ready md ops (listed.setIfInBounds i true) = [j]) (r2 : Region.ready md ops (listed.setIfInBounds j true) = [i, k])
    (r3 : Region.ready md ops ((listed.setIfInBounds i true).setIfInBounds j true) = [k]) (r4 : Region.ready md ops ((listed.setIfInBounds j true).setIfInBounds k true) = [i])
    (hij : i ≠ j) (hik : i ≠ k)
    (d1 : Did P oi a w vi w) (d2 : Did P oj (a.put oi.dst vi) w vj w) (d2' : Did P oj a w vj w) (d1' : Did P oi (a.put oj.dst vj) w vi w) (d3 : Did P ok ((a.put oi.dst vi).put oj.dst vj) w vk w') (d3' : Did P ok (a.put oj.dst vj) w vk w')
    (d1'' : Did P oi ((a.put oj.dst vj).put ok.dst vk) w' vi w') (n1 : oi.dst ≠ oj.dst) (n2 : oi.dst ≠ ok.dst)
    (h : wpAny P md ops Q fuel (((listed.setIfInBounds i true).setIfInBounds j true).setIfInBounds k true) (((a.put oi.dst vi).put oj.dst vj).put ok.dst vk) w') : wpAny P md ops Q (fuel + 3) listed a w := by
  have c1 : (listed.setIfInBounds j true).setIfInBounds i true = (listed.setIfInBounds i true).setIfInBounds j true := Array.setIfInBounds_comm _ _ (Ne.symm hij)
  have c2 : ((listed.setIfInBounds j true).setIfInBounds k true).setIfInBounds i true = ((listed.setIfInBounds i true).setIfInBounds j true).setIfInBounds k true := by
    rw [Array.setIfInBounds_comm _ _ (Ne.symm hik), c1]
  have e1 : (a.put oj.dst vj).put oi.dst vi = (a.put oi.dst vi).put oj.dst vj := put_comm a (Ne.symm n1) _ _
  have e2 : ((a.put oj.dst vj).put ok.dst vk).put oi.dst vi = ((a.put oi.dst vi).put oj.dst vj).put ok.dst vk := by rw [put_comm _ (Ne.symm n2), e1]
  refine wpAny_all r0 (by simp) fun n hn => ?_
  rcases List.mem_cons.1 hn with rfl | hn
  · exact d1.op hi gi (wpAny_one hj gj r1 d2 (wpAny_one hk gk r3 d3 h))
  · obtain rfl : n = j := by simpa using hn
    refine d2'.op hj gj (wpAny_all r2 (by simp) fun n2 hn2 => ?_)
    rcases List.mem_cons.1 hn2 with rfl | hn2
    · refine d1'.op hi gi (wpAny_one hk gk (by rw [c1]; exact r3) (by rw [e1]; exact d3) ?_)
      rw [c1, e1]
      exact h
    · obtain rfl : n2 = k := by simpa using hn2
      refine d3'.op hk gk (wpAny_one hi gi r4 d1'' ?_)
      rw [c2, e2]
      exact h
/-- The same with the slots said. -/
theorem wpAny_threeTo {i j k fuel : Nat} {listed : Array Bool} {oi oj ok : Oper} {vi vj vk : Value} (di dj dk : Tmp) (hi : ops[i]? = some oi) (hj : ops[j]? = some oj) (hk : ops[k]? = some ok) (gi : oi.guard = none) (gj : oj.guard = none) (gk : ok.guard = none)
    (ei : oi.dst = some di) (ej : oj.dst = some dj) (ek : ok.dst = some dk)
    (r0 : Region.ready md ops listed = [i, j]) (r1 : Region.ready md ops (listed.setIfInBounds i true) = [j]) (r2 : Region.ready md ops (listed.setIfInBounds j true) = [i, k])
    (r3 : Region.ready md ops ((listed.setIfInBounds i true).setIfInBounds j true) = [k]) (r4 : Region.ready md ops ((listed.setIfInBounds j true).setIfInBounds k true) = [i])
    (hij : i ≠ j) (hik : i ≠ k)
    (d1 : Did P oi a w vi w) (d2 : Did P oj (a.put (some di) vi) w vj w) (d2' : Did P oj a w vj w) (d1' : Did P oi (a.put (some dj) vj) w vi w) (d3 : Did P ok ((a.put (some di) vi).put (some dj) vj) w vk w') (d3' : Did P ok (a.put (some dj) vj) w vk w')
    (d1'' : Did P oi ((a.put (some dj) vj).put (some dk) vk) w' vi w') (n1 : di ≠ dj) (n2 : di ≠ dk)
    (h : wpAny P md ops Q fuel (((listed.setIfInBounds i true).setIfInBounds j true).setIfInBounds k true) (((a.put (some di) vi).put (some dj) vj).put (some dk) vk) w') : wpAny P md ops Q (fuel + 3) listed a w := by
  have m1 : oi.dst ≠ oj.dst := by rw [ei, ej]; exact fun e => n1 (by cases e; rfl)
  have m2 : oi.dst ≠ ok.dst := by rw [ei, ek]; exact fun e => n2 (by cases e; rfl)
  rw [← ei] at d2 d3 h
  rw [← ej] at d1' d3 d3' d1'' h
  rw [← ek] at d1'' h
  exact wpAny_three hi hj hk gi gj gk r0 r1 r2 r3 r4 hij hik d1 d2 d2' d1' d3 d3' d1'' m1 m2 h
theorem wpAny_takeTo {i fuel : Nat} {listed : Array Bool} {oi : Oper} (d : Tmp) (v : Value) (hi : ops[i]? = some oi) (hd : oi.dst = some d) (hs : Region.noSelect ops = true) (hf : Region.free md ops listed i = true) (hr : (Region.ready md ops listed).contains i = true)
    (hQ : ∀ c a w, Q (.panic c) (a.put (some d) v) w → Q (.panic c) a w) (hy : Yields P ops oi v a)
    (h : wpAny P md ops Q fuel (listed.setIfInBounds i true) (a.put (some d) v) w) : wpAny P md ops Q (fuel + 1) listed a w := by
  rw [← hd] at hQ h
  exact wpAny_take hi hs hf hr hQ hy h
theorem did_load_one (ty : TypeId) (x : Operand) (ho : o.op = .load ty x) (ad : Addr) (hx : a.eval x = .pointer (some ad)) (hu : (P.underlying ty).map (fun d => match d with | .struct _ | .array _ _ => true | _ => false) = some false)
    (hc : w.cell? ad = some v) : Did P o a w v w := by
  left
  have hagg : (isAgg ty).run P w = .ok false w := by
    unfold isAgg
    cases hq : P.underlying ty with
    | none => simp [hq] at hu
    | some d =>
      rw [Sem.run_bind, run_underlying hq w]
      cases d <;> simp_all
  unfold execOp
  simp [ho, hx, Instr.loadAt, Instr.sureAddr, loadVar, Sem.run_bind, hagg, run_load, hc]
end

/-! ### Maps from integers to bytes -/
/-- An integer that is a key. -/
def keyI : Value → Option Int
  | .int .i64 i => some i
  | _ => none
theorem keyI_inv {v : Value} {i : Int} (h : keyI v = some i) : v = .int .i64 i := by
  unfold keyI at h
  split at h
  · cases h; rfl
  · cases h
/-- The value under a key. -/
def look : List MapEntry → Int → Option Value
  | [], _ => none
  | e :: es, i => if keyI e.key = some i then some e.val else look es i
/-- Block b is a map from integers to bytes: F, whose default is the bytes z. -/
def IsMap (w : World) (b : Nat) (z : List UInt8) (F : Int → List UInt8) : Prop :=
  ∃ es clock, w.heap[b]? = some (.map es clock) ∧ (∀ e ∈ es.toList, ∃ i : Int, e.key = .int .i64 i) ∧ ∀ i, (look es.toList i).getD (.agg (bc z).toArray) = .agg (bc (F i)).toArray

theorem IsMap.lt {w : World} {b : Nat} {z : List UInt8} {F : Int → List UInt8} (h : IsMap w b z F) : b < w.heap.size := by
  obtain ⟨es, c, h, _⟩ := h
  exact (Array.getElem?_eq_some_iff.1 h).1
theorem IsMap.keep {w w' : World} {b : Nat} {z : List UInt8} {F : Int → List UInt8} (h : IsMap w b z F) (hb : w'.heap[b]? = w.heap[b]?) : IsMap w' b z F := by
  obtain ⟨es, c, h, k⟩ := h
  exact ⟨es, c, hb.trans h, k⟩
theorem IsMap.new (w : World) (z : List UInt8) : IsMap (w.alloc (.map #[] 0)) w.heap.size z (fun _ => z) := ⟨#[], 0, heap_alloc_new w _, by simp, fun i => by simp [look]⟩

theorem findNow_spec (i : Int) : ∀ (es : List MapEntry) (k : Nat), (∀ e ∈ es, ∃ j : Int, e.key = .int .i64 j) →
    (look es i = none ∧ Instr.findNow (.int .i64) (.int .i64 i) es k = some none) ∨ (∃ n v, look es i = some v ∧ Instr.findNow (.int .i64) (.int .i64 i) es k = some (some (k + n, v)) ∧ n < es.length ∧ (es[n]?).map (·.key) = some (.int .i64 i) ∧
      ∀ x j, look (es.modify n fun e => { e with key := .int .i64 i, val := x }) j = if j = i then some x else look es j)
  | [], k, _ => .inl ⟨rfl, rfl⟩
  | e :: es, k, h => by
    obtain ⟨j, hj⟩ := h e (by simp)
    have hk : keyI e.key = some j := by rw [hj]; rfl
    by_cases hij : j = i
    · subst hij
      refine .inr ⟨0, e.val, by simp [look, hk], by simp [Instr.findNow, Instr.sameNow, hj], by simp, by simp [hj], fun x j' => ?_⟩
      simp only [List.modify_zero_cons, look, hk]
      by_cases e1 : j' = j
      · subst e1; simp [keyI]
      · have : ¬ j = j' := fun e => e1 e.symm
        simp [e1, this, keyI]
    · have hb : (i == j) = false := by simp; exact fun e => hij e.symm
      rcases findNow_spec i es (k + 1) (fun e he => h e (by simp [he])) with ⟨h1, h2⟩ | ⟨n, v, h1, h2, h3, h4, h5⟩
      · exact .inl ⟨by simp [look, hk, hij, h1], by simp [Instr.findNow, Instr.sameNow, hj, hb, h2]⟩
      · refine .inr ⟨n + 1, v, by simp [look, hk, hij, h1], by simp [Instr.findNow, Instr.sameNow, hj, hb, h2]; omega, by simp; omega, by simpa using h4, fun x j' => ?_⟩
        simp only [List.modify_succ_cons, look, hk, h5]
        by_cases e1 : j' = i
        · subst e1; simp [hij]
        · by_cases e2 : j = j'
          · subst e2; simp [e1]
          · simp [e1, e2]

section
variable {P : Program} {w : World} {b : Nat} {z : List UInt8} {F : Int → List UInt8}
/-- m[i]. -/
theorem IsMap.lookup (h : IsMap w b z F) {t k e : TypeId} (ht : P.underlying t = some (.map k e)) (hk : P.underlying k = some (.int .i64)) (hz : (P.info? e).bind (·.zero) = some (.agg (bc z).toArray)) (i : Int) :
    (Instr.lookup t (.map (some b)) (.int .i64 i) false).run P w = .ok (.agg (bc (F i)).toArray) w := by
  obtain ⟨es, c, hb, hkeys, hF⟩ := h
  have hFi := hF i
  have hik : MapKept.IsKey (.int .i64) (.int .i64 i) := by simp [MapKept.IsKey]
  cases hq : P.info? e with
  | none => simp [hq] at hz
  | some ie =>
    have hz' : ie.zero = some (.agg (bc z).toArray) := by simpa [hq] using hz
    rcases findNow_spec i es.toList 0 hkeys with ⟨h1, h2⟩ | ⟨n, v, h1, h2, _⟩
    · rw [h1] at hFi
      simp only [Option.getD_none] at hFi
      rw [← hFi]
      simp [Instr.lookup, run_underlying ht, MapKept.run_getObj_map hb, MapKept.run_checkKey hk hik, MapKept.run_findKey hk h2, zeroValue, typeInfo, hq, hz', Result.andThen]
    · rw [h1] at hFi
      simp only [Option.getD_some] at hFi
      rw [← hFi]
      simp [Instr.lookup, run_underlying ht, MapKept.run_getObj_map hb, MapKept.run_checkKey hk hik, MapKept.run_findKey hk h2, Result.andThen]
/-- m[i] = l. -/
theorem IsMap.update (h : IsMap w b z F) {t k e : TypeId} (ht : P.underlying t = some (.map k e)) (hk : P.underlying k = some (.int .i64)) (i : Int) (l : List UInt8) :
    ∃ w', (Instr.mapUpdate t (.map (some b)) (.int .i64 i) (.agg (bc l).toArray)).run P w = .ok () w' ∧ IsMap w' b z (fun j => if j = i then l else F j) ∧ w.grownBy w' (some b) ∧ w'.heap.size = w.heap.size := by
  obtain ⟨es, c, hb, hkeys, hF⟩ := h
  have hik : MapKept.IsKey (.int .i64) (.int .i64 i) := by simp [MapKept.IsKey]
  have gb : ∀ o : Obj, w.grownBy { w with heap := w.heap.setIfInBounds b o } (some b) := fun o => ⟨rfl, rfl, rfl, by simp, fun j _ hj => by
    simp only [Array.getElem?_setIfInBounds]
    rw [if_neg (fun e => hj (by rw [e]))]⟩
  rcases findNow_spec i es.toList 0 hkeys with ⟨h1, h2⟩ | ⟨n, v, h1, h2, h3, h4, h5⟩
  · refine ⟨{ w with heap := w.heap.setIfInBounds b (.map (es.push { key := .int .i64 i, val := .agg (bc l).toArray, born := c }) (c + 1)) }, ?_, ⟨_, _, (MapKept.heap_set hb).1, ?_, ?_⟩, gb _, by simp⟩
    · simp [Instr.mapUpdate, run_underlying ht, MapKept.run_getObj_map hb, MapKept.run_checkKey hk hik, MapKept.run_findKey hk h2, MapKept.run_setObj_map _ hb, Result.andThen]
    · intro e he
      simp only [Array.toList_push, List.mem_append, List.mem_singleton] at he
      rcases he with he | rfl
      · exact hkeys e he
      · exact ⟨i, rfl⟩
    · intro j
      have happ : ∀ (A : List MapEntry) (x : MapEntry), look (A ++ [x]) j = (look A j).or (if keyI x.key = some j then some x.val else none) := by
        intro A x
        induction A with
        | nil => simp [look]
        | cons y A ih => simp only [List.cons_append, look, ih]; split <;> simp
      rw [Array.toList_push, happ]
      by_cases e1 : j = i
      · subst e1
        simp [h1, keyI]
      · have e2 : ¬ i = j := fun e => e1 e.symm
        simp [e1, e2, keyI]
        exact hF j
  · have hes : ((es[n]?).map (·.key)).getD (.int .i64 i) = .int .i64 i := by
      have : es[n]? = es.toList[n]? := by simp
      rw [this, h4]
      rfl
    refine ⟨{ w with heap := w.heap.setIfInBounds b (.map (es.modify n fun e => { e with key := .int .i64 i, val := .agg (bc l).toArray }) c) }, ?_, ⟨_, _, (MapKept.heap_set hb).1, ?_, ?_⟩, gb _, by simp⟩
    · simp [Instr.mapUpdate, run_underlying ht, MapKept.run_getObj_map hb, MapKept.run_checkKey hk hik, MapKept.run_findKey hk h2, MapKept.run_setObj_map _ hb, Result.andThen, hes, MapKept.run_keyThatStays hik]
    · intro e he
      rw [Array.toList_modify] at he
      obtain ⟨j, hj⟩ := List.mem_iff_getElem?.1 he
      rw [List.getElem?_modify] at hj
      obtain ⟨x, hx, rfl⟩ := Option.map_eq_some_iff.1 hj
      by_cases hnj : n = j
      · rw [if_pos hnj]
        exact ⟨i, rfl⟩
      · rw [if_neg hnj]
        exact hkeys x (List.mem_of_getElem? hx)
    · intro j
      rw [Array.toList_modify, h5]
      by_cases e1 : j = i
      · subst e1
        simp
      · simp only [e1, if_false]
        exact hF j
theorem IsMap.did_lookup {o : Oper} {a : Act} (h : IsMap w b z F) {t k e : TypeId} (m x : Operand) (ho : o.op = .lookup t m x false) (ht : P.underlying t = some (.map k e)) (hk : P.underlying k = some (.int .i64)) (hz : (P.info? e).bind (·.zero) = some (.agg (bc z).toArray)) (i : Int)
    (hm : a.eval m = .map (some b)) (hx : a.eval x = .int .i64 i) : Did P o a w (.agg (bc (F i)).toArray) w := by
  left
  unfold execOp
  simp only [ho, hm, hx, Sem.run_bind, h.lookup ht hk hz i, Result.andThen_ok]
  rfl
theorem IsMap.did_update {o : Oper} {a : Act} (h : IsMap w b z F) {t k e : TypeId} (m x y : Operand) (ho : o.op = .mapUpdate t m x y) (ht : P.underlying t = some (.map k e)) (hk : P.underlying k = some (.int .i64)) (i : Int) (l : List UInt8)
    (hm : a.eval m = .map (some b)) (hx : a.eval x = .int .i64 i) (hy : a.eval y = .agg (bc l).toArray) :
    ∃ w', Did P o a w undef w' ∧ IsMap w' b z (fun j => if j = i then l else F j) ∧ w.grownBy w' (some b) ∧ w'.heap.size = w.heap.size := by
  obtain ⟨w', hr, h1, h2, h3⟩ := h.update (P := P) ht hk i l
  refine ⟨w', .inr ⟨?_, rfl⟩, h1, h2, h3⟩
  unfold execOp
  simp only [ho, hm, hx, hy, Sem.run_bind, hr, Result.andThen_ok]
  rfl
end
theorem bc_all (l : List UInt8) : (bc l).toArray.all (·.oneCell') = true := by
  simp only [List.all_toArray, List.all_eq_true]
  exact fun u hu => bc_one l u hu
end Go.Proofs.Ytjionpkflpnejaa
