/-
  A region that draws its order, reads first and ends in one operation, inside a fence (also in a round). Nothing of the program is named here.
  Contracts of slices.Values at entries, of the function that it returns, and of package dir's from (layer 8).
  Contract of package dir's from, and the walk of After (layer 8).
  Contract of package dir's After (layer 8).
  Contract of package dir's Get (layer 8).
  Contract of the document's example (layer 8): it holds, and leaves all memory that was there alone.
  DirNames walked (layer 8).
  Steps of this layer's statements: rows of bools and of numbers, one byte as a text (layer 8).
  Entries that came in (layer 8).
  What package slot's texts share: blocks known whole, parts of them that are stored and loaded, cells that came in (layer 11; rows of call's texts that name no package).
  States of a move, plain: which may be, their bytes, what bytes are of them (layer 15). No program.
  States of a move as they lie in memory, the program's and the document's; two compared (layer 15).
-/
import Derived.Test.YtjionpkflpnejaaMQ2
import Derived.RangeFuncNested
import Derived.RangeFuncBound
import Derived.RangeFuncCalls
import Derived.RangeFuncLeaves
import Derived.RangeFuncWrites
import Derived.Shelf.Abstract
import Derived.Shelf.RegionOpen
import Derived.OwnWalkIn
import Derived.TacticsInMore
import Derived.LoopNIn
import Derived.LoopIn
import Derived.Deep.DeepCutAuto
import Derived.Laws.MakeOwn
import Derived.Deep.RegionHeld
import Derived.ProofKit
import Derived.OpenShut
import Derived.ShutString
import Derived.ChangeOld
import Derived.Deep.Slices
import Derived.Deep.Fields
import Derived.Laws.StructEq
namespace Go.Proofs.Ytjionpkflpnejaa
open Go.RowKit

/-- Operations that never begin a call. -/
def plainOp : Op → Bool
  | .move _ | .load .. | .fieldAddr .. | .nilCheck _ => true
  | _ => false

theorem plain_noEnter {ρ : Operand → Value} {o : Oper} (h : plainOp o.op = true) {P : Program} {w w' : World} {f : FuncId} {args : Array Value} : (execOp ρ o).run P w ≠ .ok (.enter f args) w' := by
  unfold execOp
  cases ho : o.op <;> rw [ho] at h <;> first | (simp [plainOp] at h; done) | skip
  case move x => simp
  case load t x =>
    simp only [Sem.run_bind]
    cases (Instr.loadAt t (ρ x)).run P w <;> simp [Result.andThen]
  case fieldAddr s x fl =>
    simp only [Sem.run_bind]
    cases (Instr.fieldAt s (ρ x) fl).run P w <;> simp [Result.andThen]
  case nilCheck x =>
    dsimp only
    split
    · simp [runtimePanic, goPanic, Sem.run_bind, Result.andThen, Sem.run]
    · simp [runtimePanic, goPanic, Sem.run_bind, Result.andThen, Sem.run]
    · simp [runtimePanic, goPanic, Sem.run_bind, Result.andThen, Sem.run]
    · split
      · simp [runtimePanic, goPanic, Sem.run_bind, Result.andThen, Sem.run]
      · simp only [Sem.run_bind, run_program, Result.andThen]
        split
        · split <;> simp [unsupported, Sem.run]
        · simp
      · simp
    · simp

section
variable {F : Fence} {m : Nat} {P : Program} {md : Region.Mode} {ops : Array Oper} {w : World}
theorem wpIn_of_still {o : Oper} {a : Act} {K : Act → Prop} {K' : Act → World → Prop} {Q : Exit → Act → World → Prop} (hp : plainOp o.op = true) (h : ∀ a, K a → K' a w) (hh : o.still P a w K) : o.wpIn F m P a w K' Q := by
  have hc : ∀ c, o.op ≠ .call c := fun c e => by rw [e] at hp; cases hp
  have hd : ∀ c, o.op ≠ .defer c := fun c e => by rw [e] at hp; cases hp
  unfold Oper.still at hh
  cases hr : (execOp a.eval o).run P w with
  | ok x w' =>
    rw [hr] at hh
    cases x <;> simp only [Oper.stillUpon] at hh
    case value v =>
      obtain ⟨rfl, hk⟩ := hh
      exact Did.wpIn hc hd (.inl hr) (h _ hk)
    case skip =>
      obtain ⟨rfl, hk⟩ := hh
      exact Did.wpIn hc hd (.inr ⟨hr, rfl⟩) (h _ hk)
    case enter f args => exact absurd hr (plain_noEnter hp)
  | halt x w' =>
    rw [hr] at hh
    exact hh.elim
theorem about_plain {o : Oper} {a : Act} (hp : plainOp o.op = true) : ∀ f, o.about P w a.eval = some f → F.fn f := fun f hf => by
  unfold Oper.about at hf
  split at hf
  · rename_i hc
    rw [hc] at hp
    cases hp
  · cases hf
theorem wpOpIn_of_stOp {i : Nat} {a : Act} {K : Act → Prop} {K' : Act → World → Prop} {Q : Exit → Act → World → Prop} (hp : ∀ o, ops[i]? = some o → plainOp o.op = true) (h : ∀ a, K a → K' a w) (hh : stOp P ops w i K a) : wpOpIn F m P ops Q i K' a w := by
  unfold stOp at hh
  unfold wpOpIn
  split
  · rename_i ho; simp only [ho] at hh; exact h _ hh
  · rename_i o ho
    simp only [ho] at hh
    split
    · rename_i hw; simp only [hw, if_true] at hh; exact wpIn_of_still (hp o ho) h hh
    · rename_i hw; simp only [hw] at hh; exact ⟨about_plain (hp o ho), h _ hh⟩
theorem wpAnyIn_of_head {n g : Nat} {L : Array Bool → Act → Prop} {Q : Exit → Act → World → Prop} (hp : ∀ i o, i < n → ops[i]? = some o → plainOp o.op = true) (hL : ∀ listed a, L listed a → wpAnyIn F m P md ops Q g listed a w) :
    ∀ (f : Nat) (listed : Array Bool) (a : Act), wpAnyL P md ops w n L f listed a → wpAnyIn F m P md ops Q (f + g) listed a w
  | 0, listed, a, h => by rw [Nat.zero_add]; exact hL _ _ h
  | f + 1, listed, a, h => by
    rw [show f + 1 + g = (f + g) + 1 by omega]
    exact ⟨fun h0 => absurd h0 h.1, fun i hi => wpOpIn_of_stOp (fun o ho => hp i o (h.2 i hi).1 ho) (fun a' h' => wpAnyIn_of_head hp hL f _ a' h') (h.2 i hi).2⟩
/-- The region: n operations that read, then one. -/
theorem wpIn_region_still_one {id : Nat} {Q : Exit → Act → World → Prop} {a : Act} {l : List Oper} (n : Nat) (o : Oper) (hm : P.follows .mixedOrders = true) (hB : Region.lexTailB .any l.toArray n = true) (hlast : l.drop n = [o]) (hp : (l.take n).all (fun o => plainOp o.op) = true)
    (h : wpStill P l.toArray w.drew (fun a' => wpListIn F m P l.toArray Q [o] a' w.drew) (l.take n) a) : (Code.region id l.toArray true).wpIn F m P Q a w := by
  simp only [Region.lexTailB, Bool.and_eq_true, decide_eq_true_eq] at hB
  obtain ⟨⟨⟨⟨hsel, hn⟩, hs⟩, hc⟩, hlex⟩ := hB
  have hn' : n < l.length := by simpa using hn
  have hlen : l.length = n + 1 := by
    have := congrArg List.length hlast
    simp at this
    omega
  have htl : (l.take n).length = n := by simp; omega
  have hon : l[n]? = some o := by
    have := congrArg (fun x => x[0]?) hlast
    simpa [List.getElem?_drop] using this
  have inv0 : HeadInv .any l.toArray n (Array.replicate l.toArray.size false) :=
    ⟨by simp, fun j oj _ hl => (by rw [getD_replicate_false] at hl; cases hl), fun t _ ht => getD_in (by simpa using ht) (getD_replicate_false _ _)⟩
  have H := wpAnyL_lex (md := .any) (g := l.toArray.size - n) hsel hs hc hn (l.take n) 0 _ a (fun j hj => by
    have hj' : j < n := by rw [htl] at hj; exact hj
    simp [hj']) (by simpa using htl) inv0 (by rw [htl]; exact hlex) h
  refine wpIn_region_any hm ?_
  have hp' : ∀ i o, i < n → l.toArray[i]? = some o → plainOp o.op = true := fun i o hi ho => by
    have hm : o ∈ l.take n := List.mem_of_getElem? (i := i) (by rw [List.getElem?_take]; simpa [hi] using ho)
    exact (List.all_eq_true.1 hp) o hm
  have := wpAnyIn_of_head (F := F) (m := m) (Q := Q) (g := l.toArray.size - n) hp' (fun listed a' hL => by
    have hg : l.toArray.size - n = 1 := by simp; omega
    rw [hg] at hL ⊢
    obtain ⟨hq, hl⟩ := hL
    simp only [Region.seqB, Bool.and_eq_true, decide_eq_true_eq] at hq
    refine ⟨fun h0 => absurd h0 (by rw [hq.1]; simp), fun i hi => ?_⟩
    obtain rfl : i = n := by rw [hq.1] at hi; simpa using hi
    unfold wpOpIn
    simp only [List.getElem?_toArray, hon]
    have hrd : Region.ready .any l.toArray (listed.setIfInBounds i true) = [] := by simpa using hq.2
    unfold wpListIn at hl
    split
    · rename_i hw
      rw [if_pos hw] at hl
      exact Oper.wpIn_mono (fun a w hh => ⟨hrd, hh⟩) hl
    · rename_i hw
      rw [if_neg hw] at hl
      exact ⟨hl.1, hrd, hl.2⟩) _ _ _ H
  rw [htl, show n + (l.toArray.size - n) = l.toArray.size by simp; omega] at this
  exact this
theorem Did.listIn {o : Oper} {a : Act} {w' : World} {v : Value} {rest : List Oper} {Q : Exit → Act → World → Prop} (hg : o.guard = none) (hc : ∀ c, o.op ≠ .call c) (hd : ∀ c, o.op ≠ .defer c) (h : Did P o a w v w') (hK : wpListIn F m P ops Q rest (a.put o.dst v) w') : wpListIn F m P ops Q (o :: rest) a w := by
  have hw : Region.wanted o (yielded ops a.tmps) = true := by simp [Region.wanted, hg]
  unfold wpListIn
  rw [if_pos hw]
  exact h.wpIn hc hd hK
theorem wpListIn_alloc_any {o : Oper} {a : Act} {rest : List Oper} {Q : Exit → Act → World → Prop} (hg : o.guard = none) (ty : TypeId) (ho : o.op = .alloc ty) (z : Value) (hz : (P.info? ty).bind (·.zero) = some z)
    (h : ∀ w', w'.heap[w.heap.size]? = some (.cells z.cells ty (0, 0)) → w'.heap.size = w.heap.size + 1 → Below w.heap.size w w' → wpListIn F m P ops Q rest (a.put o.dst (.pointer (some ⟨w.heap.size, 0, none⟩))) w') : wpListIn F m P ops Q (o :: rest) a w :=
  (did_alloc ty ho z hz).listIn hg (by rw [ho]; intro c h; cases h) (by rw [ho]; intro c h; cases h) (h _ (heap_alloc_new w _) (by simp) ((Below.refl _ _).alloc (Nat.le_refl _) _))
theorem wpListIn_store_any {o : Oper} {a : Act} {rest : List Oper} {Q : Exit → Act → World → Prop} (hgd : o.guard = none) (ty : TypeId) (x y : Operand) (ho : o.op = .store ty x y) (g : Nat) (cells : Array Value) (hx : a.eval x = .pointer (some ⟨g, 0, none⟩)) (hy : a.eval y = .agg cells)
    (t : TypeId) (old : Array Value) (hg : w.heap[g]? = some (.cells old t (0, 0))) (hi : (P.info? ty).map (·.size) = some cells.size) (hold : old.size = cells.size) (h1 : cells.all (·.oneCell') = true)
    (h : ∀ w', w'.heap[g]? = some (.cells cells t (0, 0)) → w'.heap.size = w.heap.size → Keep (· ≠ g) w w' → wpListIn F m P ops Q rest (a.put o.dst undef) w') : wpListIn F m P ops Q (o :: rest) a w :=
  (did_store ty x y ho g cells hx hy t old hg hi hold h1).listIn hgd (by rw [ho]; intro c h; cases h) (by rw [ho]; intro c h; cases h) (h _ (setRow_heap w g old cells t _ hg) (by simp) (setRow_keep g cells))
theorem wpListIn_update_any {o : Oper} {a : Act} {rest : List Oper} {Q : Exit → Act → World → Prop} {b : Nat} {z : List UInt8} {G : Int → List UInt8} (hgd : o.guard = none) (h : IsMap w b z G) (t k e : TypeId) (mo x y : Operand) (ho : o.op = .mapUpdate t mo x y)
    (ht : P.underlying t = some (.map k e)) (hk : P.underlying k = some (.int .i64)) (i : Int) (l : List UInt8) (hm : a.eval mo = .map (some b)) (hx : a.eval x = .int .i64 i) (hy : a.eval y = .agg (bc l).toArray)
    (hK : ∀ w', IsMap w' b z (fun j => if j = i then l else G j) → w.grownBy w' (some b) → w'.heap.size = w.heap.size → wpListIn F m P ops Q rest (a.put o.dst undef) w') : wpListIn F m P ops Q (o :: rest) a w := by
  obtain ⟨w', hd, h1, h2, h3⟩ := h.did_update (P := P) (o := o) (a := a) mo x y ho ht hk i l hm hx hy
  exact hd.listIn hgd (by rw [ho]; intro c h; cases h) (by rw [ho]; intro c h; cases h) (hK w' h1 h2 h3)
end
end Go.Proofs.Ytjionpkflpnejaa

namespace Go.Proofs.Ytjionpkflpnejaa
open Go.RowKit Go.Shelf
attribute [local go_sem] Oper.semAt_some

theorem ES.keepK {K : Nat → Prop} {w w' : World} {A : Option Addr} {n : Nat} {es : List En} (h : ES w A n es) (hk : Keep K w w') (hA : 0 < n → ∀ ad, A = some ad → K ad.block) : ES w' A n es :=
  ⟨h.1, fun hn => by
    obtain ⟨b, o, e, hc⟩ := h.2 hn
    exact ⟨b, o, e, fun j hj i v hv => (World.cell?_of_block (hk.block b (hA hn _ e))).trans (hc j hj i v hv)⟩⟩
theorem EB.load {w : World} {g : Nat} {t : TypeId} {e : En} (h : EB w g t e) : ∀ j u, (ec e)[j]? = some u → w.cell? ((⟨g, 0, none⟩ : Addr).add j) = some u := fun j u hu => by
  rw [add_plain, Nat.zero_add]
  exact h.cell j u hu
theorem Keep.bel {K : Nat → Prop} {a w w' : World} (h : Keep K a w) (hK : ∀ k, K k → k < a.heap.size) (hb : Below w.heap.size w w') : Keep K a w' :=
  h.trans ⟨hb.os, hb.tape, hb.output, hb.size, fun k hk => hb.block k (Nat.lt_of_lt_of_le (hK k hk) h.size)⟩

end Go.Proofs.Ytjionpkflpnejaa

namespace Go.Proofs.Ytjionpkflpnejaa
open Go.RowKit Go.Shelf
attribute [local go_sem] Oper.semAt_some

theorem frm_le (es : List En) (c : Nat) : frm es c ≤ es.length := List.findIdx_le_length
end Go.Proofs.Ytjionpkflpnejaa

namespace Go.Proofs.Ytjionpkflpnejaa
open Go.RowKit Go.Shelf
attribute [local go_sem] Oper.semAt_some

theorem wpListIn_append_es {F : Fence} {m : Nat} {P : Program} (w : World) {ops : Array Oper} {rest : List Oper} {o : Oper} {a : Act} {Q : Exit → Act → World → Prop}
    (hgd : o.guard = none) (s x : Operand) (t : TypeId) (hop : o.op = Op.call { callee := Callee.builtin Builtin.append, args := #[s, x], argTypes := #[t, t] })
    (base : Nat) (e : TypeId) (i : TypeInfo) (z : Value) (ht : P.underlying t = some (.slice e)) (hi : P.info? e = some i) (hz : i.zero = some z) (hsize : i.size = 4) (hby : i.bytes = 32) (hzs : z.cells.size = 4)
    (A0 : Option Addr) (n0 c0 : Nat) (l0 : List En) (hs : a.eval s = .slice A0 n0 c0) (hown : w.ownsRow base e 4 (.slice A0 n0 c0) n0 (ecs l0))
    (A : Option Addr) (k c : Nat) (l : List En) (hx : a.eval x = .slice A k c) (hr : ES w A k l) (hb : n0 + k ≤ 400000000) (hbase : base ≤ w.heap.size)
    (h : ∀ A' c' w', w'.ownsRow base e 4 (.slice A' (n0 + k) c') (n0 + k) (ecs (l0 ++ l)) → w.grownBy w' (Value.slice A0 n0 c0).ownBlock → wpListIn F m P ops Q rest (a.put o.dst (.slice A' (n0 + k) c')) w') : wpListIn F m P ops Q (o :: rest) a w := by
  refine wpListIn_plain hgd fun K hK' => ?_
  obtain ⟨A', c', w', hrun, r1, r2, _⟩ := run_append_es (P := P) w base t o.type e i z ht hi hz hsize hby hzs A0 n0 c0 l0 hown A k c l hr hb hbase
  unfold Oper.wpIn
  refine ⟨?_, ?_⟩
  · simp [Oper.about, hop, resolve, Target.leads, Sem.run_pure]
  · rw [Oper.semAt_plain F _ _ (by rw [hop]; intro c hc'; cases hc')]
    simp [execOp, hop, resolve, invoke, builtin, hs, hx, hrun, Result.andThen]
    exact hK' _ _ (h A' c' w' r1 r2)

theorem own_ncells {W W' : World} {base : Nat} {t : TypeId} {v : Value} {n : Nat} {xs : List Value} {row : Option Nat} (h : W.ownsRow base t 4 v n xs) (hg : W.grownBy W' row) (hr : ∀ r, row = some r → ∃ o : Obj, W.heap[r]? = some o ∧ o.isCells = false) : W'.ownsRow base t 4 v n xs := by
  refine h.kept hg ?_
  rcases h.2 with ⟨h1, _⟩ | ⟨g, cap, cur, h1, _, h2, _⟩
  · left; rw [h1]; rfl
  · right
    rw [h1]
    intro e
    obtain ⟨o, ho, hc⟩ := hr g (by rw [← e]; rfl)
    rw [h2] at ho
    injection ho with ho
    subst ho
    cases hc
/-- What After hands back. -/
def AftP (es : List En) (c : Nat) (most : Int) (w : World) (en : Ending) (w' : World) : Prop := ∃ A n cp, en = .returned (.tuple #[.slice A n cp, .bool (aftB es c most)]) ∧ ES w' A n (aftL es c most) ∧ n ≤ cp ∧ Below w.heap.size w w'

theorem foldl_one (p : Tmp) (v : Value) (t : Array Value) : (#[p].zip #[v]).foldl (fun (t : Array Value) (x : Tmp × Value) => match x with | (p, v) => t.setIfInBounds p v) t = t.setIfInBounds p v := by simp
theorem Keep.trans2 {b b6 b7 B : Nat} {a w w' : World} (h : Keep (fun k => k ≠ b ∧ k < B) a w) (k : Keep (fun k => k ≠ b6 ∧ k ≠ b7) w w') : Keep (fun k => k ≠ b6 ∧ k ≠ b7 ∧ k ≠ b ∧ k < B) a w' :=
  (h.mono fun _ hk => ⟨hk.2.2.1, hk.2.2.2⟩).trans (k.mono fun _ hk => ⟨hk.1, hk.2.1⟩)
theorem results_two {t u : TypeId} {fn : Func} {p q : Tmp} (h : fn.results = #[.cell p t, .cell q u]) (tmps : Array Value) (w : World) (a b : Addr) (v x : Value) (hp : tmps.getD p undef = .pointer (some a)) (hq : tmps.getD q undef = .pointer (some b))
    (hu : (Try.prog.underlying t).map (fun d => match d with | .struct _ | .array _ _ => true | _ => false) = some false) (hu2 : (Try.prog.underlying u).map (fun d => match d with | .struct _ | .array _ _ => true | _ => false) = some false) (hc : w.cell? a = some v) (hc2 : w.cell? b = some x) :
    (results fn tmps).run Try.prog w = .ok (.tuple #[v, x]) w := by
  have hp' : tmps[p]?.getD undef = .pointer (some a) := by simpa using hp
  have hq' : tmps[q]?.getD undef = .pointer (some b) := by simpa using hq
  have one : ∀ (t : TypeId) (ad : Addr) (v : Value), (Try.prog.underlying t).map (fun d => match d with | .struct _ | .array _ _ => true | _ => false) = some false → w.cell? ad = some v → (loadVar t ad).run Try.prog w = .ok v w := by
    intro t ad v hu hc
    have hagg : (isAgg t).run Try.prog w = .ok false w := by
      cases hq : Try.prog.underlying t with
      | none => simp [hq] at hu
      | some d =>
        unfold isAgg
        rw [Sem.run_bind, run_underlying hq w]
        cases d <;> simp_all
    unfold loadVar
    rw [Sem.run_bind, hagg]
    simp [hc]
  simp [results, h, hp', hq', asAddr, one t a v hu hc, one u b x hu2 hc2]
theorem put_block {W : World} {k Dd : Nat} {o o' : Obj} (h : W.heap[k]? = some o) (hk : k ≠ Dd) : (W.putObj Dd o').heap[k]? = some o := by
  have hg := grownBy_putObj' W Dd o'
  exact (hg.block k (Array.getElem?_eq_some_iff.1 h).1 (fun e => hk (by simpa using e))).trans h
/-- Both results are stored; then the mark of the calls that wait is put away. -/
theorem fin2 {W : World} {b6 b7 D : Nat} {u6 u7 : Value} {t6 t7 : TypeId} (hne : b6 ≠ b7) (h6 : W.heap[b6]? = some (.cells #[u6] t6 (0, 0))) (h7 : W.heap[b7]? = some (.cells #[u7] t7 (0, 0))) (v6 v7 : Value) (hK : W.heap[D]? = some (.deferred (some []))) (hD6 : b6 < D) (hD7 : b7 < D) :
    ((W.setCell ⟨b6, 0, none⟩ v6).setCell ⟨b7, 0, none⟩ v7).heap[b6]? = some (.cells #[v6] t6 (0, 0)) ∧ ((W.setCell ⟨b6, 0, none⟩ v6).setCell ⟨b7, 0, none⟩ v7).heap[b7]? = some (.cells #[v7] t7 (0, 0)) ∧ ((W.setCell ⟨b6, 0, none⟩ v6).setCell ⟨b7, 0, none⟩ v7).heap[D]? = some (.deferred (some [])) := by
  have e6 : (W.setCell ⟨b6, 0, none⟩ v6).heap[b6]? = some (.cells #[v6] t6 (0, 0)) := by
    rw [setCell_eq_setRow _ _ _ _ _ _ _ h6, setRow_heap _ _ _ _ _ _ h6]
    simp
  have e7 : (W.setCell ⟨b6, 0, none⟩ v6).heap[b7]? = some (.cells #[u7] t7 (0, 0)) := (Below.heap_setCell _ ⟨b6, 0, none⟩ _ _ (fun e => hne e.symm)).trans h7
  refine ⟨(Below.heap_setCell _ ⟨b7, 0, none⟩ _ _ hne).trans e6, ?_, ?_⟩
  · rw [setCell_eq_setRow _ _ _ _ _ _ _ e7, setRow_heap _ _ _ _ _ _ e7]
    simp
  · rw [Below.heap_setCell _ ⟨b7, 0, none⟩ _ _ (by show D ≠ b7; omega), Below.heap_setCell _ ⟨b6, 0, none⟩ _ _ (by show D ≠ b6; omega)]
    exact hK
/-- Five blocks that a call lays. -/
theorem five (w : World) (a1 a2 a3 a4 a5 : Array Value) (t1 t2 t3 t4 t5 : TypeId) : ∃ W, (((((w.alloc (.cells a1 t1)).alloc (.cells a2 t2)).alloc (.cells a3 t3)).alloc (.cells a4 t4)).alloc (.cells a5 t5)) = W ∧ W.heap.size = w.heap.size + 5 ∧ Below w.heap.size w W ∧
    W.heap[w.heap.size]? = some (.cells a1 t1 (0, 0)) ∧ W.heap[w.heap.size + 1]? = some (.cells a2 t2 (0, 0)) ∧ W.heap[w.heap.size + 1 + 1]? = some (.cells a3 t3 (0, 0)) ∧ W.heap[w.heap.size + 1 + 1 + 1]? = some (.cells a4 t4 (0, 0)) ∧ W.heap[w.heap.size + 1 + 1 + 1 + 1]? = some (.cells a5 t5 (0, 0)) := by
  have s1 : (w.alloc (.cells a1 t1)).heap.size = w.heap.size + 1 := by simp
  have s2 : ((w.alloc (.cells a1 t1)).alloc (.cells a2 t2)).heap.size = w.heap.size + 1 + 1 := by simp
  have s3 : (((w.alloc (.cells a1 t1)).alloc (.cells a2 t2)).alloc (.cells a3 t3)).heap.size = w.heap.size + 1 + 1 + 1 := by simp
  have s4 : ((((w.alloc (.cells a1 t1)).alloc (.cells a2 t2)).alloc (.cells a3 t3)).alloc (.cells a4 t4)).heap.size = w.heap.size + 1 + 1 + 1 + 1 := by simp
  have n1 := heap_alloc_new w (.cells a1 t1)
  have n2 := heap_alloc_new (w.alloc (.cells a1 t1)) (.cells a2 t2)
  have n3 := heap_alloc_new ((w.alloc (.cells a1 t1)).alloc (.cells a2 t2)) (.cells a3 t3)
  have n4 := heap_alloc_new (((w.alloc (.cells a1 t1)).alloc (.cells a2 t2)).alloc (.cells a3 t3)) (.cells a4 t4)
  have n5 := heap_alloc_new ((((w.alloc (.cells a1 t1)).alloc (.cells a2 t2)).alloc (.cells a3 t3)).alloc (.cells a4 t4)) (.cells a5 t5)
  rw [s1] at n2
  rw [s2] at n3
  rw [s3] at n4
  rw [s4] at n5
  have b5 := Below.heap_alloc ((((w.alloc (.cells a1 t1)).alloc (.cells a2 t2)).alloc (.cells a3 t3)).alloc (.cells a4 t4)) (.cells a5 t5)
  have b4 := Below.heap_alloc (((w.alloc (.cells a1 t1)).alloc (.cells a2 t2)).alloc (.cells a3 t3)) (.cells a4 t4)
  have b3 := Below.heap_alloc ((w.alloc (.cells a1 t1)).alloc (.cells a2 t2)) (.cells a3 t3)
  have b2 := Below.heap_alloc (w.alloc (.cells a1 t1)) (.cells a2 t2)
  refine ⟨_, rfl, by simp, ((((((Below.refl _ _).alloc (Nat.le_refl _) _).alloc (by simp) _).alloc (by simp; omega) _).alloc (by simp; omega) _).alloc (by simp; omega) _), ?_, ?_, ?_, ?_, n5⟩
  · rw [b5 _ (by omega), b4 _ (by omega), b3 _ (by omega), b2 _ (by omega)]; exact n1
  · rw [b5 _ (by omega), b4 _ (by omega), b3 _ (by omega)]; exact n2
  · rw [b5 _ (by omega), b4 _ (by omega)]; exact n3
  · rw [b5 _ (by omega)]; exact n4

end Go.Proofs.Ytjionpkflpnejaa

namespace Go.Proofs.Ytjionpkflpnejaa
open Go.RowKit Go.Shelf

theorem encs_min (es : List En) : 20 * es.length ≤ (encs es).length := by
  induction es with
  | nil => exact Nat.zero_le _
  | cons e r ih =>
    rw [encs_cons, List.length_append, enc1_length, List.length_cons]
    omega
theorem Rd.blk {w : World} {q : Nat} {l : List UInt8} {e : Int} (h : Rd w q l e) : ∃ cs, w.heap[q]? = some (.cells cs 91 (0, 0)) := by
  obtain ⟨A, c, h⟩ := h
  exact ⟨_, h.1⟩
theorem own_type {w : World} {base : Nat} {t : TypeId} {v : Value} {n : Nat} {xs : List Value} (h : w.ownsRow base t 4 v n xs) {g : Nat} {cs : Array Value} {u : TypeId} {fr : Nat × Nat} (hg : w.heap[g]? = some (.cells cs u fr)) (ht : u ≠ t) : v.ownBlock ≠ some g := by
  intro he
  rcases h.2 with ⟨h1, _⟩ | ⟨g', cap', cur', h1, _, h2, _⟩
  · rw [h1] at he; cases he
  · rw [h1] at he
    obtain rfl : g' = g := by simpa [Value.ownBlock] using he
    rw [hg] at h2
    injection h2 with h2
    injection h2 with _ h2 _
    exact ht h2
theorem EB.set {w : World} {g : Nat} {t : TypeId} {e e' : En} (h : EB w g t e) (k : Nat) (v : Value) (he : (ec e').toArray = (ec e).toArray.setIfInBounds k v) : EB (w.setCell ⟨g, k, none⟩ v) g t e' := by
  unfold EB
  rw [setCell_eq_setRow _ _ _ _ _ _ _ h, setRow_heap _ _ _ _ _ _ h, he]
section
variable {w W W' : World} {q g : Nat} {s s' : List UInt8} {er er' : Int} {es : List En} {A : Option Addr} {c : Nat} {e e' : En}
end

end Go.Proofs.Ytjionpkflpnejaa

namespace Go.Proofs.Ytjionpkflpnejaa
open Go.RowKit Go.Shelf

def eA : En := ⟨1, 0, 0, [97]⟩
def eB : En := ⟨2, 0, 0, [98]⟩
def eC : En := ⟨3, 0, 0, [99]⟩
def eD : En := ⟨3, 0, 0, [100]⟩
def es0 : List En := [eA, eB, eC]
theorem es0_wide : ∀ x ∈ es0, x.Wide := by
  intro x hx
  simp only [es0, List.mem_cons, List.not_mem_nil, or_false] at hx
  rcases hx with rfl | rfl | rfl <;> exact ⟨by decide, by decide, by decide⟩
theorem es0_ok : okB es0 = true := by decide +kernel
theorem es0_len : (putE es0).length = 72 := by decide +kernel
theorem es0_aft : aftL es0 1 1 = [eB] ∧ aftB es0 1 1 = false := by decide +kernel
theorem es0_rem : remE es0 [98] = 0 ∧ remL es0 [98] = [eA, eC] := by decide +kernel
theorem es0_add : addE [eA, eC] eD = 70 := by decide +kernel
theorem es0_addL : addL [eA, eC] eD = [] := by decide +kernel
theorem es0_fnd : fnd es0 [99] = 2 := by decide +kernel
theorem dots : nameE [46, 46] = 67 := by decide +kernel
/-- A block that holds entries. -/
theorem es_block {w : World} {g : Nat} {t : TypeId} {es : List En} (h : w.heap[g]? = some (.cells (ecs es).toArray t (0, 0))) : ES w (some ⟨g, 0, none⟩) es.length es :=
  ⟨rfl, fun _ => ⟨g, 0, rfl, fun j hj i v hv => by
    rw [cell_of_row w g _ _ _ _ h, Nat.zero_add]
    simpa using ecs_get es j hj i v hv⟩⟩

end Go.Proofs.Ytjionpkflpnejaa

namespace Go.Proofs.Ytjionpkflpnejaa
open Go.RowKit Go.Shelf

/-- What a name must be ahead of its bytes. -/
def headOk (l : List UInt8) : Bool := decide (1 ≤ l.length) && decide (l.length ≤ 24) && !(l == [46]) && !(l == [46, 46])
theorem nameOk_head (l : List UInt8) : nameOk l = (headOk l && !parts l) := by
  rw [nameOk_eq]
  unfold headOk
  have e1 : (!decide (l.length < 1)) = decide (1 ≤ l.length) := by
    rw [← decide_not]
    exact decide_eq_decide.2 (by omega)
  have e2 : (!decide (24 < l.length)) = decide (l.length ≤ 24) := by
    rw [← decide_not]
    exact decide_eq_decide.2 (by omega)
  rw [e1, e2]
theorem parts_take (l : List UInt8) (k : Nat) (h : k < l.length) : parts (l.take (k + 1)) = (parts (l.take k) || (l[k] == 0 || l[k] == 47)) := by
  unfold parts
  rw [List.take_succ_eq_append_getElem h, List.any_append]
  simp
theorem parts_at (l : List UInt8) (k : Nat) (h : k < l.length) : ∃ x : UInt8, (∀ hk : k < (txt l).size, (txt l)[k]'hk = x) ∧ parts (l.take (k + 1)) = (parts (l.take k) || (x == 0 || x == 47)) :=
  ⟨l[k], fun _ => rfl, parts_take l k h⟩
theorem fnd_nil (nm : List UInt8) : fnd [] nm = -1 := rfl
theorem addE_nil (e : En) (h : 0 < e.ck) : addE [] e = if nameOk e.nm = true then 0 else 67 := by
  unfold addE
  cases nameOk e.nm
  · rfl
  · rw [if_neg (by simp), if_neg (by rw [fnd_nil]; omega), if_neg (by show ¬ e.ck ≤ 0; omega)]
    rfl
theorem u8_ne (b c : UInt8) (n : Int) (hc : (c.toNat : Int) = n) : (((b.toNat : Int)) != n) = !(b == c) := by
  rw [← hc]
  by_cases h : b = c
  · subst h; simp
  · have h2 : b.toNat ≠ c.toNat := fun e => h (UInt8.toNat_inj.1 e)
    have e1 : (b == c) = false := by simpa using h
    rw [e1]
    simp
    omega
end Go.Proofs.Ytjionpkflpnejaa

namespace Go.Proofs.Ytjionpkflpnejaa
open Go.RowKit Go.Shelf

section
variable {o : Oper} {a : Act} {w : World} {ops : Array Oper} {rest : List Oper} {Q : Exit → Act → World → Prop}
/-- The cells of bools, of numbers. -/
def bcs (n : Nat) (p : Nat → Bool) : List Value := (List.range n).map fun i => Value.bool (p i)
def ics (n : Nat) (p : Nat → Nat) : List Value := (List.range n).map fun i => Value.int .i64 (p i : Int)
def BB (w : World) (g n : Nat) (p : Nat → Bool) : Prop := w.heap[g]? = some (.cells (bcs n p).toArray 4 (0, 0))
def IB (w : World) (g n : Nat) (p : Nat → Nat) : Prop := w.heap[g]? = some (.cells (ics n p).toArray 3 (0, 0))
def upd {α : Type} (p : Nat → α) (k : Nat) (x : α) : Nat → α := fun i => if i = k then x else p i
theorem infoBool : (Try.prog.info? 4).map (fun i => (i.zero, i.size, i.bytes)) = some (some (.bool false), 1, 1) := by kernel_rfl
theorem infoInt : (Try.prog.info? 3).map (fun i => (i.zero, i.size, i.bytes)) = some (some (.int .i64 0), 1, 8) := by kernel_rfl
theorem made_cells (z : Value) (hz : z.cells = #[z]) (n : Nat) : madeCells z.cells (n * 1) = ((List.range n).map fun _ => z).toArray := by
  apply Array.ext'
  rw [hz]
  simp [madeCells, Nat.mod_one]
theorem wpList_make_row (hgd : o.guard = none) (t e : TypeId) (z : Value) (by_ : Nat) (l c : Operand) (ho : o.op = .makeSlice t l c) (ht : Try.prog.underlying t = some (.slice e))
    (hinf : (Try.prog.info? e).map (fun i => (i.zero, i.size, i.bytes)) = some (some z, 1, by_)) (hz1 : z.cells = #[z]) (hby : by_ ≤ 24) (n : Nat) (hl : a.eval l = .int .i64 (n : Int)) (hc : a.eval c = .int .i64 (n : Int)) (hn : n ≤ 1000000)
    (h : ∀ w', w'.heap[w.heap.size]? = some (.cells ((List.range n).map fun _ => z).toArray e (0, 0)) → w'.heap.size = w.heap.size + 1 → Below w.heap.size w w' → wpList Try.prog ops Q rest (a.put o.dst (.slice (some ⟨w.heap.size, 0, none⟩) n n)) w') : wpList Try.prog ops Q (o :: rest) a w := by
  obtain ⟨i, hi, hz, hs, hb⟩ := info_parts hinf
  have hr := run_makeSlice (P := Try.prog) w t e i z ht hi hz .i64 .i64 (n : Int) (n : Int) (by omega) (by omega) (by rw [hs]; simp; omega) (by rw [hb]; have h1 : by_ * n ≤ 24 * n := Nat.mul_le_mul_right _ hby; have h2 := Int.ofNat_le.2 h1; push_cast at h2; rw [Int.mul_comm] at h2; omega) (by omega)
  rw [hs, Int.toNat_natCast, made_cells z hz1] at hr
  refine Did.list hgd (v := .slice (some ⟨w.heap.size, 0, none⟩) n n) (w' := w.alloc (.cells ((List.range n).map fun _ => z).toArray e)) (.inl ?_) (h _ (heap_alloc_new w _) (by simp) ((Below.refl _ _).alloc (Nat.le_refl _) _))
  unfold execOp
  simp only [ho, hl, hc, Sem.run_bind, hr, Result.andThen_ok]
  rfl
theorem wpList_conv_bs (hgd : o.guard = none) (x : Operand) (ho : o.op = .convert 27 9 x) (A : Option Addr) (n c : Nat) (l : List UInt8) (hx : a.eval x = .slice A n c) (h : BS w A n l)
    (hk : wpList Try.prog ops Q rest (a.put o.dst (.string (txt l))) w) : wpList Try.prog ops Q (o :: rest) a w := by
  refine Did.list hgd (v := .string (txt l)) (w' := w) (.inl ?_) hk
  unfold execOp
  simp only [ho, hx, Sem.run_bind, run_convert_bs w A n c l h, Result.andThen_ok]
  rfl
theorem range1 : Array.range 1 = #[0] := by decide
theorem range2 : Array.range 2 = #[0, 1] := by decide
/-- A slice of one or two bytes, the world under a name of its own. -/
theorem wpList_byte1 (hgd : o.guard = none) (x : Operand) (ho : o.op = .buildSlice 27 1 #[(0, x)]) (b : UInt8) (hx : a.eval x = .int .u8 (b.toNat : Int))
    (h : ∀ w', BS w' (some ⟨w.heap.size, 0, none⟩) 1 [b] → Below w.heap.size w w' → wpList Try.prog ops Q rest (a.put o.dst (.slice (some ⟨w.heap.size, 0, none⟩) 1 1)) w') : wpList Try.prog ops Q (o :: rest) a w := by
  obtain ⟨i, hi, hz, hs, hb⟩ := info_parts info_u8
  have hr := run_buildSlice (P := Try.prog) w 27 5 1 #[(0, .int .u8 (b.toNat : Int))] #[.int .u8 (b.toNat : Int)] i _ Try.underlying27 hi hz (by rw [hs]; omega) (by rw [hs]; omega) (by rw [hs]; simp [Instr.fill, Value.cells, range1])
  refine Did.list hgd (v := .slice (some ⟨w.heap.size, 0, none⟩) 1 1) (w' := w.alloc (.cells #[.int .u8 (b.toNat : Int)] 5)) (.inl ?_) (h _ (BS.of_block (l := [b]) (heap_alloc_new w _)) ((Below.refl _ _).alloc (Nat.le_refl _) _))
  unfold execOp
  simp only [ho, Sem.run_bind]
  simp [hx, hr]
theorem wpList_byte2 (hgd : o.guard = none) (x y : Operand) (ho : o.op = .buildSlice 27 2 #[(0, x), (1, y)]) (b c : UInt8) (hx : a.eval x = .int .u8 (b.toNat : Int)) (hy : a.eval y = .int .u8 (c.toNat : Int))
    (h : ∀ w', BS w' (some ⟨w.heap.size, 0, none⟩) 2 [b, c] → Below w.heap.size w w' → wpList Try.prog ops Q rest (a.put o.dst (.slice (some ⟨w.heap.size, 0, none⟩) 2 2)) w') : wpList Try.prog ops Q (o :: rest) a w := by
  obtain ⟨i, hi, hz, hs, hb⟩ := info_parts info_u8
  have hr := run_buildSlice (P := Try.prog) w 27 5 2 #[(0, .int .u8 (b.toNat : Int)), (1, .int .u8 (c.toNat : Int))] #[.int .u8 (b.toNat : Int), .int .u8 (c.toNat : Int)] i _ Try.underlying27 hi hz (by rw [hs]; omega) (by rw [hs]; omega) (by rw [hs]; simp [Instr.fill, Value.cells, range2])
  refine Did.list hgd (v := .slice (some ⟨w.heap.size, 0, none⟩) 2 2) (w' := w.alloc (.cells #[.int .u8 (b.toNat : Int), .int .u8 (c.toNat : Int)] 5)) (.inl ?_) (h _ (BS.of_block (l := [b, c]) (heap_alloc_new w _)) ((Below.refl _ _).alloc (Nat.le_refl _) _))
  unfold execOp
  simp only [ho, Sem.run_bind]
  simp [hx, hy, hr]
end
section
variable {w w' : World} {g n : Nat}
theorem BB.cell {p : Nat → Bool} (h : BB w g n p) {k : Nat} (hk : k < n) : w.cell? ⟨g, k, none⟩ = some (.bool (p k)) := by
  rw [cell_of_row _ _ _ _ _ _ h]
  simp [bcs, hk]
theorem IB.cell {p : Nat → Nat} (h : IB w g n p) {k : Nat} (hk : k < n) : w.cell? ⟨g, k, none⟩ = some (.int .i64 (p k : Int)) := by
  rw [cell_of_row _ _ _ _ _ _ h]
  simp [ics, hk]
theorem BB.froz {p : Nat → Bool} (h : BB w g n p) (k : Nat) : w.frozen? ⟨g, k, none⟩ = false := by simp [World.frozen?, show w.heap[g]? = _ from h]
theorem IB.froz {p : Nat → Nat} (h : IB w g n p) (k : Nat) : w.frozen? ⟨g, k, none⟩ = false := by simp [World.frozen?, show w.heap[g]? = _ from h]
theorem BB.lt {p : Nat → Bool} (h : BB w g n p) : g < w.heap.size := (Array.getElem?_eq_some_iff.1 h).1
theorem IB.lt {p : Nat → Nat} (h : IB w g n p) : g < w.heap.size := (Array.getElem?_eq_some_iff.1 h).1
theorem BB.below {p : Nat → Bool} (h : BB w g n p) (hb : Below w.heap.size w w') : BB w' g n p := (hb.block g h.lt).trans h
theorem IB.below {p : Nat → Nat} (h : IB w g n p) (hb : Below w.heap.size w w') : IB w' g n p := (hb.block g h.lt).trans h
theorem setIf_range {α : Type} (n : Nat) (f : Nat → α) (k : Nat) (x : α) : ((List.range n).map f).toArray.setIfInBounds k x = ((List.range n).map (upd f k x)).toArray := by
  apply Array.ext'
  rw [Array.toList_setIfInBounds]
  apply List.ext_getElem
  · simp
  · intro i h1 h2
    rw [List.getElem_set]
    by_cases e : k = i
    · rw [if_pos e]
      simp [upd, e]
    · rw [if_neg e]
      have e2 : ¬ i = k := fun h => e h.symm
      simp [upd, e2]
theorem BB.set {p : Nat → Bool} (h : BB w g n p) (k : Nat) (x : Bool) : BB (w.setCell ⟨g, k, none⟩ (.bool x)) g n (upd p k x) := by
  have := setRow_heap w g _ (((List.range n).map (upd (fun i => Value.bool (p i)) k (.bool x))).toArray) _ _ h
  rw [← setIf_range] at this
  unfold BB
  rw [setCell_eq_setRow _ _ _ _ _ _ _ h]
  refine this.trans ?_
  rw [setIf_range]
  unfold bcs
  congr 3
  apply List.map_congr_left
  intro i _
  simp only [upd]
  split <;> rfl
theorem IB.set {p : Nat → Nat} (h : IB w g n p) (k : Nat) (x : Nat) : IB (w.setCell ⟨g, k, none⟩ (.int .i64 (x : Int))) g n (upd p k x) := by
  have := setRow_heap w g _ (((List.range n).map (upd (fun i => Value.int .i64 (p i : Int)) k (.int .i64 (x : Int)))).toArray) _ _ h
  rw [← setIf_range] at this
  unfold IB
  rw [setCell_eq_setRow _ _ _ _ _ _ _ h]
  refine this.trans ?_
  rw [setIf_range]
  unfold ics
  congr 3
  apply List.map_congr_left
  intro i _
  simp only [upd]
  split <;> rfl
/-- A cell of another block is set. -/
theorem set_keep (w : World) (g k : Nat) (v : Value) : Keep (· ≠ g) w (w.setCell ⟨g, k, none⟩ v) := (Keep.refl _ _).setCell (p := ⟨g, k, none⟩) (fun h => h rfl) _
theorem BB.off {p : Nat → Bool} (h : BB w g n p) {g' k : Nat} (v : Value) (hne : g ≠ g') : BB (w.setCell ⟨g', k, none⟩ v) g n p := ((set_keep w g' k v).block g hne).trans h
theorem IB.off {p : Nat → Nat} (h : IB w g n p) {g' k : Nat} (v : Value) (hne : g ≠ g') : IB (w.setCell ⟨g', k, none⟩ v) g n p := ((set_keep w g' k v).block g hne).trans h
end
/-- Entries do not lie in a block that holds no string. -/
theorem ES.off {w w' : World} {A : Option Addr} {n : Nat} {es : List En} {g : Nat} (h : ES w A n es) (hq : ∀ o s, w.cell? ⟨g, o, none⟩ ≠ some (.string s)) (hk : Keep (· ≠ g) w w') : ES w' A n es := by
  refine ⟨h.1, fun hn => ?_⟩
  obtain ⟨b, o, e, hc⟩ := h.2 hn
  refine ⟨b, o, e, fun j hj i v hv => ?_⟩
  have hb : b ≠ g := by
    rintro rfl
    exact hq _ _ (hc j hj 3 _ rfl)
  exact (World.cell?_of_block (hk.block b hb)).trans (hc j hj i v hv)
theorem BB.nostr {w : World} {g n : Nat} {p : Nat → Bool} (h : BB w g n p) : ∀ o s, w.cell? ⟨g, o, none⟩ ≠ some (.string s) := by
  intro o s
  rw [cell_of_row _ _ _ _ _ _ h]
  by_cases hk : o < n
  · simp [bcs, hk]
  · simp [bcs, hk]
theorem IB.nostr {w : World} {g n : Nat} {p : Nat → Nat} (h : IB w g n p) : ∀ o s, w.cell? ⟨g, o, none⟩ ≠ some (.string s) := by
  intro o s
  rw [cell_of_row _ _ _ _ _ _ h]
  by_cases hk : o < n
  · simp [ics, hk]
  · simp [ics, hk]
/-- The letter at place g. -/
def nb (g : Nat) : UInt8 := UInt8.ofNat (97 + g)
theorem nb_int {g : Nat} (h : g < 100) : ((nb g).toNat : Int) = 97 + (g : Int) := by
  unfold nb
  rw [UInt8.toNat_ofNat']
  omega
theorem nb_inj {i j : Nat} (hi : i < 100) (hj : j < 100) (h : nb i = nb j) : i = j := by
  have h1 := nb_int hi
  have h2 := nb_int hj
  rw [h] at h1
  omega
theorem nb_ok {g : Nat} (h : g < 100) : nameOk [nb g] = true := by
  have h1 := nb_int h
  have e1 : nb g ≠ 46 := fun e => by rw [e] at h1; have : ((46 : UInt8).toNat : Int) = 46 := rfl; omega
  have e2 : nb g ≠ 0 := fun e => by rw [e] at h1; have : ((0 : UInt8).toNat : Int) = 0 := rfl; omega
  have e3 : nb g ≠ 47 := fun e => by rw [e] at h1; have : ((47 : UInt8).toNat : Int) = 47 := rfl; omega
  simp [nameOk, e1, e2, e3]
/-- An operation of a region that draws its order, taken first. -/
theorem takeH {P : Program} {md : Region.Mode} {ops : Array Oper} {S : World → Prop} {Q : Exit → Act → World → Prop} {i : Nat} {oi : Oper} (dst : Tmp) (v : Value) {fuel : Nat} {listed : Array Bool} {a : Act} {w : World} (hi : ops[i]? = some oi) (hd : oi.dst = some dst)
    (hs : Region.noSelect ops = true) (hf : Region.free md ops listed i = true) (hr : (Region.ready md ops listed).contains i = true) (hQ : ∀ c a w, Q (.panic c) (a.put (some dst) v) w → Q (.panic c) a w) (hy : YieldsIf P ops S oi v a) (hS : S w)
    (h : wpAnyH P md ops Q S fuel (listed.setIfInBounds i true) (a.put (some dst) v) w) : wpAnyH P md ops Q S (fuel + 1) listed a w := by
  rw [← hd] at hQ h
  exact wpAnyH_take hi hs hf hr hQ hy hS h
end Go.Proofs.Ytjionpkflpnejaa

namespace Go.Proofs.Ytjionpkflpnejaa
open Go.ChangeShapes Go.WideShapes Go.ChangeAt Go.RowKit

theorem wf_u64 {n : Int} (h : (Lit.int .u64 n).wf = true) : 0 ≤ n ∧ n < 18446744073709551616 := by
  simp [Lit.wf, IntKind.min, IntKind.max, IntKind.bits, IntKind.signed] at h
  omega
theorem wf_u32 {n : Int} (h : (Lit.int .u32 n).wf = true) : 0 ≤ n ∧ n < 4294967296 := by
  simp [Lit.wf, IntKind.min, IntKind.max, IntKind.bits, IntKind.signed] at h
  omega
theorem wf_i64 {n : Int} (h : (Lit.int .i64 n).wf = true) : -9223372036854775808 ≤ n ∧ n ≤ 9223372036854775807 := by
  simp [Lit.wf, IntKind.min, IntKind.max, IntKind.bits, IntKind.signed] at h
  omega
theorem four_at {cs : List Value} (h : cs.length = 4) : ∃ a b c d, cs = [a, b, c, d] := by
  match cs, h with
  | [a, b, c, d], _ => exact ⟨a, b, c, d, rfl⟩
theorem list_of {α : Type} {P : Nat → α → Prop} : ∀ n : Nat, (∀ j, j < n → ∃ a, P j a) → ∃ l : List α, l.length = n ∧ ∀ j (hj : j < l.length), P j l[j]
  | 0, _ => ⟨[], rfl, fun j hj => absurd hj (Nat.not_lt_zero _)⟩
  | n + 1, h => by
    obtain ⟨l, h1, h2⟩ := list_of n fun j hj => h j (by omega)
    obtain ⟨a, ha⟩ := h n (by omega)
    refine ⟨l ++ [a], by simp [h1], fun j hj => ?_⟩
    simp only [List.length_append, List.length_cons, List.length_nil] at hj
    rcases Nat.lt_or_ge j l.length with h3 | h3
    · rw [List.getElem_append_left h3]; exact h2 j h3
    · obtain rfl : j = l.length := by omega
      rw [List.getElem_append_right (Nat.le_refl _)]
      simp only [Nat.sub_self, List.getElem_cons_zero]
      rw [h1]; exact ha
theorem txt_data (s : ByteArray) : txt s.data.toList = s := by
  obtain ⟨⟨l⟩⟩ := s
  rfl
/-- Entries, as they came in. -/
structure EI (W : World) (A : Option Addr) (n : Nat) (cap : Nat) (es : List En) : Prop where
  row : ES W A n es
  wide : ∀ e ∈ es, e.Wide
  names : ∀ e ∈ es, e.nm.length ≤ maxLen
  le : n ≤ cap
  few : cap ≤ maxLen
end Go.Proofs.Ytjionpkflpnejaa

namespace Go.Proofs.Ytjionpkflpnejaa
open Go.RowKit Go.Shelf

/-- A block known whole. -/
def Bw (w : World) (g : Nat) (cs : List Value) (t : TypeId) : Prop := w.heap[g]? = some (.cells cs.toArray t (0, 0))
section
variable {w w' : World} {g : Nat} {cs : List Value} {t : TypeId}
theorem Bw.lt (h : Bw w g cs t) : g < w.heap.size := (Array.getElem?_eq_some_iff.1 h).1
theorem Bw.froz (h : Bw w g cs t) (o : Nat) : w.frozen? ⟨g, o, none⟩ = false := by unfold Bw at h; simp [World.frozen?, h]
theorem Bw.grown {row : Option Nat} (h : Bw w g cs t) (hg : w.grownBy w' row) (hr : row ≠ some g) : Bw w' g cs t := (hg.block g h.lt (fun e => hr e.symm)).trans h
theorem Bw.below (h : Bw w g cs t) (hb : Below w.heap.size w w') : Bw w' g cs t := (hb.block g h.lt).trans h
theorem Bw.keep {K : Nat → Prop} (h : Bw w g cs t) (hb : Keep K w w') (hk : K g) : Bw w' g cs t := (hb.block g hk).trans h
theorem Bw.cell (h : Bw w g cs t) (o : Nat) (v : Value) (hv : cs[o]? = some v) : w.cell? ⟨g, o, none⟩ = some v := by
  rw [cell_of_row w g o _ _ (0, 0) h]
  simpa using hv
/-- Some cells of it, as a load asks for them. -/
theorem Bw.part (h : Bw w g cs t) (k : Nat) (l : List Value) (hl : ∀ j u, l[j]? = some u → cs[k + j]? = some u) : ∀ j u, l[j]? = some u → w.cell? ((⟨g, k, none⟩ : Addr).add j) = some u := fun j u hu => by
  rw [add_plain]
  exact h.cell _ _ (hl j u hu)
end
section
variable {P : Program} {o : Oper} {a : Act} {w : World} {ops : Array Oper} {rest : List Oper} {Q : Exit → Act → World → Prop}
theorem wpList_store_part (hgd : o.guard = none) (ty : TypeId) (x y : Operand) (ho : o.op = .store ty x y) (g k : Nat) (vs : List Value) (hx : a.eval x = .pointer (some ⟨g, k, none⟩)) (hy : a.eval y = .agg vs.toArray)
    (t : TypeId) (cs : List Value) (hg : Bw w g cs t) (hi : (P.info? ty).map (·.size) = some vs.length) (hfit : k + vs.length ≤ cs.length) (h1 : ∀ v ∈ vs, v.oneCell' = true)
    (h : ∀ w', Bw w' g (cs.take k ++ vs ++ cs.drop (k + vs.length)) t → w'.heap.size = w.heap.size → Keep (· ≠ g) w w' → wpList P ops Q rest (a.put o.dst undef) w') : wpList P ops Q (o :: rest) a w := by
  have hr := run_storeCells_at P g k t vs 0 cs.toArray w hg (by simpa using hfit) h1
  simp only [Nat.add_zero] at hr
  refine Did.list hgd (v := undef) (w' := w.setRow g (cs.take k ++ vs ++ cs.drop (k + vs.length)).toArray) (.inr ⟨?_, rfl⟩) (h _ (setRow_heap w g _ _ t _ hg) (by simp) (setRow_keep g _))
  cases hq : P.info? ty with
  | none => simp [hq] at hi
  | some i =>
    have hs : vs.length = i.size := by simp [hq] at hi; omega
    have hsv : (storeVar ty ⟨g, k, none⟩ (.agg vs.toArray)).run P w = .ok () (w.setRow g (cs.take k ++ vs ++ cs.drop (k + vs.length)).toArray) := by
      simp [storeVar, sizeOf, typeInfo, hq, Value.cells, hs.symm, hr]
    unfold execOp
    simp only [ho, hx, hy, Instr.storeAt, Instr.sureAddr, Sem.run_bind, Sem.run_pure, Result.andThen_ok, hsv]
theorem wpList_store_cell (hgd : o.guard = none) (ty : TypeId) (x y : Operand) (ho : o.op = .store ty x y) (g k : Nat) (v : Value) (hx : a.eval x = .pointer (some ⟨g, k, none⟩)) (hy : a.eval y = v)
    (t : TypeId) (cs : List Value) (hg : Bw w g cs t) (hi : (P.info? ty).map (·.size) = some 1) (hv : v.cells = #[v]) (hfit : k < cs.length) (h1 : v.oneCell' = true)
    (h : ∀ w', Bw w' g (cs.take k ++ [v] ++ cs.drop (k + 1)) t → w'.heap.size = w.heap.size → Keep (· ≠ g) w w' → wpList P ops Q rest (a.put o.dst undef) w') : wpList P ops Q (o :: rest) a w := by
  have hr := run_storeCells_at P g k t [v] 0 cs.toArray w hg (by simp; omega) (by simpa using h1)
  simp only [Nat.add_zero, List.length_singleton] at hr
  refine Did.list hgd (v := undef) (w' := w.setRow g (cs.take k ++ [v] ++ cs.drop (k + 1)).toArray) (.inr ⟨?_, rfl⟩) (h _ (setRow_heap w g _ _ t _ hg) (by simp) (setRow_keep g _))
  cases hq : P.info? ty with
  | none => simp [hq] at hi
  | some i =>
    have hs : 1 = i.size := by simp [hq] at hi; omega
    have hsv : (storeVar ty ⟨g, k, none⟩ v).run P w = .ok () (w.setRow g (cs.take k ++ [v] ++ cs.drop (k + 1)).toArray) := by
      simpa [storeVar, sizeOf, typeInfo, hq, hv, hs.symm] using hr
    unfold execOp
    simp only [ho, hx, hy, Instr.storeAt, Instr.sureAddr, Sem.run_bind, Sem.run_pure, Result.andThen_ok, hsv]
/-- A struct or an array out of a part of a block. -/
theorem wpList_load_part (hgd : o.guard = none) (ty : TypeId) (x : Operand) (ho : o.op = .load ty x) (g k : Nat) (hx : a.eval x = .pointer (some ⟨g, k, none⟩)) (d : TypeDesc) (hu : P.underlying ty = some d)
    (hd : (match d with | .struct _ | .array _ _ => true | _ => false) = true) (l : List Value) (t : TypeId) (cs : List Value) (hg : Bw w g cs t) (hi : (P.info? ty).map (·.size) = some l.length) (hl : ∀ j u, l[j]? = some u → cs[k + j]? = some u)
    (h : wpList P ops Q rest (a.put o.dst (.agg l.toArray)) w) : wpList P ops Q (o :: rest) a w :=
  Did.list hgd (did_load ty x ho ⟨g, k, none⟩ hx d hu hd l hi (hg.part k l hl)) h
end
/-- A change of one block, known whole before. -/
theorem grown_keep {w w' : World} {g : Nat} (h : Keep (· ≠ g) w w') : w.grownBy w' (some g) := ⟨h.os, h.tape, h.output, h.size, fun k _ hk => h.block k (fun e => hk (by rw [e]))⟩

/-- The result that lies in a block of its own, and a number. -/
theorem results_cell {t : TypeId} {fs : Array Field} {cs : List Value} {fn : Func} {p q : Tmp} (h : fn.results = #[.cell p t, .tmp q]) (tmps : Array Value) (w : World) (g : Nat) (v : Value) (hg : Bw w g cs t) (hi : (Try.prog.info? t).map (·.size) = some cs.length)
    (hp : tmps.getD p undef = .pointer (some ⟨g, 0, none⟩)) (hq : tmps.getD q undef = v) (hu : Try.prog.underlying t = some (.struct fs)) : (results fn tmps).run Try.prog w = .ok (.tuple #[.agg cs.toArray, v]) w := by
  have hp' : tmps[p]?.getD undef = .pointer (some ⟨g, 0, none⟩) := by simpa using hp
  have hq' : tmps[q]?.getD undef = v := by simpa using hq
  have hl := run_loadVar_row (P := Try.prog) w g t t cs.toArray (0, 0) _ hg hu rfl (by simpa using hi)
  simp [results, h, hp', hq', asAddr, hl]
/-- The result that lies in a block of its own, alone. -/
theorem results_one {t : TypeId} {fs : Array Field} {cs : List Value} {fn : Func} {p : Tmp} (h : fn.results = #[.cell p t]) (tmps : Array Value) (w : World) (g : Nat) (hg : Bw w g cs t) (hi : (Try.prog.info? t).map (·.size) = some cs.length)
    (hp : tmps.getD p undef = .pointer (some ⟨g, 0, none⟩)) (hu : Try.prog.underlying t = some (.struct fs)) : (results fn tmps).run Try.prog w = .ok (.agg cs.toArray) w := by
  have hp' : tmps[p]?.getD undef = .pointer (some ⟨g, 0, none⟩) := by simpa using hp
  have hl := run_loadVar_row (P := Try.prog) w g t t cs.toArray (0, 0) _ hg hu rfl (by simpa using hi)
  simp [results, h, hp', asAddr, hl]

/-- The cells of a handle, of attributes. -/
def hc (a b : Nat) : List Value := [.int .u32 (a : Int), .int .u32 (b : Int)]
theorem hc_one (a b : Nat) : ∀ v ∈ hc a b, v.oneCell' = true := by
  intro v hv
  simp only [hc, List.mem_cons, List.not_mem_nil, or_false] at hv
  rcases hv with rfl | rfl <;> rfl
theorem Bw.ne_rd {w : World} {q g : Nat} {l : List UInt8} {e : Int} {cs : List Value} {t : TypeId} (h : Bw w g cs t) (hr : Rd w q l e) (ht : t ≠ 91) : q ≠ g := by
  rintro rfl
  obtain ⟨A, c, h1, _⟩ := hr
  unfold Bw at h
  rw [h] at h1
  injection h1 with h1
  injection h1 with _ h1 _
  exact ht h1
/-- What a Put hands back: bytes of its own. -/
def PutQ (b : List UInt8) (z : Int) (w : World) (e : Ending) (w' : World) : Prop := ∃ A n cp, e = .returned (.tuple #[.slice A n cp, .int .i64 z]) ∧ Own w w' A n cp b
theorem PutQ.no {z : Int} {w w' : World} (h : Below w.heap.size w w') : PutQ [] z w (.returned (.tuple #[.slice none 0 0, .int .i64 z])) w' := ⟨none, 0, 0, rfl, World.ownsRow_nil _ _ _ _, h⟩
theorem own_base {w : World} {b b' : Nat} {t : TypeId} {k n : Nat} {v : Value} {xs : List Value} (h : w.ownsRow b t k v n xs) (hb : b' ≤ b) : w.ownsRow b' t k v n xs := by
  refine ⟨h.1, ?_⟩
  rcases h.2 with h1 | ⟨g, cap, cur, h1, h2, h3⟩
  · exact .inl h1
  · exact .inr ⟨g, cap, cur, h1, Nat.le_trans hb h2, h3⟩

/-- While a call or a reply is read: the result's block r, the variable's block g, the Reader q. -/
structure GG (w : World) (q r g : Nat) (t : TypeId) (z cs : List Value) (s : St) (W : World) : Prop where
  rd : Rd W q s.1 s.2
  res : Bw W r z t
  var : Bw W g cs t
  bel : Below w.heap.size w W
  lr : w.heap.size ≤ r
  lg : w.heap.size ≤ g
  lq : w.heap.size ≤ q
  rg : r ≠ g
  qr : q ≠ r
  qg : q ≠ g
  nt : t ≠ 5
section
variable {w W W' : World} {q r g : Nat} {t : TypeId} {z cs cs' : List Value} {s s' : St}
theorem GG.read (h : GG w q r g t z cs s W) (hr : Rd W' q s'.1 s'.2) (hg : W.grownBy W' (some q)) : GG w q r g t z cs s' W' :=
  ⟨hr, h.res.grown hg (fun e => h.qr (by injection e)), h.var.grown hg (fun e => h.qg (by injection e)),
    h.bel.trans ⟨hg.os, hg.tape, hg.output, hg.size, fun k hk => hg.block k (Nat.lt_of_lt_of_le hk h.bel.size) (fun e => by injection e with e; have := h.lq; omega)⟩, h.lr, h.lg, h.lq, h.rg, h.qr, h.qg, h.nt⟩
theorem GG.set (h : GG w q r g t z cs s W) (hb : Bw W' g cs' t) (hk : Keep (· ≠ g) W W') : GG w q r g t z cs' s W' := by
  have lg := h.lg
  exact ⟨h.rd.off h.var h.nt h.qg (fun k _ hn => hk.block k hn), h.res.keep hk h.rg, hb, h.bel.trans (hk.below2 (fun k hk => by omega)), h.lr, h.lg, h.lq, h.rg, h.qr, h.qg, h.nt⟩
theorem GG.below (h : GG w q r g t z cs s W) (hb : Below W.heap.size W W') : GG w q r g t z cs s W' :=
  ⟨h.rd.kept hb, h.res.below hb, h.var.below hb, h.bel.trans (hb.mono h.bel.size), h.lr, h.lg, h.lq, h.rg, h.qr, h.qg, h.nt⟩
theorem GG.start {w1 w2 w3 : World} {l : List UInt8} (h1 : w1.heap[w.heap.size]? = some (.cells z.toArray t (0, 0))) (s1 : w1.heap.size = w.heap.size + 1) (b1 : Below w.heap.size w w1)
    (h2 : w2.heap[w1.heap.size]? = some (.cells z.toArray t (0, 0))) (s2 : w2.heap.size = w1.heap.size + 1) (b2 : Below w1.heap.size w1 w2) (h : Rd w3 q l 0) (b3 : Below w2.heap.size w2 w3) (hq : w2.heap.size ≤ q) (hn : t ≠ 5) : GG w q w.heap.size w1.heap.size t z z (l, 0) w3 := by
  exact ⟨h, (b3.block _ (by omega)).trans ((b2.block _ (by omega)).trans h1), (b3.block _ (by omega)).trans h2, b1.trans ((b2.mono (by omega)).trans (b3.mono (by omega))), Nat.le_refl _, by omega, by omega, by omega, by omega, by omega, hn⟩
end

theorem seq_rd {α β : Type} (A : Cd α) (B : Cd β) (s : St) : (A.seq B).rd s = ((B.rd (A.rd s).1).1, ((A.rd s).2, (B.rd (A.rd s).1).2)) := rfl
/-- A struct out of a part of a block, as a region that draws its order asks for it. -/
theorem run_load_part {P : Program} {o : Oper} {a : Act} {w : World} (ty : TypeId) (x : Operand) (ho : o.op = .load ty x) (g k : Nat) (hx : a.eval x = .pointer (some ⟨g, k, none⟩)) (d : TypeDesc) (hu : P.underlying ty = some d)
    (hd : (match d with | .struct _ | .array _ _ => true | _ => false) = true) (l : List Value) (t : TypeId) (cs : List Value) (hg : Bw w g cs t) (hi : (P.info? ty).map (·.size) = some l.length) (hl : ∀ j u, l[j]? = some u → cs[k + j]? = some u) :
    (execOp a.eval o).run P w = .ok (.value (.agg l.toArray)) w := by
  have hl2 := run_loadCells_list (P := P) w ⟨g, k, none⟩ l (hg.part k l hl)
  cases hq : P.info? ty with
  | none => simp [hq] at hi
  | some i =>
    have hs : i.size = l.length := by simpa [hq] using hi
    have hagg : (isAgg ty).run P w = .ok true w := by
      unfold isAgg
      rw [Sem.run_bind, run_underlying hu w]
      cases d <;> simp_all
    unfold execOp
    simp [ho, hx, Instr.loadAt, Instr.sureAddr, loadVar, Sem.run_bind, hagg, sizeOf, typeInfo, hq, hs, hl2]

section
open Go.ChangeShapes Go.WideShapes Go.ChangeAt
section
variable {H : Type} {enc : TypeId × Value → H} {W : World} {m : Nat} {v : Value} {y : DataW H × List MemPlace}
theorem u32_cell {t : TypeId} (ht : Try.prog.underlying t = some (.int .u32)) (h : DataW.trod enc Try.prog W 0 (fun _ => true) true m t [v] = some y) : ∃ a : Nat, v = .int .u32 (a : Int) ∧ a < 4294967296 := by
  obtain ⟨a, h1, _, w1⟩ := DataW.trod_int ht h
  simp only [List.cons.injEq, and_true] at h1
  subst h1
  have b := wf_u32 w1
  obtain ⟨a, rfl⟩ := Int.eq_ofNat_of_zero_le b.1
  exact ⟨a, rfl, by omega⟩
theorem u64_cell {t : TypeId} (ht : Try.prog.underlying t = some (.int .u64)) (h : DataW.trod enc Try.prog W 0 (fun _ => true) true m t [v] = some y) : ∃ a : Nat, v = .int .u64 (a : Int) ∧ a < 18446744073709551616 := by
  obtain ⟨a, h1, _, w1⟩ := DataW.trod_int ht h
  simp only [List.cons.injEq, and_true] at h1
  subst h1
  have b := wf_u64 w1
  obtain ⟨a, rfl⟩ := Int.eq_ofNat_of_zero_le b.1
  exact ⟨a, rfl, by omega⟩
theorem i64_cell {t : TypeId} (ht : Try.prog.underlying t = some (.int .i64)) (h : DataW.trod enc Try.prog W 0 (fun _ => true) true m t [v] = some y) : ∃ a : Int, v = .int .i64 a ∧ -9223372036854775808 ≤ a ∧ a ≤ 9223372036854775807 := by
  obtain ⟨a, h1, _, w1⟩ := DataW.trod_int ht h
  simp only [List.cons.injEq, and_true] at h1
  subst h1
  exact ⟨a, rfl, wf_i64 w1⟩
theorem bool_cell {t : TypeId} (ht : Try.prog.underlying t = some .bool) (h : DataW.trod enc Try.prog W 0 (fun _ => true) true m t [v] = some y) : ∃ b : Bool, v = .bool b := by
  obtain ⟨a, h1, _⟩ := DataW.trod_bool ht h
  simp only [List.cons.injEq, and_true] at h1
  exact ⟨a, h1⟩
theorem str_cell {t : TypeId} (ht : Try.prog.underlying t = some .string) (h : DataW.trod enc Try.prog W 0 (fun _ => true) true m t [v] = some y) : ∃ l : List UInt8, v = .string (txt l) ∧ l.length ≤ maxLen := by
  obtain ⟨s, h1, _, w1⟩ := DataW.trod_string ht h
  simp only [List.cons.injEq, and_true] at h1
  subst h1
  refine ⟨s.data.toList, by rw [txt_data], ?_⟩
  have := Lib.size_eq s
  omega
theorem bytes_cell (h : DataW.trod enc Try.prog W 0 (fun _ => true) true m 27 [v] = some y) : ∃ (A : Option Addr) (n cp : Nat) (l : List UInt8), v = .slice A n cp ∧ BS W A n l ∧ n ≤ maxLen := by
  rcases open_ints Try.underlying27 Try.underlying5 (by kernel_rfl) h with ⟨hcs, _⟩ | ⟨x, l, cap, zs, hcs, _, hl, hm, hz, _, hcell, hwz⟩
  · simp only [List.cons.injEq, and_true] at hcs
    exact ⟨none, 0, 0, [], hcs, BS.nil, Nat.zero_le _⟩
  · simp only [List.cons.injEq, and_true] at hcs
    have hr : IsRow .u8 W (some x) l cap zs := .inr ⟨_, rfl, hl, hm, by simpa using hz, hcell, hwz⟩
    obtain ⟨xs, h1⟩ := hr.bs
    exact ⟨some x, l, cap, xs, hcs, h1, Nat.le_trans hl hm⟩
end
end
/-- The cells of the reference's reader. -/
def rv (s : St) : List Value := [.string (txt s.1), .int .i64 s.2]
theorem rv_one (s : St) : ∀ v ∈ rv s, v.oneCell' = true := by
  intro v hv
  simp only [rv, List.mem_cons, List.not_mem_nil, or_false] at hv
  rcases hv with rfl | rfl <;> rfl
/-- While the reference reads: the result's block r, the variable's block g, the reader's block k. -/
structure GH (w : World) (r g k : Nat) (t : TypeId) (z cs : List Value) (s : St) (W : World) : Prop where
  rd : Bw W k (rv s) 77
  res : Bw W r z t
  var : Bw W g cs t
  bel : Below w.heap.size w W
  lr : w.heap.size ≤ r
  lg : w.heap.size ≤ g
  lk : w.heap.size ≤ k
  rg : r ≠ g
  kr : k ≠ r
  kg : k ≠ g
section
variable {w W W' : World} {r g k : Nat} {t : TypeId} {z cs cs' : List Value} {s s' : St}
theorem GH.below (h : GH w r g k t z cs s W) (hb : Below W.heap.size W W') : GH w r g k t z cs s W' :=
  ⟨h.rd.below hb, h.res.below hb, h.var.below hb, h.bel.trans (hb.mono h.bel.size), h.lr, h.lg, h.lk, h.rg, h.kr, h.kg⟩
theorem GH.read (h : GH w r g k t z cs s W) (hb : Bw W' k (rv s') 77) (hk : Keep (· ≠ k) W W') : GH w r g k t z cs s' W' := by
  have lk := h.lk
  exact ⟨hb, h.res.keep hk (fun e => h.kr e.symm), h.var.keep hk (fun e => h.kg e.symm), h.bel.trans (hk.below2 (fun j hj => by omega)), h.lr, h.lg, h.lk, h.rg, h.kr, h.kg⟩
theorem GH.set (h : GH w r g k t z cs s W) (hb : Bw W' g cs' t) (hk : Keep (· ≠ g) W W') : GH w r g k t z cs' s W' := by
  have lg := h.lg
  exact ⟨h.rd.keep hk h.kg, h.res.keep hk h.rg, hb, h.bel.trans (hk.below2 (fun j hj => by omega)), h.lr, h.lg, h.lk, h.rg, h.kr, h.kg⟩
end
theorem built_R1 (s : ByteArray) : Try.prog.built 77 [(0, .string s)] = some #[.string s, .int .i64 0] := by kernel_rfl

end Go.Proofs.Ytjionpkflpnejaa

namespace Go.Proofs.Ytjionpkflpnejaa

/-- How far a move has come. -/
structure Ms where
  ow : Bool
  ph : Nat
  pr : Nat
  ep : Nat
  sq : Nat
  fr : Nat
  gl : Nat
  nx : Nat
  rn : Nat
  deriving DecidableEq
structure Ms.Wide (s : Ms) : Prop where
  hph : s.ph < 4294967296
  hpr : s.pr < 4294967296
  hep : s.ep < 18446744073709551616
  hsq : s.sq < 18446744073709551616
  hfr : s.fr < 18446744073709551616
  hgl : s.gl < 18446744073709551616
  hnx : s.nx < 4294967296
  hrn : s.rn < 4294967296
namespace Mk
/-- Who owns in which phase. -/
def phB (s : Ms) : Bool := if s.ph = 0 then true else if s.ph ≤ 2 then s.ow else if s.ph ≤ 5 then !s.ow else false
/-- What comes next in which phase. -/
def nxB (s : Ms) : Bool := if s.ph = 3 then (decide (s.nx = 33) || decide (s.nx = 34)) else decide (s.nx < 33)
def okM (s : Ms) : Bool := decide (s.pr < 16) && decide (s.fr ≤ s.gl) && phB s && nxB s
def chkM (s : Ms) : Int := if okM s = true then 0 else 1
theorem okM_iff (s : Ms) : okM s = true ↔ s.pr < 16 ∧ s.fr ≤ s.gl ∧ phB s = true ∧ nxB s = true := by simp [okM, and_assoc]
theorem phB_le (s : Ms) (h : phB s = true) : s.ph ≤ 5 := by
  unfold phB at h
  split at h
  · omega
  · split at h
    · omega
    · split at h
      · omega
      · cases h
theorem nxB_le (s : Ms) (h : nxB s = true) : s.nx ≤ 34 := by
  unfold nxB at h
  split at h
  · simp at h; omega
  · simp at h; omega
def zero : Ms := ⟨false, 0, 0, 0, 0, 0, 0, 0, 0⟩
theorem zero_ok : okM zero = true := rfl
theorem zero_wide : Ms.Wide zero := ⟨by decide, by decide, by decide, by decide, by decide, by decide, by decide, by decide⟩
abbrev Ts := Bool × Nat × Nat × Nat × Nat × Nat × Nat × Nat × Nat
def markC : Cd Ts := cB.seq (c4.seq (c4.seq (c8.seq (c8.seq (c8.seq (c8.seq (c4.seq c4)))))))
def tup (s : Ms) : Ts := (s.ow, s.ph, s.pr, s.ep, s.sq, s.fr, s.gl, s.nx, s.rn)
def of (t : Ts) : Ms := ⟨t.1, t.2.1, t.2.2.1, t.2.2.2.1, t.2.2.2.2.1, t.2.2.2.2.2.1, t.2.2.2.2.2.2.1, t.2.2.2.2.2.2.2.1, t.2.2.2.2.2.2.2.2⟩
theorem of_tup (s : Ms) : of (tup s) = s := rfl
def enc (s : Ms) : List UInt8 := markC.enc (tup s)
def put (s : Ms) : List UInt8 := if okM s = true ∧ s ≠ zero then enc s else []
def rd (l : List UInt8) : Ms := of (markC.rd (l, 0)).2
def err (l : List UInt8) : Int := if l = [] then 0 else if markC.bad l ≠ 0 then markC.bad l else if okM (rd l) = true ∧ rd l ≠ zero then 0 else 11
def got (l : List UInt8) : Ms := if l ≠ [] ∧ err l = 0 then rd l else zero
theorem enc_eq (s : Ms) : enc s = be 4 (b01 s.ow) ++ (be 4 s.ph ++ (be 4 s.pr ++ (be 8 s.ep ++ (be 8 s.sq ++ (be 8 s.fr ++ (be 8 s.gl ++ (be 4 s.nx ++ be 4 s.rn))))))) := rfl
theorem enc_length (s : Ms) : (enc s).length = 52 := by
  rw [enc_eq]
  simp only [List.length_append, be_length]
theorem enc_ne (s : Ms) : enc s ≠ [] := by
  intro h
  have := enc_length s
  rw [h] at this
  cases this
theorem c_ok (s : Ms) (hw : s.Wide) : markC.ok (tup s) := ⟨trivial, hw.hph, hw.hpr, hw.hep, hw.hsq, hw.hfr, hw.hgl, hw.hnx, hw.hrn⟩
theorem of_ok (t : Ts) (h : markC.ok t) : (of t).Wide := by
  obtain ⟨_, h1, h2, h3, h4, h5, h6, h7, h8⟩ := h
  exact ⟨h1, h2, h3, h4, h5, h6, h7, h8⟩
theorem rd_enc (s : Ms) (hw : s.Wide) : rd (enc s) = s := by
  obtain ⟨_, h2⟩ := markC.bad_put (tup s) (c_ok s hw)
  show of (markC.rd (markC.enc (tup s), 0)).2 = s
  rw [h2, of_tup]
theorem bad_enc (s : Ms) (hw : s.Wide) : markC.bad (enc s) = 0 := (markC.bad_put (tup s) (c_ok s hw)).1
/-- What was put is got as it was. -/
theorem got_put (s : Ms) (hw : s.Wide) (h : okM s = true) : err (put s) = 0 ∧ got (put s) = s := by
  by_cases hz : s = zero
  · have hp : put s = [] := if_neg (fun h => h.2 hz)
    rw [hp]
    exact ⟨if_pos rfl, (if_neg (fun h => h.1 rfl)).trans hz.symm⟩
  · have hp : put s = enc s := if_pos ⟨h, hz⟩
    have h1 : err (enc s) = 0 := by
      unfold err
      rw [if_neg (enc_ne s), bad_enc s hw, if_neg (by simp), rd_enc s hw, if_pos ⟨h, hz⟩]
    rw [hp]
    refine ⟨h1, ?_⟩
    unfold got
    rw [if_pos ⟨enc_ne s, h1⟩, rd_enc s hw]
theorem err_cases (l : List UInt8) (h : err l = 0) (hl : l ≠ []) : markC.bad l = 0 ∧ okM (rd l) = true ∧ rd l ≠ zero ∧ got l = rd l := by
  have hg : got l = rd l := if_pos ⟨hl, h⟩
  unfold err at h
  rw [if_neg hl] at h
  split at h
  · rename_i h1; exact absurd h h1
  · rename_i h1
    split at h
    · rename_i h2; exact ⟨by simpa using h1, h2.1, h2.2, hg⟩
    · cases h
theorem got_nil : got [] = zero := if_neg (fun h => h.1 rfl)
theorem err_nil : err [] = 0 := if_pos rfl
theorem got_no (l : List UInt8) (h : err l ≠ 0) : got l = zero := if_neg (fun g => h g.2)
/-- What was got is put as the same bytes. -/
theorem put_back (l : List UInt8) (h : err l = 0) : okM (got l) = true ∧ put (got l) = l ∧ (got l).Wide := by
  by_cases hl : l = []
  · subst hl
    rw [got_nil]
    exact ⟨rfl, if_neg (fun h => h.2 rfl), zero_wide⟩
  · obtain ⟨h1, h2, h3, h4⟩ := err_cases l h hl
    obtain ⟨h5, h6⟩ := markC.bad_back l h1
    rw [h4]
    exact ⟨h2, (if_pos ⟨h2, h3⟩).trans h5.symm, of_ok _ h6⟩
theorem err_more (s : Ms) (t : List UInt8) (hw : s.Wide) (ht : 0 < t.length) : err (enc s ++ t) = 12 := by
  have := markC.bad_more (tup s) t (c_ok s hw) ht
  unfold err
  rw [if_neg (fun h => enc_ne s (List.append_eq_nil_iff.1 h).1), show markC.bad (enc s ++ t) = 12 from this]
  rfl
theorem err_cut (s : Ms) (j : Nat) (hw : s.Wide) (hj : j < (enc s).length) (h0 : 0 < j) : err ((enc s).take j) = 10 := by
  have := markC.bad_cut (tup s) j (c_ok s hw) hj
  unfold err
  rw [if_neg (fun h => by have := congrArg List.length h; rw [List.length_take, List.length_nil] at this; omega), show markC.bad ((enc s).take j) = 10 from this]
  rfl
theorem enc_inj (a b : Ms) (ha : a.Wide) (hb : b.Wide) (h : enc a = enc b) : a = b := by
  have := rd_enc a ha
  rw [h, rd_enc b hb] at this
  exact this.symm
theorem put_inj (a b : Ms) (ha : a.Wide) (hb : b.Wide) (h1 : okM a = true) (h2 : okM b = true) : put a = put b ↔ a = b := by
  constructor
  · intro h
    have := (got_put a ha h1).2
    rw [h, (got_put b hb h2).2] at this
    exact this.symm
  · intro h
    rw [h]
theorem put_length (s : Ms) (h : okM s = true) : (put s).length = if s = zero then 0 else 52 := by
  unfold put
  by_cases hz : s = zero
  · rw [if_neg (fun h => h.2 hz), if_pos hz]; rfl
  · rw [if_pos ⟨h, hz⟩, if_neg hz, enc_length]
end Mk
end Go.Proofs.Ytjionpkflpnejaa

namespace Go.Proofs.Ytjionpkflpnejaa
open Go.RowKit Go.Shelf

/-- The cells of a state. -/
def mc (s : Ms) : List Value := [.bool s.ow, .int .u32 (s.ph : Int), .int .u32 (s.pr : Int), .int .u64 (s.ep : Int), .int .u64 (s.sq : Int), .int .u64 (s.fr : Int), .int .u64 (s.gl : Int), .int .u32 (s.nx : Int), .int .u32 (s.rn : Int)]
theorem mc_one (s : Ms) : ∀ v ∈ mc s, v.oneCell' = true := by
  intro v hv
  simp only [mc, List.mem_cons, List.not_mem_nil, or_false] at hv
  rcases hv with rfl | rfl | rfl | rfl | rfl | rfl | rfl | rfl | rfl <;> rfl
theorem size_M15 : (Try.prog.info? 33).map (·.size) = some 9 := by kernel_rfl
theorem zero_M15 : (Try.prog.info? 33).bind (·.zero) = some (.agg (mc Mk.zero).toArray) := by kernel_rfl
theorem built_M15z : Try.prog.built 33 [] = some (mc Mk.zero).toArray := by kernel_rfl
theorem built_M15 (o : Bool) (a b : Int) (c d e f : Int) (g h : Int) : Try.prog.built 33 [(0, .bool o), (1, .int .u32 a), (2, .int .u32 b), (3, .int .u64 c), (4, .int .u64 d), (5, .int .u64 e), (6, .int .u64 f), (7, .int .u32 g), (8, .int .u32 h)] =
    some #[.bool o, .int .u32 a, .int .u32 b, .int .u64 c, .int .u64 d, .int .u64 e, .int .u64 f, .int .u32 g, .int .u32 h] := by kernel_rfl
theorem size_Mk : (Try.prog.info? 25).map (·.size) = some 9 := by kernel_rfl
theorem zero_Mk : (Try.prog.info? 25).bind (·.zero) = some (.agg (mc Mk.zero).toArray) := by kernel_rfl
theorem built_Mkz : Try.prog.built 25 [] = some (mc Mk.zero).toArray := by kernel_rfl
theorem built_Mk (o : Bool) (a b : Int) (c d e f : Int) (g h : Int) : Try.prog.built 25 [(0, .bool o), (1, .int .u32 a), (2, .int .u32 b), (3, .int .u64 c), (4, .int .u64 d), (5, .int .u64 e), (6, .int .u64 f), (7, .int .u32 g), (8, .int .u32 h)] =
    some #[.bool o, .int .u32 a, .int .u32 b, .int .u64 c, .int .u64 d, .int .u64 e, .int .u64 f, .int .u32 g, .int .u32 h] := by kernel_rfl

theorem mEqIn (x y : Ms) (w : World) : (Op.equalIn 10000 25 (.agg (mc x).toArray) (.agg (mc y).toArray)).run Try.prog w = .ok (decide (x = y)) w := by
  have hS : Try.prog.underlying 25 = some (.struct (Try.prog.fieldsOf 25)) := by kernel_rfl
  have hp : Try.prog.stoodInHeld 25 = false := by kernel_rfl
  have u := Try.underlying23
  have ia := Try.isAgg23
  have sz := Try.sizeOf23
  have u1 := Try.underlying4
  have ia1 := Try.isAgg4
  have sz1 := Try.sizeOf4
  have u3 := Try.underlying22
  have ia3 := Try.isAgg22
  have sz3 := Try.sizeOf22
  rw [show (10000 : Nat) = 9997 + 1 + 1 + 1 from rfl, run_equalIn_agg w (9997 + 1 + 1) 25 _ _ hS hp]
  simp only [Program.fieldsOf, Try.underlying25]
  unfold mc
  go_simp
  by_cases h : x = y
  · subst h
    simp
  · rw [decide_eq_false h]
    obtain ⟨a0, a1, a2, a3, a4, a5, a6, a7, a8⟩ := x
    obtain ⟨b0, b1, b2, b3, b4, b5, b6, b7, b8⟩ := y
    dsimp only
    simp only [Int.ofNat_inj]
    by_cases g0 : a0 = b0
    rotate_left
    · rw [if_neg g0]
    subst g0
    rw [if_pos rfl]
    by_cases g1 : a1 = b1
    rotate_left
    · rw [if_neg g1]
    subst g1
    rw [if_pos rfl]
    by_cases g2 : a2 = b2
    rotate_left
    · rw [if_neg g2]
    subst g2
    rw [if_pos rfl]
    by_cases g3 : a3 = b3
    rotate_left
    · rw [if_neg g3]
    subst g3
    rw [if_pos rfl]
    by_cases g4 : a4 = b4
    rotate_left
    · rw [if_neg g4]
    subst g4
    rw [if_pos rfl]
    by_cases g5 : a5 = b5
    rotate_left
    · rw [if_neg g5]
    subst g5
    rw [if_pos rfl]
    by_cases g6 : a6 = b6
    rotate_left
    · rw [if_neg g6]
    subst g6
    rw [if_pos rfl]
    by_cases g7 : a7 = b7
    rotate_left
    · rw [if_neg g7]
    subst g7
    rw [if_pos rfl]
    rw [if_neg (fun e => h (by rw [e]))]
theorem mEq (x y : Ms) (w : World) : (binOp .eql 25 (.agg (mc x).toArray) (.agg (mc y).toArray)).run Try.prog w = .ok (.bool (decide (x = y))) w := by
  rw [run_eql_struct, mEqIn, Result.andThen_ok]
theorem mNe (x y : Ms) (w : World) : (binOp .neq 25 (.agg (mc x).toArray) (.agg (mc y).toArray)).run Try.prog w = .ok (.bool (!decide (x = y))) w := by
  rw [run_neq_struct, mEqIn, Result.andThen_ok]
theorem rEqIn (x y : Ms) (w : World) : (Op.equalIn 10000 33 (.agg (mc x).toArray) (.agg (mc y).toArray)).run Try.prog w = .ok (decide (x = y)) w := by
  have hS : Try.prog.underlying 33 = some (.struct (Try.prog.fieldsOf 33)) := by kernel_rfl
  have hp : Try.prog.stoodInHeld 33 = false := by kernel_rfl
  have u := Try.underlying23
  have ia := Try.isAgg23
  have sz := Try.sizeOf23
  have u1 := Try.underlying4
  have ia1 := Try.isAgg4
  have sz1 := Try.sizeOf4
  have u3 := Try.underlying22
  have ia3 := Try.isAgg22
  have sz3 := Try.sizeOf22
  rw [show (10000 : Nat) = 9997 + 1 + 1 + 1 from rfl, run_equalIn_agg w (9997 + 1 + 1) 33 _ _ hS hp]
  simp only [Program.fieldsOf, Try.underlying33]
  unfold mc
  go_simp
  by_cases h : x = y
  · subst h
    simp
  · rw [decide_eq_false h]
    obtain ⟨a0, a1, a2, a3, a4, a5, a6, a7, a8⟩ := x
    obtain ⟨b0, b1, b2, b3, b4, b5, b6, b7, b8⟩ := y
    dsimp only
    simp only [Int.ofNat_inj]
    by_cases g0 : a0 = b0
    rotate_left
    · rw [if_neg g0]
    subst g0
    rw [if_pos rfl]
    by_cases g1 : a1 = b1
    rotate_left
    · rw [if_neg g1]
    subst g1
    rw [if_pos rfl]
    by_cases g2 : a2 = b2
    rotate_left
    · rw [if_neg g2]
    subst g2
    rw [if_pos rfl]
    by_cases g3 : a3 = b3
    rotate_left
    · rw [if_neg g3]
    subst g3
    rw [if_pos rfl]
    by_cases g4 : a4 = b4
    rotate_left
    · rw [if_neg g4]
    subst g4
    rw [if_pos rfl]
    by_cases g5 : a5 = b5
    rotate_left
    · rw [if_neg g5]
    subst g5
    rw [if_pos rfl]
    by_cases g6 : a6 = b6
    rotate_left
    · rw [if_neg g6]
    subst g6
    rw [if_pos rfl]
    by_cases g7 : a7 = b7
    rotate_left
    · rw [if_neg g7]
    subst g7
    rw [if_pos rfl]
    rw [if_neg (fun e => h (by rw [e]))]
theorem rEq (x y : Ms) (w : World) : (binOp .eql 33 (.agg (mc x).toArray) (.agg (mc y).toArray)).run Try.prog w = .ok (.bool (decide (x = y))) w := by
  rw [run_eql_struct, rEqIn, Result.andThen_ok]
theorem rNe (x y : Ms) (w : World) : (binOp .neq 33 (.agg (mc x).toArray) (.agg (mc y).toArray)).run Try.prog w = .ok (.bool (!decide (x = y))) w := by
  rw [run_neq_struct, rEqIn, Result.andThen_ok]
end Go.Proofs.Ytjionpkflpnejaa
