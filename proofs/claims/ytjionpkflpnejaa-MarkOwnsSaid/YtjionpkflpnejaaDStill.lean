
/-
  A region that draws its order, reads first and ends in one operation, inside a fence (also in a round). Nothing of the program is named here.
-/
import Derived.Test.YtjionpkflpnejaaDMem
namespace Go.Proofs.Ytjionpkflpnejaa
open Go.RowKit

/-- Operations that never begin a call. -/
def plainOp : Op → Bool
  | .move _ | .load .. | .fieldAddr .. | .nilCheck _ => true
  | _ => false

theorem plain_noEnter {ρ : Operand → Value} {o : Oper} (h : plainOp o.op = true) {P : Program} {w w' : World} {f : FuncId} {args : Array Value} : (execOp ρ o).run P w ≠ .ok (.enter f args) w' := by
  unfold execOp
  cases ho : o.op <;> rw [ho] at h <;> first | (simp [plainOp] at h; done) | skip
  case move x => simp
  case load t x =>
    simp only [Sem.run_bind]
    cases (Instr.loadAt t (ρ x)).run P w <;> simp [Result.andThen]
  case fieldAddr s x fl =>
    simp only [Sem.run_bind]
    cases (Instr.fieldAt s (ρ x) fl).run P w <;> simp [Result.andThen]
  case nilCheck x =>
    dsimp only
    split
    · simp [runtimePanic, goPanic, Sem.run_bind, Result.andThen, Sem.run]
    · simp [runtimePanic, goPanic, Sem.run_bind, Result.andThen, Sem.run]
    · simp [runtimePanic, goPanic, Sem.run_bind, Result.andThen, Sem.run]
    · split
      · simp [runtimePanic, goPanic, Sem.run_bind, Result.andThen, Sem.run]
      · simp only [Sem.run_bind, run_program, Result.andThen]
        split
        · split <;> simp [unsupported, Sem.run]
        · simp
      · simp
    · simp

section
variable {F : Fence} {m : Nat} {P : Program} {md : Region.Mode} {ops : Array Oper} {w : World}
theorem wpIn_of_still {o : Oper} {a : Act} {K : Act → Prop} {K' : Act → World → Prop} {Q : Exit → Act → World → Prop} (hp : plainOp o.op = true) (h : ∀ a, K a → K' a w) (hh : o.still P a w K) : o.wpIn F m P a w K' Q := by
  have hc : ∀ c, o.op ≠ .call c := fun c e => by rw [e] at hp; cases hp
  have hd : ∀ c, o.op ≠ .defer c := fun c e => by rw [e] at hp; cases hp
  unfold Oper.still at hh
  cases hr : (execOp a.eval o).run P w with
  | ok x w' =>
    rw [hr] at hh
    cases x <;> simp only [Oper.stillUpon] at hh
    case value v =>
      obtain ⟨rfl, hk⟩ := hh
      exact Did.wpIn hc hd (.inl hr) (h _ hk)
    case skip =>
      obtain ⟨rfl, hk⟩ := hh
      exact Did.wpIn hc hd (.inr ⟨hr, rfl⟩) (h _ hk)
    case enter f args => exact absurd hr (plain_noEnter hp)
  | halt x w' =>
    rw [hr] at hh
    exact hh.elim
theorem about_plain {o : Oper} {a : Act} (hp : plainOp o.op = true) : ∀ f, o.about P w a.eval = some f → F.fn f := fun f hf => by
  unfold Oper.about at hf
  split at hf
  · rename_i hc
    rw [hc] at hp
    cases hp
  · cases hf
theorem wpOpIn_of_stOp {i : Nat} {a : Act} {K : Act → Prop} {K' : Act → World → Prop} {Q : Exit → Act → World → Prop} (hp : ∀ o, ops[i]? = some o → plainOp o.op = true) (h : ∀ a, K a → K' a w) (hh : stOp P ops w i K a) : wpOpIn F m P ops Q i K' a w := by
  unfold stOp at hh
  unfold wpOpIn
  split
  · rename_i ho; simp only [ho] at hh; exact h _ hh
  · rename_i o ho
    simp only [ho] at hh
    split
    · rename_i hw; simp only [hw, if_true] at hh; exact wpIn_of_still (hp o ho) h hh
    · rename_i hw; simp only [hw] at hh; exact ⟨about_plain (hp o ho), h _ hh⟩
theorem wpAnyIn_of_head {n g : Nat} {L : Array Bool → Act → Prop} {Q : Exit → Act → World → Prop} (hp : ∀ i o, i < n → ops[i]? = some o → plainOp o.op = true) (hL : ∀ listed a, L listed a → wpAnyIn F m P md ops Q g listed a w) :
    ∀ (f : Nat) (listed : Array Bool) (a : Act), wpAnyL P md ops w n L f listed a → wpAnyIn F m P md ops Q (f + g) listed a w
  | 0, listed, a, h => by rw [Nat.zero_add]; exact hL _ _ h
  | f + 1, listed, a, h => by
    rw [show f + 1 + g = (f + g) + 1 by omega]
    exact ⟨fun h0 => absurd h0 h.1, fun i hi => wpOpIn_of_stOp (fun o ho => hp i o (h.2 i hi).1 ho) (fun a' h' => wpAnyIn_of_head hp hL f _ a' h') (h.2 i hi).2⟩
/-- The region: n operations that read, then one. -/
theorem wpIn_region_still_one {id : Nat} {Q : Exit → Act → World → Prop} {a : Act} {l : List Oper} (n : Nat) (o : Oper) (hm : P.follows .mixedOrders = true) (hB : Region.lexTailB .any l.toArray n = true) (hlast : l.drop n = [o]) (hp : (l.take n).all (fun o => plainOp o.op) = true)
    (h : wpStill P l.toArray w.drew (fun a' => wpListIn F m P l.toArray Q [o] a' w.drew) (l.take n) a) : (Code.region id l.toArray true).wpIn F m P Q a w := by
  simp only [Region.lexTailB, Bool.and_eq_true, decide_eq_true_eq] at hB
  obtain ⟨⟨⟨⟨hsel, hn⟩, hs⟩, hc⟩, hlex⟩ := hB
  have hn' : n < l.length := by simpa using hn
  have hlen : l.length = n + 1 := by
    have := congrArg List.length hlast
    simp at this
    omega
  have htl : (l.take n).length = n := by simp; omega
  have hon : l[n]? = some o := by
    have := congrArg (fun x => x[0]?) hlast
    simpa [List.getElem?_drop] using this
  have inv0 : HeadInv .any l.toArray n (Array.replicate l.toArray.size false) :=
    ⟨by simp, fun j oj _ hl => (by rw [getD_replicate_false] at hl; cases hl), fun t _ ht => getD_in (by simpa using ht) (getD_replicate_false _ _)⟩
  have H := wpAnyL_lex (md := .any) (g := l.toArray.size - n) hsel hs hc hn (l.take n) 0 _ a (fun j hj => by
    have hj' : j < n := by rw [htl] at hj; exact hj
    simp [hj']) (by simpa using htl) inv0 (by rw [htl]; exact hlex) h
  refine wpIn_region_any hm ?_
  have hp' : ∀ i o, i < n → l.toArray[i]? = some o → plainOp o.op = true := fun i o hi ho => by
    have hm : o ∈ l.take n := List.mem_of_getElem? (i := i) (by rw [List.getElem?_take]; simpa [hi] using ho)
    exact (List.all_eq_true.1 hp) o hm
  have := wpAnyIn_of_head (F := F) (m := m) (Q := Q) (g := l.toArray.size - n) hp' (fun listed a' hL => by
    have hg : l.toArray.size - n = 1 := by simp; omega
    rw [hg] at hL ⊢
    obtain ⟨hq, hl⟩ := hL
    simp only [Region.seqB, Bool.and_eq_true, decide_eq_true_eq] at hq
    refine ⟨fun h0 => absurd h0 (by rw [hq.1]; simp), fun i hi => ?_⟩
    obtain rfl : i = n := by rw [hq.1] at hi; simpa using hi
    unfold wpOpIn
    simp only [List.getElem?_toArray, hon]
    have hrd : Region.ready .any l.toArray (listed.setIfInBounds i true) = [] := by simpa using hq.2
    unfold wpListIn at hl
    split
    · rename_i hw
      rw [if_pos hw] at hl
      exact Oper.wpIn_mono (fun a w hh => ⟨hrd, hh⟩) hl
    · rename_i hw
      rw [if_neg hw] at hl
      exact ⟨hl.1, hrd, hl.2⟩) _ _ _ H
  rw [htl, show n + (l.toArray.size - n) = l.toArray.size by simp; omega] at this
  exact this
theorem Did.listIn {o : Oper} {a : Act} {w' : World} {v : Value} {rest : List Oper} {Q : Exit → Act → World → Prop} (hg : o.guard = none) (hc : ∀ c, o.op ≠ .call c) (hd : ∀ c, o.op ≠ .defer c) (h : Did P o a w v w') (hK : wpListIn F m P ops Q rest (a.put o.dst v) w') : wpListIn F m P ops Q (o :: rest) a w := by
  have hw : Region.wanted o (yielded ops a.tmps) = true := by simp [Region.wanted, hg]
  unfold wpListIn
  rw [if_pos hw]
  exact h.wpIn hc hd hK
theorem wpListIn_alloc_any {o : Oper} {a : Act} {rest : List Oper} {Q : Exit → Act → World → Prop} (hg : o.guard = none) (ty : TypeId) (ho : o.op = .alloc ty) (z : Value) (hz : (P.info? ty).bind (·.zero) = some z)
    (h : ∀ w', w'.heap[w.heap.size]? = some (.cells z.cells ty (0, 0)) → w'.heap.size = w.heap.size + 1 → Below w.heap.size w w' → wpListIn F m P ops Q rest (a.put o.dst (.pointer (some ⟨w.heap.size, 0, none⟩))) w') : wpListIn F m P ops Q (o :: rest) a w :=
  (did_alloc ty ho z hz).listIn hg (by rw [ho]; intro c h; cases h) (by rw [ho]; intro c h; cases h) (h _ (heap_alloc_new w _) (by simp) ((Below.refl _ _).alloc (Nat.le_refl _) _))
theorem wpListIn_store_any {o : Oper} {a : Act} {rest : List Oper} {Q : Exit → Act → World → Prop} (hgd : o.guard = none) (ty : TypeId) (x y : Operand) (ho : o.op = .store ty x y) (g : Nat) (cells : Array Value) (hx : a.eval x = .pointer (some ⟨g, 0, none⟩)) (hy : a.eval y = .agg cells)
    (t : TypeId) (old : Array Value) (hg : w.heap[g]? = some (.cells old t (0, 0))) (hi : (P.info? ty).map (·.size) = some cells.size) (hold : old.size = cells.size) (h1 : cells.all (·.oneCell') = true)
    (h : ∀ w', w'.heap[g]? = some (.cells cells t (0, 0)) → w'.heap.size = w.heap.size → Keep (· ≠ g) w w' → wpListIn F m P ops Q rest (a.put o.dst undef) w') : wpListIn F m P ops Q (o :: rest) a w :=
  (did_store ty x y ho g cells hx hy t old hg hi hold h1).listIn hgd (by rw [ho]; intro c h; cases h) (by rw [ho]; intro c h; cases h) (h _ (setRow_heap w g old cells t _ hg) (by simp) (setRow_keep g cells))
theorem wpListIn_update_any {o : Oper} {a : Act} {rest : List Oper} {Q : Exit → Act → World → Prop} {b : Nat} {z : List UInt8} {G : Int → List UInt8} (hgd : o.guard = none) (h : IsMap w b z G) (t k e : TypeId) (mo x y : Operand) (ho : o.op = .mapUpdate t mo x y)
    (ht : P.underlying t = some (.map k e)) (hk : P.underlying k = some (.int .i64)) (i : Int) (l : List UInt8) (hm : a.eval mo = .map (some b)) (hx : a.eval x = .int .i64 i) (hy : a.eval y = .agg (bc l).toArray)
    (hK : ∀ w', IsMap w' b z (fun j => if j = i then l else G j) → w.grownBy w' (some b) → w'.heap.size = w.heap.size → wpListIn F m P ops Q rest (a.put o.dst undef) w') : wpListIn F m P ops Q (o :: rest) a w := by
  obtain ⟨w', hd, h1, h2, h3⟩ := h.did_update (P := P) (o := o) (a := a) mo x y ho ht hk i l hm hx hy
  exact hd.listIn hgd (by rw [ho]; intro c h; cases h) (by rw [ho]; intro c h; cases h) (hK w' h1 h2 h3)
end
end Go.Proofs.Ytjionpkflpnejaa
