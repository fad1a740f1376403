/-
  Contract of package call's PutCall (layer 9).
  Contract of package call's PutReply (layer 9).
  append of entries onto a row of entries of the call's own; slices.Grow and slices.Concat (layer 8).
  Contracts of slices.Concat at two rows of entries, and of package dir's Add and Remove (layer 8).
  Contracts of package dir's Add and Remove (layer 8).
  Contract of package dir's Remove (layer 8).
  A region that draws its order, reads first and ends in one operation, inside a fence (also in a round). Nothing of the program is named here.
  Contracts of slices.Values at entries, of the function that it returns, and of package dir's from (layer 8).
  Contract of package dir's from, and the walk of After (layer 8).
  Contract of package dir's After (layer 8).
  Contract of package dir's Get (layer 8).
  Contract of the document's example (layer 8): it holds, and leaves all memory that was there alone.
  DirNames walked (layer 8).
  Contract of the reference's Same (layer 8).
  Contract of the law's callOf, and two calls of the reference that are compared (layer 9).
  Replies of the reference as they lie in memory (layer 9).
  The document's Same, walked, of two replies that are the same (layer 9).
  Steps of this layer's statements: rows of bools and of numbers, one byte as a text (layer 8).
  Contracts of entriesOf and of the reference's Same (layer 8).
  Contract of the law's replyOf (layer 9).
-/
import Derived.Test.YtjgmboleiaehaaaYQ2
import Derived.Maps.AppendAt
import Derived.Lib.AppendZerosOnto
import Derived.Lib.SliceRun
import Derived.RangeFuncNested
import Derived.RangeFuncBound
import Derived.RangeFuncCalls
import Derived.RangeFuncLeaves
import Derived.RangeFuncWrites
import Derived.Shelf.Abstract
import Derived.Shelf.RegionOpen
import Derived.OwnWalkIn
import Derived.TacticsInMore
import Derived.LoopNIn
import Derived.LoopIn
import Derived.Deep.DeepCutAuto
import Derived.Laws.StructEq
import Derived.BigQuiet
import Derived.Laws.MakeOwn
import Derived.Deep.RegionHeld
namespace Go.Proofs.Ytjgmboleiaehaaa
open Go.RowKit

/-- The cells of a call whose data is v. -/
def cc (c : Cl) (v : Value) : List Value := [.int .u32 (c.cli : Int), .int .u32 (c.xid : Int), .int .u32 (c.op : Int), .int .u32 (c.ati : Int), .int .u32 (c.atg : Int), .string (txt c.nm), .int .u32 (c.toi : Int), .int .u32 (c.tog : Int), .string (txt c.tn), .int .u64 (c.off : Int), .int .u64 (c.vf : Int), .int .u32 (c.cnt : Int), .int .u32 (c.md : Int), v]
theorem size_C : (Try.prog.info? 63).map (·.size) = some 14 := by kernel_rfl
theorem zero_C : (Try.prog.info? 63).bind (·.zero) = some (.agg (cc Cl.zero (.slice none 0 0)).toArray) := by kernel_rfl
/-- What a Put hands back: bytes of its own. -/
def PutQ (b : List UInt8) (z : Int) (w : World) (e : Ending) (w' : World) : Prop := ∃ A n cp, e = .returned (.tuple #[.slice A n cp, .int .i64 z]) ∧ Own w w' A n cp b
theorem PutQ.no {z : Int} {w w' : World} (h : Below w.heap.size w w') : PutQ [] z w (.returned (.tuple #[.slice none 0 0, .int .i64 z])) w' := ⟨none, 0, 0, rfl, World.ownsRow_nil _ _ _ _, h⟩
theorem own_base {w : World} {b b' : Nat} {t : TypeId} {k n : Nat} {v : Value} {xs : List Value} (h : w.ownsRow b t k v n xs) (hb : b' ≤ b) : w.ownsRow b' t k v n xs := by
  refine ⟨h.1, ?_⟩
  rcases h.2 with h1 | ⟨g, cap, cur, h1, h2, h3⟩
  · exact .inl h1
  · exact .inr ⟨g, cap, cur, h1, Nat.le_trans hb h2, h3⟩

theorem hc_in {cs : List Value} {k a b : Nat} (h0 : cs[k]? = some (.int .u32 (a : Int))) (h1 : cs[k + 1]? = some (.int .u32 (b : Int))) : ∀ j u, (hc a b)[j]? = some u → cs[k + j]? = some u := fun j u hu => by
  match j, hu with
  | 0, hu => exact h0.trans hu
  | 1, hu => exact h1.trans hu
  | j + 2, hu => simp [hc] at hu
theorem ac_in {cs : List Value} {k a b c d e : Nat} (h0 : cs[k]? = some (.int .u32 (a : Int))) (h1 : cs[k + 1]? = some (.int .u32 (b : Int))) (h2 : cs[k + 2]? = some (.int .u32 (c : Int))) (h3 : cs[k + 3]? = some (.int .u32 (d : Int))) (h4 : cs[k + 4]? = some (.int .u64 (e : Int))) :
    ∀ j u, (ac a b c d e)[j]? = some u → cs[k + j]? = some u := fun j u hu => by
  match j, hu with
  | 0, hu => exact h0.trans hu
  | 1, hu => exact h1.trans hu
  | 2, hu => exact h2.trans hu
  | 3, hu => exact h3.trans hu
  | 4, hu => exact h4.trans hu
  | j + 5, hu => simp [ac] at hu
end Go.Proofs.Ytjgmboleiaehaaa

namespace Go.Proofs.Ytjgmboleiaehaaa
open Go.RowKit

/-- The cells of a reply whose data is v, whose entries are u. -/
def rc (r : Rp) (v u : Value) : List Value := [.int .u32 (r.cli : Int), .int .u32 (r.xid : Int), .int .i64 r.st, .int .u32 (r.ati : Int), .int .u32 (r.atg : Int), .int .u32 (r.kd : Int), .int .u32 (r.md : Int), .int .u32 (r.ln : Int), .int .u32 (r.sz : Int), .int .u64 (r.ch : Int), v, u, .bool r.eof, .int .u64 (r.vf : Int), .int .u32 (r.fr : Int)]
theorem size_Rp : (Try.prog.info? 41).map (·.size) = some 15 := by kernel_rfl
theorem zero_Rp : (Try.prog.info? 41).bind (·.zero) = some (.agg (rc Rp.zero (.slice none 0 0) (.slice none 0 0)).toArray) := by kernel_rfl

theorem BS.keepLt {K : Nat → Prop} {w w' : World} {A : Option Addr} {n : Nat} {l : List UInt8} (h : BS w A n l) (hk : Keep K w w') (hA : 0 < n → ∀ ad, A = some ad → K ad.block) : BS w' A n l := by
  refine ⟨h.1, fun hn => ?_⟩
  obtain ⟨b, o, rfl, hc⟩ := h.2 hn
  refine ⟨b, o, rfl, fun j hj => ?_⟩
  rw [← hc j hj]
  exact World.cell?_of_block (hk.block b (hA hn _ rfl))

end Go.Proofs.Ytjgmboleiaehaaa

namespace Go.Proofs.Ytjgmboleiaehaaa
open Go.RowKit Go.Shelf

section
variable {P : Program} (w : World)
/-- append of entries (of whatever slice, nil let in) onto a row of the call's own. -/
theorem run_append_es (base : Nat) (t ty e : TypeId) (i : TypeInfo) (z : Value) (ht : P.underlying t = some (.slice e)) (hi : P.info? e = some i) (hz : i.zero = some z) (hsize : i.size = 4) (hby : i.bytes = 32) (hzs : z.cells.size = 4)
    (A0 : Option Addr) (n0 c0 : Nat) (l0 : List En) (hown : w.ownsRow base e 4 (.slice A0 n0 c0) n0 (ecs l0)) (A : Option Addr) (m c : Nat) (l : List En) (hr : ES w A m l) (hb : n0 + m ≤ 400000000) (hbase : base ≤ w.heap.size) :
    ∃ A' c' w', (Builtin.append_ #[t, t] ty #[.slice A0 n0 c0, .slice A m c]).run P w = .ok (.slice A' (n0 + m) c') w' ∧ w'.ownsRow base e 4 (.slice A' (n0 + m) c') (n0 + m) (ecs (l0 ++ l)) ∧
      w.grownBy w' (Value.slice A0 n0 c0).ownBlock ∧ ((Value.slice A' (n0 + m) c').ownBlock = (Value.slice A0 n0 c0).ownBlock ∨ (Value.slice A' (n0 + m) c').ownBlock = some w.heap.size) := by
  rcases A with _ | ad
  · have hm : m = 0 := by
      rcases Nat.eq_zero_or_pos m with h0 | h0
      · exact h0
      · obtain ⟨b, o, h, _⟩ := hr.2 h0
        cases h
    subst hm
    have hl : l = [] := List.eq_nil_of_length_eq_zero hr.1
    subst hl
    refine ⟨A0, c0, w, ?_, by simpa using hown, World.grownBy.refl w _, .inl rfl⟩
    rcases hown.2 with ⟨h1, h2⟩ | ⟨g, cap, cur, h1, _, _, hnc, _⟩
    · injection h1 with h1 h3 h4
      subst h1 h3 h4
      simp [Builtin.append_, run_underlying ht, sizeOf, typeInfo, hi, Builtin.lenOf, Builtin.firstCells]
    · injection h1 with h1 h3 h4
      subst h1 h4
      simp [Builtin.append_, run_underlying ht, sizeOf, typeInfo, hi, Builtin.lenOf, Builtin.firstCells, hnc, storeCells]
  · obtain ⟨v', w', hrun, h2, h3, _, h5⟩ := run_append_own_at (P := P) w base t ty e i z 4 32 ht hi hz hsize hby hzs (by omega) _ n0 _ hown ad m c (ecs l) (by rw [ecs_length, hr.1])
      (hr.news rfl) (ecs_one l) (by unfold maxLen; omega) (by omega) hbase
    have hv : ∃ A' c', v' = .slice A' (n0 + m) c' := by
      rcases h2.2 with ⟨h6, h7⟩ | ⟨g, cap, cur, h6, _⟩
      · exact ⟨none, 0, by rw [h6, h7]⟩
      · exact ⟨_, _, h6⟩
    obtain ⟨A', c', rfl⟩ := hv
    exact ⟨A', c', w', hrun, by rw [ecs_append]; exact h2, h3, h5⟩
theorem wp_append_es {o : Oper} {a : Act} {K : Act → World → Prop} {Q : Exit → Act → World → Prop} (s x : Operand) (t : TypeId)
    (ho : o.op = .call { callee := .builtin .append, args := #[s, x], argTypes := #[t, t] })
    (base : Nat) (e : TypeId) (i : TypeInfo) (z : Value) (ht : P.underlying t = some (.slice e)) (hi : P.info? e = some i) (hz : i.zero = some z) (hsize : i.size = 4) (hby : i.bytes = 32) (hzs : z.cells.size = 4)
    (A0 : Option Addr) (n0 c0 : Nat) (l0 : List En) (hs : a.eval s = .slice A0 n0 c0) (hown : w.ownsRow base e 4 (.slice A0 n0 c0) n0 (ecs l0))
    (A : Option Addr) (m c : Nat) (l : List En) (hx : a.eval x = .slice A m c) (hr : ES w A m l) (hb : n0 + m ≤ 400000000) (hbase : base ≤ w.heap.size)
    (h : ∀ A' c' w', w'.ownsRow base e 4 (.slice A' (n0 + m) c') (n0 + m) (ecs (l0 ++ l)) → w.grownBy w' (Value.slice A0 n0 c0).ownBlock →
      ((Value.slice A' (n0 + m) c').ownBlock = (Value.slice A0 n0 c0).ownBlock ∨ (Value.slice A' (n0 + m) c').ownBlock = some w.heap.size) → K (a.put o.dst (.slice A' (n0 + m) c')) w') : o.wp P a w K Q := by
  obtain ⟨A', c', w', hr, h2, h3, h4⟩ := run_append_es (P := P) w base t o.type e i z ht hi hz hsize hby hzs A0 n0 c0 l0 hown A m c l hr hb hbase
  unfold Oper.wp execOp
  simp only [ho, resolve, invoke, builtin, Sem.run_bind, Sem.run_pure, Result.andThen_ok, List.map_toArray, List.map_cons, List.map_nil, hs, hx, hr]
  exact h A' c' w' h2 h3 h4
theorem wpList_append_es {ops : Array Oper} {rest : List Oper} {o : Oper} {a : Act} {Q : Exit → Act → World → Prop} (hgd : o.guard = none) (s x : Operand) (t : TypeId)
    (ho : o.op = .call { callee := .builtin .append, args := #[s, x], argTypes := #[t, t] })
    (base : Nat) (e : TypeId) (i : TypeInfo) (z : Value) (ht : P.underlying t = some (.slice e)) (hi : P.info? e = some i) (hz : i.zero = some z) (hsize : i.size = 4) (hby : i.bytes = 32) (hzs : z.cells.size = 4)
    (A0 : Option Addr) (n0 c0 : Nat) (l0 : List En) (hs : a.eval s = .slice A0 n0 c0) (hown : w.ownsRow base e 4 (.slice A0 n0 c0) n0 (ecs l0))
    (A : Option Addr) (m c : Nat) (l : List En) (hx : a.eval x = .slice A m c) (hr : ES w A m l) (hb : n0 + m ≤ 400000000) (hbase : base ≤ w.heap.size)
    (h : ∀ A' c' w', w'.ownsRow base e 4 (.slice A' (n0 + m) c') (n0 + m) (ecs (l0 ++ l)) → w.grownBy w' (Value.slice A0 n0 c0).ownBlock →
      ((Value.slice A' (n0 + m) c').ownBlock = (Value.slice A0 n0 c0).ownBlock ∨ (Value.slice A' (n0 + m) c').ownBlock = some w.heap.size) → wpList P ops Q rest (a.put o.dst (.slice A' (n0 + m) c')) w') : wpList P ops Q (o :: rest) a w :=
  wpList_plain hgd fun _ hK => wp_append_es w s x t ho base e i z ht hi hz hsize hby hzs A0 n0 c0 l0 hs hown A m c l hx hr hb hbase fun A' c' w' h2 h3 h4 => hK _ _ (h A' c' w' h2 h3 h4)
end

/-- append of a number of zero values (append(s, make([]T, n)...)). -/
theorem wpList_append_make {P : Program} {w : World} {ops : Array Oper} {rest : List Oper} {o : Oper} {a : Act} {Q : Exit → Act → World → Prop} (hgd : o.guard = none) (s x : Operand) (t tn : TypeId)
    (ho : o.op = .call { callee := .builtin .append, args := #[s, x], argTypes := #[t, tn] }) (v u r : Value) (w' : World) (hs : a.eval s = v) (hx : a.eval x = u)
    (hr : (Builtin.append_ #[t, tn] o.type #[v, u]).run P w = .ok r w') (h : wpList P ops Q rest (a.put o.dst r) w') : wpList P ops Q (o :: rest) a w :=
  wpList_plain hgd fun _ hK => by
    unfold Oper.wp execOp
    simp only [ho, resolve, invoke, builtin, Sem.run_bind, Sem.run_pure, Result.andThen_ok, List.map_toArray, List.map_cons, List.map_nil, hs, hx, hr]
    exact hK _ _ h
/-- A row that a call makes, in a later world. -/
theorem own_below {w w1 w2 : World} {e : TypeId} {v : Value} {n : Nat} {xs : List Value} (hb : Below w.heap.size w w1) (h : w1.ownsRow w.heap.size e 4 v n xs) (hg : w1.grownBy w2 v.ownBlock) : Below w.heap.size w w2 :=
  hb.trans ⟨hg.os, hg.tape, hg.output, hg.size, fun k hk => hg.block k (Nat.lt_of_lt_of_le hk hb.size) (fun ee => by have := (h.lt k ee.symm).1; omega)⟩
theorem zeroCells_ec (k : Nat) : (Builtin.zeroCells (Value.agg (ec ⟨0, 0, 0, []⟩).toArray).cells k).size = k * 4 := by
  simp [Builtin.zeroCells, Value.cells, ec]

end Go.Proofs.Ytjgmboleiaehaaa

namespace Go.Proofs.Ytjgmboleiaehaaa
open Go.RowKit Go.Shelf

/-- How many there are behind k of two rows, and which. -/
def szs (n m k : Nat) : Nat := if k = 0 then 0 else if k = 1 then n else n + m
def acc (a b : List En) (k : Nat) : List En := if k = 0 then [] else if k = 1 then a else a ++ b

end Go.Proofs.Ytjgmboleiaehaaa

namespace Go.Proofs.Ytjgmboleiaehaaa
open Go.RowKit Go.Shelf

theorem zsize_E : (Try.prog.info? 91).map (fun i => (i.zero, i.size)) = some (some (.agg (ec ⟨0, 0, 0, []⟩).toArray), 4) := by kernel_rfl
theorem own_le {w : World} {base : Nat} {e : TypeId} {A : Option Addr} {n c : Nat} {xs : List Value} (h : w.ownsRow base e 4 (.slice A n c) n xs) : n ≤ c ∧ c ≤ 9223372036854775807 := by
  rcases h.2 with ⟨h1, h2⟩ | ⟨g, cap, cur, h1, _, _, h2, h3, _⟩
  · injection h1 with _ _ h1
    omega
  · injection h1 with _ _ h1
    unfold maxLen at h3
    omega
/-- A slice of entries, and its error. -/
def EsQ (es : List En) (z : Int) (w : World) (en : Ending) (w' : World) : Prop := ∃ A n c, en = .returned (.tuple #[.slice A n c, .int .i64 z]) ∧ ES w' A n es ∧ (n ≤ c ∧ c ≤ 9223372036854775807) ∧ Below w.heap.size w w'
theorem EsQ.nil {w w' : World} {es : List En} {z : Int} (he : es = []) (hb : Below w.heap.size w w') : EsQ es z w (.returned (.tuple #[.slice none 0 0, .int .i64 z])) w' := by
  subst he
  exact ⟨none, 0, 0, rfl, ES.nil, ⟨Nat.le_refl _, Nat.zero_le _⟩, hb⟩

end Go.Proofs.Ytjgmboleiaehaaa

namespace Go.Proofs.Ytjgmboleiaehaaa
open Go.RowKit Go.Shelf

theorem fnd_range (es : List En) (nm : List UInt8) : fnd es nm < 0 ∨ ∃ k : Nat, fnd es nm = (k : Int) ∧ k < es.length := by
  unfold fnd
  split
  · rename_i h
    exact .inr ⟨_, rfl, h⟩
  · exact .inl (by omega)
/-- What lies behind place k, whatever the capacity. -/
theorem ES.behind {w : World} {b o n c : Nat} {es : List En} (h : ES w (some ⟨b, o, none⟩) n es) (k : Nat) (hk : k ≤ n) (hc : n ≤ c) : ∃ A', (if c = k then some (⟨b, o, none⟩ : Addr) else some ⟨b, o + k * 4, none⟩) = A' ∧ ES w A' (n - k) (es.drop k) := by
  have hd := h.drop hk hc
  refine ⟨_, rfl, ?_⟩
  split
  · rename_i h1
    rw [if_pos h1] at hd
    exact hd
  · rename_i h1
    rw [if_neg h1] at hd
    simp only [Option.map_some, add_plain] at hd
    exact hd

end Go.Proofs.Ytjgmboleiaehaaa

namespace Go.Proofs.Ytjgmboleiaehaaa
open Go.RowKit

/-- Operations that never begin a call. -/
def plainOp : Op → Bool
  | .move _ | .load .. | .fieldAddr .. | .nilCheck _ => true
  | _ => false

theorem plain_noEnter {ρ : Operand → Value} {o : Oper} (h : plainOp o.op = true) {P : Program} {w w' : World} {f : FuncId} {args : Array Value} : (execOp ρ o).run P w ≠ .ok (.enter f args) w' := by
  unfold execOp
  cases ho : o.op <;> rw [ho] at h <;> first | (simp [plainOp] at h; done) | skip
  case move x => simp
  case load t x =>
    simp only [Sem.run_bind]
    cases (Instr.loadAt t (ρ x)).run P w <;> simp [Result.andThen]
  case fieldAddr s x fl =>
    simp only [Sem.run_bind]
    cases (Instr.fieldAt s (ρ x) fl).run P w <;> simp [Result.andThen]
  case nilCheck x =>
    dsimp only
    split
    · simp [runtimePanic, goPanic, Sem.run_bind, Result.andThen, Sem.run]
    · simp [runtimePanic, goPanic, Sem.run_bind, Result.andThen, Sem.run]
    · simp [runtimePanic, goPanic, Sem.run_bind, Result.andThen, Sem.run]
    · split
      · simp [runtimePanic, goPanic, Sem.run_bind, Result.andThen, Sem.run]
      · simp only [Sem.run_bind, run_program, Result.andThen]
        split
        · split <;> simp [unsupported, Sem.run]
        · simp
      · simp
    · simp

section
variable {F : Fence} {m : Nat} {P : Program} {md : Region.Mode} {ops : Array Oper} {w : World}
theorem wpIn_of_still {o : Oper} {a : Act} {K : Act → Prop} {K' : Act → World → Prop} {Q : Exit → Act → World → Prop} (hp : plainOp o.op = true) (h : ∀ a, K a → K' a w) (hh : o.still P a w K) : o.wpIn F m P a w K' Q := by
  have hc : ∀ c, o.op ≠ .call c := fun c e => by rw [e] at hp; cases hp
  have hd : ∀ c, o.op ≠ .defer c := fun c e => by rw [e] at hp; cases hp
  unfold Oper.still at hh
  cases hr : (execOp a.eval o).run P w with
  | ok x w' =>
    rw [hr] at hh
    cases x <;> simp only [Oper.stillUpon] at hh
    case value v =>
      obtain ⟨rfl, hk⟩ := hh
      exact Did.wpIn hc hd (.inl hr) (h _ hk)
    case skip =>
      obtain ⟨rfl, hk⟩ := hh
      exact Did.wpIn hc hd (.inr ⟨hr, rfl⟩) (h _ hk)
    case enter f args => exact absurd hr (plain_noEnter hp)
  | halt x w' =>
    rw [hr] at hh
    exact hh.elim
theorem about_plain {o : Oper} {a : Act} (hp : plainOp o.op = true) : ∀ f, o.about P w a.eval = some f → F.fn f := fun f hf => by
  unfold Oper.about at hf
  split at hf
  · rename_i hc
    rw [hc] at hp
    cases hp
  · cases hf
theorem wpOpIn_of_stOp {i : Nat} {a : Act} {K : Act → Prop} {K' : Act → World → Prop} {Q : Exit → Act → World → Prop} (hp : ∀ o, ops[i]? = some o → plainOp o.op = true) (h : ∀ a, K a → K' a w) (hh : stOp P ops w i K a) : wpOpIn F m P ops Q i K' a w := by
  unfold stOp at hh
  unfold wpOpIn
  split
  · rename_i ho; simp only [ho] at hh; exact h _ hh
  · rename_i o ho
    simp only [ho] at hh
    split
    · rename_i hw; simp only [hw, if_true] at hh; exact wpIn_of_still (hp o ho) h hh
    · rename_i hw; simp only [hw] at hh; exact ⟨about_plain (hp o ho), h _ hh⟩
theorem wpAnyIn_of_head {n g : Nat} {L : Array Bool → Act → Prop} {Q : Exit → Act → World → Prop} (hp : ∀ i o, i < n → ops[i]? = some o → plainOp o.op = true) (hL : ∀ listed a, L listed a → wpAnyIn F m P md ops Q g listed a w) :
    ∀ (f : Nat) (listed : Array Bool) (a : Act), wpAnyL P md ops w n L f listed a → wpAnyIn F m P md ops Q (f + g) listed a w
  | 0, listed, a, h => by rw [Nat.zero_add]; exact hL _ _ h
  | f + 1, listed, a, h => by
    rw [show f + 1 + g = (f + g) + 1 by omega]
    exact ⟨fun h0 => absurd h0 h.1, fun i hi => wpOpIn_of_stOp (fun o ho => hp i o (h.2 i hi).1 ho) (fun a' h' => wpAnyIn_of_head hp hL f _ a' h') (h.2 i hi).2⟩
/-- The region: n operations that read, then one. -/
theorem wpIn_region_still_one {id : Nat} {Q : Exit → Act → World → Prop} {a : Act} {l : List Oper} (n : Nat) (o : Oper) (hm : P.follows .mixedOrders = true) (hB : Region.lexTailB .any l.toArray n = true) (hlast : l.drop n = [o]) (hp : (l.take n).all (fun o => plainOp o.op) = true)
    (h : wpStill P l.toArray w.drew (fun a' => wpListIn F m P l.toArray Q [o] a' w.drew) (l.take n) a) : (Code.region id l.toArray true).wpIn F m P Q a w := by
  simp only [Region.lexTailB, Bool.and_eq_true, decide_eq_true_eq] at hB
  obtain ⟨⟨⟨⟨hsel, hn⟩, hs⟩, hc⟩, hlex⟩ := hB
  have hn' : n < l.length := by simpa using hn
  have hlen : l.length = n + 1 := by
    have := congrArg List.length hlast
    simp at this
    omega
  have htl : (l.take n).length = n := by simp; omega
  have hon : l[n]? = some o := by
    have := congrArg (fun x => x[0]?) hlast
    simpa [List.getElem?_drop] using this
  have inv0 : HeadInv .any l.toArray n (Array.replicate l.toArray.size false) :=
    ⟨by simp, fun j oj _ hl => (by rw [getD_replicate_false] at hl; cases hl), fun t _ ht => getD_in (by simpa using ht) (getD_replicate_false _ _)⟩
  have H := wpAnyL_lex (md := .any) (g := l.toArray.size - n) hsel hs hc hn (l.take n) 0 _ a (fun j hj => by
    have hj' : j < n := by rw [htl] at hj; exact hj
    simp [hj']) (by simpa using htl) inv0 (by rw [htl]; exact hlex) h
  refine wpIn_region_any hm ?_
  have hp' : ∀ i o, i < n → l.toArray[i]? = some o → plainOp o.op = true := fun i o hi ho => by
    have hm : o ∈ l.take n := List.mem_of_getElem? (i := i) (by rw [List.getElem?_take]; simpa [hi] using ho)
    exact (List.all_eq_true.1 hp) o hm
  have := wpAnyIn_of_head (F := F) (m := m) (Q := Q) (g := l.toArray.size - n) hp' (fun listed a' hL => by
    have hg : l.toArray.size - n = 1 := by simp; omega
    rw [hg] at hL ⊢
    obtain ⟨hq, hl⟩ := hL
    simp only [Region.seqB, Bool.and_eq_true, decide_eq_true_eq] at hq
    refine ⟨fun h0 => absurd h0 (by rw [hq.1]; simp), fun i hi => ?_⟩
    obtain rfl : i = n := by rw [hq.1] at hi; simpa using hi
    unfold wpOpIn
    simp only [List.getElem?_toArray, hon]
    have hrd : Region.ready .any l.toArray (listed.setIfInBounds i true) = [] := by simpa using hq.2
    unfold wpListIn at hl
    split
    · rename_i hw
      rw [if_pos hw] at hl
      exact Oper.wpIn_mono (fun a w hh => ⟨hrd, hh⟩) hl
    · rename_i hw
      rw [if_neg hw] at hl
      exact ⟨hl.1, hrd, hl.2⟩) _ _ _ H
  rw [htl, show n + (l.toArray.size - n) = l.toArray.size by simp; omega] at this
  exact this
theorem Did.listIn {o : Oper} {a : Act} {w' : World} {v : Value} {rest : List Oper} {Q : Exit → Act → World → Prop} (hg : o.guard = none) (hc : ∀ c, o.op ≠ .call c) (hd : ∀ c, o.op ≠ .defer c) (h : Did P o a w v w') (hK : wpListIn F m P ops Q rest (a.put o.dst v) w') : wpListIn F m P ops Q (o :: rest) a w := by
  have hw : Region.wanted o (yielded ops a.tmps) = true := by simp [Region.wanted, hg]
  unfold wpListIn
  rw [if_pos hw]
  exact h.wpIn hc hd hK
theorem wpListIn_alloc_any {o : Oper} {a : Act} {rest : List Oper} {Q : Exit → Act → World → Prop} (hg : o.guard = none) (ty : TypeId) (ho : o.op = .alloc ty) (z : Value) (hz : (P.info? ty).bind (·.zero) = some z)
    (h : ∀ w', w'.heap[w.heap.size]? = some (.cells z.cells ty (0, 0)) → w'.heap.size = w.heap.size + 1 → Below w.heap.size w w' → wpListIn F m P ops Q rest (a.put o.dst (.pointer (some ⟨w.heap.size, 0, none⟩))) w') : wpListIn F m P ops Q (o :: rest) a w :=
  (did_alloc ty ho z hz).listIn hg (by rw [ho]; intro c h; cases h) (by rw [ho]; intro c h; cases h) (h _ (heap_alloc_new w _) (by simp) ((Below.refl _ _).alloc (Nat.le_refl _) _))
theorem wpListIn_store_any {o : Oper} {a : Act} {rest : List Oper} {Q : Exit → Act → World → Prop} (hgd : o.guard = none) (ty : TypeId) (x y : Operand) (ho : o.op = .store ty x y) (g : Nat) (cells : Array Value) (hx : a.eval x = .pointer (some ⟨g, 0, none⟩)) (hy : a.eval y = .agg cells)
    (t : TypeId) (old : Array Value) (hg : w.heap[g]? = some (.cells old t (0, 0))) (hi : (P.info? ty).map (·.size) = some cells.size) (hold : old.size = cells.size) (h1 : cells.all (·.oneCell') = true)
    (h : ∀ w', w'.heap[g]? = some (.cells cells t (0, 0)) → w'.heap.size = w.heap.size → Keep (· ≠ g) w w' → wpListIn F m P ops Q rest (a.put o.dst undef) w') : wpListIn F m P ops Q (o :: rest) a w :=
  (did_store ty x y ho g cells hx hy t old hg hi hold h1).listIn hgd (by rw [ho]; intro c h; cases h) (by rw [ho]; intro c h; cases h) (h _ (setRow_heap w g old cells t _ hg) (by simp) (setRow_keep g cells))
theorem wpListIn_update_any {o : Oper} {a : Act} {rest : List Oper} {Q : Exit → Act → World → Prop} {b : Nat} {z : List UInt8} {G : Int → List UInt8} (hgd : o.guard = none) (h : IsMap w b z G) (t k e : TypeId) (mo x y : Operand) (ho : o.op = .mapUpdate t mo x y)
    (ht : P.underlying t = some (.map k e)) (hk : P.underlying k = some (.int .i64)) (i : Int) (l : List UInt8) (hm : a.eval mo = .map (some b)) (hx : a.eval x = .int .i64 i) (hy : a.eval y = .agg (bc l).toArray)
    (hK : ∀ w', IsMap w' b z (fun j => if j = i then l else G j) → w.grownBy w' (some b) → w'.heap.size = w.heap.size → wpListIn F m P ops Q rest (a.put o.dst undef) w') : wpListIn F m P ops Q (o :: rest) a w := by
  obtain ⟨w', hd, h1, h2, h3⟩ := h.did_update (P := P) (o := o) (a := a) mo x y ho ht hk i l hm hx hy
  exact hd.listIn hgd (by rw [ho]; intro c h; cases h) (by rw [ho]; intro c h; cases h) (hK w' h1 h2 h3)
end
end Go.Proofs.Ytjgmboleiaehaaa

namespace Go.Proofs.Ytjgmboleiaehaaa
open Go.RowKit Go.Shelf
attribute [local go_sem] Oper.semAt_some

theorem ES.keepK {K : Nat → Prop} {w w' : World} {A : Option Addr} {n : Nat} {es : List En} (h : ES w A n es) (hk : Keep K w w') (hA : 0 < n → ∀ ad, A = some ad → K ad.block) : ES w' A n es :=
  ⟨h.1, fun hn => by
    obtain ⟨b, o, e, hc⟩ := h.2 hn
    exact ⟨b, o, e, fun j hj i v hv => (World.cell?_of_block (hk.block b (hA hn _ e))).trans (hc j hj i v hv)⟩⟩
theorem EB.load {w : World} {g : Nat} {t : TypeId} {e : En} (h : EB w g t e) : ∀ j u, (ec e)[j]? = some u → w.cell? ((⟨g, 0, none⟩ : Addr).add j) = some u := fun j u hu => by
  rw [add_plain, Nat.zero_add]
  exact h.cell j u hu
theorem Keep.bel {K : Nat → Prop} {a w w' : World} (h : Keep K a w) (hK : ∀ k, K k → k < a.heap.size) (hb : Below w.heap.size w w') : Keep K a w' :=
  h.trans ⟨hb.os, hb.tape, hb.output, hb.size, fun k hk => hb.block k (Nat.lt_of_lt_of_le (hK k hk) h.size)⟩

end Go.Proofs.Ytjgmboleiaehaaa

namespace Go.Proofs.Ytjgmboleiaehaaa
open Go.RowKit Go.Shelf
attribute [local go_sem] Oper.semAt_some

theorem frm_le (es : List En) (c : Nat) : frm es c ≤ es.length := List.findIdx_le_length
end Go.Proofs.Ytjgmboleiaehaaa

namespace Go.Proofs.Ytjgmboleiaehaaa
open Go.RowKit Go.Shelf
attribute [local go_sem] Oper.semAt_some

theorem wpListIn_append_es {F : Fence} {m : Nat} {P : Program} (w : World) {ops : Array Oper} {rest : List Oper} {o : Oper} {a : Act} {Q : Exit → Act → World → Prop}
    (hgd : o.guard = none) (s x : Operand) (t : TypeId) (hop : o.op = Op.call { callee := Callee.builtin Builtin.append, args := #[s, x], argTypes := #[t, t] })
    (base : Nat) (e : TypeId) (i : TypeInfo) (z : Value) (ht : P.underlying t = some (.slice e)) (hi : P.info? e = some i) (hz : i.zero = some z) (hsize : i.size = 4) (hby : i.bytes = 32) (hzs : z.cells.size = 4)
    (A0 : Option Addr) (n0 c0 : Nat) (l0 : List En) (hs : a.eval s = .slice A0 n0 c0) (hown : w.ownsRow base e 4 (.slice A0 n0 c0) n0 (ecs l0))
    (A : Option Addr) (k c : Nat) (l : List En) (hx : a.eval x = .slice A k c) (hr : ES w A k l) (hb : n0 + k ≤ 400000000) (hbase : base ≤ w.heap.size)
    (h : ∀ A' c' w', w'.ownsRow base e 4 (.slice A' (n0 + k) c') (n0 + k) (ecs (l0 ++ l)) → w.grownBy w' (Value.slice A0 n0 c0).ownBlock → wpListIn F m P ops Q rest (a.put o.dst (.slice A' (n0 + k) c')) w') : wpListIn F m P ops Q (o :: rest) a w := by
  refine wpListIn_plain hgd fun K hK' => ?_
  obtain ⟨A', c', w', hrun, r1, r2, _⟩ := run_append_es (P := P) w base t o.type e i z ht hi hz hsize hby hzs A0 n0 c0 l0 hown A k c l hr hb hbase
  unfold Oper.wpIn
  refine ⟨?_, ?_⟩
  · simp [Oper.about, hop, resolve, Target.leads, Sem.run_pure]
  · rw [Oper.semAt_plain F _ _ (by rw [hop]; intro c hc'; cases hc')]
    simp [execOp, hop, resolve, invoke, builtin, hs, hx, hrun, Result.andThen]
    exact hK' _ _ (h A' c' w' r1 r2)

/-- What After knows between two rounds: what was taken lies in a row of its own. -/
structure AfI (W0 : World) (b : Nat) (most : Int) (pre : List En) (W : World) : Prop where
  keep : Keep (fun k => k ≠ b ∧ k < W0.heap.size) W0 W
  st : ∃ A c, W.heap[b]? = some (.cells #[.slice A pre.length c] 39 (0, 0)) ∧ W.ownsRow W0.heap.size 91 4 (.slice A pre.length c) pre.length (ecs pre)
  few : (pre.length : Int) ≤ max most 0
  blt : b < W0.heap.size
theorem own_ncells {W W' : World} {base : Nat} {t : TypeId} {v : Value} {n : Nat} {xs : List Value} {row : Option Nat} (h : W.ownsRow base t 4 v n xs) (hg : W.grownBy W' row) (hr : ∀ r, row = some r → ∃ o : Obj, W.heap[r]? = some o ∧ o.isCells = false) : W'.ownsRow base t 4 v n xs := by
  refine h.kept hg ?_
  rcases h.2 with ⟨h1, _⟩ | ⟨g, cap, cur, h1, _, h2, _⟩
  · left; rw [h1]; rfl
  · right
    rw [h1]
    intro e
    obtain ⟨o, ho, hc⟩ := hr g (by rw [← e]; rfl)
    rw [h2] at ho
    injection ho with ho
    subst ho
    cases hc
theorem AfI.grown {W0 : World} {b : Nat} {most : Int} {pre : List En} {W W' : World} {row : Option Nat} (h : AfI W0 b most pre W) (hg : W.grownBy W' row) (hr : ∀ r, row = some r → W0.heap.size ≤ r ∧ ∃ o : Obj, W.heap[r]? = some o ∧ o.isCells = false) : AfI W0 b most pre W' := by
  have hs := h.keep.size
  obtain ⟨A, c, h1, h2⟩ := h.st
  have hb := h.blt
  exact ⟨h.keep.trans ⟨hg.os, hg.tape, hg.output, hg.size, fun k hk => hg.block k (by omega) (fun e => by have := (hr k e.symm).1; omega)⟩,
    ⟨A, c, (hg.block _ (by omega) (fun e => by have := (hr b e.symm).1; omega)).trans h1, own_ncells h2 hg fun r e => (hr r e).2⟩, h.few, h.blt⟩
theorem AfI.own {W0 : World} {b : Nat} {most : Int} : OwnFrom W0.heap.size (AfI W0 b most) := fun _ _ _ _ h hg hr => h.grown hg hr
/-- What After knows behind its early return. -/
structure AfX (W0 : World) (b b6 b7 : Nat) (most : Int) (c : Code) (pre : List En) (W : World) : Prop where
  ret : c = Code.ret
  keep : Keep (fun k => k ≠ b6 ∧ k ≠ b7 ∧ k ≠ b ∧ k < W0.heap.size) W0 W
  st : ∃ A c, W.heap[b6]? = some (.cells #[.slice A pre.dropLast.length c] 39 (0, 0)) ∧ W.ownsRow W0.heap.size 91 4 (.slice A pre.dropLast.length c) pre.dropLast.length (ecs pre.dropLast)
  no : W.heap[b7]? = some (.cells #[.bool false] 4 (0, 0))
  few : (pre.dropLast.length : Int) = max most 0
  ne : pre ≠ []
  lt : b6 < W0.heap.size ∧ b7 < W0.heap.size
theorem AfX.own {W0 : World} {b b6 b7 : Nat} {most : Int} {c : Code} : OwnFrom W0.heap.size (AfX W0 b b6 b7 most c) := fun pre W W' row h hg hr => by
  have hs := h.keep.size
  obtain ⟨A, cc, h1, h2⟩ := h.st
  have hl := h.lt
  exact ⟨h.ret, h.keep.trans ⟨hg.os, hg.tape, hg.output, hg.size, fun k hk => hg.block k (by omega) (fun e => by have := (hr k e.symm).1; omega)⟩,
    ⟨A, cc, (hg.block _ (by omega) (fun e => by have := (hr b6 e.symm).1; omega)).trans h1, own_ncells h2 hg fun r e => (hr r e).2⟩, (hg.block _ (by omega) (fun e => by have := (hr b7 e.symm).1; omega)).trans h.no, h.few, h.ne, h.lt⟩
/-- The loop's variable in a block of its own. -/
def AfA (W0 : World) (f : Nat → Act) (x : En) (a : Act) (W : World) : Prop := ∃ q, W0.heap.size ≤ q ∧ EB W q 91 x ∧ a = f q
theorem AfA.own {W0 : World} {f : Nat → Act} {x : En} {a : Act} : OwnFrom W0.heap.size (fun (_ : Unit) W => AfA W0 f x a W) := fun _ W W' row h hg hr => by
  obtain ⟨q, h1, h2, h3⟩ := h
  refine ⟨q, h1, (hg.block q h2.lt (fun e => ?_)).trans h2, h3⟩
  obtain ⟨o, ho, hc⟩ := (hr q e.symm).2
  unfold EB at h2
  rw [h2] at ho
  injection ho with ho
  subst ho
  cases hc
/-- What After hands back. -/
def AftP (es : List En) (c : Nat) (most : Int) (w : World) (en : Ending) (w' : World) : Prop := ∃ A n cp, en = .returned (.tuple #[.slice A n cp, .bool (aftB es c most)]) ∧ ES w' A n (aftL es c most) ∧ n ≤ cp ∧ Below w.heap.size w w'

theorem foldl_one (p : Tmp) (v : Value) (t : Array Value) : (#[p].zip #[v]).foldl (fun (t : Array Value) (x : Tmp × Value) => match x with | (p, v) => t.setIfInBounds p v) t = t.setIfInBounds p v := by simp
theorem Keep.trans2 {b b6 b7 B : Nat} {a w w' : World} (h : Keep (fun k => k ≠ b ∧ k < B) a w) (k : Keep (fun k => k ≠ b6 ∧ k ≠ b7) w w') : Keep (fun k => k ≠ b6 ∧ k ≠ b7 ∧ k ≠ b ∧ k < B) a w' :=
  (h.mono fun _ hk => ⟨hk.2.2.1, hk.2.2.2⟩).trans (k.mono fun _ hk => ⟨hk.1, hk.2.1⟩)
theorem results_two {t u : TypeId} {fn : Func} {p q : Tmp} (h : fn.results = #[.cell p t, .cell q u]) (tmps : Array Value) (w : World) (a b : Addr) (v x : Value) (hp : tmps.getD p undef = .pointer (some a)) (hq : tmps.getD q undef = .pointer (some b))
    (hu : (Try.prog.underlying t).map (fun d => match d with | .struct _ | .array _ _ => true | _ => false) = some false) (hu2 : (Try.prog.underlying u).map (fun d => match d with | .struct _ | .array _ _ => true | _ => false) = some false) (hc : w.cell? a = some v) (hc2 : w.cell? b = some x) :
    (results fn tmps).run Try.prog w = .ok (.tuple #[v, x]) w := by
  have hp' : tmps[p]?.getD undef = .pointer (some a) := by simpa using hp
  have hq' : tmps[q]?.getD undef = .pointer (some b) := by simpa using hq
  have one : ∀ (t : TypeId) (ad : Addr) (v : Value), (Try.prog.underlying t).map (fun d => match d with | .struct _ | .array _ _ => true | _ => false) = some false → w.cell? ad = some v → (loadVar t ad).run Try.prog w = .ok v w := by
    intro t ad v hu hc
    have hagg : (isAgg t).run Try.prog w = .ok false w := by
      cases hq : Try.prog.underlying t with
      | none => simp [hq] at hu
      | some d =>
        unfold isAgg
        rw [Sem.run_bind, run_underlying hq w]
        cases d <;> simp_all
    unfold loadVar
    rw [Sem.run_bind, hagg]
    simp [hc]
  simp [results, h, hp', hq', asAddr, one t a v hu hc, one u b x hu2 hc2]
theorem put_block {W : World} {k Dd : Nat} {o o' : Obj} (h : W.heap[k]? = some o) (hk : k ≠ Dd) : (W.putObj Dd o').heap[k]? = some o := by
  have hg := grownBy_putObj' W Dd o'
  exact (hg.block k (Array.getElem?_eq_some_iff.1 h).1 (fun e => hk (by simpa using e))).trans h
/-- Both results are stored; then the mark of the calls that wait is put away. -/
theorem fin2 {W : World} {b6 b7 D : Nat} {u6 u7 : Value} {t6 t7 : TypeId} (hne : b6 ≠ b7) (h6 : W.heap[b6]? = some (.cells #[u6] t6 (0, 0))) (h7 : W.heap[b7]? = some (.cells #[u7] t7 (0, 0))) (v6 v7 : Value) (hK : W.heap[D]? = some (.deferred (some []))) (hD6 : b6 < D) (hD7 : b7 < D) :
    ((W.setCell ⟨b6, 0, none⟩ v6).setCell ⟨b7, 0, none⟩ v7).heap[b6]? = some (.cells #[v6] t6 (0, 0)) ∧ ((W.setCell ⟨b6, 0, none⟩ v6).setCell ⟨b7, 0, none⟩ v7).heap[b7]? = some (.cells #[v7] t7 (0, 0)) ∧ ((W.setCell ⟨b6, 0, none⟩ v6).setCell ⟨b7, 0, none⟩ v7).heap[D]? = some (.deferred (some [])) := by
  have e6 : (W.setCell ⟨b6, 0, none⟩ v6).heap[b6]? = some (.cells #[v6] t6 (0, 0)) := by
    rw [setCell_eq_setRow _ _ _ _ _ _ _ h6, setRow_heap _ _ _ _ _ _ h6]
    simp
  have e7 : (W.setCell ⟨b6, 0, none⟩ v6).heap[b7]? = some (.cells #[u7] t7 (0, 0)) := (Below.heap_setCell _ ⟨b6, 0, none⟩ _ _ (fun e => hne e.symm)).trans h7
  refine ⟨(Below.heap_setCell _ ⟨b7, 0, none⟩ _ _ hne).trans e6, ?_, ?_⟩
  · rw [setCell_eq_setRow _ _ _ _ _ _ _ e7, setRow_heap _ _ _ _ _ _ e7]
    simp
  · rw [Below.heap_setCell _ ⟨b7, 0, none⟩ _ _ (by show D ≠ b7; omega), Below.heap_setCell _ ⟨b6, 0, none⟩ _ _ (by show D ≠ b6; omega)]
    exact hK
/-- Five blocks that a call lays. -/
theorem five (w : World) (a1 a2 a3 a4 a5 : Array Value) (t1 t2 t3 t4 t5 : TypeId) : ∃ W, (((((w.alloc (.cells a1 t1)).alloc (.cells a2 t2)).alloc (.cells a3 t3)).alloc (.cells a4 t4)).alloc (.cells a5 t5)) = W ∧ W.heap.size = w.heap.size + 5 ∧ Below w.heap.size w W ∧
    W.heap[w.heap.size]? = some (.cells a1 t1 (0, 0)) ∧ W.heap[w.heap.size + 1]? = some (.cells a2 t2 (0, 0)) ∧ W.heap[w.heap.size + 1 + 1]? = some (.cells a3 t3 (0, 0)) ∧ W.heap[w.heap.size + 1 + 1 + 1]? = some (.cells a4 t4 (0, 0)) ∧ W.heap[w.heap.size + 1 + 1 + 1 + 1]? = some (.cells a5 t5 (0, 0)) := by
  have s1 : (w.alloc (.cells a1 t1)).heap.size = w.heap.size + 1 := by simp
  have s2 : ((w.alloc (.cells a1 t1)).alloc (.cells a2 t2)).heap.size = w.heap.size + 1 + 1 := by simp
  have s3 : (((w.alloc (.cells a1 t1)).alloc (.cells a2 t2)).alloc (.cells a3 t3)).heap.size = w.heap.size + 1 + 1 + 1 := by simp
  have s4 : ((((w.alloc (.cells a1 t1)).alloc (.cells a2 t2)).alloc (.cells a3 t3)).alloc (.cells a4 t4)).heap.size = w.heap.size + 1 + 1 + 1 + 1 := by simp
  have n1 := heap_alloc_new w (.cells a1 t1)
  have n2 := heap_alloc_new (w.alloc (.cells a1 t1)) (.cells a2 t2)
  have n3 := heap_alloc_new ((w.alloc (.cells a1 t1)).alloc (.cells a2 t2)) (.cells a3 t3)
  have n4 := heap_alloc_new (((w.alloc (.cells a1 t1)).alloc (.cells a2 t2)).alloc (.cells a3 t3)) (.cells a4 t4)
  have n5 := heap_alloc_new ((((w.alloc (.cells a1 t1)).alloc (.cells a2 t2)).alloc (.cells a3 t3)).alloc (.cells a4 t4)) (.cells a5 t5)
  rw [s1] at n2
  rw [s2] at n3
  rw [s3] at n4
  rw [s4] at n5
  have b5 := Below.heap_alloc ((((w.alloc (.cells a1 t1)).alloc (.cells a2 t2)).alloc (.cells a3 t3)).alloc (.cells a4 t4)) (.cells a5 t5)
  have b4 := Below.heap_alloc (((w.alloc (.cells a1 t1)).alloc (.cells a2 t2)).alloc (.cells a3 t3)) (.cells a4 t4)
  have b3 := Below.heap_alloc ((w.alloc (.cells a1 t1)).alloc (.cells a2 t2)) (.cells a3 t3)
  have b2 := Below.heap_alloc (w.alloc (.cells a1 t1)) (.cells a2 t2)
  refine ⟨_, rfl, by simp, ((((((Below.refl _ _).alloc (Nat.le_refl _) _).alloc (by simp) _).alloc (by simp; omega) _).alloc (by simp; omega) _).alloc (by simp; omega) _), ?_, ?_, ?_, ?_, n5⟩
  · rw [b5 _ (by omega), b4 _ (by omega), b3 _ (by omega), b2 _ (by omega)]; exact n1
  · rw [b5 _ (by omega), b4 _ (by omega), b3 _ (by omega)]; exact n2
  · rw [b5 _ (by omega), b4 _ (by omega)]; exact n3
  · rw [b5 _ (by omega)]; exact n4

end Go.Proofs.Ytjgmboleiaehaaa

namespace Go.Proofs.Ytjgmboleiaehaaa
open Go.RowKit Go.Shelf

theorem encs_min (es : List En) : 20 * es.length ≤ (encs es).length := by
  induction es with
  | nil => exact Nat.zero_le _
  | cons e r ih =>
    rw [encs_cons, List.length_append, enc1_length, List.length_cons]
    omega
theorem Rd.blk {w : World} {q : Nat} {l : List UInt8} {e : Int} (h : Rd w q l e) : ∃ cs, w.heap[q]? = some (.cells cs 134 (0, 0)) := by
  obtain ⟨A, c, h⟩ := h
  exact ⟨_, h.1⟩
theorem own_type {w : World} {base : Nat} {t : TypeId} {v : Value} {n : Nat} {xs : List Value} (h : w.ownsRow base t 4 v n xs) {g : Nat} {cs : Array Value} {u : TypeId} {fr : Nat × Nat} (hg : w.heap[g]? = some (.cells cs u fr)) (ht : u ≠ t) : v.ownBlock ≠ some g := by
  intro he
  rcases h.2 with ⟨h1, _⟩ | ⟨g', cap', cur', h1, _, h2, _⟩
  · rw [h1] at he; cases he
  · rw [h1] at he
    obtain rfl : g' = g := by simpa [Value.ownBlock] using he
    rw [hg] at h2
    injection h2 with h2
    injection h2 with _ h2 _
    exact ht h2
theorem EB.set {w : World} {g : Nat} {t : TypeId} {e e' : En} (h : EB w g t e) (k : Nat) (v : Value) (he : (ec e').toArray = (ec e).toArray.setIfInBounds k v) : EB (w.setCell ⟨g, k, none⟩ v) g t e' := by
  unfold EB
  rw [setCell_eq_setRow _ _ _ _ _ _ _ h, setRow_heap _ _ _ _ _ _ h, he]
/-- Within a round of Get: the Reader, the entry that is read, the row of those that were. -/
structure GR (w : World) (q g : Nat) (s : List UInt8) (er : Int) (es : List En) (A : Option Addr) (c : Nat) (e : En) (W : World) : Prop where
  rd : Rd W q s er
  eb : EB W g 91 e
  row : W.ownsRow w.heap.size 91 4 (.slice A es.length c) es.length (ecs es)
  bel : Below w.heap.size w W
  hq : w.heap.size ≤ q
  hg : w.heap.size ≤ g
  qg : q ≠ g
  rg : (Value.slice A es.length c).ownBlock ≠ some g
section
variable {w W W' : World} {q g : Nat} {s s' : List UInt8} {er er' : Int} {es : List En} {A : Option Addr} {c : Nat} {e e' : En}
theorem GR.below (h : GR w q g s er es A c e W) (hb : Below W.heap.size W W') : GR w q g s er es A c e W' :=
  ⟨h.rd.kept hb, h.eb.below' hb, h.row.kept (below_grown hb) (Classical.em _), h.bel.trans (hb.mono h.bel.size), h.hq, h.hg, h.qg, h.rg⟩
theorem GR.read (h : GR w q g s er es A c e W) (hr : Rd W' q s' er') (hg : W.grownBy W' (some q)) : GR w q g s' er' es A c e W' := by
  obtain ⟨cs, hb⟩ := h.rd.blk
  have hq := h.hq
  exact ⟨hr, (hg.block g h.eb.lt (fun e => h.qg (by injection e with e; exact e.symm))).trans h.eb, h.row.kept hg (.inr (own_type h.row hb (by decide))),
    h.bel.trans ⟨hg.os, hg.tape, hg.output, hg.size, fun k hk => hg.block k (Nat.lt_of_lt_of_le hk h.bel.size) (fun e => by injection e with e; omega)⟩, h.hq, h.hg, h.qg, h.rg⟩
theorem GR.set (h : GR w q g s er es A c e W) (k : Nat) (v : Value) (he : (ec e').toArray = (ec e).toArray.setIfInBounds k v) : GR w q g s er es A c e' (W.setCell ⟨g, k, none⟩ v) := by
  have hg := h.hg
  exact ⟨h.rd.off h.eb (by decide) h.qg (fun j _ hj => Below.heap_setCell W ⟨g, k, none⟩ v j hj), h.eb.set k v he, h.row.kept (off_setCell W g k v) (.inr h.rg), h.bel.setCell (p := ⟨g, k, none⟩) hg v, h.hq, h.hg, h.qg, h.rg⟩
end

theorem gr_rd {w W W' : World} {q g : Nat} {s : List UInt8} {er : Int} {es : List En} {A : Option Addr} {c : Nat} {e : En} (h : GR w q g s er es A c e W) (hg : W.grownBy W' (Value.slice A es.length c).ownBlock) : Rd W' q s er := by
  rcases h.row.2 with ⟨h1, _⟩ | ⟨g', cap', cur', h1, _, h2, _⟩
  · rw [h1] at hg
    exact h.rd.kept ⟨hg.os, hg.tape, hg.output, hg.size, fun k hk => hg.block k hk (by simp [Value.ownBlock])⟩
  · have hq : q ≠ g' := by
      rintro rfl
      obtain ⟨cs, h3⟩ := h.rd.blk
      rw [h3] at h2
      injection h2 with h2
      injection h2 with _ h2 _
      exact absurd h2 (by decide)
    refine h.rd.off h2 (by decide) hq (fun k hk hne => hg.block k hk ?_)
    rw [h1]
    simp [Value.ownBlock]
    exact hne
end Go.Proofs.Ytjgmboleiaehaaa

namespace Go.Proofs.Ytjgmboleiaehaaa
open Go.RowKit Go.Shelf

def eA : En := ⟨1, 0, 0, [97]⟩
def eB : En := ⟨2, 0, 0, [98]⟩
def eC : En := ⟨3, 0, 0, [99]⟩
def eD : En := ⟨3, 0, 0, [100]⟩
def es0 : List En := [eA, eB, eC]
theorem built_A : Try.prog.built 91 [(0, .int .u64 1), (2, .string ⟨#[97]⟩)] = some (ec eA).toArray := by kernel_rfl
theorem built_B : Try.prog.built 91 [(0, .int .u64 2), (2, .string ⟨#[98]⟩)] = some (ec eB).toArray := by kernel_rfl
theorem built_C : Try.prog.built 91 [(0, .int .u64 3), (2, .string ⟨#[99]⟩)] = some (ec eC).toArray := by kernel_rfl
theorem built_D : Try.prog.built 91 [(0, .int .u64 3), (2, .string ⟨#[100]⟩)] = some (ec eD).toArray := by kernel_rfl
theorem es0_wide : ∀ x ∈ es0, x.Wide := by
  intro x hx
  simp only [es0, List.mem_cons, List.not_mem_nil, or_false] at hx
  rcases hx with rfl | rfl | rfl <;> exact ⟨by decide, by decide, by decide⟩
theorem es0_ok : okB es0 = true := by decide +kernel
theorem es0_len : (putE es0).length = 72 := by decide +kernel
theorem es0_aft : aftL es0 1 1 = [eB] ∧ aftB es0 1 1 = false := by decide +kernel
theorem es0_rem : remE es0 [98] = 0 ∧ remL es0 [98] = [eA, eC] := by decide +kernel
theorem es0_add : addE [eA, eC] eD = 70 := by decide +kernel
theorem es0_addL : addL [eA, eC] eD = [] := by decide +kernel
theorem es0_fnd : fnd es0 [99] = 2 := by decide +kernel
theorem dots : nameE [46, 46] = 67 := by decide +kernel
/-- A block that holds entries. -/
theorem es_block {w : World} {g : Nat} {t : TypeId} {es : List En} (h : w.heap[g]? = some (.cells (ecs es).toArray t (0, 0))) : ES w (some ⟨g, 0, none⟩) es.length es :=
  ⟨rfl, fun _ => ⟨g, 0, rfl, fun j hj i v hv => by
    rw [cell_of_row w g _ _ _ _ h, Nat.zero_add]
    simpa using ecs_get es j hj i v hv⟩⟩

end Go.Proofs.Ytjgmboleiaehaaa

namespace Go.Proofs.Ytjgmboleiaehaaa
open Go.RowKit Go.Shelf

/-- What a name must be ahead of its bytes. -/
def headOk (l : List UInt8) : Bool := decide (1 ≤ l.length) && decide (l.length ≤ 24) && !(l == [46]) && !(l == [46, 46])
theorem nameOk_head (l : List UInt8) : nameOk l = (headOk l && !parts l) := by
  rw [nameOk_eq]
  unfold headOk
  have e1 : (!decide (l.length < 1)) = decide (1 ≤ l.length) := by
    rw [← decide_not]
    exact decide_eq_decide.2 (by omega)
  have e2 : (!decide (24 < l.length)) = decide (l.length ≤ 24) := by
    rw [← decide_not]
    exact decide_eq_decide.2 (by omega)
  rw [e1, e2]
theorem parts_take (l : List UInt8) (k : Nat) (h : k < l.length) : parts (l.take (k + 1)) = (parts (l.take k) || (l[k] == 0 || l[k] == 47)) := by
  unfold parts
  rw [List.take_succ_eq_append_getElem h, List.any_append]
  simp
theorem parts_at (l : List UInt8) (k : Nat) (h : k < l.length) : ∃ x : UInt8, (∀ hk : k < (txt l).size, (txt l)[k]'hk = x) ∧ parts (l.take (k + 1)) = (parts (l.take k) || (x == 0 || x == 47)) :=
  ⟨l[k], fun _ => rfl, parts_take l k h⟩
theorem fnd_nil (nm : List UInt8) : fnd [] nm = -1 := rfl
theorem addE_nil (e : En) (h : 0 < e.ck) : addE [] e = if nameOk e.nm = true then 0 else 67 := by
  unfold addE
  cases nameOk e.nm
  · rfl
  · rw [if_neg (by simp), if_neg (by rw [fnd_nil]; omega), if_neg (by show ¬ e.ck ≤ 0; omega)]
    rfl
theorem u8_ne (b c : UInt8) (n : Int) (hc : (c.toNat : Int) = n) : (((b.toNat : Int)) != n) = !(b == c) := by
  rw [← hc]
  by_cases h : b = c
  · subst h; simp
  · have h2 : b.toNat ≠ c.toNat := fun e => h (UInt8.toNat_inj.1 e)
    have e1 : (b == c) = false := by simpa using h
    rw [e1]
    simp
    omega
theorem built_N (v : ByteArray) : Try.prog.built 91 [(0, .int .u64 1), (2, .string v)] = some #[.int .u64 1, .int .u32 0, .int .u32 0, .string v] := by kernel_rfl

end Go.Proofs.Ytjgmboleiaehaaa

namespace Go.Proofs.Ytjgmboleiaehaaa
open Go.RowKit Go.Shelf

theorem hEq (d : Nat) (a b c e : Int) (w : World) : (Op.equalIn (d + 1 + 1) 34 (.agg #[.int .u32 a, .int .u32 b]) (.agg #[.int .u32 c, .int .u32 e])).run Try.prog w = .ok (a == c && b == e) w := by
  have hS : Try.prog.underlying 34 = some (.struct (Try.prog.fieldsOf 34)) := by kernel_rfl
  have hp : Try.prog.stoodInHeld 34 = false := by kernel_rfl
  have u := Try.underlying31
  have ia := Try.isAgg31
  have sz := Try.sizeOf31
  rw [run_equalIn_agg w (d + 1) 34 _ _ hS hp]
  simp only [Program.fieldsOf, Try.underlying34]
  go_simp
  by_cases h1 : a = c <;> by_cases h2 : b = e <;> simp [h1, h2]
theorem eEq (x y : En) (w : World) : (binOp .neq 92 (.agg #[.int .u64 (x.ck : Int), .int .u32 (x.ino : Int), .int .u32 (x.gen : Int), .string (txt x.nm)]) (.agg #[.int .u64 (y.ck : Int), .int .u32 (y.ino : Int), .int .u32 (y.gen : Int), .string (txt y.nm)])).run Try.prog w = .ok (.bool (!decide (x = y))) w := by
  have hS : Try.prog.underlying 92 = some (.struct (Try.prog.fieldsOf 92)) := by kernel_rfl
  have hp : Try.prog.stoodInHeld 92 = false := by kernel_rfl
  have u := Try.underlying35
  have ia := Try.isAgg35
  have sz := Try.sizeOf35
  have u1 := Try.underlying9
  have ia1 := Try.isAgg9
  have sz1 := Try.sizeOf9
  have ia2 := Try.isAgg34
  have sz2 := Try.sizeOf34
  rw [run_neq_struct, show (10000 : Nat) = 9997 + 1 + 1 + 1 from rfl, run_equalIn_agg w (9997 + 1 + 1) 92 _ _ hS hp]
  simp only [Program.fieldsOf, Try.underlying92]
  have hE := hEq 9997
  go_simp
  by_cases h : x = y
  · subst h
    simp
  · have hd : decide (x = y) = false := decide_eq_false h
    rw [hd]
    obtain ⟨c, i, g, l⟩ := x
    obtain ⟨c2, i2, g2, l2⟩ := y
    dsimp only
    rw [txt_toList, txt_toList]
    by_cases h0 : c = c2
    · by_cases h1 : i = i2
      · by_cases h2 : g = g2
        · subst h0 h1 h2
          have h3 : l ≠ l2 := fun e => h (by rw [e])
          simp [h3]
        · simp [h0, h1, Int.ofNat_inj, h2]
      · simp [h0, Int.ofNat_inj, h1]
    · simp [Int.ofNat_inj, h0]

set_option maxRecDepth 100000 in
set_option maxHeartbeats 4000000 in
/-- Two rows that read the same are the same, others are not. -/
theorem same_any (A B : Option Addr) (n m c d : Nat) (xs ys : List En) (w : World) (h : ES w A n xs) (h2 : ES w B m ys) (hn : n ≤ 10000000) :
    Calls Try.prog 39 #[.slice A n c, .slice B m d] w fun e w' => e = .returned (.bool (decide (xs = ys))) ∧ Below w.heap.size w w' := by
  have HS := Lib.hid h
  have HT := Lib.hid h2
  have HN : Hid (xs.length = n) := h.1
  have HM : Hid (ys.length = m) := h2.1
  clear h h2
  by_cases hnm : n = m
  rotate_left
  · have hne : ¬ (n : Int) = (m : Int) := by omega
    have HD : Hid (decide (xs = ys) = false) := decide_eq_false fun e => hnm (by rw [← HN.out, ← HM.out, e])
    go_enter Try.func39, Try.ntmps39
    go_wp2_with fail
    go_ret
    exact ⟨by rw [HD.out]; rfl, Below.refl _ _⟩
  subst hnm
  go_enter Try.func39, Try.ntmps39
  go_wp2_with fail
  go_loopw [5] (fun i wr => ∃ k : Nat, k ≤ n ∧ i = .int .i64 k ∧ Hid (xs.take k = ys.take k) ∧ Hid (Below w.heap.size w wr)) (fun i _ => n - (intOf i).toNat)
  case atStart => exact ⟨0, by omega, rfl, rfl, Below.refl _ _⟩
  case round =>
    obtain ⟨k, hk, rfl, HE, HW⟩ := hrel
    by_cases hlt : k < n
    · have hlt' : (k : Int) < (n : Int) := by omega
      obtain ⟨b, o, rfl, hbl, hj, hc⟩ := (HS.out.below HW.out).at hlt
      obtain ⟨b2, o2, rfl, hbl2, hj2, hc2⟩ := (HT.out.below HW.out).at hlt
      have HTX : Hid (xs.take (k + 1) = xs.take k ++ [xs[k]]) := List.take_succ_eq_append_getElem hj
      have HTY : Hid (ys.take (k + 1) = ys.take k ++ [ys[k]]) := List.take_succ_eq_append_getElem hj2
      have HDF : Hid (xs = ys → xs[k] = ys[k]) := fun e => by subst e; rfl
      generalize xs[k] = x at *
      generalize ys[k] = y at *
      have k0 : wr.cell? ⟨b, o + k * 4, none⟩ = some (.int .u64 (x.ck : Int)) := hc 0 _ rfl
      have k1 : wr.cell? ⟨b, o + k * 4 + 1, none⟩ = some (.int .u32 (x.ino : Int)) := hc 1 _ rfl
      have k2 : wr.cell? ⟨b, o + k * 4 + 2, none⟩ = some (.int .u32 (x.gen : Int)) := hc 2 _ rfl
      have k3 : wr.cell? ⟨b, o + k * 4 + 3, none⟩ = some (.string (txt x.nm)) := hc 3 _ rfl
      have j0 : wr.cell? ⟨b2, o2 + k * 4, none⟩ = some (.int .u64 (y.ck : Int)) := hc2 0 _ rfl
      have j1 : wr.cell? ⟨b2, o2 + k * 4 + 1, none⟩ = some (.int .u32 (y.ino : Int)) := hc2 1 _ rfl
      have j2 : wr.cell? ⟨b2, o2 + k * 4 + 2, none⟩ = some (.int .u32 (y.gen : Int)) := hc2 2 _ rfl
      have j3 : wr.cell? ⟨b2, o2 + k * 4 + 3, none⟩ = some (.string (txt y.nm)) := hc2 3 _ rfl
      clear hc hc2
      have heq := eEq x y
      by_cases hxy : x = y
      · have hd : decide (x = y) = true := decide_eq_true hxy
        rw [hd] at heq
        subst hxy
        clear hd
        have HW1 : Hid (∀ k, Below w.heap.size w (wr.drewN k)) := fun k => ⟨HW.out.os, HW.out.tape, HW.out.output, HW.out.size, HW.out.block⟩
        go_wp2_with fail
        go_quiet (fail)
        go_wp2_with fail
        go_roundw
        case rel => exact ⟨k + 1, by omega, by go_num, by show _ = _; rw [HTX.out, HTY.out, HE.out], HW1.out _⟩
        case measure => simp [intOf]; omega
      · have hd : decide (x = y) = false := decide_eq_false hxy
        rw [hd] at heq
        have HD : Hid (decide (xs = ys) = false) := decide_eq_false fun e => hxy (HDF.out e)
        clear hd hxy
        have HW1 : Hid (∀ k, Below w.heap.size w (wr.drewN k)) := fun k => ⟨HW.out.os, HW.out.tape, HW.out.output, HW.out.size, HW.out.block⟩
        go_wp2_with fail
        go_quiet (fail)
        go_wp2_with fail
        go_ret
        exact ⟨by rw [HD.out]; rfl, HW1.out _⟩
    · obtain rfl : k = n := by omega
      have HD : Hid (decide (xs = ys) = true) := by
        refine decide_eq_true ?_
        have := HE.out
        rwa [List.take_of_length_le (by rw [HN.out]; exact Nat.le_refl _), List.take_of_length_le (by rw [HM.out]; exact Nat.le_refl _)] at this
      go_wp2_with fail
      go_ret
      exact ⟨by rw [HD.out]; rfl, HW.out⟩
end Go.Proofs.Ytjgmboleiaehaaa

namespace Go.Proofs.Ytjgmboleiaehaaa
open Go.RowKit Go.Shelf

/-- A struct out of a part of a block, as a region that draws its order asks for it. -/
theorem run_load_part {P : Program} {o : Oper} {a : Act} {w : World} (ty : TypeId) (x : Operand) (ho : o.op = .load ty x) (g k : Nat) (hx : a.eval x = .pointer (some ⟨g, k, none⟩)) (d : TypeDesc) (hu : P.underlying ty = some d)
    (hd : (match d with | .struct _ | .array _ _ => true | _ => false) = true) (l : List Value) (t : TypeId) (cs : List Value) (hg : Bw w g cs t) (hi : (P.info? ty).map (·.size) = some l.length) (hl : ∀ j u, l[j]? = some u → cs[k + j]? = some u) :
    (execOp a.eval o).run P w = .ok (.value (.agg l.toArray)) w := by
  have hl2 := run_loadCells_list (P := P) w ⟨g, k, none⟩ l (hg.part k l hl)
  cases hq : P.info? ty with
  | none => simp [hq] at hi
  | some i =>
    have hs : i.size = l.length := by simpa [hq] using hi
    have hagg : (isAgg ty).run P w = .ok true w := by
      unfold isAgg
      rw [Sem.run_bind, run_underlying hu w]
      cases d <;> simp_all
    unfold execOp
    simp [ho, hx, Instr.loadAt, Instr.sureAddr, loadVar, Sem.run_bind, hagg, sizeOf, typeInfo, hq, hs, hl2]

theorem cc_ones (c : Cl) (s : ByteArray) : ∀ v ∈ cc c (.string s), v.oneCell' = true := by
  intro v hv
  simp only [cc, List.mem_cons, List.not_mem_nil, or_false] at hv
  rcases hv with rfl | rfl | rfl | rfl | rfl | rfl | rfl | rfl | rfl | rfl | rfl | rfl | rfl | rfl <;> rfl

end Go.Proofs.Ytjgmboleiaehaaa

namespace Go.Proofs.Ytjgmboleiaehaaa
open Go.RowKit Go.Shelf

theorem size_R9 : (Try.prog.info? 50).map (·.size) = some 15 := by kernel_rfl
theorem zero_R9 : (Try.prog.info? 50).bind (·.zero) = some (.agg (rc Rp.zero (.string (txt [])) (.slice none 0 0)).toArray) := by kernel_rfl
theorem built_A9 (a b c d e : Int) : Try.prog.built 47 [(0, .int .u32 a), (1, .int .u32 b), (2, .int .u32 c), (3, .int .u32 d), (4, .int .u64 e)] = some #[.int .u32 a, .int .u32 b, .int .u32 c, .int .u32 d, .int .u64 e] := by kernel_rfl
theorem built_R9 (a0 a1 a2 a3 a4 a5 a6 a7 a8 a9 b3 b4 : Int) (s : ByteArray) (t : Bool) : Try.prog.built 50 [(0, .int .u32 a0), (1, .int .u32 a1), (2, .int .i64 a2), (3, .agg #[.int .u32 a3, .int .u32 a4]), (4, .agg #[.int .u32 a5, .int .u32 a6, .int .u32 a7, .int .u32 a8, .int .u64 a9]), (5, .string s), (7, .bool t), (8, .int .u64 b3), (9, .int .u32 b4)] =
    some #[.int .u32 a0, .int .u32 a1, .int .i64 a2, .int .u32 a3, .int .u32 a4, .int .u32 a5, .int .u32 a6, .int .u32 a7, .int .u32 a8, .int .u64 a9, .string s, .slice none 0 0, .bool t, .int .u64 b3, .int .u32 b4] := by kernel_rfl
theorem rc_ones (r : Rp) (s : ByteArray) (B : Option Addr) (m cq : Nat) : ∀ v ∈ rc r (.string s) (.slice B m cq), v.oneCell' = true := by
  intro v hv
  simp only [rc, List.mem_cons, List.not_mem_nil, or_false] at hv
  rcases hv with rfl | rfl | rfl | rfl | rfl | rfl | rfl | rfl | rfl | rfl | rfl | rfl | rfl | rfl | rfl <;> rfl
end Go.Proofs.Ytjgmboleiaehaaa

namespace Go.Proofs.Ytjgmboleiaehaaa
open Go.RowKit Go.Shelf

theorem size_A9 : (Try.prog.info? 47).map (·.size) = some 5 := by kernel_rfl
theorem part_ac {r : Rp} {v u : Value} : ∀ j z, (ac r.kd r.md r.ln r.sz r.ch)[j]? = some z → (rc r v u)[5 + j]? = some z := by
  intro j z hz
  match j with
  | 0 | 1 | 2 | 3 | 4 => exact hz
  | j + 5 => simp [ac] at hz
theorem part_hc {r : Rp} {v u : Value} : ∀ j z, (hc r.ati r.atg)[j]? = some z → (rc r v u)[3 + j]? = some z := by
  intro j z hz
  match j with
  | 0 | 1 => exact hz
  | j + 2 => simp [hc] at hz
theorem hSelf (a b : Nat) (w : World) : (binOp .eql 34 (.agg (hc a b).toArray) (.agg (hc a b).toArray)).run Try.prog w = .ok (.bool true) w := by
  rw [run_eql_struct, show (10000 : Nat) = 9998 + 1 + 1 from rfl, show hc a b = [.int .u32 (a : Int), .int .u32 (b : Int)] from rfl, hEq 9998, Result.andThen_ok]
  simp
theorem aSelf (a b c d e : Nat) (w : World) : (binOp .eql 47 (.agg (ac a b c d e).toArray) (.agg (ac a b c d e).toArray)).run Try.prog w = .ok (.bool true) w := by
  have hS : Try.prog.underlying 47 = some (.struct (Try.prog.fieldsOf 47)) := by kernel_rfl
  have hp : Try.prog.stoodInHeld 47 = false := by kernel_rfl
  have u := Try.underlying35
  have ia := Try.isAgg35
  have sz := Try.sizeOf35
  have u3 := Try.underlying31
  have ia3 := Try.isAgg31
  have sz3 := Try.sizeOf31
  have hE : (Op.equalIn 10000 47 (.agg (ac a b c d e).toArray) (.agg (ac a b c d e).toArray)).run Try.prog w = .ok true w := by
    rw [show (10000 : Nat) = 9998 + 1 + 1 from rfl, run_equalIn_agg w (9998 + 1) 47 _ _ hS hp]
    simp only [Program.fieldsOf, Try.underlying47]
    unfold ac
    go_simp
  rw [run_eql_struct, hE, Result.andThen_ok]

set_option maxRecDepth 100000 in
set_option maxHeartbeats 2000000 in
theorem refSame9_any (r : Rp) (E : Option Addr) (m ce : Nat) (F : Option Addr) (k cf : Nat) (w : World) (h : ES w E m r.es) (h2 : ES w F k r.es) (hm : m ≤ 10000000) :
    Calls Try.prog 21 #[.agg (rc r (.string (txt r.dt)) (.slice E m ce)).toArray, .agg (rc r (.string (txt r.dt)) (.slice F k cf)).toArray] w fun e w' => e = .returned (.bool true) ∧ Below w.heap.size w w' := by
  have HS := Lib.hid h
  have HT := Lib.hid h2
  have HM := Lib.hid hm
  clear h h2 hm
  have hb0 : Below w.heap.size w ((w.alloc (.cells (rc r (.string (txt r.dt)) (.slice E m ce)).toArray 50)).alloc (.cells (rc r (.string (txt r.dt)) (.slice F k cf)).toArray 50)) := ((Below.refl _ _).alloc (Nat.le_refl _) _).alloc (by simp) _
  have HX : Hid (Bw ((w.alloc (.cells (rc r (.string (txt r.dt)) (.slice E m ce)).toArray 50)).alloc (.cells (rc r (.string (txt r.dt)) (.slice F k cf)).toArray 50)) w.heap.size (rc r (.string (txt r.dt)) (.slice E m ce)) 50) := (Below.heap_alloc _ _ _ (by simp)).trans (heap_alloc_new w _)
  have HY : Hid (Bw ((w.alloc (.cells (rc r (.string (txt r.dt)) (.slice E m ce)).toArray 50)).alloc (.cells (rc r (.string (txt r.dt)) (.slice F k cf)).toArray 50)) (w.heap.size + 1) (rc r (.string (txt r.dt)) (.slice F k cf)) 50) := by
    have := heap_alloc_new (w.alloc (.cells (rc r (.string (txt r.dt)) (.slice E m ce)).toArray 50)) (.cells (rc r (.string (txt r.dt)) (.slice F k cf)).toArray 50)
    show _ = _
    simpa using this
  have HW := Lib.hid hb0
  clear hb0
  have x0 := HX.out.cell 0 _ rfl
  have y0 := HY.out.cell 0 _ rfl
  have x1 := HX.out.cell 1 _ rfl
  have y1 := HY.out.cell 1 _ rfl
  have x2 := HX.out.cell 2 _ rfl
  have y2 := HY.out.cell 2 _ rfl
  have x3 := HX.out.cell 3 _ rfl
  have y3 := HY.out.cell 3 _ rfl
  have x4 := HX.out.cell 4 _ rfl
  have y4 := HY.out.cell 4 _ rfl
  have x5 := HX.out.cell 5 _ rfl
  have y5 := HY.out.cell 5 _ rfl
  have x6 := HX.out.cell 6 _ rfl
  have y6 := HY.out.cell 6 _ rfl
  have x7 := HX.out.cell 7 _ rfl
  have y7 := HY.out.cell 7 _ rfl
  have x8 := HX.out.cell 8 _ rfl
  have y8 := HY.out.cell 8 _ rfl
  have x9 := HX.out.cell 9 _ rfl
  have y9 := HY.out.cell 9 _ rfl
  have x10 := HX.out.cell 10 _ rfl
  have y10 := HY.out.cell 10 _ rfl
  have x11 := HX.out.cell 11 _ rfl
  have y11 := HY.out.cell 11 _ rfl
  have hS : ∀ W, (binOp .eql 34 (.agg #[.int .u32 (r.ati : Int), .int .u32 (r.atg : Int)]) (.agg #[.int .u32 (r.ati : Int), .int .u32 (r.atg : Int)])).run Try.prog W = .ok (.bool true) W := fun W => hSelf r.ati r.atg W
  have aS : ∀ W, (binOp .eql 47 (.agg #[.int .u32 (r.kd : Int), .int .u32 (r.md : Int), .int .u32 (r.ln : Int), .int .u32 (r.sz : Int), .int .u64 (r.ch : Int)]) (.agg #[.int .u32 (r.kd : Int), .int .u32 (r.md : Int), .int .u32 (r.ln : Int), .int .u32 (r.sz : Int), .int .u64 (r.ch : Int)])).run Try.prog W = .ok (.bool true) W := fun W => aSelf r.kd r.md r.ln r.sz r.ch W
  go_enter Try.func21, Try.ntmps21
  go_wp2_with fail
  refine (same_any E F m k ce cf r.es r.es _ (HS.out.below HW.out) (HT.out.below HW.out) HM.out).mono ?_
  rintro e w1 ⟨he, hb1⟩
  rw [decide_eq_true rfl] at he
  subst he
  have HX1 := Lib.hid (HX.out.below hb1)
  have HY1 := Lib.hid (HY.out.below hb1)
  have HW1 := Lib.hid (HW.out.trans (hb1.mono HW.out.size))
  clear hb1 HX HY HW x0 y0 x1 y1 x2 y2 x3 y3 x4 y4 x5 y5 x6 y6 x7 y7 x8 y8 x9 y9 x10 y10 x11 y11
  have x12 := HX1.out.cell 12 _ rfl
  have y12 := HY1.out.cell 12 _ rfl
  have x13 := HX1.out.cell 13 _ rfl
  have y13 := HY1.out.cell 13 _ rfl
  have x14 := HX1.out.cell 14 _ rfl
  have y14 := HY1.out.cell 14 _ rfl
  go_wp2_with fail
  go_ret
  exact ⟨rfl, HW1.out⟩
end Go.Proofs.Ytjgmboleiaehaaa

namespace Go.Proofs.Ytjgmboleiaehaaa
open Go.RowKit Go.Shelf

section
variable {o : Oper} {a : Act} {w : World} {ops : Array Oper} {rest : List Oper} {Q : Exit → Act → World → Prop}
/-- The cells of bools, of numbers. -/
def bcs (n : Nat) (p : Nat → Bool) : List Value := (List.range n).map fun i => Value.bool (p i)
def ics (n : Nat) (p : Nat → Nat) : List Value := (List.range n).map fun i => Value.int .i64 (p i : Int)
def BB (w : World) (g n : Nat) (p : Nat → Bool) : Prop := w.heap[g]? = some (.cells (bcs n p).toArray 4 (0, 0))
def IB (w : World) (g n : Nat) (p : Nat → Nat) : Prop := w.heap[g]? = some (.cells (ics n p).toArray 3 (0, 0))
def upd {α : Type} (p : Nat → α) (k : Nat) (x : α) : Nat → α := fun i => if i = k then x else p i
theorem infoBool : (Try.prog.info? 4).map (fun i => (i.zero, i.size, i.bytes)) = some (some (.bool false), 1, 1) := by kernel_rfl
theorem infoInt : (Try.prog.info? 3).map (fun i => (i.zero, i.size, i.bytes)) = some (some (.int .i64 0), 1, 8) := by kernel_rfl
theorem made_cells (z : Value) (hz : z.cells = #[z]) (n : Nat) : madeCells z.cells (n * 1) = ((List.range n).map fun _ => z).toArray := by
  apply Array.ext'
  rw [hz]
  simp [madeCells, Nat.mod_one]
theorem wpList_make_row (hgd : o.guard = none) (t e : TypeId) (z : Value) (by_ : Nat) (l c : Operand) (ho : o.op = .makeSlice t l c) (ht : Try.prog.underlying t = some (.slice e))
    (hinf : (Try.prog.info? e).map (fun i => (i.zero, i.size, i.bytes)) = some (some z, 1, by_)) (hz1 : z.cells = #[z]) (hby : by_ ≤ 24) (n : Nat) (hl : a.eval l = .int .i64 (n : Int)) (hc : a.eval c = .int .i64 (n : Int)) (hn : n ≤ 1000000)
    (h : ∀ w', w'.heap[w.heap.size]? = some (.cells ((List.range n).map fun _ => z).toArray e (0, 0)) → w'.heap.size = w.heap.size + 1 → Below w.heap.size w w' → wpList Try.prog ops Q rest (a.put o.dst (.slice (some ⟨w.heap.size, 0, none⟩) n n)) w') : wpList Try.prog ops Q (o :: rest) a w := by
  obtain ⟨i, hi, hz, hs, hb⟩ := info_parts hinf
  have hr := run_makeSlice (P := Try.prog) w t e i z ht hi hz .i64 .i64 (n : Int) (n : Int) (by omega) (by omega) (by rw [hs]; simp; omega) (by rw [hb]; have h1 : by_ * n ≤ 24 * n := Nat.mul_le_mul_right _ hby; have h2 := Int.ofNat_le.2 h1; push_cast at h2; rw [Int.mul_comm] at h2; omega) (by omega)
  rw [hs, Int.toNat_natCast, made_cells z hz1] at hr
  refine Did.list hgd (v := .slice (some ⟨w.heap.size, 0, none⟩) n n) (w' := w.alloc (.cells ((List.range n).map fun _ => z).toArray e)) (.inl ?_) (h _ (heap_alloc_new w _) (by simp) ((Below.refl _ _).alloc (Nat.le_refl _) _))
  unfold execOp
  simp only [ho, hl, hc, Sem.run_bind, hr, Result.andThen_ok]
  rfl
theorem wpList_conv_bs (hgd : o.guard = none) (x : Operand) (ho : o.op = .convert 38 9 x) (A : Option Addr) (n c : Nat) (l : List UInt8) (hx : a.eval x = .slice A n c) (h : BS w A n l)
    (hk : wpList Try.prog ops Q rest (a.put o.dst (.string (txt l))) w) : wpList Try.prog ops Q (o :: rest) a w := by
  refine Did.list hgd (v := .string (txt l)) (w' := w) (.inl ?_) hk
  unfold execOp
  simp only [ho, hx, Sem.run_bind, run_convert_bs w A n c l h, Result.andThen_ok]
  rfl
theorem range1 : Array.range 1 = #[0] := by decide
theorem range2 : Array.range 2 = #[0, 1] := by decide
/-- A slice of one or two bytes, the world under a name of its own. -/
theorem wpList_byte1 (hgd : o.guard = none) (x : Operand) (ho : o.op = .buildSlice 38 1 #[(0, x)]) (b : UInt8) (hx : a.eval x = .int .u8 (b.toNat : Int))
    (h : ∀ w', BS w' (some ⟨w.heap.size, 0, none⟩) 1 [b] → Below w.heap.size w w' → wpList Try.prog ops Q rest (a.put o.dst (.slice (some ⟨w.heap.size, 0, none⟩) 1 1)) w') : wpList Try.prog ops Q (o :: rest) a w := by
  obtain ⟨i, hi, hz, hs, hb⟩ := info_parts info_u8
  have hr := run_buildSlice (P := Try.prog) w 38 5 1 #[(0, .int .u8 (b.toNat : Int))] #[.int .u8 (b.toNat : Int)] i _ Try.underlying38 hi hz (by rw [hs]; omega) (by rw [hs]; omega) (by rw [hs]; simp [Instr.fill, Value.cells, range1])
  refine Did.list hgd (v := .slice (some ⟨w.heap.size, 0, none⟩) 1 1) (w' := w.alloc (.cells #[.int .u8 (b.toNat : Int)] 5)) (.inl ?_) (h _ (BS.of_block (l := [b]) (heap_alloc_new w _)) ((Below.refl _ _).alloc (Nat.le_refl _) _))
  unfold execOp
  simp only [ho, Sem.run_bind]
  simp [hx, hr]
theorem wpList_byte2 (hgd : o.guard = none) (x y : Operand) (ho : o.op = .buildSlice 38 2 #[(0, x), (1, y)]) (b c : UInt8) (hx : a.eval x = .int .u8 (b.toNat : Int)) (hy : a.eval y = .int .u8 (c.toNat : Int))
    (h : ∀ w', BS w' (some ⟨w.heap.size, 0, none⟩) 2 [b, c] → Below w.heap.size w w' → wpList Try.prog ops Q rest (a.put o.dst (.slice (some ⟨w.heap.size, 0, none⟩) 2 2)) w') : wpList Try.prog ops Q (o :: rest) a w := by
  obtain ⟨i, hi, hz, hs, hb⟩ := info_parts info_u8
  have hr := run_buildSlice (P := Try.prog) w 38 5 2 #[(0, .int .u8 (b.toNat : Int)), (1, .int .u8 (c.toNat : Int))] #[.int .u8 (b.toNat : Int), .int .u8 (c.toNat : Int)] i _ Try.underlying38 hi hz (by rw [hs]; omega) (by rw [hs]; omega) (by rw [hs]; simp [Instr.fill, Value.cells, range2])
  refine Did.list hgd (v := .slice (some ⟨w.heap.size, 0, none⟩) 2 2) (w' := w.alloc (.cells #[.int .u8 (b.toNat : Int), .int .u8 (c.toNat : Int)] 5)) (.inl ?_) (h _ (BS.of_block (l := [b, c]) (heap_alloc_new w _)) ((Below.refl _ _).alloc (Nat.le_refl _) _))
  unfold execOp
  simp only [ho, Sem.run_bind]
  simp [hx, hy, hr]
end
section
variable {w w' : World} {g n : Nat}
theorem BB.cell {p : Nat → Bool} (h : BB w g n p) {k : Nat} (hk : k < n) : w.cell? ⟨g, k, none⟩ = some (.bool (p k)) := by
  rw [cell_of_row _ _ _ _ _ _ h]
  simp [bcs, hk]
theorem IB.cell {p : Nat → Nat} (h : IB w g n p) {k : Nat} (hk : k < n) : w.cell? ⟨g, k, none⟩ = some (.int .i64 (p k : Int)) := by
  rw [cell_of_row _ _ _ _ _ _ h]
  simp [ics, hk]
theorem BB.froz {p : Nat → Bool} (h : BB w g n p) (k : Nat) : w.frozen? ⟨g, k, none⟩ = false := by simp [World.frozen?, show w.heap[g]? = _ from h]
theorem IB.froz {p : Nat → Nat} (h : IB w g n p) (k : Nat) : w.frozen? ⟨g, k, none⟩ = false := by simp [World.frozen?, show w.heap[g]? = _ from h]
theorem BB.lt {p : Nat → Bool} (h : BB w g n p) : g < w.heap.size := (Array.getElem?_eq_some_iff.1 h).1
theorem IB.lt {p : Nat → Nat} (h : IB w g n p) : g < w.heap.size := (Array.getElem?_eq_some_iff.1 h).1
theorem BB.below {p : Nat → Bool} (h : BB w g n p) (hb : Below w.heap.size w w') : BB w' g n p := (hb.block g h.lt).trans h
theorem IB.below {p : Nat → Nat} (h : IB w g n p) (hb : Below w.heap.size w w') : IB w' g n p := (hb.block g h.lt).trans h
theorem setIf_range {α : Type} (n : Nat) (f : Nat → α) (k : Nat) (x : α) : ((List.range n).map f).toArray.setIfInBounds k x = ((List.range n).map (upd f k x)).toArray := by
  apply Array.ext'
  rw [Array.toList_setIfInBounds]
  apply List.ext_getElem
  · simp
  · intro i h1 h2
    rw [List.getElem_set]
    by_cases e : k = i
    · rw [if_pos e]
      simp [upd, e]
    · rw [if_neg e]
      have e2 : ¬ i = k := fun h => e h.symm
      simp [upd, e2]
theorem BB.set {p : Nat → Bool} (h : BB w g n p) (k : Nat) (x : Bool) : BB (w.setCell ⟨g, k, none⟩ (.bool x)) g n (upd p k x) := by
  have := setRow_heap w g _ (((List.range n).map (upd (fun i => Value.bool (p i)) k (.bool x))).toArray) _ _ h
  rw [← setIf_range] at this
  unfold BB
  rw [setCell_eq_setRow _ _ _ _ _ _ _ h]
  refine this.trans ?_
  rw [setIf_range]
  unfold bcs
  congr 3
  apply List.map_congr_left
  intro i _
  simp only [upd]
  split <;> rfl
theorem IB.set {p : Nat → Nat} (h : IB w g n p) (k : Nat) (x : Nat) : IB (w.setCell ⟨g, k, none⟩ (.int .i64 (x : Int))) g n (upd p k x) := by
  have := setRow_heap w g _ (((List.range n).map (upd (fun i => Value.int .i64 (p i : Int)) k (.int .i64 (x : Int)))).toArray) _ _ h
  rw [← setIf_range] at this
  unfold IB
  rw [setCell_eq_setRow _ _ _ _ _ _ _ h]
  refine this.trans ?_
  rw [setIf_range]
  unfold ics
  congr 3
  apply List.map_congr_left
  intro i _
  simp only [upd]
  split <;> rfl
/-- A cell of another block is set. -/
theorem set_keep (w : World) (g k : Nat) (v : Value) : Keep (· ≠ g) w (w.setCell ⟨g, k, none⟩ v) := (Keep.refl _ _).setCell (p := ⟨g, k, none⟩) (fun h => h rfl) _
theorem BB.off {p : Nat → Bool} (h : BB w g n p) {g' k : Nat} (v : Value) (hne : g ≠ g') : BB (w.setCell ⟨g', k, none⟩ v) g n p := ((set_keep w g' k v).block g hne).trans h
theorem IB.off {p : Nat → Nat} (h : IB w g n p) {g' k : Nat} (v : Value) (hne : g ≠ g') : IB (w.setCell ⟨g', k, none⟩ v) g n p := ((set_keep w g' k v).block g hne).trans h
end
/-- Entries do not lie in a block that holds no string. -/
theorem ES.off {w w' : World} {A : Option Addr} {n : Nat} {es : List En} {g : Nat} (h : ES w A n es) (hq : ∀ o s, w.cell? ⟨g, o, none⟩ ≠ some (.string s)) (hk : Keep (· ≠ g) w w') : ES w' A n es := by
  refine ⟨h.1, fun hn => ?_⟩
  obtain ⟨b, o, e, hc⟩ := h.2 hn
  refine ⟨b, o, e, fun j hj i v hv => ?_⟩
  have hb : b ≠ g := by
    rintro rfl
    exact hq _ _ (hc j hj 3 _ rfl)
  exact (World.cell?_of_block (hk.block b hb)).trans (hc j hj i v hv)
theorem BB.nostr {w : World} {g n : Nat} {p : Nat → Bool} (h : BB w g n p) : ∀ o s, w.cell? ⟨g, o, none⟩ ≠ some (.string s) := by
  intro o s
  rw [cell_of_row _ _ _ _ _ _ h]
  by_cases hk : o < n
  · simp [bcs, hk]
  · simp [bcs, hk]
theorem IB.nostr {w : World} {g n : Nat} {p : Nat → Nat} (h : IB w g n p) : ∀ o s, w.cell? ⟨g, o, none⟩ ≠ some (.string s) := by
  intro o s
  rw [cell_of_row _ _ _ _ _ _ h]
  by_cases hk : o < n
  · simp [ics, hk]
  · simp [ics, hk]
/-- The letter at place g. -/
def nb (g : Nat) : UInt8 := UInt8.ofNat (97 + g)
theorem nb_int {g : Nat} (h : g < 100) : ((nb g).toNat : Int) = 97 + (g : Int) := by
  unfold nb
  rw [UInt8.toNat_ofNat']
  omega
theorem nb_inj {i j : Nat} (hi : i < 100) (hj : j < 100) (h : nb i = nb j) : i = j := by
  have h1 := nb_int hi
  have h2 := nb_int hj
  rw [h] at h1
  omega
theorem nb_ok {g : Nat} (h : g < 100) : nameOk [nb g] = true := by
  have h1 := nb_int h
  have e1 : nb g ≠ 46 := fun e => by rw [e] at h1; have : ((46 : UInt8).toNat : Int) = 46 := rfl; omega
  have e2 : nb g ≠ 0 := fun e => by rw [e] at h1; have : ((0 : UInt8).toNat : Int) = 0 := rfl; omega
  have e3 : nb g ≠ 47 := fun e => by rw [e] at h1; have : ((47 : UInt8).toNat : Int) = 47 := rfl; omega
  simp [nameOk, e1, e2, e3]
/-- An operation of a region that draws its order, taken first. -/
theorem takeH {P : Program} {md : Region.Mode} {ops : Array Oper} {S : World → Prop} {Q : Exit → Act → World → Prop} {i : Nat} {oi : Oper} (dst : Tmp) (v : Value) {fuel : Nat} {listed : Array Bool} {a : Act} {w : World} (hi : ops[i]? = some oi) (hd : oi.dst = some dst)
    (hs : Region.noSelect ops = true) (hf : Region.free md ops listed i = true) (hr : (Region.ready md ops listed).contains i = true) (hQ : ∀ c a w, Q (.panic c) (a.put (some dst) v) w → Q (.panic c) a w) (hy : YieldsIf P ops S oi v a) (hS : S w)
    (h : wpAnyH P md ops Q S fuel (listed.setIfInBounds i true) (a.put (some dst) v) w) : wpAnyH P md ops Q S (fuel + 1) listed a w := by
  rw [← hd] at hQ h
  exact wpAnyH_take hi hs hf hr hQ hy hS h
end Go.Proofs.Ytjgmboleiaehaaa

namespace Go.Proofs.Ytjgmboleiaehaaa
open Go.RowKit Go.Shelf

theorem built_F (c : Int) (i g : Int) (v : ByteArray) : Try.prog.built 92 [(0, .int .u64 c), (1, .agg #[.int .u32 i, .int .u32 g]), (2, .string v)] = some #[.int .u64 c, .int .u32 i, .int .u32 g, .string v] := by kernel_rfl

theorem zsize_F : (Try.prog.info? 92).map (fun i => (i.zero, i.size)) = some (some (.agg (ec ⟨0, 0, 0, []⟩).toArray), 4) := by kernel_rfl
theorem run_did_build {P : Program} {o : Oper} {a : Act} (t : TypeId) (parts : Array (Nat × Operand)) (ho : o.op = .build t parts) (cells : Array Value) (hf : P.built t (parts.map fun (i, x) => (i, a.eval x)).toList = some cells) (w : World) : (execOp a.eval o).run P w = .ok (.value (.agg cells)) w := by
  unfold execOp
  simp only [ho, Sem.run_bind, run_build w t _ cells hf, Result.andThen_ok]
  rfl
theorem step_wp {P : Program} {o : Oper} {a : Act} {w : World} {ops : Array Oper} {K : Act → World → Prop} {Q : Exit → Act → World → Prop} {E : Prop} (hg : o.guard = none) (h : o.wp P a w K Q) :
    if Region.wanted o (yielded ops a.tmps) = true then Oper.wp P o a w K Q else E := by
  have hw : Region.wanted o (yielded ops a.tmps) = true := by simp [Region.wanted, hg]
  rw [if_pos hw]
  exact h
/-- The cells of one entry. -/
structure E4 (b q : Nat) (e : En) (w : World) : Prop where
  c0 : w.cell? ⟨b, q, none⟩ = some (.int .u64 (e.ck : Int))
  c1 : w.cell? ⟨b, q + 1, none⟩ = some (.int .u32 (e.ino : Int))
  c2 : w.cell? ⟨b, q + 2, none⟩ = some (.int .u32 (e.gen : Int))
  c3 : w.cell? ⟨b, q + 3, none⟩ = some (.string (txt e.nm))
theorem E4.of {b q : Nat} {e : En} {w : World} (h : ∀ i v, (ec e)[i]? = some v → w.cell? ⟨b, q + i, none⟩ = some v) : E4 b q e w := ⟨h 0 _ rfl, h 1 _ rfl, h 2 _ rfl, h 3 _ rfl⟩
theorem E4.below {b q : Nat} {e : En} {w w' : World} (h : E4 b q e w) (hb : Below w.heap.size w w') : E4 b q e w' := by
  have hl : b < w.heap.size := World.block_lt_of_cell? w _ h.c0
  exact ⟨(hb.cell (p := ⟨b, _, none⟩) hl).trans h.c0, (hb.cell (p := ⟨b, _, none⟩) hl).trans h.c1, (hb.cell (p := ⟨b, _, none⟩) hl).trans h.c2, (hb.cell (p := ⟨b, _, none⟩) hl).trans h.c3⟩

end Go.Proofs.Ytjgmboleiaehaaa

namespace Go.Proofs.Ytjgmboleiaehaaa
open Go.RowKit Go.Shelf

theorem did_store_cell {P : Program} {o : Oper} {a : Act} {w : World} (ty : TypeId) (x y : Operand) (ho : o.op = .store ty x y) (g k : Nat) (v : Value) (hx : a.eval x = .pointer (some ⟨g, k, none⟩)) (hy : a.eval y = v)
    (t : TypeId) (cs : List Value) (hg : Bw w g cs t) (hi : (P.info? ty).map (·.size) = some 1) (hv : v.cells = #[v]) (hfit : k < cs.length) (h1 : v.oneCell' = true) : Did P o a w undef (w.setRow g (cs.take k ++ [v] ++ cs.drop (k + 1)).toArray) := by
  have hr := run_storeCells_at P g k t [v] 0 cs.toArray w hg (by simp; omega) (by simpa using h1)
  simp only [Nat.add_zero, List.length_singleton] at hr
  refine .inr ⟨?_, rfl⟩
  cases hq : P.info? ty with
  | none => simp [hq] at hi
  | some i =>
    have hs : 1 = i.size := by simp [hq] at hi; omega
    have hsv : (storeVar ty ⟨g, k, none⟩ v).run P w = .ok () (w.setRow g (cs.take k ++ [v] ++ cs.drop (k + 1)).toArray) := by
      simpa [storeVar, sizeOf, typeInfo, hq, hv, hs.symm] using hr
    unfold execOp
    simp only [ho, hx, hy, Instr.storeAt, Instr.sureAddr, Sem.run_bind, Sem.run_pure, Result.andThen_ok, hsv]
/-- While replyOf goes: the reply in block p, the result's block q, the variable's block g, k entries that were taken. -/
structure RO (w : World) (p q g : Nat) (r : Rp) (A : Option Addr) (n cp : Nat) (B : Option Addr) (m cq : Nat) (k : Nat) (E : Option Addr) (c : Nat) (W : World) : Prop where
  one : Bw W p (rc r (.slice A n cp) (.slice B m cq)) 41
  res : Bw W q (rc Rp.zero (.string (txt [])) (.slice none 0 0)) 50
  var : Bw W g (rc r (.string (txt r.dt)) (.slice E k c)) 50
  own : W.ownsRow w.heap.size 92 4 (.slice E k c) k (ecs (r.es.take k))
  bel : Below w.heap.size w W
  lq : w.heap.size ≤ q
  lg : w.heap.size ≤ g
  lp : w.heap.size ≤ p
  gq : g ≠ q
  gp : g ≠ p
theorem RO.below {w W W' : World} {p q g : Nat} {r : Rp} {A : Option Addr} {n cp : Nat} {B : Option Addr} {m cq k : Nat} {E : Option Addr} {c : Nat} (h : RO w p q g r A n cp B m cq k E c W) (hb : Below W.heap.size W W') : RO w p q g r A n cp B m cq k E c W' :=
  ⟨h.one.below hb, h.res.below hb, h.var.below hb, h.own.kept (below_grown hb) (Classical.em _), h.bel.trans (hb.mono h.bel.size), h.lq, h.lg, h.lp, h.gq, h.gp⟩

set_option maxRecDepth 100000 in
set_option maxHeartbeats 8000000 in
theorem replyOf_any (r : Rp) (A : Option Addr) (n cp : Nat) (B : Option Addr) (m cq : Nat) (w : World) (h : BS w A n r.dt) (hB : ES w B m r.es) (hm : m ≤ 10000000) :
    Calls Try.prog 12 #[.agg (rc r (.slice A n cp) (.slice B m cq)).toArray] w fun e w' => ∃ E ce, e = .returned (.agg (rc r (.string (txt r.dt)) (.slice E m ce)).toArray) ∧ ES w' E m r.es ∧ Below w.heap.size w w' := by
  obtain ⟨i0, hi0, hz0, hz1, hz2⟩ := info_parts info_F
  have HI0 := Lib.hid hi0
  have HZ0 := Lib.hid hz0
  have HZ1 := Lib.hid hz1
  have HZ2 := Lib.hid hz2
  have HX := Lib.hid h
  have HES := Lib.hid hB
  have HN : Hid (r.es.length = m) := hB.1
  clear h hB hi0 hz0 hz1 hz2
  go_enter Try.func12, Try.ntmps12
  go_upto_region 1 with (refine wpList_alloc_any rfl 50 rfl _ zero_R9 ?_; intro w1 hb1 hs1 hw1)
  have hb0 : Below w.heap.size w (w.alloc (.cells (rc r (.slice A n cp) (.slice B m cq)).toArray 41)) := (Below.refl _ w).alloc (Nat.le_refl _) _
  have hsz : (w.alloc (.cells (rc r (.slice A n cp) (.slice B m cq)).toArray 41)).heap.size = w.heap.size + 1 := by simp
  have HB : Hid (Bw w1 w.heap.size (rc r (.slice A n cp) (.slice B m cq)) 41) := (hw1.block _ (by omega)).trans (heap_alloc_new w _)
  have HW : Hid (Below w.heap.size w w1) := hb0.trans (hw1.mono (by omega))
  have HR : Hid (Bw w1 (w.heap.size + 1) (rc Rp.zero (.string (txt [])) (.slice none 0 0)) 50) := by rw [← hsz]; exact hb1
  have HS1 : Hid (w1.heap.size = w.heap.size + 2) := by show _ = _; omega
  rw [hsz]
  clear hb1 hs1 hw1 hb0 hsz
  have e0 := HB.out.cell 0 _ rfl
  have e1 := HB.out.cell 1 _ rfl
  have e2 := HB.out.cell 2 _ rfl
  have e5 := HB.out.cell 5 _ rfl
  have e6 := HB.out.cell 6 _ rfl
  have e7 := HB.out.cell 7 _ rfl
  have e8 := HB.out.cell 8 _ rfl
  have e9 := HB.out.cell 9 _ rfl
  have e10 := HB.out.cell 10 _ rfl
  have e12 := HB.out.cell 12 _ rfl
  have e13 := HB.out.cell 13 _ rfl
  have e14 := HB.out.cell 14 _ rfl
  have HBF : Hid (Try.prog.built 50 [(0, .int .u32 (r.cli : Int)), (1, .int .u32 (r.xid : Int)), (2, .int .i64 r.st), (3, .agg (hc r.ati r.atg).toArray), (4, .agg (ac r.kd r.md r.ln r.sz r.ch).toArray), (5, .string (txt r.dt)), (7, .bool r.eof), (8, .int .u64 (r.vf : Int)), (9, .int .u32 (r.fr : Int))] = some (rc r (.string (txt r.dt)) (.slice none 0 0)).toArray) := built_R9 _ _ _ _ _ _ _ _ _ _ _ _ _ _
  have HBA : Hid (Try.prog.built 47 [(0, .int .u32 (r.kd : Int)), (1, .int .u32 (r.md : Int)), (2, .int .u32 (r.ln : Int)), (3, .int .u32 (r.sz : Int)), (4, .int .u64 (r.ch : Int))] = some (ac r.kd r.md r.ln r.sz r.ch).toArray) := built_A9 _ _ _ _ _
  have HQ : Hid (w.heap.size + 1 = w.heap.size + 1) := rfl
  generalize hq : w.heap.size + 1 = q at *
  have HQQ := Lib.hid hq
  clear hq HQ
  go_upto_region 2 with (first
    | (refine wpList_load_part rfl 34 (.tmp 11) rfl w.heap.size 3 rfl _ Try.underlying34 rfl (hc r.ati r.atg) 41 _ HB.out size_H (hc_in rfl rfl) ?_)
    | (refine wpList_conv_bs rfl (.tmp 30) rfl A n cp r.dt rfl (HX.out.below HW.out) ?_
       iterate 18 go_step
       refine Did.list rfl (did_build 50 #[(0, .tmp 6), (1, .tmp 8), (2, .tmp 10), (3, .tmp 12), (4, .tmp 28), (5, .tmp 31), (7, .tmp 33), (8, .tmp 35), (9, .tmp 37)] rfl (rc r (.string (txt r.dt)) (.slice none 0 0)).toArray (by simp only [List.map_toArray, List.map_cons, List.map_nil]; exact HBF.out)) ?_
       refine wpList_alloc_any rfl 50 rfl _ zero_R9 ?_
       intro w2 hb2 hs2 hw2
       refine wpList_store_part rfl 50 (.tmp 3) (.tmp 38) rfl w1.heap.size 0 (rc r (.string (txt r.dt)) (.slice none 0 0)) rfl rfl 50 _ hb2 size_R9 (by simp [rc]) (rc_ones _ _ _ _ _) ?_
       intro w3 hb3 hs3 hk3))
  have H0 : Hid (RO w w.heap.size q w1.heap.size r A n cp B m cq 0 none 0 w3) := by
    have h1 := HS1.out
    have h2 := HQQ.out
    refine ⟨(HB.out.below hw2).keep hk3 (by omega), (HR.out.below hw2).keep hk3 (by omega), hb3, World.ownsRow_nil _ _ _ _, HW.out.trans ((hw2.mono HW.out.size).trans (hk3.below2 (fun j hj => by omega))), by omega, by omega, Nat.le_refl _, by omega, by omega⟩
  clear hb2 hs2 hw2 hb3 hs3 hk3 HB HW HR HS1 HQQ HBF HBA e0 e1 e2 e5 e6 e7 e8 e9 e10 e12 e13 e14
  generalize w1.heap.size = g at *
  generalize hpp : w.heap.size = p at H0 ⊢
  have HPP : Hid (w.heap.size = p) := hpp
  rw [← hpp] at H0
  clear hpp
  go_wp2_with fail
  go_loopw [4] (fun i wr => ∃ (k : Nat) (E : Option Addr) (c : Nat), k ≤ m ∧ i = .int .i64 k ∧ Hid (RO w p q g r A n cp B m cq k E c wr)) (fun i _ => m - (intOf i).toNat)
  case atStart => exact ⟨0, none, 0, by omega, rfl, by rw [← HPP.out]; exact H0.out⟩
  case round =>
    obtain ⟨k, E, c, hk, rfl, HR⟩ := hrel
    have e11 := HR.out.one.cell 11 _ rfl
    by_cases hlt : k < m
    · have hlt' : (k : Int) < (m : Int) := by omega
      obtain ⟨b, ob, rfl, hbl, hj, hc0⟩ := HES.out.at hlt
      have hc : ∀ i v, (ec r.es[k])[i]? = some v → wr.cell? ⟨b, ob + k * 4 + i, none⟩ = some v := fun i v hv => (HR.out.bel.cell (p := ⟨b, _, none⟩) hbl).trans (hc0 i v hv)
      have HT : Hid (r.es.take (k + 1) = r.es.take k ++ [r.es[k]]) := List.take_succ_eq_append_getElem hj
      generalize r.es[k] = e at *
      have HE0 : Hid (E4 b (ob + k * 4) e w) := E4.of hc0
      have HS4 : Hid ((fun W : World => E4 b (ob + k * 4) e W ∧ W.cell? ⟨p, 11, none⟩ = some (.slice (some ⟨b, ob, none⟩) m cq)) wr.drew) := (let h : E4 b (ob + k * 4) e wr := E4.of hc; ⟨⟨h.c0, h.c1, h.c2, h.c3⟩, e11⟩)
      have HRD : Hid (RO w p q g r A n cp (some ⟨b, ob, none⟩) m cq k E c wr.drew) := ⟨HR.out.one, HR.out.res, HR.out.var, HR.out.own, HR.out.bel.drew, HR.out.lq, HR.out.lg, HR.out.lp, HR.out.gq, HR.out.gp⟩
      clear hc hc0
      have HBF : Hid (Try.prog.built 92 [(0, .int .u64 (e.ck : Int)), (1, .agg #[.int .u32 (e.ino : Int), .int .u32 (e.gen : Int)]), (2, .string (txt e.nm))] = some (ec e).toArray) := built_F _ _ _ _
      have hecl := ec_length e
      go_upto_region 5 with fail
      clear e11 HR
      refine wp_region_held_drew (S := fun W : World => E4 b (ob + k * 4) e W ∧ W.cell? ⟨p, 11, none⟩ = some (.slice (some ⟨b, ob, none⟩) m cq)) (by kernel_rfl) HS4.out (fun _ => ?_)
      change wpAnyH _ _ _ _ _ 25 (Array.replicate 25 false) _ _
      refine takeH (i := 0) 46 (.pointer (some ⟨g, 11, none⟩)) rfl rfl (by kernel_rfl) (by kernel_rfl) (by kernel_rfl) (fun _ _ _ h => h) (.inl ⟨by rfl, fun W hW => by go_simp⟩) HS4.out ?_
      simp only [Act.put, List.setIfInBounds_toArray, List.set_cons_zero, List.set_cons_succ]
      refine takeH (i := 2) 48 (.pointer (some ⟨p, 11, none⟩)) rfl rfl (by kernel_rfl) (by kernel_rfl) (by kernel_rfl) (fun _ _ _ h => h) (.inl ⟨by rfl, fun W hW => by go_simp⟩) HS4.out ?_
      simp only [Act.put, List.setIfInBounds_toArray, List.set_cons_zero, List.set_cons_succ]
      refine takeH (i := 3) 49 (.slice (some ⟨b, ob, none⟩) m cq) rfl rfl (by kernel_rfl) (by kernel_rfl) (by kernel_rfl) (fun _ _ _ h => h) (.inl ⟨by rfl, fun W hW => by (obtain ⟨⟨k0, k1, k2, k3⟩, hp⟩ := hW; go_simp)⟩) HS4.out ?_
      simp only [Act.put, List.setIfInBounds_toArray, List.set_cons_zero, List.set_cons_succ]
      refine takeH (i := 4) 50 (.int .i64 (k : Int)) rfl rfl (by kernel_rfl) (by kernel_rfl) (by kernel_rfl) (fun _ _ _ h => h) (.inl ⟨by rfl, fun W hW => by go_simp⟩) HS4.out ?_
      simp only [Act.put, List.setIfInBounds_toArray, List.set_cons_zero, List.set_cons_succ]
      refine takeH (i := 5) 51 (.pointer (some ⟨b, ob + k * 4, none⟩)) rfl rfl (by kernel_rfl) (by kernel_rfl) (by kernel_rfl) (fun _ _ _ h => h) (.inl ⟨by rfl, fun W hW => by (obtain ⟨⟨k0, k1, k2, k3⟩, hp⟩ := hW; go_simp)⟩) HS4.out ?_
      simp only [Act.put, List.setIfInBounds_toArray, List.set_cons_zero, List.set_cons_succ]
      refine takeH (i := 6) 52 (.pointer (some ⟨b, ob + k * 4, none⟩)) rfl rfl (by kernel_rfl) (by kernel_rfl) (by kernel_rfl) (fun _ _ _ h => h) (.inl ⟨by rfl, fun W hW => by (obtain ⟨⟨k0, k1, k2, k3⟩, hp⟩ := hW; go_simp)⟩) HS4.out ?_
      simp only [Act.put, List.setIfInBounds_toArray, List.set_cons_zero, List.set_cons_succ]
      refine takeH (i := 7) 53 (.int .u64 (e.ck : Int)) rfl rfl (by kernel_rfl) (by kernel_rfl) (by kernel_rfl) (fun _ _ _ h => h) (.inl ⟨by rfl, fun W hW => by (obtain ⟨⟨k0, k1, k2, k3⟩, hp⟩ := hW; go_simp)⟩) HS4.out ?_
      simp only [Act.put, List.setIfInBounds_toArray, List.set_cons_zero, List.set_cons_succ]
      refine takeH (i := 8) 54 (.pointer (some ⟨p, 11, none⟩)) rfl rfl (by kernel_rfl) (by kernel_rfl) (by kernel_rfl) (fun _ _ _ h => h) (.inl ⟨by rfl, fun W hW => by go_simp⟩) HS4.out ?_
      simp only [Act.put, List.setIfInBounds_toArray, List.set_cons_zero, List.set_cons_succ]
      refine takeH (i := 9) 55 (.slice (some ⟨b, ob, none⟩) m cq) rfl rfl (by kernel_rfl) (by kernel_rfl) (by kernel_rfl) (fun _ _ _ h => h) (.inl ⟨by rfl, fun W hW => by (obtain ⟨⟨k0, k1, k2, k3⟩, hp⟩ := hW; go_simp)⟩) HS4.out ?_
      simp only [Act.put, List.setIfInBounds_toArray, List.set_cons_zero, List.set_cons_succ]
      refine takeH (i := 10) 56 (.int .i64 (k : Int)) rfl rfl (by kernel_rfl) (by kernel_rfl) (by kernel_rfl) (fun _ _ _ h => h) (.inl ⟨by rfl, fun W hW => by go_simp⟩) HS4.out ?_
      simp only [Act.put, List.setIfInBounds_toArray, List.set_cons_zero, List.set_cons_succ]
      refine takeH (i := 11) 57 (.pointer (some ⟨b, ob + k * 4, none⟩)) rfl rfl (by kernel_rfl) (by kernel_rfl) (by kernel_rfl) (fun _ _ _ h => h) (.inl ⟨by rfl, fun W hW => by (obtain ⟨⟨k0, k1, k2, k3⟩, hp⟩ := hW; go_simp)⟩) HS4.out ?_
      simp only [Act.put, List.setIfInBounds_toArray, List.set_cons_zero, List.set_cons_succ]
      refine takeH (i := 12) 58 (.pointer (some ⟨b, ob + k * 4 + 1, none⟩)) rfl rfl (by kernel_rfl) (by kernel_rfl) (by kernel_rfl) (fun _ _ _ h => h) (.inl ⟨by rfl, fun W hW => by (obtain ⟨⟨k0, k1, k2, k3⟩, hp⟩ := hW; go_simp)⟩) HS4.out ?_
      simp only [Act.put, List.setIfInBounds_toArray, List.set_cons_zero, List.set_cons_succ]
      refine takeH (i := 13) 59 (.agg #[.int .u32 (e.ino : Int), .int .u32 (e.gen : Int)]) rfl rfl (by kernel_rfl) (by kernel_rfl) (by kernel_rfl) (fun _ _ _ h => h) (.inl ⟨by rfl, fun W hW => by (obtain ⟨⟨k0, k1, k2, k3⟩, hp⟩ := hW; go_simp)⟩) HS4.out ?_
      simp only [Act.put, List.setIfInBounds_toArray, List.set_cons_zero, List.set_cons_succ]
      refine takeH (i := 14) 60 (.pointer (some ⟨p, 11, none⟩)) rfl rfl (by kernel_rfl) (by kernel_rfl) (by kernel_rfl) (fun _ _ _ h => h) (.inl ⟨by rfl, fun W hW => by go_simp⟩) HS4.out ?_
      simp only [Act.put, List.setIfInBounds_toArray, List.set_cons_zero, List.set_cons_succ]
      refine takeH (i := 15) 61 (.slice (some ⟨b, ob, none⟩) m cq) rfl rfl (by kernel_rfl) (by kernel_rfl) (by kernel_rfl) (fun _ _ _ h => h) (.inl ⟨by rfl, fun W hW => by (obtain ⟨⟨k0, k1, k2, k3⟩, hp⟩ := hW; go_simp)⟩) HS4.out ?_
      simp only [Act.put, List.setIfInBounds_toArray, List.set_cons_zero, List.set_cons_succ]
      refine takeH (i := 16) 62 (.int .i64 (k : Int)) rfl rfl (by kernel_rfl) (by kernel_rfl) (by kernel_rfl) (fun _ _ _ h => h) (.inl ⟨by rfl, fun W hW => by go_simp⟩) HS4.out ?_
      simp only [Act.put, List.setIfInBounds_toArray, List.set_cons_zero, List.set_cons_succ]
      refine takeH (i := 17) 63 (.pointer (some ⟨b, ob + k * 4, none⟩)) rfl rfl (by kernel_rfl) (by kernel_rfl) (by kernel_rfl) (fun _ _ _ h => h) (.inl ⟨by rfl, fun W hW => by (obtain ⟨⟨k0, k1, k2, k3⟩, hp⟩ := hW; go_simp)⟩) HS4.out ?_
      simp only [Act.put, List.setIfInBounds_toArray, List.set_cons_zero, List.set_cons_succ]
      refine takeH (i := 18) 64 (.pointer (some ⟨b, ob + k * 4 + 3, none⟩)) rfl rfl (by kernel_rfl) (by kernel_rfl) (by kernel_rfl) (fun _ _ _ h => h) (.inl ⟨by rfl, fun W hW => by (obtain ⟨⟨k0, k1, k2, k3⟩, hp⟩ := hW; go_simp)⟩) HS4.out ?_
      simp only [Act.put, List.setIfInBounds_toArray, List.set_cons_zero, List.set_cons_succ]
      refine takeH (i := 19) 65 (.string (txt e.nm)) rfl rfl (by kernel_rfl) (by kernel_rfl) (by kernel_rfl) (fun _ _ _ h => h) (.inl ⟨by rfl, fun W hW => by (obtain ⟨⟨k0, k1, k2, k3⟩, hp⟩ := hW; go_simp)⟩) HS4.out ?_
      simp only [Act.put, List.setIfInBounds_toArray, List.set_cons_zero, List.set_cons_succ]
      refine takeH (i := 20) 66 (.agg (ec e).toArray) rfl rfl (by kernel_rfl) (by kernel_rfl) (by kernel_rfl) (fun _ _ _ h => h) (.inl ⟨by rfl, fun W hW => by (exact run_did_build 92 #[(0, .tmp 53), (1, .tmp 59), (2, .tmp 65)] rfl (ec e).toArray (by simpa [Act.eval] using HBF.out) W)⟩) HS4.out ?_
      simp only [Act.put, List.setIfInBounds_toArray, List.set_cons_zero, List.set_cons_succ]
      refine wpAnyH_ready (rs := [1, 21]) (by kernel_rfl) (by simp) ?_
      refine AllReadyH.cons rfl (fun K hK => ?_) (AllReadyH.cons rfl (fun K hK => ?_) AllReadyH.nil)
      · refine Did.step rfl (did_load_one 48 (.tmp 46) rfl ⟨g, 11, none⟩ rfl (by kernel_rfl) (HRD.out.var.cell 11 _ rfl)) ?_
        refine hK.out _ _ HS4.out fun _ => ?_
        clear hK K
        simp only [Act.put, List.setIfInBounds_toArray]
        refine wpAnyH_ready (rs := [21]) (by kernel_rfl) (by simp) ?_
        refine AllReadyH.cons rfl (fun K hK => ?_) AllReadyH.nil
        refine Did.step rfl (did_buildSlice_one 48 92 (.tmp 66) rfl (ec e).toArray rfl Try.underlying48 _ zsize_F (by rw [ec_size]; omega) (by rw [ec_size]; omega)) ?_
        have HA4 : Hid (Below wr.drew.heap.size wr.drew (wr.drew.alloc (.cells (ec e).toArray 92))) := (Below.refl _ _).alloc (Nat.le_refl _) _
        have HS5 : Hid ((fun W : World => E4 b (ob + k * 4) e W ∧ W.cell? ⟨p, 11, none⟩ = some (.slice (some ⟨b, ob, none⟩) m cq)) (wr.drew.alloc (.cells (ec e).toArray 92))) := ⟨HS4.out.1.below HA4.out, (HA4.out.cell (p := ⟨p, 11, none⟩) HRD.out.one.lt).trans HS4.out.2⟩
        refine hK.out _ _ HS5.out fun _ => ?_
        clear hK K
        have HX5 : Hid (ES (wr.drew.alloc (.cells (ec e).toArray 92)) (some ⟨wr.drew.heap.size, 0, none⟩) 1 [e]) := (EB.new wr.drew _ e).es
        have HR5 := Lib.hid (HRD.out.below HA4.out)
        generalize wr.drew.alloc (.cells (ec e).toArray 92) = w5 at *
        generalize wr.drew.heap.size = g5 at *
        simp only [Act.put]
        refine wpAnyH_ready (rs := [22]) (by kernel_rfl) (by simp) ?_
        refine AllReadyH.cons rfl (fun K hK => ?_) AllReadyH.nil
        refine step_wp rfl (wp_append_es _ (.tmp 47) (.tmp 67) 48 rfl w.heap.size 92 i0 _ Try.underlying48 HI0.out HZ0.out HZ1.out HZ2.out rfl E k c (r.es.take k) rfl HR5.out.own (some ⟨g5, 0, none⟩) 1 1 [e] rfl HX5.out (by omega) HR5.out.bel.size ?_)
        intro E6 c6 w6 ho6 hg6 _
        have HB6 := Lib.hid (own_below HR5.out.bel HR5.out.own hg6)
        have HV6 : Hid (Bw w6 g (rc r (.string (txt r.dt)) (.slice E k c)) 50) := HR5.out.var.grown hg6 (own_type HR5.out.own HR5.out.var (by decide))
        have HQ6 : Hid (Bw w6 q (rc Rp.zero (.string (txt [])) (.slice none 0 0)) 50) := HR5.out.res.grown hg6 (own_type HR5.out.own HR5.out.res (by decide))
        have HP6 : Hid (Bw w6 p (rc r (.slice A n cp) (.slice (some ⟨b, ob, none⟩) m cq)) 41) := HR5.out.one.grown hg6 (own_type HR5.out.own HR5.out.one (by decide))
        have HO6 := Lib.hid ho6
        have HS6 : Hid ((fun W : World => E4 b (ob + k * 4) e W ∧ W.cell? ⟨p, 11, none⟩ = some (.slice (some ⟨b, ob, none⟩) m cq)) w6) := ⟨HE0.out.below HB6.out, HP6.out.cell 11 _ rfl⟩
        have HLG : Hid (w.heap.size ≤ q ∧ w.heap.size ≤ g ∧ w.heap.size ≤ p ∧ g ≠ q ∧ g ≠ p) := ⟨HR5.out.lq, HR5.out.lg, HR5.out.lp, HR5.out.gq, HR5.out.gp⟩
        clear ho6 hg6 HR5 HX5 HRD
        refine hK.out _ _ HS6.out fun _ => ?_
        clear hK K
        simp only [Act.put]
        refine takeH (i := 23) 69 (.pointer (some ⟨g, 11, none⟩)) rfl rfl (by kernel_rfl) (by kernel_rfl) (by kernel_rfl) (fun _ _ _ h => h) (.inl ⟨by rfl, fun W hW => by go_simp⟩) HS6.out ?_
        simp only [Act.put]
        refine wpAnyH_ready (rs := [24]) (by kernel_rfl) (by simp) ?_
        refine AllReadyH.cons rfl (fun K hK => ?_) AllReadyH.nil
        refine Did.step rfl (did_store_cell 48 (.tmp 69) (.tmp 68) rfl g 11 (.slice E6 (k + 1) c6) rfl rfl 50 _ HV6.out (by kernel_rfl) rfl (by simp [rc]) rfl) ?_
        obtain ⟨w7, hw7⟩ : ∃ W, w6.setRow g ((rc r (.string (txt r.dt)) (.slice E k c)).take 11 ++ [Value.slice E6 (k + 1) c6] ++ (rc r (.string (txt r.dt)) (.slice E k c)).drop 12).toArray = W := ⟨_, rfl⟩
        have hb7 : Bw w7 g (rc r (.string (txt r.dt)) (.slice E6 (k + 1) c6)) 50 := by rw [← hw7]; exact setRow_heap w6 g _ _ _ _ HV6.out
        have hk7 : Keep (· ≠ g) w6 w7 := by rw [← hw7]; exact setRow_keep g _
        rw [hw7]
        have HR7 : Hid (RO w p q g r A n cp (some ⟨b, ob, none⟩) m cq (k + 1) E6 c6 w7) := by
          have h1 := HLG.out
          refine ⟨HP6.out.keep hk7 (by omega), HQ6.out.keep hk7 (by omega), hb7, ?_, HB6.out.trans (hk7.below2 (fun j hj => by omega)), h1.1, h1.2.1, h1.2.2.1, h1.2.2.2.1, h1.2.2.2.2⟩
          rw [HT.out]
          exact HO6.out.kept (grown_keep hk7) (.inr (own_type HO6.out HV6.out (by decide)))
        have HS7 : Hid ((fun W : World => E4 b (ob + k * 4) e W ∧ W.cell? ⟨p, 11, none⟩ = some (.slice (some ⟨b, ob, none⟩) m cq)) w7) := ⟨HE0.out.below HR7.out.bel, HR7.out.one.cell 11 _ rfl⟩
        clear hb7 hk7 hw7
        refine hK.out _ _ HS7.out fun _ => ?_
        clear hK K
        refine wpAnyH_done (by kernel_rfl) ?_ _
        go_wp2_with fail
        go_roundw
        case rel => exact ⟨k + 1, E6, c6, by omega, by go_num, HR7⟩
        case measure => simp [intOf]; omega
      · refine Did.step rfl (did_buildSlice_one 48 92 (.tmp 66) rfl (ec e).toArray rfl Try.underlying48 _ zsize_F (by rw [ec_size]; omega) (by rw [ec_size]; omega)) ?_
        have HA4 : Hid (Below wr.drew.heap.size wr.drew (wr.drew.alloc (.cells (ec e).toArray 92))) := (Below.refl _ _).alloc (Nat.le_refl _) _
        have HS5 : Hid ((fun W : World => E4 b (ob + k * 4) e W ∧ W.cell? ⟨p, 11, none⟩ = some (.slice (some ⟨b, ob, none⟩) m cq)) (wr.drew.alloc (.cells (ec e).toArray 92))) := ⟨HS4.out.1.below HA4.out, (HA4.out.cell (p := ⟨p, 11, none⟩) HRD.out.one.lt).trans HS4.out.2⟩
        refine hK.out _ _ HS5.out fun _ => ?_
        clear hK K
        have HX5 : Hid (ES (wr.drew.alloc (.cells (ec e).toArray 92)) (some ⟨wr.drew.heap.size, 0, none⟩) 1 [e]) := (EB.new wr.drew _ e).es
        have HR5 := Lib.hid (HRD.out.below HA4.out)
        generalize wr.drew.alloc (.cells (ec e).toArray 92) = w5 at *
        generalize wr.drew.heap.size = g5 at *
        simp only [Act.put, List.setIfInBounds_toArray]
        refine wpAnyH_ready (rs := [1]) (by kernel_rfl) (by simp) ?_
        refine AllReadyH.cons rfl (fun K hK => ?_) AllReadyH.nil
        refine Did.step rfl (did_load_one 48 (.tmp 46) rfl ⟨g, 11, none⟩ rfl (by kernel_rfl) (HR5.out.var.cell 11 _ rfl)) ?_
        refine hK.out _ _ HS5.out fun _ => ?_
        clear hK K
        simp only [Act.put]
        refine wpAnyH_ready (rs := [22]) (by kernel_rfl) (by simp) ?_
        refine AllReadyH.cons rfl (fun K hK => ?_) AllReadyH.nil
        refine step_wp rfl (wp_append_es _ (.tmp 47) (.tmp 67) 48 rfl w.heap.size 92 i0 _ Try.underlying48 HI0.out HZ0.out HZ1.out HZ2.out rfl E k c (r.es.take k) rfl HR5.out.own (some ⟨g5, 0, none⟩) 1 1 [e] rfl HX5.out (by omega) HR5.out.bel.size ?_)
        intro E6 c6 w6 ho6 hg6 _
        have HB6 := Lib.hid (own_below HR5.out.bel HR5.out.own hg6)
        have HV6 : Hid (Bw w6 g (rc r (.string (txt r.dt)) (.slice E k c)) 50) := HR5.out.var.grown hg6 (own_type HR5.out.own HR5.out.var (by decide))
        have HQ6 : Hid (Bw w6 q (rc Rp.zero (.string (txt [])) (.slice none 0 0)) 50) := HR5.out.res.grown hg6 (own_type HR5.out.own HR5.out.res (by decide))
        have HP6 : Hid (Bw w6 p (rc r (.slice A n cp) (.slice (some ⟨b, ob, none⟩) m cq)) 41) := HR5.out.one.grown hg6 (own_type HR5.out.own HR5.out.one (by decide))
        have HO6 := Lib.hid ho6
        have HS6 : Hid ((fun W : World => E4 b (ob + k * 4) e W ∧ W.cell? ⟨p, 11, none⟩ = some (.slice (some ⟨b, ob, none⟩) m cq)) w6) := ⟨HE0.out.below HB6.out, HP6.out.cell 11 _ rfl⟩
        have HLG : Hid (w.heap.size ≤ q ∧ w.heap.size ≤ g ∧ w.heap.size ≤ p ∧ g ≠ q ∧ g ≠ p) := ⟨HR5.out.lq, HR5.out.lg, HR5.out.lp, HR5.out.gq, HR5.out.gp⟩
        clear ho6 hg6 HR5 HX5 HRD
        refine hK.out _ _ HS6.out fun _ => ?_
        clear hK K
        simp only [Act.put]
        refine takeH (i := 23) 69 (.pointer (some ⟨g, 11, none⟩)) rfl rfl (by kernel_rfl) (by kernel_rfl) (by kernel_rfl) (fun _ _ _ h => h) (.inl ⟨by rfl, fun W hW => by go_simp⟩) HS6.out ?_
        simp only [Act.put]
        refine wpAnyH_ready (rs := [24]) (by kernel_rfl) (by simp) ?_
        refine AllReadyH.cons rfl (fun K hK => ?_) AllReadyH.nil
        refine Did.step rfl (did_store_cell 48 (.tmp 69) (.tmp 68) rfl g 11 (.slice E6 (k + 1) c6) rfl rfl 50 _ HV6.out (by kernel_rfl) rfl (by simp [rc]) rfl) ?_
        obtain ⟨w7, hw7⟩ : ∃ W, w6.setRow g ((rc r (.string (txt r.dt)) (.slice E k c)).take 11 ++ [Value.slice E6 (k + 1) c6] ++ (rc r (.string (txt r.dt)) (.slice E k c)).drop 12).toArray = W := ⟨_, rfl⟩
        have hb7 : Bw w7 g (rc r (.string (txt r.dt)) (.slice E6 (k + 1) c6)) 50 := by rw [← hw7]; exact setRow_heap w6 g _ _ _ _ HV6.out
        have hk7 : Keep (· ≠ g) w6 w7 := by rw [← hw7]; exact setRow_keep g _
        rw [hw7]
        have HR7 : Hid (RO w p q g r A n cp (some ⟨b, ob, none⟩) m cq (k + 1) E6 c6 w7) := by
          have h1 := HLG.out
          refine ⟨HP6.out.keep hk7 (by omega), HQ6.out.keep hk7 (by omega), hb7, ?_, HB6.out.trans (hk7.below2 (fun j hj => by omega)), h1.1, h1.2.1, h1.2.2.1, h1.2.2.2.1, h1.2.2.2.2⟩
          rw [HT.out]
          exact HO6.out.kept (grown_keep hk7) (.inr (own_type HO6.out HV6.out (by decide)))
        have HS7 : Hid ((fun W : World => E4 b (ob + k * 4) e W ∧ W.cell? ⟨p, 11, none⟩ = some (.slice (some ⟨b, ob, none⟩) m cq)) w7) := ⟨HE0.out.below HR7.out.bel, HR7.out.one.cell 11 _ rfl⟩
        clear hb7 hk7 hw7
        refine hK.out _ _ HS7.out fun _ => ?_
        clear hK K
        refine wpAnyH_done (by kernel_rfl) ?_ _
        go_wp2_with fail
        go_roundw
        case rel => exact ⟨k + 1, E6, c6, by omega, by go_num, HR7⟩
        case measure => simp [intOf]; omega
    · obtain rfl : k = m := by omega
      go_wp2_with (first
        | (refine wpList_load_part rfl 50 (.tmp 3) rfl _ 0 rfl _ Try.underlying50 rfl (rc r (.string (txt r.dt)) (.slice E k c)) 50 _ HR.out.var size_R9 (fun j u hu => by rw [Nat.zero_add]; exact hu) ?_)
        | (refine wpList_store_part rfl 50 (.tmp 2) (.tmp 70) rfl q 0 (rc r (.string (txt r.dt)) (.slice E k c)) rfl rfl 50 _ HR.out.res size_R9 (by simp [rc]) (rc_ones _ _ _ _ _) ?_
           intro y hb _ hk2
           have HY := Lib.hid hb
           have HK := Lib.hid hk2
           clear hb hk2))
      exact bodyPost_ret (results_one rfl _ y q HY.out size_R9 (by rfl) Try.underlying50) rfl ⟨E, c, rfl, by
        have ho := HR.out.own.kept (grown_keep HK.out) (.inr (own_type HR.out.own HR.out.res (by decide)))
        have he := ES.of_own ho
        rwa [List.take_of_length_le (by rw [HN.out]; exact Nat.le_refl _)] at he, HR.out.bel.trans (HK.out.below2 (fun j hj => by have := HR.out.lq; omega))⟩
end Go.Proofs.Ytjgmboleiaehaaa
