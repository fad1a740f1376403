/-
  A region that draws its order, reads and calls quietly first, and then goes on in one order, inside the wide fence (also in a round). Nothing of the program is named here.
  The library's Chunk (layer 12): parts of 96 bytes.
  Contract of store's inner function (layer 12): one more block is taken, and filled.
  Contract of the document's example (layer 6): it holds, and leaves all memory that was there alone.
-/
import Derived.Test.YtnhokkdieijkhaaGreatDoorQ8
import Derived.RangeFuncNested
import Derived.RangeFuncBound
import Derived.RangeFuncCalls
import Derived.Shelf.RegionOpen
import Derived.OrdersHeld
import Derived.RangeFuncLeaves
import Derived.RangeFuncWrites
import Derived.OwnWalkIn
import Derived.TacticsInMore
import Derived.LoopNIn
import Derived.LoopIn
namespace Go.Proofs.YtnhokkdieijkhaaGreatDoor
open Go.RowKit

/-- A fence that lets all by. -/
structure WideF (P : Program) (F : Fence) : Prop where
  fn : ∀ f, F.fn f
  dep : F.depth = none
  call : ∀ {n : Nat} {f : FuncId} {args : Array Value} {w : World} {R : Ending → World → Prop}, Calls P f args w R → CallsIn F n P f args w R
  row : ∀ {n : Nat} {row : String} {args : Array Value} {w : World} {R : Value → World → Prop}, Rows P row args w R → RowsIn F n P row args w R
theorem wideF_wide (P : Program) : WideF P Fence.wide := ⟨fun _ => trivial, rfl, fun h => callsIn_wide.2 h, fun h c cs _ => let ⟨v, w', r, s⟩ := h c cs; ⟨v, w', r, stepsIn_wide.2 s⟩⟩
theorem wideF_round (P : Program) (l : Nat) : WideF P (Fence.wide.inRound l) := ⟨fun _ => trivial, rfl, fun h => CallsIn.inRound l (callsIn_wide.2 h), fun h c cs _ => let ⟨v, w', r, s⟩ := h c cs; ⟨v, w', r, stepsIn_wide.2 s⟩⟩

def noDefer : Op → Bool
  | .defer _ => false
  | _ => true

section
variable {F : Fence} {m : Nat} {P : Program} {md : Region.Mode} {ops : Array Oper} {w : World}
theorem WideF.still (hF : WideF P F) {o : Oper} {a : Act} {K : Act → Prop} {K' : Act → World → Prop} {Q : Exit → Act → World → Prop} (hp : noDefer o.op = true) (h : ∀ a, K a → K' a w) (hh : o.still P a w K) : o.wpIn F m P a w K' Q := by
  refine ⟨fun f _ => hF.fn f, ?_⟩
  have hd : ∀ c, o.op ≠ .defer c := fun c e => by rw [e] at hp; cases hp
  rw [Oper.semAt_eq _ _ _ hd]
  unfold Oper.still at hh
  cases hr : (execOp a.eval o).run P w with
  | ok x w' =>
    rw [hr] at hh
    cases x <;> simp only [Oper.stillUpon] at hh
    case value v =>
      obtain ⟨rfl, hk⟩ := hh
      exact h _ hk
    case skip =>
      obtain ⟨rfl, hk⟩ := hh
      exact h _ hk
    case enter f args =>
      obtain ⟨rfl, v, hc, hk⟩ := hh
      refine ⟨fun hs => (by rw [hF.dep] at hs; cases hs), hF.call (hc.mono ?_)⟩
      rintro e w'' ⟨rfl, rfl⟩
      exact h _ hk
  | halt x w' =>
    rw [hr] at hh
    exact hh.elim
theorem WideF.op (hF : WideF P F) {i : Nat} {a : Act} {K : Act → Prop} {K' : Act → World → Prop} {Q : Exit → Act → World → Prop} (hp : ∀ o, ops[i]? = some o → noDefer o.op = true) (h : ∀ a, K a → K' a w) (hh : stOp P ops w i K a) : wpOpIn F m P ops Q i K' a w := by
  unfold stOp at hh
  unfold wpOpIn
  split
  · rename_i ho; simp only [ho] at hh; exact h _ hh
  · rename_i o ho
    simp only [ho] at hh
    split
    · rename_i hw; simp only [hw, if_true] at hh; exact hF.still (hp o ho) h hh
    · rename_i hw; simp only [hw] at hh; exact ⟨fun f _ => hF.fn f, h _ hh⟩
theorem WideF.head (hF : WideF P F) {n g : Nat} {L : Array Bool → Act → Prop} {Q : Exit → Act → World → Prop} (hp : ∀ i o, i < n → ops[i]? = some o → noDefer o.op = true) (hL : ∀ listed a, L listed a → wpAnyIn F m P md ops Q g listed a w) :
    ∀ (f : Nat) (listed : Array Bool) (a : Act), wpAnyL P md ops w n L f listed a → wpAnyIn F m P md ops Q (f + g) listed a w
  | 0, listed, a, h => by rw [Nat.zero_add]; exact hL _ _ h
  | f + 1, listed, a, h => by
    rw [show f + 1 + g = (f + g) + 1 by omega]
    exact ⟨fun h0 => absurd h0 h.1, fun i hi => hF.op (fun o ho => hp i o (h.2 i hi).1 ho) (fun a' h' => hF.head hp hL f _ a' h') (h.2 i hi).2⟩
theorem wpAnyIn_of_seq {Q : Exit → Act → World → Prop} : ∀ (l : List Oper) (k : Nat) (listed : Array Bool) (a : Act) (w : World), (∀ j, l[j]? = ops[k + j]?) →
    Region.seqB md ops l.length k listed = true → wpListIn F m P ops Q l a w → wpAnyIn F m P md ops Q l.length listed a w
  | [], _, _, _, _, _, hB, h => ⟨by simpa [Region.seqB] using hB, h⟩
  | o :: l, k, listed, a, w, hl, hB, h => by
    have h0 : ops[k]? = some o := by simpa using (hl 0).symm
    simp only [List.length_cons, Region.seqB, Bool.and_eq_true, decide_eq_true_eq] at hB
    refine ⟨fun h1 => (by rw [hB.1] at h1; cases h1), fun i hi => ?_⟩
    rw [hB.1] at hi
    obtain rfl : i = k := by simpa using hi
    have ih : ∀ a' w', wpListIn F m P ops Q l a' w' → wpAnyIn F m P md ops Q l.length (listed.setIfInBounds i true) a' w' := fun a' w' h' => wpAnyIn_of_seq l (i + 1) (listed.setIfInBounds i true) a' w' (fun j => by have := hl (j + 1); simpa [Nat.add_assoc, Nat.add_comm 1 j] using this) hB.2 h'
    unfold wpOpIn
    simp only [h0]
    unfold wpListIn at h
    split
    · rename_i hw
      rw [if_pos hw] at h
      exact Oper.wpIn_mono ih h
    · rename_i hw
      rw [if_neg hw] at h
      exact ⟨h.1, ih _ _ h.2⟩
/-- The region: n operations that read or call quietly, then the others, in one order. -/
theorem WideF.region (hF : WideF P F) {id : Nat} {Q : Exit → Act → World → Prop} {a : Act} {l : List Oper} (n : Nat) (hm : P.follows .mixedOrders = true) (hB : Region.lexTailB .any l.toArray n = true) (hp : (l.take n).all (fun o => noDefer o.op) = true)
    (h : wpStill P l.toArray w.drew (fun a' => wpListIn F m P l.toArray Q (l.drop n) a' w.drew) (l.take n) a) : (Code.region id l.toArray true).wpIn F m P Q a w := by
  simp only [Region.lexTailB, Bool.and_eq_true, decide_eq_true_eq] at hB
  obtain ⟨⟨⟨⟨hsel, hn⟩, hs⟩, hc⟩, hlex⟩ := hB
  have hn' : n < l.length := by simpa using hn
  have htl : (l.take n).length = n := by simp; omega
  have hdl : (l.drop n).length = l.toArray.size - n := by simp
  have inv0 : HeadInv .any l.toArray n (Array.replicate l.toArray.size false) :=
    ⟨by simp, fun j oj _ hl => (by rw [getD_replicate_false] at hl; cases hl), fun t _ ht => getD_in (by simpa using ht) (getD_replicate_false _ _)⟩
  have H := wpAnyL_lex (md := .any) (g := l.toArray.size - n) hsel hs hc hn (l.take n) 0 _ a (fun j hj => by
    have hj' : j < n := by rw [htl] at hj; exact hj
    simp [hj']) (by simpa using htl) inv0 (by rw [htl]; exact hlex) h
  refine wpIn_region_any hm ?_
  have hp' : ∀ i o, i < n → l.toArray[i]? = some o → noDefer o.op = true := fun i o hi ho => by
    have hm : o ∈ l.take n := List.mem_of_getElem? (i := i) (by rw [List.getElem?_take]; simpa [hi] using ho)
    exact (List.all_eq_true.1 hp) o hm
  have := hF.head (m := m) (Q := Q) (g := l.toArray.size - n) hp' (fun listed a' hL => by
    have := wpAnyIn_of_seq (F := F) (m := m) (md := .any) (Q := Q) (l.drop n) n listed a' w.drew (fun j => by simp [List.getElem?_drop]) (by rw [hdl]; exact hL.1) hL.2
    rwa [hdl] at this) _ _ _ H
  rw [htl, show n + (l.toArray.size - n) = l.toArray.size by omega] at this
  exact this
/-- All that is asked is asked of the way that goes on. -/
def only (Q : Exit → Act → World → Prop) : Exit → Act → World → Prop
  | .normal, a, w => Q .normal a w
  | _, _, _ => False
theorem only_out {Q : Exit → Act → World → Prop} (h : LetsOut (only Q)) : False := by
  obtain ⟨a, w, h⟩ := h
  exact h
theorem WideF.plain (hF : WideF P F) {o : Oper} {a : Act} {K : Act → World → Prop} {Q : Exit → Act → World → Prop} (hp : noDefer o.op = true) (hh : o.wp P a w K (only Q)) : o.wpIn F m P a w K Q := by
  refine ⟨fun f _ => hF.fn f, ?_⟩
  have hd : ∀ c, o.op ≠ .defer c := fun c e => by rw [e] at hp; cases hp
  rw [Oper.semAt_eq _ _ _ hd]
  unfold Oper.wp at hh
  cases hr : (execOp a.eval o).run P w with
  | ok x w' =>
    rw [hr] at hh
    cases x <;> simp only [Oper.upon] at hh
    case value v => exact hh
    case skip => exact hh
    case defer d => exact hh
    case enter f args =>
      refine ⟨fun hs => (by rw [hF.dep] at hs; cases hs), hF.call (hh.mono ?_)⟩
      intro e w'' he
      cases e with
      | returned v => exact he
      | panicked c => exact he.elim
      | outgrown => exact (only_out he).elim
    case row row args => exact ⟨fun hs => (by rw [hF.dep] at hs; cases hs), hF.row hh⟩
  | halt x w' =>
    rw [hr] at hh
    cases x <;> simp only [Oper.upon] at hh
    case panic v => exact hh.elim
theorem WideF.opP (hF : WideF P F) {i : Nat} {a : Act} {K : Act → World → Prop} {Q : Exit → Act → World → Prop} (hp : ∀ o, ops[i]? = some o → noDefer o.op = true) (hh : wpOp P ops (only Q) i K a w) : wpOpIn F m P ops Q i K a w := by
  unfold wpOp at hh
  unfold wpOpIn
  split
  · rename_i ho; simp only [ho] at hh; exact hh
  · rename_i o ho
    simp only [ho] at hh
    split
    · rename_i hw
      simp only [hw, if_true] at hh
      rcases hh with hh | ⟨_, hh⟩
      · exact hF.plain (hp o ho) hh
      · exact (only_out hh).elim
    · rename_i hw; simp only [hw] at hh; exact ⟨fun f _ => hF.fn f, hh⟩
theorem WideF.any (hF : WideF P F) {Q : Exit → Act → World → Prop} (hp : ∀ (i : Nat) (o : Oper), ops[i]? = some o → noDefer o.op = true) :
    ∀ (fuel : Nat) (listed : Array Bool) (a : Act) (w : World), wpAny P md ops (only Q) fuel listed a w → wpAnyIn F m P md ops Q fuel listed a w
  | 0, _, _, _, h => h
  | f + 1, _, _, _, h => ⟨h.1, fun i hi => hF.opP (fun o ho => hp i o ho) (wpOp_mono (fun a' w' h' => hF.any hp f _ a' w' h') (h.2 i hi))⟩
/-- The region, by the laws for regions outside of fences. -/
theorem WideF.regionH (hF : WideF P F) {id : Nat} {S : World → Prop} {Q : Exit → Act → World → Prop} {a : Act} {l : List Oper} (hm : P.follows .mixedOrders = true) (hp : l.all (fun o => noDefer o.op) = true)
    (h : wpAnyH P .any l.toArray (only Q) S l.length (Array.replicate l.length false) a w.drew) : (Code.region id l.toArray true).wpIn F m P Q a w := by
  refine wpIn_region_any hm (hF.any (fun i o ho => (List.all_eq_true.1 hp) o (List.mem_of_getElem? (i := i) (by simpa using ho))) _ _ _ _ (wpAny_of_held (S := S) _ _ _ _ ?_))
  rw [List.size_toArray]
  exact h
theorem wpAnyH_takeTo {S : World → Prop} {Q : Exit → Act → World → Prop} {i : Nat} {oi : Oper} (dst : Tmp) (v : Value) {fuel : Nat} {listed : Array Bool} {a : Act} (hi : ops[i]? = some oi) (hd : oi.dst = some dst)
    (hs : Region.noSelect ops = true) (hf : Region.free md ops listed i = true) (hr : (Region.ready md ops listed).contains i = true)
    (hw : Region.wanted oi (yielded ops a.tmps) = true) (hy : ∀ w, S w → (execOp a.eval oi).run P w = .ok (.value v) w) (hS : S w)
    (h : wpAnyH P md ops (only Q) S fuel (listed.setIfInBounds i true) (a.put (some dst) v) w) : wpAnyH P md ops (only Q) S (fuel + 1) listed a w := by
  refine wpAnyH_take hi hs hf hr (fun c a w h => h) (.inl ⟨hw, hy⟩) hS ?_
  rw [hd]
  exact h
end
end Go.Proofs.YtnhokkdieijkhaaGreatDoor

namespace Go.Proofs.YtnhokkdieijkhaaGreatDoor
open Go.RowKit Go.Shelf
attribute [local go_sem] Oper.semAt_some

/-- The j-th part of a slice of n bytes. -/
def pv (A : Option Addr) (n j : Nat) : Value := .slice (A.map (·.add (96 * j))) (min 96 (n - 96 * j)) (min 96 (n - 96 * j))
set_option maxHeartbeats 400000 in
theorem chunk_any (A : Option Addr) (m c : Nat) (w : World) :
    Calls Tryz.prog 93 #[.slice A m c, .int .i64 96] w fun e w' =>
      e = .returned (.func (.func 108) #[] #[.pointer (some ⟨w.heap.size, 0, none⟩), .pointer (some ⟨w.heap.size + 1, 0, none⟩)]) ∧ w' = (w.alloc (.cells #[.slice A m c] 30)).alloc (.cells #[.int .i64 96] 3) := by
  go_enter Tryz.func93, Tryz.ntmps93
  go_wp2
  go_ret
  exact ⟨rfl, rfl⟩

set_option maxRecDepth 100000 in
set_option maxHeartbeats 2000000 in
theorem chunk1_in (n : Nat) (hn : 1 ≤ n) (l Bs Bn : Nat) (A : Option Addr) (m c : Nat) (hA : 0 < m → ∃ b o, A = some ⟨b, o, none⟩) (hc : m ≤ c) (K : Nat → Prop) (J Jx : List Nat → World → Prop)
    (hY : ∀ pre (x : Nat) W, J pre W → pre.length < need m → YieldAt Fence.wide (n - 1) Tryz.prog l #[pv A m x] W fun e W' =>
      (e = .returned (.bool true) ∧ J (pre ++ [x]) W' ∧ Keep K W W') ∨ (e = .returned (.bool false) ∧ Jx (pre ++ [x]) W'))
    (W : World) (hJ : AbidesFrom W.heap.size J) (hBs : W.cell? ⟨Bs, 0, none⟩ = some (.slice A m c)) (hBn : W.cell? ⟨Bn, 0, none⟩ = some (.int .i64 96)) (hKs : K Bs) (hKn : K Bn) (hm : m ≤ 1000000) (h0 : J [] W) :
    CallsIn Fence.wide n Tryz.prog 108 #[.func (.yield l) #[] #[], .pointer (some ⟨Bs, 0, none⟩), .pointer (some ⟨Bn, 0, none⟩)] W fun e W' => (∃ v, e = .returned v) ∧
      ((∃ ys, ys = List.range (need m) ∧ J ys W') ∨ (∃ pre, (∃ r, List.range (need m) = pre ++ r) ∧ Jx pre W')) := by
  have HBs := Lib.hid hBs
  have HBn := Lib.hid hBn
  have HJD : Hid (∀ pre V d, J pre V → J pre (V.drewN d)) := fun pre V d h => hJ pre V _ none h (grownBy_drewN V d) (fun r e => by cases e)
  clear hBs hBn hJ
  refine callsIn_of_wp Tryz.func108 rfl trivial ?_ rfl
  simp only [Tryz.ntmps108, List.size_toArray, List.length_cons, List.length_nil, Nat.reduceAdd, Nat.reduceSub, Array.replicate_succ, Array.replicate_zero, List.push_toArray, List.append_toArray, List.nil_append, List.cons_append]
  gi_wp2
  gi_loopw [4] (fun i wr => ∃ k : Nat, k ≤ need m ∧ i = .int .i64 ((96 * k : Nat) : Int) ∧ J (List.range k) wr ∧ Hid (Keep K W wr)) (fun i _ => 96 * need m - (intOf i).toNat)
  case atStart => exact ⟨0, Nat.zero_le _, rfl, h0, Keep.refl _ _⟩
  case round =>
    obtain ⟨k, hk, rfl, hJs, HK⟩ := hrel
    obtain ⟨i, hi⟩ : ∃ i, 96 * k = i := ⟨_, rfl⟩
    rw [hi]
    have HI := Lib.hid hi
    have hbs : wr.cell? ⟨Bs, 0, none⟩ = some (.slice A m c) := (World.cell?_of_block (a := ⟨Bs, 0, none⟩) (HK.out.block Bs hKs)).trans HBs.out
    have hbn : wr.cell? ⟨Bn, 0, none⟩ = some (.int .i64 96) := (World.cell?_of_block (a := ⟨Bn, 0, none⟩) (HK.out.block Bn hKn)).trans HBn.out
    have HJs := Lib.hid hJs
    have HY := Lib.hid hY
    clear hJs hY h0
    by_cases hlt : k < need m
    · have hkm : i < m := by unfold need at hlt; omega
      obtain ⟨b, o, rfl⟩ := hA (by omega)
      have hle : i ≤ m := by omega
      have hne : ¬ c = i := by omega
      have hd : decide ((i : Int) < (m : Int)) = true := by simp; omega
      clear hi
      gi_wp2
      with_reducible refine (wideF_wide _).region 6 (by kernel_rfl) (by kernel_rfl) (by kernel_rfl) ?_
      simp only [List.take_succ_cons, List.take_zero, List.drop_succ_cons, List.drop_zero]
      iterate 6 still_step
      refine wpStill_nil ?_
      change wpListIn _ _ _ _ _ _ _ (World.drew _)
      have hE : pv (some ⟨b, o, none⟩) m k = .slice (some ⟨b, o + i, none⟩) (((i : Int) + min 96 ((m - i : Nat) : Int)).toNat - i) (((i : Int) + min 96 ((m - i : Nat) : Int)).toNat - i) := by
        have e1 : min 96 (m - 96 * k) = ((i : Int) + min 96 ((m - i : Nat) : Int)).toNat - i := by rw [HI.out]; omega
        unfold pv
        rw [e1, HI.out]
        simp only [Option.map_some, add_plain]
      obtain ⟨fn, tmps, assign, body, hy, hR⟩ := HY.out _ k wr.drew (HJD.out _ _ 1 HJs.out) (by simpa using hlt)
      rw [hE] at hy
      have HR := Lib.hid hR
      have HRS : Hid (List.range k ++ [k] = List.range (k + 1)) := List.range_succ.symm
      have HNM : Hid (k + 1 ≤ need m) := hlt
      have HKD : Hid (Keep K W wr.drew) := HK.out.drew
      clear hR hE HY HJs hlt
      gi_wp2
      refine HR.out.mono ?_
      rintro e W3 (⟨rfl, hJ3, hk3⟩ | ⟨rfl, hJx3⟩)
      · have hbn3 : W3.cell? ⟨Bn, 0, none⟩ = some (.int .i64 96) := (World.cell?_of_block (a := ⟨Bn, 0, none⟩) ((HKD.out.trans hk3).block Bn hKn)).trans HBn.out
        have hi9 := HI.out
        have hn9 := HNM.out
        gi_wp2
        refine ⟨⟨k + 1, hn9, by congr 1; omega, by rw [← HRS.out]; exact hJ3, HKD.out.trans hk3⟩, ?_⟩
        simp only [intOf]
        omega
      · gi_wp2
        refine bodyPost_ret (results_none rfl _ _ _) rfl ?_
        refine ⟨⟨_, rfl⟩, .inr ⟨_, ⟨(List.range' (k + 1) (need m - (k + 1))), ?_⟩, hJx3⟩⟩
        rw [HRS.out, List.range_eq_range', List.range_eq_range', show List.range' 0 (need m) = List.range' 0 (k + 1 + (need m - (k + 1))) from (by have := HNM.out; congr 1; omega), ← List.range'_append_1, Nat.zero_add]
    · obtain rfl : k = need m := by omega
      have hkm : ¬ i < m := by unfold need at hi; omega
      have hd : decide ((i : Int) < (m : Int)) = false := by simp; omega
      clear hi
      gi_wp2
      go_end0
      exact ⟨⟨_, rfl⟩, .inl ⟨_, rfl, HJs.out⟩⟩
theorem chunk_stops (n : Nat) (hn : 1 ≤ n) (Bs Bn : Nat) (A : Option Addr) (m c : Nat) (hA : 0 < m → ∃ b o, A = some ⟨b, o, none⟩) (hc : m ≤ c) (K : Nat → Prop) (w : World)
    (hBs : w.cell? ⟨Bs, 0, none⟩ = some (.slice A m c)) (hBn : w.cell? ⟨Bn, 0, none⟩ = some (.int .i64 96)) (hKs : K Bs) (hKn : K Bn) (hm : m ≤ 1000000) (hbs : Bs < w.heap.size) (hbn : Bn < w.heap.size) :
    SeqStopsK Fence.wide n Tryz.prog 108 #[.pointer (some ⟨Bs, 0, none⟩), .pointer (some ⟨Bn, 0, none⟩)] (fun x : Nat => #[pv A m x]) (Keep K) (fun ys => ys = List.range (need m)) (fun pre => ∃ r, List.range (need m) = pre ++ r) (need m) w := fun l J Jx W hW hJ _ hY h0 =>
  chunk1_in n hn l Bs Bn A m c hA hc K J Jx hY W hJ ((hW.cell (p := ⟨Bs, 0, none⟩) hbs).trans hBs) ((hW.cell (p := ⟨Bn, 0, none⟩) hbn).trans hBn) hKs hKn hm h0
end Go.Proofs.YtnhokkdieijkhaaGreatDoor

namespace Go.Proofs.YtnhokkdieijkhaaGreatDoor
open Go.RowKit

theorem Vl.tak_snoc (T : List UInt8) (l : List Nat) (b : Nat) : Vl.tak T (l ++ [b]) = Bt.wit (Vl.tak T l) b true := by simp [Vl.tak]
/-- Parts laid on blocks. -/
def Vl.putP (l : List (Nat × List UInt8)) (B : Nat → List UInt8) : Nat → List UInt8 := l.foldl (fun B a => Vl.upd B (35 + a.1) a.2) B
theorem Vl.putP_snoc (l : List Nat) (ps : List (List UInt8)) (h : l.length = ps.length) (b : Nat) (q : List UInt8) (B : Nat → List UInt8) : Vl.putP ((l ++ [b]).zip (ps ++ [q])) B = Vl.upd (Vl.putP (l.zip ps) B) (35 + b) q := by
  simp [Vl.putP, List.zip_append h]
theorem Vl.putP_range (s : List UInt8) : ∀ (l : List Nat) (k : Nat) (B : Nat → List UInt8), Vl.putP (l.zip ((List.range' k l.length).map (Vl.part s))) B = Vl.putD s l k B
  | [], k, B => by simp [Vl.putP, Vl.putD]
  | a :: r, k, B => by
    have := Vl.putP_range s r (k + 1) (Vl.upd B (35 + a) (Vl.part s k))
    simpa [Vl.putP, Vl.putD, List.range'_succ] using this
theorem Vl.tak_len : ∀ (l : List Nat) (T : List UInt8), (∀ b ∈ l, b < 768) → T.length ≤ 96 → (Vl.tak T l).length ≤ 96
  | [], _, _, h => h
  | b :: r, T, hb, h => Vl.tak_len r (Bt.wit T b true) (fun c hc => hb c (List.mem_cons_of_mem _ hc)) (by
      have := Bt.wit_length T b true
      have := hb b List.mem_cons_self
      omega)
theorem BS.grown {w w' : World} {A : Option Addr} {n : Nat} {l : List UInt8} {row : Option Nat} (h : BS w A n l) (hg : w.grownBy w' row) (hr : 0 < n → ∀ ad, A = some ad → row ≠ some ad.block) : BS w' A n l :=
  ⟨h.1, fun hn => by
    obtain ⟨b, o, e, hc⟩ := h.2 hn
    exact ⟨b, o, e, fun j hj => (World.cell?_of_block (hg.block b (World.block_lt_of_cell? w _ (hc j hj)) (fun e' => hr hn _ e e'.symm))).trans (hc j hj)⟩⟩
theorem Tq.grown {w w' : World} {p m : Nat} {x : Sl} {S : Nat → Prop} {X : TX} {row : Option Nat} (h : Tq w p m x S X) (hg : w.grownBy w' row) (hr : ∀ k, S k → row ≠ some k) : Tq w' p m x S X :=
  h.keep fun k hs hk => hg.block k hk (fun e => hr k hs e.symm)
theorem Tq.within {w : World} {p m : Nat} {x : Sl} {S T : Nat → Prop} {X : TX} (h : Tq w p m x S X) (hS : ∀ k, S k → k < w.heap.size → T k) : Tq w p m x T X := h.tight.mono fun k hk => hS k hk.1 hk.2
theorem Ch.grownBy {w w' : World} {m : Nat} (h : Ch (· = m) w w') : w.grownBy w' (some m) := ⟨h.1.os, h.1.tape, h.1.output, h.1.size, fun k hk hne => h.1.block k ⟨hk, fun e => hne (by rw [e])⟩⟩
theorem nic_no8 {w : World} {g : Nat} {x : Nd} {A : Option Addr} {n c : Nat} {t : TypeId} (h : Bw w g (nic x (.slice A n c)) t) : ∀ o z, w.cell? ⟨g, o, none⟩ ≠ some (.int .u8 z) := by
  intro o z e
  rw [cell_of_row _ _ _ _ _ _ h] at e
  match o with
  | 0 | 1 | 2 | 3 | 4 | 5 | 6 | 7 | 8 => simp [nic] at e
  | k + 9 => simp [nic] at e
theorem box_no8 {w : World} {g : Nat} {A : Option Addr} {n c : Nat} {t : TypeId} (h : Bw w g [.slice A n c] t) : ∀ o z, w.cell? ⟨g, o, none⟩ ≠ some (.int .u8 z) := by
  intro o z e
  rw [cell_of_row _ _ _ _ _ _ h] at e
  match o with
  | 0 => simp at e
  | n + 1 => simp at e
theorem infos_u32 : (Tryz.prog.info? 28).map (fun i => (i.zero, i.size, i.bytes)) = some (some (.int .u32 0), 1, 4) := by kernel_rfl

/-- A transaction's blocks hold cells, its map apart. -/
theorem Tq.nocells {w : World} {p m : Nat} {x : Sl} {S : Nat → Prop} {X : TX} (h : Tq w p m x S X) {r : Nat} (hr : ∃ o : Obj, w.heap[r]? = some o ∧ o.isCells = false) (hm : m ≠ r) : Tq w p m x (fun k => S k ∧ k ≠ r) X := by
  obtain ⟨ob, ho, hc⟩ := hr
  have hne : ∀ (g : Nat) (cs : Array Value) (t : TypeId) (f : Nat × Nat), w.heap[g]? = some (.cells cs t f) → g ≠ r := by
    rintro g cs t f hg rfl
    rw [ho] at hg
    cases hg
    simp [Obj.isCells] at hc
  have hb : ∀ (y : Sl) (l : List UInt8), BC w S y l → BC w (fun k => S k ∧ k ≠ r) y l := fun y l hy => ⟨hy.bs, hy.few, hy.cap, fun hn ad e => ⟨hy.own hn ad e, fun e' => by
    obtain ⟨b, o, e1, hcell⟩ := hy.bs.2 hn
    have hl := hy.bs.1
    rw [e] at e1
    cases e1
    obtain ⟨o2, h2, h3⟩ := cells_of_cell (hcell 0 (by omega))
    rw [show (b : Nat) = r from e', ho] at h2
    cases h2
    rw [hc] at h3
    cases h3⟩⟩
  obtain ⟨h1, h2, g, rl, h3, h4, h5, h6, h7⟩ := h.rows
  exact ⟨h.cells, ⟨h1, h2, g, rl, h3, ⟨h4, hne _ _ _ _ h6⟩, h5, h6, fun i hi => hb _ _ (h7 i hi)⟩, h.puts.imp rfl hb, ⟨h.sp, hne _ _ _ _ h.cells⟩, ⟨h.sm, hm⟩⟩
theorem KF.trans {B : Nat} {w w1 w2 : World} (h : KeepsFrom B w w1) (h' : KeepsFrom B w1 w2) : KeepsFrom B w w2 := ⟨Nat.le_trans h.1 h'.1, fun k o hB hk ho => h'.2 k o hB (h.2 k o hB hk ho) ho⟩
theorem KF.below {B : Nat} {w w1 : World} (h : Below w.heap.size w w1) : KeepsFrom B w w1 := ⟨h.size, fun k _ _ hk _ => (h.block k (Array.getElem?_eq_some_iff.1 hk).1).trans hk⟩
theorem KF.row {B : Nat} {w w1 : World} {v : Value} (h : w.grownBy w1 v.ownBlock) {base k n : Nat} {e : TypeId} {xs : List Value} (ho : w.ownsRow base e k v n xs) : KeepsFrom B w w1 :=
  ⟨h.size, fun j o _ hj hc => (h.block j (Array.getElem?_eq_some_iff.1 hj).1 (fun e' => by
    rcases ho.2 with ⟨rfl, _⟩ | ⟨g, cap, cur, rfl, _, hg, _⟩
    · cases e'
    · simp only [Value.ownBlock, Option.some.injEq] at e'
      subst e'
      rw [hj] at hg
      cases hg
      simp [Obj.isCells] at hc)).trans hj⟩
theorem KF.set {B : Nat} {w : World} (a : Addr) (v : Value) (h : a.block < B) : KeepsFrom B w (w.setCell a v) := ⟨by simp [World.setCell], fun k _ hB hk _ => (Below.heap_setCell _ _ _ _ (by omega)).trans hk⟩
theorem KF.ch {B : Nat} {w w1 : World} {m : Nat} (h : Ch (· = m) w w1) (hm : m < B) : KeepsFrom B w w1 := ⟨h.size, fun k _ hB hk _ => (h.1.block k ⟨(Array.getElem?_eq_some_iff.1 hk).1, by omega⟩).trans hk⟩

/-- While the parts of a thing are laid on the blocks dr, k of them are: W0 is where that began. -/
structure SI (w W0 : World) (gN p m : Nat) (x : Sl) (S : Nat → Prop) (X : TX) (T : List UInt8) (s : Vl.Th) (dr : List Nat) (k : Nat) (ps : List (List UInt8)) (W : World) : Prop where
  ch : Ch (· = m) w W
  keep : Keep (fun j => j < W0.heap.size ∧ j ≠ m ∧ j ≠ w.heap.size + 1 ∧ j ≠ gN) W0 W
  bt : Bw W w.heap.size [.pointer (some ⟨p, 0, none⟩)] 24
  row : ∃ A c, Bw W gN (nic (Vl.nd s (dr.take k)) (.slice A k c)) 85 ∧ W.ownsRow W0.heap.size 28 1 (.slice A k c) k (c32 (dr.take k)) ∧
    (∃ AT nT cT, Bw W (w.heap.size + 1) [.slice AT nT cT] 30 ∧ BS W AT nT (Vl.tak T (dr.take k)) ∧ (0 < nT → ∀ ad, AT = some ad → (Value.slice A k c).ownBlock ≠ some ad.block)) ∧
    ∃ Y, Tq W p m x (fun j => S j ∧ j ≠ w.heap.size + 1 ∧ j ≠ gN ∧ (Value.slice A k c).ownBlock ≠ some j) Y ∧ Y.l = X.l ∧ Y.get = Vl.putP ((dr.take k).zip ps) X.get
  pl : ps.length = k
  lg : w.heap.size + 1 < gN
  lN : gN < W0.heap.size
/-- The same, without the bytes of the bits: the row of numbers is (g, k, c). -/
structure MI (w W0 : World) (gN p m : Nat) (x : Sl) (S : Nat → Prop) (nd : Nd) (g : Option Addr) (c k : Nat) (rs : List Nat) (Y : TX) (W : World) : Prop where
  ch : Ch (· = m) w W
  keep : Keep (fun j => j < W0.heap.size ∧ j ≠ m ∧ j ≠ w.heap.size + 1 ∧ j ≠ gN) W0 W
  bt : Bw W w.heap.size [.pointer (some ⟨p, 0, none⟩)] 24
  bn : Bw W gN (nic nd (.slice g k c)) 85
  row : W.ownsRow W0.heap.size 28 1 (.slice g k c) k (c32 rs)
  bk : ∃ a n d, Bw W (w.heap.size + 1) [.slice a n d] 30
  tq : Tq W p m x (fun j => S j ∧ j ≠ w.heap.size + 1 ∧ j ≠ gN ∧ (Value.slice g k c).ownBlock ≠ some j) Y
section
variable {w W0 W W' : World} {gN p m c k : Nat} {x : Sl} {S : Nat → Prop} {nd : Nd} {g : Option Addr} {rs : List Nat} {Y Y' : TX}
theorem MI.below (h : MI w W0 gN p m x S nd g c k rs Y W) (hb : Below W.heap.size W W') : MI w W0 gN p m x S nd g c k rs Y W' := by
  obtain ⟨a, n, d, h3⟩ := h.bk
  have hs := h.keep.size
  exact ⟨h.ch.step hb, h.keep.trans ((Keep.of_below hb).mono fun j hj => by omega), h.bt.below hb, h.bn.below hb, own_beneath h.row hb, ⟨a, n, d, h3.below hb⟩, h.tq.below hb⟩
theorem MI.box (h : MI w W0 gN p m x S nd g c k rs Y W) (hq : w.heap.size + 1 < gN) (a : Option Addr) (n d : Nat) : MI w W0 gN p m x S nd g c k rs Y (W.setCell ⟨w.heap.size + 1, 0, none⟩ (.slice a n d)) := by
  obtain ⟨a', n', d', h3⟩ := h.bk
  have hfr : Fr (· = w.heap.size + 1) W (W.setCell ⟨w.heap.size + 1, 0, none⟩ (.slice a n d)) := (Fr.refl (· = w.heap.size + 1) W).setCell (p := ⟨w.heap.size + 1, 0, none⟩) (fun h' => h'.2 rfl) _
  exact ⟨⟨h.ch.1.trans hfr (fun j hj => .inr (by rw [hj]; omega)), h.ch.2⟩, h.keep.setCell (p := ⟨w.heap.size + 1, 0, none⟩) (fun hj => hj.2.2.1 rfl) _, h.bt.off (by show w.heap.size ≠ w.heap.size + 1; omega) _, h.bn.off (by show gN ≠ w.heap.size + 1; omega) _,
    ownsRow_setCell_other h.row (a := ⟨w.heap.size + 1, 0, none⟩) (h3.no_row h.row (by decide)) _, ⟨a, n, d, h3.set 0 _⟩, h.tq.fr hfr (fun j hj hs => hs.2.1 hj)⟩
theorem MI.put (h : MI w W0 gN p m x S nd g c k rs Y W) (ht : Tq W' p m x (fun j => S j ∧ j ≠ w.heap.size + 1 ∧ j ≠ gN ∧ (Value.slice g k c).ownBlock ≠ some j) Y') (hc : Ch (· = m) W W') : MI w W0 gN p m x S nd g c k rs Y' W' := by
  obtain ⟨a', n', d', h3⟩ := h.bk
  have hs := h.keep.size
  exact ⟨⟨h.ch.1.trans hc.1 (fun j hj => .inl hj), h.ch.2⟩, h.keep.trans ⟨hc.1.os, hc.1.tape, hc.1.output, hc.1.size, fun j hj => hc.1.block j ⟨by omega, hj.2.1⟩⟩, h.bt.ch hc (by decide), h.bn.ch hc (by decide),
    h.row.kept hc.grownBy (.inr fun e => h.tq.sm.2.2.2 e), ⟨a', n', d', h3.ch hc (by decide)⟩, ht⟩
/-- One more number in the row. -/
theorem MI.app {W1 W2 : World} (h : MI w W0 gN p m x S nd g c k rs Y W) (hq : w.heap.size + 1 < gN) (hN : gN < W0.heap.size) (hb : Below W.heap.size W W1) {g' c' b : Nat} (ho : W2.ownsRow W0.heap.size 28 1 (.slice (some ⟨g', 0, none⟩) (k + 1) c') (k + 1) (c32 rs ++ [.int .u32 (b : Int)])) (hg : W1.grownBy W2 (Value.slice g k c).ownBlock)
    (hat : (Value.slice (some ⟨g', 0, none⟩) (k + 1) c').ownBlock = (Value.slice g k c).ownBlock ∨ (Value.slice (some ⟨g', 0, none⟩) (k + 1) c').ownBlock = some W1.heap.size) :
    MI w W0 gN p m x S nd (some ⟨g', 0, none⟩) c' (k + 1) (rs ++ [b]) Y (W2.setCell ⟨gN, 8, none⟩ (.slice (some ⟨g', 0, none⟩) (k + 1) c')) := by
  have h1 := h.below hb
  obtain ⟨a', n', d', h3⟩ := h1.bk
  have hs := h1.keep.size
  have hs1 := h1.ch.size
  have hfr : Fr (· = gN) W2 (W2.setCell ⟨gN, 8, none⟩ (.slice (some ⟨g', 0, none⟩) (k + 1) c')) := (Fr.refl (· = gN) W2).setCell (p := ⟨gN, 8, none⟩) (fun h' => h'.2 rfl) _
  have hgF : Fr (fun i => (Value.slice g k c).ownBlock = some i) W1 W2 := fr_grown hg
  have hrow : ∀ i, (Value.slice g k c).ownBlock = some i → W0.heap.size ≤ i := fun i e => (h1.row.lt i e).1
  have hwW0 : w.heap.size ≤ W0.heap.size := by omega
  have hbn2 := h1.bn.grown hg (h1.bn.no_row h1.row (by decide))
  refine ⟨⟨(h1.ch.1.trans hgF (fun j hj => .inr (by have := hrow j hj; omega))).trans hfr (fun j hj => .inr (by rw [hj]; omega)), h.ch.2⟩, (h1.keep.trans ⟨hg.os, hg.tape, hg.output, hg.size, fun j hj => hg.block j (by omega) (fun e => by have := hrow j e.symm; omega)⟩).setCell (p := ⟨gN, 8, none⟩) (fun hj => hj.2.2.2 rfl) _,
    (h1.bt.grown hg (h1.bt.no_row h1.row (by decide))).off (by show w.heap.size ≠ gN; omega) _, ?_, ?_, ⟨a', n', d', (h3.grown hg (h3.no_row h1.row (by decide))).off (by show w.heap.size + 1 ≠ gN; omega) _⟩, ?_⟩
  · exact hbn2.set 8 _
  · have := ownsRow_setCell_other ho (a := ⟨gN, 8, none⟩) (hbn2.no_row ho (by decide)) (.slice (some ⟨g', 0, none⟩) (k + 1) c')
    rw [show c32 (rs ++ [b]) = c32 rs ++ [.int .u32 (b : Int)] by simp [c32]]
    exact this
  · have ht := (h1.tq.tight.grown hg (fun j hj => hj.1.2.2.2)).fr hfr (fun j hj hs => hs.1.2.2.1 hj)
    refine ht.mono fun j hj => ⟨hj.1.1, hj.1.2.1, hj.1.2.2.1, ?_⟩
    rcases hat with e | e
    · rw [e]; exact hj.1.2.2.2
    · rw [e]
      intro e'
      have := hj.2
      cases e'
      omega
end
section
variable {w W0 W W' : World} {gN p m k : Nat} {x : Sl} {S : Nat → Prop} {X : TX} {T : List UInt8} {s : Vl.Th} {dr : List Nat} {ps : List (List UInt8)}
theorem SI.below (h : SI w W0 gN p m x S X T s dr k ps W) (hb : Below W.heap.size W W') : SI w W0 gN p m x S X T s dr k ps W' := by
  obtain ⟨A, c, h1, h2, ⟨AT, nT, cT, h3, h4, h5⟩, ⟨Y, h6, h7, h8⟩⟩ := h.row
  have hs := h.keep.size
  exact ⟨h.ch.step hb, h.keep.trans ((Keep.of_below hb).mono fun j hj => by omega), h.bt.below hb, ⟨A, c, h1.below hb, own_beneath h2 hb, ⟨AT, nT, cT, h3.below hb, h4.below hb, h5⟩, ⟨Y, h6.below hb, h7, h8⟩⟩, h.pl, h.lg, h.lN⟩
theorem SI.own (h : SI w W0 gN p m x S X T s dr k ps W) {row : Option Nat} (hg : W.grownBy W' row) (hr : ∀ r, row = some r → W0.heap.size ≤ r ∧ ∃ o : Obj, W.heap[r]? = some o ∧ o.isCells = false) : SI w W0 gN p m x S X T s dr k ps W' := by
  obtain ⟨A, c, h1, h2, ⟨AT, nT, cT, h3, h4, h5⟩, ⟨Y, h6, h7, h8⟩⟩ := h.row
  cases row with
  | none => exact h.below ⟨hg.os, hg.tape, hg.output, hg.size, fun j hj => hg.block j hj (by simp)⟩
  | some r =>
    obtain ⟨hB, hnc⟩ := hr r rfl
    have hs := h.keep.size
    have hlg := h.lg
    have hlN := h.lN
    have hm : m ≠ r := by
      have hd := h.ch.2 m rfl
      have : m < w.heap.size := by
        rcases hd with ⟨es, c', e⟩ | ⟨x', m', e⟩ <;> exact (Array.getElem?_eq_some_iff.1 e).1
      omega
    have hown : (Value.slice A k c).ownBlock = none ∨ (Value.slice A k c).ownBlock ≠ some r := by
      rcases h2.2 with ⟨e, _⟩ | ⟨g, cap, cur, e, _, hgb, _⟩
      · left; rw [e]; rfl
      · right
        rw [e]
        simp only [Value.ownBlock, ne_eq, Option.some.injEq]
        rintro rfl
        obtain ⟨o, ho, hc⟩ := hnc
        rw [ho] at hgb
        cases hgb
        simp [Obj.isCells] at hc
    have hbs : BS W' AT nT (Vl.tak T (dr.take k)) := h4.grown hg fun hn ad e e' => by
      obtain ⟨b, o, e1, hcell⟩ := h4.2 hn
      have hl := h4.1
      rw [e] at e1
      cases e1
      obtain ⟨o2, ho2, hc2⟩ := cells_of_cell (hcell 0 (by omega))
      obtain ⟨o3, ho3, hc3⟩ := hnc
      have e5 : r = b := by simpa using e'
      subst e5
      rw [show (({ block := r, off := o + 0 } : Addr).block) = r from rfl, ho3] at ho2
      cases ho2
      rw [hc3] at hc2
      cases hc2
    have hfr : Fr (· = r) W W' := ⟨hg.os, hg.tape, hg.output, hg.size, fun j hj => hg.block j hj.1 (fun e => hj.2 (by cases e; rfl))⟩
    exact ⟨⟨h.ch.1.trans hfr (fun j hj => .inr (by rw [hj]; omega)), h.ch.2⟩, h.keep.trans ⟨hg.os, hg.tape, hg.output, hg.size, fun j hj => hg.block j (by omega) (fun e => by cases e; omega)⟩,
      h.bt.grown hg (by simp; omega), ⟨A, c, h1.grown hg (by simp; omega), h2.kept hg hown, ⟨AT, nT, cT, h3.grown hg (by simp; omega), hbs, h5⟩, ⟨Y, ((h6.nocells hnc hm).keep fun j hj hlt => hg.block j hlt (fun e => hj.2 (by cases e; rfl))).mono fun j hj => hj.1, h7, h8⟩⟩, h.pl, h.lg, h.lN⟩
set_option maxRecDepth 100000 in
set_option maxHeartbeats 2000000 in
theorem store1_any (hI : SI w W0 gN p m x S X T s dr k ps W) (hS : ∀ j, W0.heap.size ≤ j → S j) (hN2 : x.n ≤ 803) (hk : k < dr.length) (hdr : ∀ b ∈ dr, b < x.n - 35) (hT : T.length ≤ 96) (hdl : dr.length ≤ 8)
    (AP : Option Addr) (nP cP : Nat) (pt : List UInt8) (hpt : pt.length ≤ 96) (hP : BS W0 AP nP pt) (hPb : 0 < nP → ∀ ad, AP = some ad → ad.block < W0.heap.size ∧ ad.block ≠ m ∧ ad.block ≠ w.heap.size + 1 ∧ ad.block ≠ gN) :
    Calls Tryz.prog 92 #[.int .i64 (dr[k] : Int), .slice AP nP cP, .pointer (some ⟨gN, 0, none⟩), .pointer (some ⟨w.heap.size + 1, 0, none⟩), .pointer (some ⟨w.heap.size, 0, none⟩)] W
      fun e w' => e = .returned (.int .i64 0) ∧ SI w W0 gN p m x S X T s dr (k + 1) (ps ++ [pt]) w' ∧ KeepsFrom W0.heap.size W w' := by
  obtain ⟨i0, hi0, hz0, hz1, hz2⟩ := info_parts infos_u32
  obtain ⟨A, c, h1, h2, ⟨AT, nT, cT, h3, h4, h5⟩, ⟨Y, h6, h7, h8⟩⟩ := hI.row
  have hb35 := hdr _ (List.getElem_mem hk)
  have HTK : Hid (dr.take (k + 1) = dr.take k ++ [dr[k]]) := List.take_succ_eq_append_getElem hk
  have HI0 := Lib.hid hi0
  have HZ0 := Lib.hid hz0
  have HZ1 := Lib.hid hz1
  have HZ2 := Lib.hid hz2
  have HI := Lib.hid hI
  have H1 := Lib.hid h1
  have H2 := Lib.hid h2
  have H3 := Lib.hid h3
  have H4 := Lib.hid h4
  have H5 := Lib.hid h5
  have H6 := Lib.hid h6
  have HY : Hid (Y.l = X.l ∧ Y.get = Vl.putP ((dr.take k).zip ps) X.get) := ⟨h7, h8⟩
  have k8 : W.cell? ⟨gN, 8, none⟩ = some (.slice A k c) := h1.cell 8 _ rfl
  have hsz := hI.keep.size
  have hwsz := hI.ch.size
  have hlg := hI.lg
  have hlN := hI.lN
  have HPLN : Hid (ps.length = k) := hI.pl
  have HI0m : Hid (m < w.heap.size) := by
    rcases hI.ch.2 m rfl with ⟨es, c', e⟩ | ⟨x', m', e⟩ <;> exact (Array.getElem?_eq_some_iff.1 e).1
  generalize dr[k] = b at *
  clear hi0 hz0 hz1 hz2 hI h1 h2 h3 h4 h5 h6 h7 h8
  have hb32 : (b : Int) % 4294967296 = (b : Int) := Int.emod_eq_of_lt (by omega) (by omega)
  have HNEW : Hid (∀ j u, [Value.int .u32 (b : Int)][j]? = some u → (W.alloc (.cells #[.int .u32 (b : Int)] 28)).cell? ((⟨W.heap.size, 0, none⟩ : Addr).add j) = some u) := cell_one_new W _ _
  have HROW := Lib.hid (H2.out.alloc (.cells #[.int .u32 (b : Int)] 28))
  go_enter Tryz.func92, Tryz.ntmps92
  go_wp2_with (at_builtin; go_must (refine wpList_append_own_at _ rfl _ _ 83 rfl W0.heap.size 28 i0 (.int .u32 0) 1 4 Tryz.underlying83 HI0.out HZ0.out HZ1.out HZ2.out rfl (by decide) (.slice A k c) k (c32 (dr.take k)) rfl HROW.out ⟨W.heap.size, 0, none⟩ 1 1 [.int .u32 (b : Int)] rfl rfl HNEW.out (fun u hu => by obtain rfl := List.mem_singleton.1 hu; rfl) (by unfold maxLen; omega) (by omega) (by simp; omega) ?_; intro v' w2 hown' hgrow _ hat; obtain ⟨g', cap', rfl⟩ := ownsRow_succ hown'; have hbN := ((H1.out.below ((Below.refl _ _).alloc (Nat.le_refl _) _)).grown hgrow ((H1.out.below ((Below.refl _ _).alloc (Nat.le_refl _) _)).no_row HROW.out (by decide))); have hbT := ((H3.out.below ((Below.refl _ _).alloc (Nat.le_refl _) _)).grown hgrow ((H3.out.below ((Below.refl _ _).alloc (Nat.le_refl _) _)).no_row HROW.out (by decide))); have kN := hbN.cell 8 _ rfl; have fN := hbN.froz 8; have kT := hbT.cell 0 _ rfl; have fT := hbT.froz 0; have HBN := Lib.hid hbN; have HBT := Lib.hid hbT; have HOW := Lib.hid hown'; have HGR := Lib.hid hgrow; have HAT := Lib.hid hat; clear hown' hgrow hat hbN hbT))
  have hneq : gN ≠ w.heap.size + 1 := by omega
  have HKF1 : Hid (KeepsFrom W0.heap.size W (w2.setCell ⟨gN, 8, none⟩ (.slice (some ⟨g', 0, none⟩) (k + 1) cap'))) := KF.trans (KF.trans (KF.below ((Below.refl _ _).alloc (Nat.le_refl _) _)) (KF.row HGR.out HROW.out)) (KF.set ⟨gN, 8, none⟩ _ hlN)
  have HMI0 : Hid (MI w W0 gN p m x S (Vl.nd s (dr.take k)) A c k (dr.take k) Y W) := ⟨HI.out.ch, HI.out.keep, HI.out.bt, H1.out, H2.out, ⟨_, _, _, H3.out⟩, H6.out⟩
  have HMI := Lib.hid (HMI0.out.app hlg hlN ((Below.refl _ _).alloc (Nat.le_refl _) (.cells #[.int .u32 (b : Int)] 28)) HOW.out HGR.out HAT.out)
  have HBS : Hid (BS (w2.setCell ⟨gN, 8, none⟩ (.slice (some ⟨g', 0, none⟩) (k + 1) cap')) AT nT (Vl.tak T (dr.take k))) :=
    ((H4.out.alloc _).grown HGR.out H5.out).off (q := gN) (nic_no8 HBN.out) (fun j _ hj => Below.heap_setCell _ _ _ _ hj)
  have HLN : Hid ((Vl.tak T (dr.take k)).length ≤ 96) := Vl.tak_len _ T (fun c hc => by have := hdr c (List.mem_of_mem_take hc); omega) hT
  clear HI H1 H2 H3 H4 H5 H6 HBN HBT HOW HGR HAT HMI0 HNEW HROW
  go_wp2_with fail
  refine (with_new AT nT cT _ (b : Int) true _ HBS.out (by omega) (by rw [← HBS.out.1]; exact Nat.le_trans HLN.out (by omega))).mono ?_
  rintro e w4 ⟨A2, n2, c2, rfl, hb2, hw2, hn2⟩
  rw [Bt.witI_nat] at hb2
  have HKF2 : Hid (KeepsFrom W0.heap.size W (w4.setCell ⟨w.heap.size + 1, 0, none⟩ (.slice A2 n2 c2))) := KF.trans (KF.trans HKF1.out (KF.below hw2)) (KF.set ⟨w.heap.size + 1, 0, none⟩ _ (by show w.heap.size + 1 < _; omega))
  have hrlt := (HMI.out.row.lt g' rfl).2
  have HM4 := Lib.hid (HMI.out.below hw2)
  have HM5 := Lib.hid (HM4.out.box hlg A2 n2 c2)
  obtain ⟨a4, n4, d4, h4⟩ := HM4.out.bk
  have k4 := h4.cell 0 _ rfl
  have f4 := h4.froz 0
  have HB5 : Hid (BS (w4.setCell ⟨w.heap.size + 1, 0, none⟩ (.slice A2 n2 c2)) A2 n2 (Bt.wit (Vl.tak T (dr.take k)) b true)) := hb2.off (q := w.heap.size + 1) (box_no8 h4) (fun j _ hj => Below.heap_setCell _ _ _ _ hj)
  have HNE : Hid (∀ ad, A2 = some ad → (Value.slice (some ⟨g', 0, none⟩) (k + 1) cap').ownBlock ≠ some ad.block) := fun ad e e' => by
    have := hn2 ad e
    simp only [Value.ownBlock, Option.some.injEq] at e'
    omega
  have kq : w4.cell? ⟨w.heap.size, 0, none⟩ = some (.pointer (some ⟨p, 0, none⟩)) := HM4.out.bt.cell 0 _ rfl
  clear hb2 hw2 hn2 HMI HBS h4 kN fN kT fT hrlt
  have HPT : Hid (BS (w4.setCell ⟨w.heap.size + 1, 0, none⟩ (.slice A2 n2 c2)) AP nP pt) := hP.keepK HM5.out.keep (fun hn ad e => by have := hPb hn ad e; exact ⟨this.1, this.2.1, this.2.2.1, this.2.2.2⟩)
  have HPL : Hid (pt.length ≤ 96) := hpt
  have hwq : ¬ w.heap.size = w.heap.size + 1 := by omega
  go_wp2_with fail
  rw [show (35 : Int) + (b : Int) = ((35 + b : Nat) : Int) by omega]
  refine (putX_any HM5.out.tq (fun j hj => ?_) (35 + b) (by omega) AP nP cP _ HPT.out HPL.out).mono ?_
  · have h1 := HM5.out.ch.size
    have h2 := HM5.out.keep.size
    refine ⟨hS j (by omega), by omega, by omega, fun e => ?_⟩
    have := (HM5.out.row.lt j e).2
    omega
  rintro e w6 ⟨rfl, ht6, hc6⟩
  have HM6 := Lib.hid (HM5.out.put ht6 hc6)
  have HKF6 : Hid (KeepsFrom W0.heap.size W w6) := KF.trans HKF2.out (KF.ch hc6 (by
    have hd := HI0m.out
    omega))
  have HB6 := Lib.hid (HB5.out.ch hc6)
  have hbx : Bw (w4.setCell ⟨w.heap.size + 1, 0, none⟩ (.slice A2 n2 c2)) (w.heap.size + 1) [.slice A2 n2 c2] 30 := by
    obtain ⟨a4, n4, d4, h4⟩ := HM4.out.bk
    exact h4.set 0 _
  have HX6 := Lib.hid (hbx.ch hc6 (by decide))
  clear ht6 hc6 hbx
  go_wp2
  go_ret
  refine ⟨rfl, ⟨HM6.out.ch, HM6.out.keep, HM6.out.bt, ⟨some ⟨g', 0, none⟩, cap', HM6.out.bn, ?_, ⟨A2, n2, c2, HX6.out, ?_, fun _ ad e => HNE.out ad e⟩, ⟨Y.put (35 + b) pt, HM6.out.tq, HY.out.1, ?_⟩⟩, (by rw [List.length_append, HPLN.out]; rfl), hlg, hlN⟩, HKF6.out⟩
  · rw [HTK.out]; exact HM6.out.row
  · rw [HTK.out, Vl.tak_snoc]; exact HB6.out
  · rw [HTK.out, Vl.putP_snoc _ _ (by rw [List.length_take, HPLN.out]; omega), TX.put_get, HY.out.2]
end
end Go.Proofs.YtnhokkdieijkhaaGreatDoor

namespace Go.Proofs.YtnhokkdieijkhaaGreatDoor
open Go.RowKit

theorem BNS.below {w w' : World} {A : Option Addr} {n : Nat} {l : List Nat} (h : BNS w A n l) (hb : Below w.heap.size w w') : BNS w' A n l :=
  ⟨h.1, fun hn => by
    obtain ⟨b, o, e, hc⟩ := h.2 hn
    exact ⟨b, o, e, fun j hj => (hb.cell (p := ⟨b, o + j, none⟩) (World.block_lt_of_cell? w _ (hc j hj))).trans (hc j hj)⟩⟩
theorem BNS.at {w : World} {A : Option Addr} {n : Nat} {l : List Nat} (h : BNS w A n l) {k : Nat} (hk : k < n) :
    ∃ b o, A = some ⟨b, o, none⟩ ∧ ∃ hj : k < l.length, w.cell? ⟨b, o + k, none⟩ = some (.int .i64 (l[k] : Int)) := by
  obtain ⟨b, o, e, hc⟩ := h.2 (by omega)
  have hj : k < l.length := by rw [h.1]; exact hk
  exact ⟨b, o, e, hj, hc k hj⟩

theorem ex_with : Bt.witI [] 9 true = [0, 64] := by decide +kernel
theorem ex_draw : Bt.drw [0, 64] 12 2 = [0, 1] ∧ Bt.drwE [0, 64] 12 2 = 0 := by decide +kernel
theorem ex_has : Bt.hasI [0, 64] 9 = true ∧ Bt.hasI [0, 64] 8 = false ∧ Bt.cnt [0, 64] (10 : Int).toNat = 1 ∧ Bt.witI [0, 64] 9 false = [] := by decide +kernel

end Go.Proofs.YtnhokkdieijkhaaGreatDoor
