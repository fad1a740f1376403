/-
  append of entries onto a row of entries of the call's own; slices.Grow and slices.Concat (layer 8).
  Contracts of slices.Concat at two rows of entries, and of package dir's Add and Remove (layer 8).
  Contracts of package dir's Add and Remove (layer 8).
  Contract of package dir's Remove (layer 8).
  A region that draws its order, reads first and ends in one operation, inside a fence (also in a round). Nothing of the program is named here.
  Contracts of slices.Values at entries, of the function that it returns, and of package dir's from (layer 8).
  Contract of package dir's from, and the walk of After (layer 8).
  Contract of package dir's After (layer 8).
  Contract of package dir's Get (layer 8).
  Contract of the document's example (layer 8): it holds, and leaves all memory that was there alone.
  DirNames walked (layer 8).
-/
import Derived.Test.YtpbpdnjlomhkdaaGreatQ3
import Derived.Maps.AppendAt
import Derived.Lib.AppendZerosOnto
import Derived.Lib.SliceRun
import Derived.RangeFuncNested
import Derived.RangeFuncBound
import Derived.RangeFuncCalls
import Derived.RangeFuncLeaves
import Derived.RangeFuncWrites
import Derived.Shelf.Abstract
import Derived.Shelf.RegionOpen
import Derived.OwnWalkIn
import Derived.TacticsInMore
import Derived.LoopNIn
import Derived.LoopIn
import Derived.Deep.DeepCutAuto
namespace Go.Proofs.YtpbpdnjlomhkdaaGreat
open Go.RowKit Go.Shelf

section
variable {P : Program} (w : World)
/-- append of entries (of whatever slice, nil let in) onto a row of the call's own. -/
theorem run_append_es (base : Nat) (t ty e : TypeId) (i : TypeInfo) (z : Value) (ht : P.underlying t = some (.slice e)) (hi : P.info? e = some i) (hz : i.zero = some z) (hsize : i.size = 4) (hby : i.bytes = 32) (hzs : z.cells.size = 4)
    (A0 : Option Addr) (n0 c0 : Nat) (l0 : List En) (hown : w.ownsRow base e 4 (.slice A0 n0 c0) n0 (ecs l0)) (A : Option Addr) (m c : Nat) (l : List En) (hr : ES w A m l) (hb : n0 + m ≤ 400000000) (hbase : base ≤ w.heap.size) :
    ∃ A' c' w', (Builtin.append_ #[t, t] ty #[.slice A0 n0 c0, .slice A m c]).run P w = .ok (.slice A' (n0 + m) c') w' ∧ w'.ownsRow base e 4 (.slice A' (n0 + m) c') (n0 + m) (ecs (l0 ++ l)) ∧
      w.grownBy w' (Value.slice A0 n0 c0).ownBlock ∧ ((Value.slice A' (n0 + m) c').ownBlock = (Value.slice A0 n0 c0).ownBlock ∨ (Value.slice A' (n0 + m) c').ownBlock = some w.heap.size) := by
  rcases A with _ | ad
  · have hm : m = 0 := by
      rcases Nat.eq_zero_or_pos m with h0 | h0
      · exact h0
      · obtain ⟨b, o, h, _⟩ := hr.2 h0
        cases h
    subst hm
    have hl : l = [] := List.eq_nil_of_length_eq_zero hr.1
    subst hl
    refine ⟨A0, c0, w, ?_, by simpa using hown, World.grownBy.refl w _, .inl rfl⟩
    rcases hown.2 with ⟨h1, h2⟩ | ⟨g, cap, cur, h1, _, _, hnc, _⟩
    · injection h1 with h1 h3 h4
      subst h1 h3 h4
      simp [Builtin.append_, run_underlying ht, sizeOf, typeInfo, hi, Builtin.lenOf, Builtin.firstCells]
    · injection h1 with h1 h3 h4
      subst h1 h4
      simp [Builtin.append_, run_underlying ht, sizeOf, typeInfo, hi, Builtin.lenOf, Builtin.firstCells, hnc, storeCells]
  · obtain ⟨v', w', hrun, h2, h3, _, h5⟩ := run_append_own_at (P := P) w base t ty e i z 4 32 ht hi hz hsize hby hzs (by omega) _ n0 _ hown ad m c (ecs l) (by rw [ecs_length, hr.1])
      (hr.news rfl) (ecs_one l) (by unfold maxLen; omega) (by omega) hbase
    have hv : ∃ A' c', v' = .slice A' (n0 + m) c' := by
      rcases h2.2 with ⟨h6, h7⟩ | ⟨g, cap, cur, h6, _⟩
      · exact ⟨none, 0, by rw [h6, h7]⟩
      · exact ⟨_, _, h6⟩
    obtain ⟨A', c', rfl⟩ := hv
    exact ⟨A', c', w', hrun, by rw [ecs_append]; exact h2, h3, h5⟩
theorem wp_append_es {o : Oper} {a : Act} {K : Act → World → Prop} {Q : Exit → Act → World → Prop} (s x : Operand) (t : TypeId)
    (ho : o.op = .call { callee := .builtin .append, args := #[s, x], argTypes := #[t, t] })
    (base : Nat) (e : TypeId) (i : TypeInfo) (z : Value) (ht : P.underlying t = some (.slice e)) (hi : P.info? e = some i) (hz : i.zero = some z) (hsize : i.size = 4) (hby : i.bytes = 32) (hzs : z.cells.size = 4)
    (A0 : Option Addr) (n0 c0 : Nat) (l0 : List En) (hs : a.eval s = .slice A0 n0 c0) (hown : w.ownsRow base e 4 (.slice A0 n0 c0) n0 (ecs l0))
    (A : Option Addr) (m c : Nat) (l : List En) (hx : a.eval x = .slice A m c) (hr : ES w A m l) (hb : n0 + m ≤ 400000000) (hbase : base ≤ w.heap.size)
    (h : ∀ A' c' w', w'.ownsRow base e 4 (.slice A' (n0 + m) c') (n0 + m) (ecs (l0 ++ l)) → w.grownBy w' (Value.slice A0 n0 c0).ownBlock →
      ((Value.slice A' (n0 + m) c').ownBlock = (Value.slice A0 n0 c0).ownBlock ∨ (Value.slice A' (n0 + m) c').ownBlock = some w.heap.size) → K (a.put o.dst (.slice A' (n0 + m) c')) w') : o.wp P a w K Q := by
  obtain ⟨A', c', w', hr, h2, h3, h4⟩ := run_append_es (P := P) w base t o.type e i z ht hi hz hsize hby hzs A0 n0 c0 l0 hown A m c l hr hb hbase
  unfold Oper.wp execOp
  simp only [ho, resolve, invoke, builtin, Sem.run_bind, Sem.run_pure, Result.andThen_ok, List.map_toArray, List.map_cons, List.map_nil, hs, hx, hr]
  exact h A' c' w' h2 h3 h4
theorem wpList_append_es {ops : Array Oper} {rest : List Oper} {o : Oper} {a : Act} {Q : Exit → Act → World → Prop} (hgd : o.guard = none) (s x : Operand) (t : TypeId)
    (ho : o.op = .call { callee := .builtin .append, args := #[s, x], argTypes := #[t, t] })
    (base : Nat) (e : TypeId) (i : TypeInfo) (z : Value) (ht : P.underlying t = some (.slice e)) (hi : P.info? e = some i) (hz : i.zero = some z) (hsize : i.size = 4) (hby : i.bytes = 32) (hzs : z.cells.size = 4)
    (A0 : Option Addr) (n0 c0 : Nat) (l0 : List En) (hs : a.eval s = .slice A0 n0 c0) (hown : w.ownsRow base e 4 (.slice A0 n0 c0) n0 (ecs l0))
    (A : Option Addr) (m c : Nat) (l : List En) (hx : a.eval x = .slice A m c) (hr : ES w A m l) (hb : n0 + m ≤ 400000000) (hbase : base ≤ w.heap.size)
    (h : ∀ A' c' w', w'.ownsRow base e 4 (.slice A' (n0 + m) c') (n0 + m) (ecs (l0 ++ l)) → w.grownBy w' (Value.slice A0 n0 c0).ownBlock →
      ((Value.slice A' (n0 + m) c').ownBlock = (Value.slice A0 n0 c0).ownBlock ∨ (Value.slice A' (n0 + m) c').ownBlock = some w.heap.size) → wpList P ops Q rest (a.put o.dst (.slice A' (n0 + m) c')) w') : wpList P ops Q (o :: rest) a w :=
  wpList_plain hgd fun _ hK => wp_append_es w s x t ho base e i z ht hi hz hsize hby hzs A0 n0 c0 l0 hs hown A m c l hx hr hb hbase fun A' c' w' h2 h3 h4 => hK _ _ (h A' c' w' h2 h3 h4)
end

/-- append of a number of zero values (append(s, make([]T, n)...)). -/
theorem wpList_append_make {P : Program} {w : World} {ops : Array Oper} {rest : List Oper} {o : Oper} {a : Act} {Q : Exit → Act → World → Prop} (hgd : o.guard = none) (s x : Operand) (t tn : TypeId)
    (ho : o.op = .call { callee := .builtin .append, args := #[s, x], argTypes := #[t, tn] }) (v u r : Value) (w' : World) (hs : a.eval s = v) (hx : a.eval x = u)
    (hr : (Builtin.append_ #[t, tn] o.type #[v, u]).run P w = .ok r w') (h : wpList P ops Q rest (a.put o.dst r) w') : wpList P ops Q (o :: rest) a w :=
  wpList_plain hgd fun _ hK => by
    unfold Oper.wp execOp
    simp only [ho, resolve, invoke, builtin, Sem.run_bind, Sem.run_pure, Result.andThen_ok, List.map_toArray, List.map_cons, List.map_nil, hs, hx, hr]
    exact hK _ _ h
/-- A row that a call makes, in a later world. -/
theorem own_below {w w1 w2 : World} {e : TypeId} {v : Value} {n : Nat} {xs : List Value} (hb : Below w.heap.size w w1) (h : w1.ownsRow w.heap.size e 4 v n xs) (hg : w1.grownBy w2 v.ownBlock) : Below w.heap.size w w2 :=
  hb.trans ⟨hg.os, hg.tape, hg.output, hg.size, fun k hk => hg.block k (Nat.lt_of_lt_of_le hk hb.size) (fun ee => by have := (h.lt k ee.symm).1; omega)⟩
theorem zeroCells_ec (k : Nat) : (Builtin.zeroCells (Value.agg (ec ⟨0, 0, 0, []⟩).toArray).cells k).size = k * 4 := by
  simp [Builtin.zeroCells, Value.cells, ec]

set_option maxRecDepth 100000 in
set_option maxHeartbeats 1000000 in
theorem grow_any (n : Nat) (w : World) (hn : n ≤ 200000000) :
    Calls Tryz.prog 177 #[.slice none 0 0, .int .i64 (n : Int)] w fun e w' => ∃ A c, e = .returned (.slice A 0 c) ∧ w'.ownsRow w.heap.size 87 4 (.slice A 0 c) 0 [] ∧ Below w.heap.size w w' := by
  obtain ⟨i0, hi0, hz0, hz1, hz2⟩ := info_parts info_E
  by_cases h0 : n = 0
  · subst h0
    go_enter Tryz.func177, Tryz.ntmps177
    go_wp2
    go_ret
    exact ⟨none, 0, rfl, World.ownsRow_nil _ _ _ _, Below.refl _ _⟩
  · have hap := Lib.run_append_nil_zeros (P := Tryz.prog) w 47 3 47 87 i0 _ .i64 .i64 Tryz.underlying47 Tryz.underlying3 hi0 hz0 n (by omega) (by omega) (by omega) (by rw [hz2]; omega)
    have hge := grownCap_ge w n 0 87
    have hle : grownCap w n 0 87 ≤ maxLen := grownCap_le_maxLen _ _ _ _ (by unfold maxLen; omega)
    have HO : Hid ((w.drew.alloc (.cells (Builtin.zeroCells (Value.agg (ec ⟨0, 0, 0, []⟩).toArray).cells n ++ Builtin.zeroCells (Value.agg (ec ⟨0, 0, 0, []⟩).toArray).cells (grownCap w n 0 87 - n)) 87)).ownsRow w.heap.size 87 4 (.slice (some ⟨w.heap.size, 0, none⟩) 0 (grownCap w n 0 87)) 0 []) := by
      refine ⟨rfl, .inr ⟨w.heap.size, _, _, rfl, Nat.le_refl _, heap_alloc_new w.drew _, Nat.zero_le _, hle, ?_, by simp⟩⟩
      rw [Array.size_append, zeroCells_ec, zeroCells_ec]
      omega
    have HB : Hid (Below w.heap.size w (w.drew.alloc (.cells (Builtin.zeroCells (Value.agg (ec ⟨0, 0, 0, []⟩).toArray).cells n ++ Builtin.zeroCells (Value.agg (ec ⟨0, 0, 0, []⟩).toArray).cells (grownCap w n 0 87 - n)) 87))) := (Below.refl _ _).drew.alloc (Nat.le_refl _) _
    generalize (w.drew.alloc (.cells (Builtin.zeroCells (Value.agg (ec ⟨0, 0, 0, []⟩).toArray).cells n ++ Builtin.zeroCells (Value.agg (ec ⟨0, 0, 0, []⟩).toArray).cells (grownCap w n 0 87 - n)) 87)) = w1 at *
    generalize grownCap w n 0 87 = c1 at *
    have hpos : 0 < (n : Int) := by omega
    have hw0 : IntKind.i64.wrap (n : Int) = n := by rw [IntKind.wrap_i64]; omega
    have HAP := Lib.hid hap
    clear hle hap
    go_enter Tryz.func177, Tryz.ntmps177
    go_wp2_with ((at_builtin; refine wpList_append_make rfl (.tmp 20) (.tmp 21) 47 3 rfl _ _ _ w1 rfl rfl HAP.out ?_))
    go_ret
    exact ⟨_, c1, rfl, HO.out, HB.out⟩
end Go.Proofs.YtpbpdnjlomhkdaaGreat

namespace Go.Proofs.YtpbpdnjlomhkdaaGreat
open Go.RowKit Go.Shelf

/-- How many there are behind k of two rows, and which. -/
def szs (n m k : Nat) : Nat := if k = 0 then 0 else if k = 1 then n else n + m
def acc (a b : List En) (k : Nat) : List En := if k = 0 then [] else if k = 1 then a else a ++ b

set_option maxRecDepth 100000 in
set_option maxHeartbeats 2000000 in
theorem concat_any (A B : Option Addr) (n c m d g : Nat) (xs ys : List En) (w : World) (hg : w.heap[g]? = some (.cells #[.slice A n c, .slice B m d] 47 (0, 0))) (ha : ES w A n xs) (hb : ES w B m ys) (hnm : n + m ≤ 200000000) :
    Calls Tryz.prog 170 #[.slice (some ⟨g, 0, none⟩) 2 2] w fun e w' => ∃ A' c', e = .returned (.slice A' (n + m) c') ∧ w'.ownsRow w.heap.size 87 4 (.slice A' (n + m) c') (n + m) (ecs (xs ++ ys)) ∧ Below w.heap.size w w' := by
  obtain ⟨i0, hi0, hz0, hz1, hz2⟩ := info_parts info_E
  have HI0 := Lib.hid hi0
  have HZ0 := Lib.hid hz0
  have HZ1 := Lib.hid hz1
  have HZ2 := Lib.hid hz2
  have HA := Lib.hid ha
  have HB := Lib.hid hb
  have HGLT : Hid (g < w.heap.size) := (Array.getElem?_eq_some_iff.1 hg).1
  have k0 : w.cell? ⟨g, 0, none⟩ = some (.slice A n c) := cell_of_row w g 0 _ _ _ hg
  have k1 : w.cell? ⟨g, 1, none⟩ = some (.slice B m d) := cell_of_row w g 1 _ _ _ hg
  have K0 := Lib.hid k0
  have K1 := Lib.hid k1
  clear hi0 hz0 hz1 hz2 ha hb hg
  go_enter Tryz.func170, Tryz.ntmps170
  go_wp2
  go_loop [3, 11] (fun s i => ∃ k : Nat, k ≤ 2 ∧ i = .int .i64 k ∧ s = .int .i64 (szs n m k : Nat)) (fun _ i => 2 - (intOf i).toNat)
  case atStart => exact ⟨0, by omega, rfl, rfl⟩
  case round =>
    obtain ⟨k, hk, rfl, rfl⟩ := hrel
    rcases (show k = 0 ∨ k = 1 ∨ k = 2 by omega) with rfl | rfl | rfl
    · have e0 : szs n m 0 = 0 := rfl
      rw [e0]
      have hn0 : ¬ ((n : Int) < 0) := by omega
      go_wp2
      go_round
      case rel => exact ⟨1, by omega, rfl, by show _ = Value.int .i64 ((n : Nat) : Int); simp⟩
      case measure => simp [intOf]
    · have e0 : szs n m 1 = n := rfl
      rw [e0]
      have hn0 : ¬ ((n : Int) + (m : Int) < 0) := by omega
      go_wp2
      go_round
      case rel => exact ⟨2, by omega, rfl, by show _ = Value.int .i64 ((n + m : Nat) : Int); simp⟩
      case measure => simp [intOf]
    · have e0 : szs n m 2 = n + m := rfl
      rw [e0]
      clear k0 k1
      go_wp2_with fail
      refine (grow_any (n + m) w (by omega)).mono ?_
      rintro en w1 ⟨A1, c1, rfl, hown, hbl⟩
      have HO1 := Lib.hid hown
      have HB1 := Lib.hid hbl
      clear hown hbl
      go_wp2_with fail
      go_loopw [6, 27] (fun r i wr => ∃ k : Nat, k ≤ 2 ∧ i = .int .i64 k ∧ ∃ A' c', r = .slice A' (szs n m k) c' ∧ Hid (wr.ownsRow w.heap.size 87 4 (.slice A' (szs n m k) c') (szs n m k) (ecs (acc xs ys k))) ∧ Hid (Below w.heap.size w wr))
        (fun _ i _ => 2 - (intOf i).toNat)
      case atStart => exact ⟨0, by omega, rfl, A1, c1, rfl, HO1.out, HB1.out⟩
      case round =>
        obtain ⟨k, hk, rfl, A2, c2, rfl, HO, HW⟩ := hrel
        rcases (show k = 0 ∨ k = 1 ∨ k = 2 by omega) with rfl | rfl | rfl
        · have e0 : szs n m 0 = 0 := rfl
          have e1 : acc xs ys 0 = [] := rfl
          rw [e0, e1] at HO
          rw [e0]
          clear e1
          have r0 : wr.cell? ⟨g, 0, none⟩ = some (.slice A n c) := (HW.out.cell (p := ⟨g, 0, none⟩) HGLT.out).trans K0.out
          go_wp2_with (first
            | (at_builtin; refine wpList_append_es _ rfl (.tmp 31) (.tmp 32) 47 rfl w.heap.size 87 i0 _ Tryz.underlying47 HI0.out HZ0.out HZ1.out HZ2.out rfl A2 0 c2 [] rfl HO.out A n c xs rfl (HA.out.below HW.out) (by omega) HW.out.size ?_
               intro A3 c3 w3 ho3 hg3 _
               have HO3 := Lib.hid ho3
               have HW3 := Lib.hid (own_below HW.out HO.out hg3)
               clear ho3 hg3))
          go_roundw
          case rel =>
            refine ⟨1, by omega, rfl, A3, c3, ?_, ?_, HW3.out⟩
            · show _ = Value.slice A3 n c3
              simp
            · have := HO3.out
              rw [Nat.zero_add, List.nil_append] at this
              exact this
          case measure => simp [intOf]
        · have e0 : szs n m 1 = n := rfl
          have e1 : acc xs ys 1 = xs := rfl
          rw [e0, e1] at HO
          rw [e0]
          clear e1
          have r1 : wr.cell? ⟨g, 1, none⟩ = some (.slice B m d) := (HW.out.cell (p := ⟨g, 1, none⟩) HGLT.out).trans K1.out
          go_wp2_with (first
            | (at_builtin; refine wpList_append_es _ rfl (.tmp 31) (.tmp 32) 47 rfl w.heap.size 87 i0 _ Tryz.underlying47 HI0.out HZ0.out HZ1.out HZ2.out rfl A2 n c2 xs rfl HO.out B m d ys rfl (HB.out.below HW.out) (by omega) HW.out.size ?_
               intro A3 c3 w3 ho3 hg3 _
               have HO3 := Lib.hid ho3
               have HW3 := Lib.hid (own_below HW.out HO.out hg3)
               clear ho3 hg3))
          go_roundw
          case rel => exact ⟨2, by omega, rfl, A3, c3, rfl, HO3.out, HW3.out⟩
          case measure => simp [intOf]
        · have e0 : szs n m 2 = n + m := rfl
          have e1 : acc xs ys 2 = xs ++ ys := rfl
          rw [e0, e1] at HO
          rw [e0]
          clear e1
          go_wp2
          go_ret
          exact ⟨A2, c2, rfl, HO.out, HW.out⟩
end Go.Proofs.YtpbpdnjlomhkdaaGreat

namespace Go.Proofs.YtpbpdnjlomhkdaaGreat
open Go.RowKit Go.Shelf

theorem zsize_E : (Tryz.prog.info? 87).map (fun i => (i.zero, i.size)) = some (some (.agg (ec ⟨0, 0, 0, []⟩).toArray), 4) := by kernel_rfl
theorem own_le {w : World} {base : Nat} {e : TypeId} {A : Option Addr} {n c : Nat} {xs : List Value} (h : w.ownsRow base e 4 (.slice A n c) n xs) : n ≤ c ∧ c ≤ 9223372036854775807 := by
  rcases h.2 with ⟨h1, h2⟩ | ⟨g, cap, cur, h1, _, _, h2, h3, _⟩
  · injection h1 with _ _ h1
    omega
  · injection h1 with _ _ h1
    unfold maxLen at h3
    omega
/-- A slice of entries, and its error. -/
def EsQ (es : List En) (z : Int) (w : World) (en : Ending) (w' : World) : Prop := ∃ A n c, en = .returned (.tuple #[.slice A n c, .int .i64 z]) ∧ ES w' A n es ∧ (n ≤ c ∧ c ≤ 9223372036854775807) ∧ Below w.heap.size w w'
theorem EsQ.nil {w w' : World} {es : List En} {z : Int} (he : es = []) (hb : Below w.heap.size w w') : EsQ es z w (.returned (.tuple #[.slice none 0 0, .int .i64 z])) w' := by
  subst he
  exact ⟨none, 0, 0, rfl, ES.nil, ⟨Nat.le_refl _, Nat.zero_le _⟩, hb⟩

set_option maxRecDepth 100000 in
set_option maxHeartbeats 2000000 in
theorem add_any (A : Option Addr) (n cp : Nat) (es : List En) (e : En) (w : World) (h : ES w A n es) (hw : ∀ x ∈ es, x.Wide) (he : e.Wide) (hn : n ≤ 10000000) :
    Calls Tryz.prog 152 #[.slice A n cp, .agg (ec e).toArray] w (EsQ (addL es e) (addE es e) w) := by
  have HX := Lib.hid h
  have HA : Hid (Below w.heap.size w (w.alloc (.cells (ec e).toArray 87))) := (Below.refl _ _).alloc (Nat.le_refl _) _
  have HE : Hid (EB (w.alloc (.cells (ec e).toArray 87)) w.heap.size 87 e) := EB.new _ _ _
  have HW := Lib.hid hw
  have hec := he.c
  have HLW : Hid (lastCk es < 18446744073709551616) := lastAt_lt es hw es.length
  clear h hw he
  have c3 := HE.out.c3
  by_cases h1 : nameOk e.nm = true
  rotate_left
  · have h1 : nameOk e.nm = false := by simpa using h1
    have h2 : nameE e.nm = 67 := if_neg (by rw [h1]; simp)
    have hE : addE es e = 67 := if_pos h1
    have hL : addL es e = [] := by unfold addL; rw [hE]; rfl
    have HL := Lib.hid hL
    rw [hE]
    have HN := fun W => Lib.hid (name_any e.nm W)
    rw [h2] at HN
    clear h1 h2 hE hL
    go_enter Tryz.func152, Tryz.ntmps152
    go_wp2_with fail
    refine ((HN _).out).mono ?_
    rintro en w1 ⟨rfl, hb1⟩
    have HB1 := Lib.hid (HA.out.trans (hb1.mono HA.out.size))
    clear hb1
    go_wp2_with fail
    go_ret2
    exact EsQ.nil HL.out HB1.out
  have h2 : nameE e.nm = 0 := if_pos h1
  have HN := fun W => Lib.hid (name_any e.nm W)
  rw [h2] at HN
  clear h2
  by_cases h3 : 0 ≤ fnd es e.nm
  · have hE : addE es e = 61 := by unfold addE; rw [if_neg (by rw [h1]; simp), if_pos h3]
    have hL : addL es e = [] := by unfold addL; rw [hE]; rfl
    have HL := Lib.hid hL
    rw [hE]
    clear h1 hE hL
    go_enter Tryz.func152, Tryz.ntmps152
    go_wp2_with fail
    refine ((HN _).out).mono ?_
    rintro en w1 ⟨rfl, hb1⟩
    have HB1 := Lib.hid (HA.out.trans (hb1.mono HA.out.size))
    have HE1 := Lib.hid (HE.out.below' hb1)
    clear hb1 HN HE HA c3
    have c3 := HE1.out.c3
    go_wp2_with fail
    refine (find_any A n cp es e.nm w1 (HX.out.below HB1.out) (by omega)).mono ?_
    rintro en w2 ⟨rfl, hb2⟩
    have HB2 := Lib.hid (HB1.out.trans (hb2.mono HB1.out.size))
    clear hb2 HE1 HB1 c3
    go_wp2_with fail
    go_ret2
    exact EsQ.nil HL.out HB2.out
  have h3' : fnd es e.nm < 0 := by omega
  have Hh3 := Lib.hid h3
  have Hh1 := Lib.hid h1
  go_enter Tryz.func152, Tryz.ntmps152
  clear h1 h3
  go_wp2_with fail
  refine ((HN _).out).mono ?_
  rintro en w1 ⟨rfl, hb1⟩
  have HB1 := Lib.hid (HA.out.trans (hb1.mono HA.out.size))
  have HE1 := Lib.hid (HE.out.below' hb1)
  clear hb1 HN HE HA c3
  have c3 := HE1.out.c3
  go_wp2_with fail
  refine (find_any A n cp es e.nm w1 (HX.out.below HB1.out) (by omega)).mono ?_
  rintro en w2 ⟨rfl, hb2⟩
  have HB2 := Lib.hid (HB1.out.trans (hb2.mono HB1.out.size))
  have HE2 := Lib.hid (HE1.out.below' hb2)
  have HX2 := Lib.hid (HX.out.below HB2.out)
  clear hb2 HE1 HB1 c3
  have c0 := HE2.out.c0
  go_wp2_with fail
  go_quiet ((go_at_call 172; exact Calls.quiet_of_same ((lastCookie_any A n cp es _ (HX2.out.drewN _) (by omega)).mono fun _ _ hh => ⟨hh.1, hh.2.symm⟩)))
  have HB3 : Hid (Below w.heap.size w (w2.drewN nq)) := ⟨HB2.out.os, HB2.out.tape, HB2.out.output, HB2.out.size, HB2.out.block⟩
  have HE3 : Hid (EB (w2.drewN nq) w.heap.size 87 e) := HE2.out
  have HX3 : Hid (ES (w2.drewN nq) A n es) := HX2.out
  clear HB2 HE2 HX2 c0
  generalize w2.drewN nq = w3 at *
  by_cases hck : e.ck ≤ lastCk es
  · have hE : addE es e = 70 := by unfold addE; rw [if_neg (by rw [Hh1.out]; simp), if_neg (Int.not_le.2 Hh3.out), if_pos hck]
    have hL : addL es e = [] := by unfold addL; rw [hE]; rfl
    have HL := Lib.hid hL
    have HEE := Lib.hid hE
    have hd : decide (e.ck ≤ lastCk es) = true := decide_eq_true hck
    rw [hd]
    clear hck hE hL hd
    go_wp2_with fail
    go_ret2
    rw [HEE.out]
    exact EsQ.nil HL.out HB3.out
  · have hE : addE es e = 0 := by unfold addE; rw [if_neg (by rw [Hh1.out]; simp), if_neg (Int.not_le.2 Hh3.out), if_neg hck]
    have hL : addL es e = es ++ [e] := if_pos hE
    have HL := Lib.hid hL
    have HEE := Lib.hid hE
    have hd : decide (e.ck ≤ lastCk es) = false := decide_eq_false hck
    rw [hd]
    clear hck hE hL hd
    have HZ : Hid ((w3.alloc (.cells (ec e).toArray 87)).heap.size = w3.heap.size + 1) := by show _ = _; simp
    have hecl := ec_length e
    go_wp2_with (first
      | (refine wpList_load_row rfl 87 (.tmp 3) rfl _ rfl 87 (ec e).toArray (0, 0) _ HE3.out Tryz.underlying87 rfl size_E ?_))
    have hb : Below w3.heap.size w3 ((w3.alloc (.cells (ec e).toArray 87)).alloc (.cells #[.slice A n cp, .slice (some ⟨w3.heap.size, 0, none⟩) 1 1] 47)) := ((Below.refl _ _).alloc (Nat.le_refl _) _).alloc (by simp) _
    have hg : ((w3.alloc (.cells (ec e).toArray 87)).alloc (.cells #[.slice A n cp, .slice (some ⟨w3.heap.size, 0, none⟩) 1 1] 47)).heap[w3.heap.size + 1]? = some (.cells #[.slice A n cp, .slice (some ⟨w3.heap.size, 0, none⟩) 1 1] 47 (0, 0)) := by
      have := heap_alloc_new (w3.alloc (.cells (ec e).toArray 87)) (.cells #[.slice A n cp, .slice (some ⟨w3.heap.size, 0, none⟩) 1 1] 47)
      rwa [HZ.out] at this
    refine (concat_any _ _ n cp 1 1 (w3.heap.size + 1) es [e] ((w3.alloc (.cells (ec e).toArray 87)).alloc (.cells #[.slice A n cp, .slice (some ⟨w3.heap.size, 0, none⟩) 1 1] 47)) hg (HX3.out.below hb) ((EB.new w3 87 e).es.alloc _) (by omega)).mono ?_
    rintro en w4 ⟨A4, c4, rfl, hown, hb4⟩
    have HO4 := Lib.hid hown
    have HB4 := Lib.hid (HB3.out.trans ((hb.trans (hb4.mono hb.size)).mono HB3.out.size))
    clear hown hb4 hb hg
    go_wp2_with fail
    go_ret2
    rw [HEE.out, HL.out]
    exact ⟨A4, n + 1, c4, rfl, ES.of_own HO4.out, own_le HO4.out, HB4.out⟩
end Go.Proofs.YtpbpdnjlomhkdaaGreat

namespace Go.Proofs.YtpbpdnjlomhkdaaGreat
open Go.RowKit Go.Shelf

theorem fnd_range (es : List En) (nm : List UInt8) : fnd es nm < 0 ∨ ∃ k : Nat, fnd es nm = (k : Int) ∧ k < es.length := by
  unfold fnd
  split
  · rename_i h
    exact .inr ⟨_, rfl, h⟩
  · exact .inl (by omega)
/-- What lies behind place k, whatever the capacity. -/
theorem ES.behind {w : World} {b o n c : Nat} {es : List En} (h : ES w (some ⟨b, o, none⟩) n es) (k : Nat) (hk : k ≤ n) (hc : n ≤ c) : ∃ A', (if c = k then some (⟨b, o, none⟩ : Addr) else some ⟨b, o + k * 4, none⟩) = A' ∧ ES w A' (n - k) (es.drop k) := by
  have hd := h.drop hk hc
  refine ⟨_, rfl, ?_⟩
  split
  · rename_i h1
    rw [if_pos h1] at hd
    exact hd
  · rename_i h1
    rw [if_neg h1] at hd
    simp only [Option.map_some, add_plain] at hd
    exact hd

set_option maxRecDepth 100000 in
set_option maxHeartbeats 2000000 in
theorem remove_any (A : Option Addr) (n cp : Nat) (es : List En) (nm : List UInt8) (w : World) (h : ES w A n es) (hc : n ≤ cp) (hcm : cp ≤ 9223372036854775807) (hn : n ≤ 10000000) :
    Calls Tryz.prog 150 #[.slice A n cp, .string (txt nm)] w (EsQ (remL es nm) (remE es nm) w) := by
  have HX := Lib.hid h
  have HN : Hid (es.length = n) := h.1
  have HF := Lib.hid (find_any A n cp es nm w h (by omega))
  rcases fnd_range es nm with h1 | ⟨k, h1, h2⟩
  · have HE : Hid (remE es nm = 60) := if_pos h1
    have HL : Hid (remL es nm = []) := if_pos h1
    clear h
    go_enter Tryz.func150, Tryz.ntmps150
    go_wp2_with fail
    refine (HF.out).mono ?_
    rintro en w1 ⟨rfl, hb1⟩
    have HB1 := Lib.hid hb1
    clear hb1 HF
    go_wp2_with fail
    go_ret2
    rw [HE.out]
    exact EsQ.nil HL.out HB1.out
  · have HE : Hid (remE es nm = 0) := if_neg (by omega)
    have HL : Hid (remL es nm = es.take k ++ es.drop (k + 1)) := by
      show _ = _
      unfold remL
      rw [if_neg (by omega), h1]
      rfl
    have hkn : k < n := by rw [← HN.out]; exact h2
    obtain ⟨b, o, rfl, hbl, _⟩ := h.at hkn
    rw [h1] at HF
    clear h h1 h2
    have q1 : (0 : Int) ≤ (k : Int) := by omega
    have q2 : (k : Int) ≤ (cp : Int) := by omega
    have q3 : (k : Int) + 1 ≤ (n : Int) := by omega
    have q4 : (0 : Int) ≤ (k : Int) + 1 := by omega
    have q5 : ((k : Int) + 1).toNat = k + 1 := by omega
    have q6 : IntKind.i64.wrap ((k : Int) + 1) = (k : Int) + 1 := IntWalk.i64_in _ (by omega)
    have q7 : (n : Int) ≤ (cp : Int) := by omega
    have HBE := Lib.hid (HX.out.behind (k + 1) (by omega) hc)
    by_cases hcp : cp = k + 1
    · obtain ⟨A', e1, e2⟩ := HBE.out
      rw [if_pos hcp] at e1
      subst e1
      subst hcp
      have q8 : (k : Int) ≤ (k : Int) + 1 := by omega
      have q9 : (n : Int) ≤ (k : Int) + 1 := by omega
      rw [show n - (k + 1) = 0 by omega] at e2
      have HBX := Lib.hid e2
      clear e2
      go_enter Tryz.func150, Tryz.ntmps150
      go_wp2_with fail
      refine (HF.out).mono ?_
      rintro en w1 ⟨rfl, hb1⟩
      have HB1 := Lib.hid hb1
      have HX1 := Lib.hid (HX.out.below hb1)
      clear hb1 HF
      go_wp2_with fail
      with_reducible refine wp_region_still_tail 7 (by kernel_rfl) (by kernel_rfl) ?_
      simp only [List.take_succ_cons, List.take_zero, List.drop_succ_cons, List.drop_zero]
      iterate 7 still_step
      refine wpStill_nil ?_
      go_wp2_with fail
      have hal : Below w1.heap.size w1 (w1.alloc (.cells #[.slice (some ⟨b, o, none⟩) k (k + 1), .slice (some ⟨b, o, none⟩) 0 0] 47)).drew := ((Below.refl _ _).alloc (Nat.le_refl _) _).drew
      refine (concat_any (some ⟨b, o, none⟩) (some ⟨b, o, none⟩) k (k + 1) 0 0 w1.heap.size (es.take k) (es.drop (k + 1)) _ (by exact heap_alloc_new w1 _) ((HX1.out.below hal).take (by omega)) ((HBX.out.below HB1.out).below hal) (by omega)).mono ?_
      rintro en w4 ⟨A4, c4, rfl, hown, hb4⟩
      have HO4 := Lib.hid hown
      have HB4 := Lib.hid (HB1.out.trans ((hal.trans (hb4.mono hal.size)).mono HB1.out.size))
      clear hown hb4 hal
      go_wp2_with fail
      go_ret2
      rw [HE.out, HL.out]
      exact ⟨A4, _, c4, rfl, ES.of_own HO4.out, own_le HO4.out, HB4.out⟩
    · obtain ⟨A', e1, e2⟩ := HBE.out
      rw [if_neg hcp] at e1
      subst e1
      have HBX := Lib.hid e2
      clear e2
      go_enter Tryz.func150, Tryz.ntmps150
      go_wp2_with fail
      refine (HF.out).mono ?_
      rintro en w1 ⟨rfl, hb1⟩
      have HB1 := Lib.hid hb1
      have HX1 := Lib.hid (HX.out.below hb1)
      clear hb1 HF
      go_wp2_with fail
      with_reducible refine wp_region_still_tail 7 (by kernel_rfl) (by kernel_rfl) ?_
      simp only [List.take_succ_cons, List.take_zero, List.drop_succ_cons, List.drop_zero]
      iterate 7 still_step
      refine wpStill_nil ?_
      go_wp2_with fail
      have hal : Below w1.heap.size w1 (w1.alloc (.cells #[.slice (some ⟨b, o, none⟩) k cp, .slice (some ⟨b, o + (k + 1) * 4, none⟩) (n - (k + 1)) (cp - (k + 1))] 47)).drew := ((Below.refl _ _).alloc (Nat.le_refl _) _).drew
      refine (concat_any (some ⟨b, o, none⟩) (some ⟨b, o + (k + 1) * 4, none⟩) k cp (n - (k + 1)) (cp - (k + 1)) w1.heap.size (es.take k) (es.drop (k + 1)) _ (by exact heap_alloc_new w1 _) ((HX1.out.below hal).take (by omega)) ((HBX.out.below HB1.out).below hal) (by omega)).mono ?_
      rintro en w4 ⟨A4, c4, rfl, hown, hb4⟩
      have HO4 := Lib.hid hown
      have HB4 := Lib.hid (HB1.out.trans ((hal.trans (hb4.mono hal.size)).mono HB1.out.size))
      clear hown hb4 hal
      go_wp2_with fail
      go_ret2
      rw [HE.out, HL.out]
      exact ⟨A4, _, c4, rfl, ES.of_own HO4.out, own_le HO4.out, HB4.out⟩
end Go.Proofs.YtpbpdnjlomhkdaaGreat

namespace Go.Proofs.YtpbpdnjlomhkdaaGreat
open Go.RowKit

/-- Operations that never begin a call. -/
def plainOp : Op → Bool
  | .move _ | .load .. | .fieldAddr .. | .nilCheck _ => true
  | _ => false

theorem plain_noEnter {ρ : Operand → Value} {o : Oper} (h : plainOp o.op = true) {P : Program} {w w' : World} {f : FuncId} {args : Array Value} : (execOp ρ o).run P w ≠ .ok (.enter f args) w' := by
  unfold execOp
  cases ho : o.op <;> rw [ho] at h <;> first | (simp [plainOp] at h; done) | skip
  case move x => simp
  case load t x =>
    simp only [Sem.run_bind]
    cases (Instr.loadAt t (ρ x)).run P w <;> simp [Result.andThen]
  case fieldAddr s x fl =>
    simp only [Sem.run_bind]
    cases (Instr.fieldAt s (ρ x) fl).run P w <;> simp [Result.andThen]
  case nilCheck x =>
    dsimp only
    split
    · simp [runtimePanic, goPanic, Sem.run_bind, Result.andThen, Sem.run]
    · simp [runtimePanic, goPanic, Sem.run_bind, Result.andThen, Sem.run]
    · simp [runtimePanic, goPanic, Sem.run_bind, Result.andThen, Sem.run]
    · split
      · simp [runtimePanic, goPanic, Sem.run_bind, Result.andThen, Sem.run]
      · simp only [Sem.run_bind, run_program, Result.andThen]
        split
        · split <;> simp [unsupported, Sem.run]
        · simp
      · simp
    · simp

section
variable {F : Fence} {m : Nat} {P : Program} {md : Region.Mode} {ops : Array Oper} {w : World}
theorem wpIn_of_still {o : Oper} {a : Act} {K : Act → Prop} {K' : Act → World → Prop} {Q : Exit → Act → World → Prop} (hp : plainOp o.op = true) (h : ∀ a, K a → K' a w) (hh : o.still P a w K) : o.wpIn F m P a w K' Q := by
  have hc : ∀ c, o.op ≠ .call c := fun c e => by rw [e] at hp; cases hp
  have hd : ∀ c, o.op ≠ .defer c := fun c e => by rw [e] at hp; cases hp
  unfold Oper.still at hh
  cases hr : (execOp a.eval o).run P w with
  | ok x w' =>
    rw [hr] at hh
    cases x <;> simp only [Oper.stillUpon] at hh
    case value v =>
      obtain ⟨rfl, hk⟩ := hh
      exact Did.wpIn hc hd (.inl hr) (h _ hk)
    case skip =>
      obtain ⟨rfl, hk⟩ := hh
      exact Did.wpIn hc hd (.inr ⟨hr, rfl⟩) (h _ hk)
    case enter f args => exact absurd hr (plain_noEnter hp)
  | halt x w' =>
    rw [hr] at hh
    exact hh.elim
theorem about_plain {o : Oper} {a : Act} (hp : plainOp o.op = true) : ∀ f, o.about P w a.eval = some f → F.fn f := fun f hf => by
  unfold Oper.about at hf
  split at hf
  · rename_i hc
    rw [hc] at hp
    cases hp
  · cases hf
theorem wpOpIn_of_stOp {i : Nat} {a : Act} {K : Act → Prop} {K' : Act → World → Prop} {Q : Exit → Act → World → Prop} (hp : ∀ o, ops[i]? = some o → plainOp o.op = true) (h : ∀ a, K a → K' a w) (hh : stOp P ops w i K a) : wpOpIn F m P ops Q i K' a w := by
  unfold stOp at hh
  unfold wpOpIn
  split
  · rename_i ho; simp only [ho] at hh; exact h _ hh
  · rename_i o ho
    simp only [ho] at hh
    split
    · rename_i hw; simp only [hw, if_true] at hh; exact wpIn_of_still (hp o ho) h hh
    · rename_i hw; simp only [hw] at hh; exact ⟨about_plain (hp o ho), h _ hh⟩
theorem wpAnyIn_of_head {n g : Nat} {L : Array Bool → Act → Prop} {Q : Exit → Act → World → Prop} (hp : ∀ i o, i < n → ops[i]? = some o → plainOp o.op = true) (hL : ∀ listed a, L listed a → wpAnyIn F m P md ops Q g listed a w) :
    ∀ (f : Nat) (listed : Array Bool) (a : Act), wpAnyL P md ops w n L f listed a → wpAnyIn F m P md ops Q (f + g) listed a w
  | 0, listed, a, h => by rw [Nat.zero_add]; exact hL _ _ h
  | f + 1, listed, a, h => by
    rw [show f + 1 + g = (f + g) + 1 by omega]
    exact ⟨fun h0 => absurd h0 h.1, fun i hi => wpOpIn_of_stOp (fun o ho => hp i o (h.2 i hi).1 ho) (fun a' h' => wpAnyIn_of_head hp hL f _ a' h') (h.2 i hi).2⟩
/-- The region: n operations that read, then one. -/
theorem wpIn_region_still_one {id : Nat} {Q : Exit → Act → World → Prop} {a : Act} {l : List Oper} (n : Nat) (o : Oper) (hm : P.follows .mixedOrders = true) (hB : Region.lexTailB .any l.toArray n = true) (hlast : l.drop n = [o]) (hp : (l.take n).all (fun o => plainOp o.op) = true)
    (h : wpStill P l.toArray w.drew (fun a' => wpListIn F m P l.toArray Q [o] a' w.drew) (l.take n) a) : (Code.region id l.toArray true).wpIn F m P Q a w := by
  simp only [Region.lexTailB, Bool.and_eq_true, decide_eq_true_eq] at hB
  obtain ⟨⟨⟨⟨hsel, hn⟩, hs⟩, hc⟩, hlex⟩ := hB
  have hn' : n < l.length := by simpa using hn
  have hlen : l.length = n + 1 := by
    have := congrArg List.length hlast
    simp at this
    omega
  have htl : (l.take n).length = n := by simp; omega
  have hon : l[n]? = some o := by
    have := congrArg (fun x => x[0]?) hlast
    simpa [List.getElem?_drop] using this
  have inv0 : HeadInv .any l.toArray n (Array.replicate l.toArray.size false) :=
    ⟨by simp, fun j oj _ hl => (by rw [getD_replicate_false] at hl; cases hl), fun t _ ht => getD_in (by simpa using ht) (getD_replicate_false _ _)⟩
  have H := wpAnyL_lex (md := .any) (g := l.toArray.size - n) hsel hs hc hn (l.take n) 0 _ a (fun j hj => by
    have hj' : j < n := by rw [htl] at hj; exact hj
    simp [hj']) (by simpa using htl) inv0 (by rw [htl]; exact hlex) h
  refine wpIn_region_any hm ?_
  have hp' : ∀ i o, i < n → l.toArray[i]? = some o → plainOp o.op = true := fun i o hi ho => by
    have hm : o ∈ l.take n := List.mem_of_getElem? (i := i) (by rw [List.getElem?_take]; simpa [hi] using ho)
    exact (List.all_eq_true.1 hp) o hm
  have := wpAnyIn_of_head (F := F) (m := m) (Q := Q) (g := l.toArray.size - n) hp' (fun listed a' hL => by
    have hg : l.toArray.size - n = 1 := by simp; omega
    rw [hg] at hL ⊢
    obtain ⟨hq, hl⟩ := hL
    simp only [Region.seqB, Bool.and_eq_true, decide_eq_true_eq] at hq
    refine ⟨fun h0 => absurd h0 (by rw [hq.1]; simp), fun i hi => ?_⟩
    obtain rfl : i = n := by rw [hq.1] at hi; simpa using hi
    unfold wpOpIn
    simp only [List.getElem?_toArray, hon]
    have hrd : Region.ready .any l.toArray (listed.setIfInBounds i true) = [] := by simpa using hq.2
    unfold wpListIn at hl
    split
    · rename_i hw
      rw [if_pos hw] at hl
      exact Oper.wpIn_mono (fun a w hh => ⟨hrd, hh⟩) hl
    · rename_i hw
      rw [if_neg hw] at hl
      exact ⟨hl.1, hrd, hl.2⟩) _ _ _ H
  rw [htl, show n + (l.toArray.size - n) = l.toArray.size by simp; omega] at this
  exact this
theorem Did.listIn {o : Oper} {a : Act} {w' : World} {v : Value} {rest : List Oper} {Q : Exit → Act → World → Prop} (hg : o.guard = none) (hc : ∀ c, o.op ≠ .call c) (hd : ∀ c, o.op ≠ .defer c) (h : Did P o a w v w') (hK : wpListIn F m P ops Q rest (a.put o.dst v) w') : wpListIn F m P ops Q (o :: rest) a w := by
  have hw : Region.wanted o (yielded ops a.tmps) = true := by simp [Region.wanted, hg]
  unfold wpListIn
  rw [if_pos hw]
  exact h.wpIn hc hd hK
theorem wpListIn_alloc_any {o : Oper} {a : Act} {rest : List Oper} {Q : Exit → Act → World → Prop} (hg : o.guard = none) (ty : TypeId) (ho : o.op = .alloc ty) (z : Value) (hz : (P.info? ty).bind (·.zero) = some z)
    (h : ∀ w', w'.heap[w.heap.size]? = some (.cells z.cells ty (0, 0)) → w'.heap.size = w.heap.size + 1 → Below w.heap.size w w' → wpListIn F m P ops Q rest (a.put o.dst (.pointer (some ⟨w.heap.size, 0, none⟩))) w') : wpListIn F m P ops Q (o :: rest) a w :=
  (did_alloc ty ho z hz).listIn hg (by rw [ho]; intro c h; cases h) (by rw [ho]; intro c h; cases h) (h _ (heap_alloc_new w _) (by simp) ((Below.refl _ _).alloc (Nat.le_refl _) _))
theorem wpListIn_store_any {o : Oper} {a : Act} {rest : List Oper} {Q : Exit → Act → World → Prop} (hgd : o.guard = none) (ty : TypeId) (x y : Operand) (ho : o.op = .store ty x y) (g : Nat) (cells : Array Value) (hx : a.eval x = .pointer (some ⟨g, 0, none⟩)) (hy : a.eval y = .agg cells)
    (t : TypeId) (old : Array Value) (hg : w.heap[g]? = some (.cells old t (0, 0))) (hi : (P.info? ty).map (·.size) = some cells.size) (hold : old.size = cells.size) (h1 : cells.all (·.oneCell') = true)
    (h : ∀ w', w'.heap[g]? = some (.cells cells t (0, 0)) → w'.heap.size = w.heap.size → Keep (· ≠ g) w w' → wpListIn F m P ops Q rest (a.put o.dst undef) w') : wpListIn F m P ops Q (o :: rest) a w :=
  (did_store ty x y ho g cells hx hy t old hg hi hold h1).listIn hgd (by rw [ho]; intro c h; cases h) (by rw [ho]; intro c h; cases h) (h _ (setRow_heap w g old cells t _ hg) (by simp) (setRow_keep g cells))
theorem wpListIn_update_any {o : Oper} {a : Act} {rest : List Oper} {Q : Exit → Act → World → Prop} {b : Nat} {z : List UInt8} {G : Int → List UInt8} (hgd : o.guard = none) (h : IsMap w b z G) (t k e : TypeId) (mo x y : Operand) (ho : o.op = .mapUpdate t mo x y)
    (ht : P.underlying t = some (.map k e)) (hk : P.underlying k = some (.int .i64)) (i : Int) (l : List UInt8) (hm : a.eval mo = .map (some b)) (hx : a.eval x = .int .i64 i) (hy : a.eval y = .agg (bc l).toArray)
    (hK : ∀ w', IsMap w' b z (fun j => if j = i then l else G j) → w.grownBy w' (some b) → w'.heap.size = w.heap.size → wpListIn F m P ops Q rest (a.put o.dst undef) w') : wpListIn F m P ops Q (o :: rest) a w := by
  obtain ⟨w', hd, h1, h2, h3⟩ := h.did_update (P := P) (o := o) (a := a) mo x y ho ht hk i l hm hx hy
  exact hd.listIn hgd (by rw [ho]; intro c h; cases h) (by rw [ho]; intro c h; cases h) (hK w' h1 h2 h3)
end
end Go.Proofs.YtpbpdnjlomhkdaaGreat

namespace Go.Proofs.YtpbpdnjlomhkdaaGreat
open Go.RowKit Go.Shelf
attribute [local go_sem] Oper.semAt_some

theorem ES.keepK {K : Nat → Prop} {w w' : World} {A : Option Addr} {n : Nat} {es : List En} (h : ES w A n es) (hk : Keep K w w') (hA : 0 < n → ∀ ad, A = some ad → K ad.block) : ES w' A n es :=
  ⟨h.1, fun hn => by
    obtain ⟨b, o, e, hc⟩ := h.2 hn
    exact ⟨b, o, e, fun j hj i v hv => (World.cell?_of_block (hk.block b (hA hn _ e))).trans (hc j hj i v hv)⟩⟩
theorem EB.load {w : World} {g : Nat} {t : TypeId} {e : En} (h : EB w g t e) : ∀ j u, (ec e)[j]? = some u → w.cell? ((⟨g, 0, none⟩ : Addr).add j) = some u := fun j u hu => by
  rw [add_plain, Nat.zero_add]
  exact h.cell j u hu
theorem Keep.bel {K : Nat → Prop} {a w w' : World} (h : Keep K a w) (hK : ∀ k, K k → k < a.heap.size) (hb : Below w.heap.size w w') : Keep K a w' :=
  h.trans ⟨hb.os, hb.tape, hb.output, hb.size, fun k hk => hb.block k (Nat.lt_of_lt_of_le (hK k hk) h.size)⟩

set_option maxHeartbeats 400000 in
theorem values_any (A : Option Addr) (m c : Nat) (w : World) :
    Calls Tryz.prog 173 #[.slice A m c] w fun e w' =>
      e = .returned (.func (.func 183) #[] #[.pointer (some ⟨w.heap.size, 0, none⟩)]) ∧ w' = w.alloc (.cells #[.slice A m c] 47) := by
  go_enter Tryz.func173, Tryz.ntmps173
  go_wp2
  go_ret
  exact ⟨rfl, rfl⟩

set_option maxRecDepth 100000 in
set_option maxHeartbeats 2000000 in
theorem vals1_in (n : Nat) (hn : 1 ≤ n) (l Bs : Nat) (A : Option Addr) (m c : Nat) (es : List En) (K : Nat → Prop) (J Jx : List En → World → Prop)
    (hY : ∀ pre (x : En) W, J pre W → pre.length < es.length → YieldAt Fence.wide (n - 1) Tryz.prog l #[.agg (ec x).toArray] W fun e W' =>
      (e = .returned (.bool true) ∧ J (pre ++ [x]) W' ∧ Keep K W W') ∨ (e = .returned (.bool false) ∧ Jx (pre ++ [x]) W'))
    (W : World) (hJ : AbidesFrom W.heap.size J) (hBs : W.cell? ⟨Bs, 0, none⟩ = some (.slice A m c)) (hE : ES W A m es) (hKA : 0 < m → ∀ ad, A = some ad → K ad.block) (hKl : ∀ k, K k → k < W.heap.size) (hm : m ≤ 100000000) (h0 : J [] W) :
    CallsIn Fence.wide n Tryz.prog 183 #[.func (.yield l) #[] #[], .pointer (some ⟨Bs, 0, none⟩)] W fun e W' => (∃ v, e = .returned v) ∧
      ((∃ ys, ys = es ∧ J ys W') ∨ (∃ pre, (∃ r, es = pre ++ r) ∧ Jx pre W')) := by
  have HE := Lib.hid hE
  have HN : Hid (es.length = m) := hE.1
  have HKA := Lib.hid hKA
  have HKl := Lib.hid hKl
  have HJB : Hid (∀ pre V V', J pre V → Below V.heap.size V V' → J pre V') := fun pre V V' h hb => hJ pre V V' none h (below_grown hb) (fun r e => by cases e)
  clear hE hKA hKl hJ
  refine callsIn_of_wp Tryz.func183 rfl trivial ?_ rfl
  simp only [Tryz.ntmps183, List.size_toArray, List.length_cons, List.length_nil, Nat.reduceAdd, Nat.reduceSub, Array.replicate_succ, Array.replicate_zero, List.push_toArray, List.append_toArray, List.nil_append, List.cons_append]
  gi_wp2
  gi_loopw [7] (fun i wr => ∃ k : Nat, k ≤ m ∧ i = .int .i64 k ∧ Hid (J (es.take k) wr) ∧ Hid (Keep K W wr)) (fun i _ => m - (intOf i).toNat)
  case atStart => exact ⟨0, Nat.zero_le _, rfl, h0, Keep.refl _ _⟩
  case round =>
    clear hBs
    obtain ⟨k, hk, rfl, hJs, HK⟩ := hrel
    by_cases hlt : k < m
    · have HEr : Hid (ES wr A m es) := HE.out.keepK HK.out HKA.out
      obtain ⟨b, o, rfl, hb, hj, hc⟩ := HEr.out.load hlt
      have HC := Lib.hid hc
      have HT : Hid (es.take (k + 1) = es.take k ++ [es[k]]) := List.take_succ_eq_append_getElem hj
      have HPL : Hid ((es.take k).length < es.length) := by show _ < _; rw [List.length_take]; omega
      have HPR : Hid (∃ r, es = es.take (k + 1) ++ r) := ⟨es.drop (k + 1), (List.take_append_drop _ _).symm⟩
      have HY := Lib.hid hY
      rw [HT.out] at HPR
      clear hY h0 hc
      generalize es.take k = pre at *
      generalize es[k] = x at *
      gi_wp2_with (first
        | (refine Did.listIn rfl (by intro c h; cases h) (by intro c h; cases h) (did_load 87 (.tmp 9) rfl ⟨b, o + k * 4, none⟩ rfl _ Tryz.underlying87 rfl (ec x) size_E HC.out) ?_)
        | (refine wpListIn_alloc_any rfl 87 rfl _ zero_E ?_
           intro w1 hb1 hs1 hw1)
        | (refine wpListIn_store_any rfl 87 (.tmp 4) (.tmp 10) rfl wr.heap.size (ec x).toArray rfl rfl 87 _ hb1 size_E rfl (ec_one x) ?_
           intro w2 hb2 hs2 hw2
           have HBE := Lib.hid (box_E hw1 hb2 hw2)
           have HLD := Lib.hid HBE.out.1.load
           have HJ2 := Lib.hid (HJB.out _ _ _ hJs.out HBE.out.2)
           obtain ⟨fn, tmps, assign, body, hy, hR⟩ := HY.out _ x w2 HJ2.out HPL.out
           have HR := Lib.hid hR
           have HK2 := Lib.hid (HK.out.bel HKl.out HBE.out.2)
           clear hb1 hs1 hw1 hb2 hs2 hw2 hR)
        | (refine Did.listIn rfl (by intro c h; cases h) (by intro c h; cases h) (did_load 87 (.tmp 4) rfl ⟨wr.heap.size, 0, none⟩ rfl _ Tryz.underlying87 rfl (ec x) size_E HLD.out) ?_))
      refine HR.out.mono ?_
      rintro e W3 (⟨rfl, hJ3, hk3⟩ | ⟨rfl, hJx3⟩)
      · have HJ3 := Lib.hid hJ3
        have HK3 := Lib.hid (HK2.out.trans hk3)
        clear hJ3 hk3 hy
        gi_wp2
        go_roundw
        case rel => exact ⟨k + 1, by omega, by simp, by rw [HT.out]; exact HJ3.out, HK3.out⟩
        case measure => simp [intOf]; omega
      · have HJx3 := Lib.hid hJx3
        clear hJx3 hy
        gi_wp2
        refine bodyPost_ret (results_none rfl _ _ _) rfl ?_
        exact ⟨⟨_, rfl⟩, .inr ⟨_, HPR.out, HJx3.out⟩⟩
    · obtain rfl : k = m := by omega
      have HT : Hid (es.take k = es) := List.take_of_length_le (by have := HN.out; omega)
      rw [HT.out] at hJs
      gi_wp2
      go_end0
      exact ⟨⟨_, rfl⟩, .inl ⟨_, rfl, hJs.out⟩⟩
end Go.Proofs.YtpbpdnjlomhkdaaGreat

namespace Go.Proofs.YtpbpdnjlomhkdaaGreat
open Go.RowKit Go.Shelf
attribute [local go_sem] Oper.semAt_some

theorem frm_le (es : List En) (c : Nat) : frm es c ≤ es.length := List.findIdx_le_length
/-- What from hands back: the function of slices.Values over what lies behind. -/
def FromP (A : Option Addr) (n : Nat) (es : List En) (c : Nat) (w : World) (e : Ending) (w' : World) : Prop :=
  ∃ q A' m' c', e = .returned (.func (.func 183) #[] #[.pointer (some ⟨q, 0, none⟩)]) ∧ w'.heap[q]? = some (.cells #[.slice A' m' c'] 47 (0, 0)) ∧ w.heap.size ≤ q ∧ Below w.heap.size w w' ∧
    ES w A' m' (es.drop (frm es c)) ∧ m' ≤ n ∧ (0 < m' → ∀ ad, A' = some ad → ∃ a0, A = some a0 ∧ ad.block = a0.block)

set_option maxRecDepth 100000 in
set_option maxHeartbeats 2000000 in
theorem from_any (A : Option Addr) (n cp : Nat) (es : List En) (B c : Nat) (w : World) (h : ES w A n es) (hc : n ≤ cp) (hcm : cp ≤ 9223372036854775807) (hn : n ≤ 10000000) (hB : w.cell? ⟨B, 0, none⟩ = some (.int .u64 (c : Int))) :
    Calls Tryz.prog 153 #[.slice A n cp, .func (.func 154) #[] #[.pointer (some ⟨B, 0, none⟩)]] w (FromP A n es c w) := by
  have HX := Lib.hid h
  have HN : Hid (es.length = n) := h.1
  have HC := Lib.hid (indexFunc_any A n cp es w h (by omega) 154 (.pointer (some ⟨B, 0, none⟩)) (fun e => decide (c < e.ck)) (enters_of Tryz.func154 (by kernel_rfl) rfl)
    (fun W e hW => afterC_any e B c W ((hW.cell (p := ⟨B, 0, none⟩) (World.block_lt_of_cell? w _ hB)).trans hB)))
  have hf : frm es c = es.findIdx (fun e => decide (c < e.ck)) := rfl
  have hle := frm_le es c
  have HD := Lib.hid (h.drop (k := frm es c) (by rw [← h.1]; exact hle) hc)
  unfold fndP at HC
  rw [← hf] at HC
  have hfn : frm es c ≤ n := by rw [← HN.out]; exact hle
  have HFE : Hid (frm es c = frm es c) := rfl
  by_cases hlt : frm es c < es.length
  · rw [if_pos hlt] at HC
    have hkn : frm es c < n := by rw [← HN.out]; exact hlt
    obtain ⟨b, o, rfl, hbl, _⟩ := h.at hkn
    clear h hB hf hle hlt
    generalize hk : frm es c = k at *
    have HK := Lib.hid hk
    clear hk
    have q1 : (0 : Int) ≤ (k : Int) := by omega
    have q2 : (k : Int) ≤ (n : Int) := by omega
    have q7 : (n : Int) ≤ (cp : Int) := by omega
    have q8 : (k : Int) ≤ (cp : Int) := by omega
    have q9 : ¬ cp = k := by omega
    go_enter Tryz.func153, Tryz.ntmps153
    go_wp2_with fail
    refine (HC.out).mono ?_
    rintro en w1 ⟨rfl, hb1⟩
    have HB1 := Lib.hid hb1
    clear hb1 HC
    go_wp2_with fail
    refine (values_any _ _ _ _).mono ?_
    rintro en w2 ⟨rfl, hw2⟩
    have HW2 := Lib.hid hw2
    clear hw2
    go_wp2_with fail
    go_ret
    unfold FromP
    rw [HK.out, HW2.out]
    refine ⟨w1.heap.size, _, _, _, rfl, heap_alloc_new w1 _, HB1.out.size, HB1.out.trans ((Below.refl _ _).alloc HB1.out.size _), ?_, by omega, ?_⟩
    · have hd := HD.out
      rw [if_neg q9] at hd
      simp only [Option.map_some, add_plain] at hd
      exact hd
    · intro _ ad e
      injection e with e
      subst e
      exact ⟨_, rfl, rfl⟩
  · rw [if_neg hlt] at HC
    have hkn : frm es c = n := by rw [← HN.out]; omega
    have HDR : Hid (es.drop (frm es c) = []) := by show _ = _; exact List.drop_of_length_le (by omega)
    clear h hB hf hle hlt HD hfn hkn HFE
    have q7 : (n : Int) ≤ (cp : Int) := by omega
    by_cases q9 : cp = n
    · subst q9
      go_enter Tryz.func153, Tryz.ntmps153
      go_wp2_with fail
      refine (HC.out).mono ?_
      rintro en w1 ⟨rfl, hb1⟩
      have HB1 := Lib.hid hb1
      clear hb1 HC
      go_wp2_with fail
      refine (values_any _ _ _ _).mono ?_
      rintro en w2 ⟨rfl, hw2⟩
      have HW2 := Lib.hid hw2
      clear hw2
      go_wp2_with fail
      go_ret
      unfold FromP
      rw [HDR.out, HW2.out]
      exact ⟨w1.heap.size, A, 0, 0, rfl, heap_alloc_new w1 _, HB1.out.size, HB1.out.trans ((Below.refl _ _).alloc HB1.out.size _), ES.nil, Nat.zero_le _, fun h => absurd h (Nat.lt_irrefl 0)⟩
    · rcases A with _ | ad
      · go_enter Tryz.func153, Tryz.ntmps153
        go_wp2_with fail
        refine (HC.out).mono ?_
        rintro en w1 ⟨rfl, hb1⟩
        have HB1 := Lib.hid hb1
        clear hb1 HC
        go_wp2_with fail
        refine (values_any _ _ _ _).mono ?_
        rintro en w2 ⟨rfl, hw2⟩
        have HW2 := Lib.hid hw2
        clear hw2
        go_wp2_with fail
        go_ret
        unfold FromP
        rw [HDR.out, HW2.out]
        exact ⟨w1.heap.size, none, 0, _, rfl, heap_alloc_new w1 _, HB1.out.size, HB1.out.trans ((Below.refl _ _).alloc HB1.out.size _), ES.nil, Nat.zero_le _, fun h => absurd h (Nat.lt_irrefl 0)⟩
      · go_enter Tryz.func153, Tryz.ntmps153
        go_wp2_with fail
        refine (HC.out).mono ?_
        rintro en w1 ⟨rfl, hb1⟩
        have HB1 := Lib.hid hb1
        clear hb1 HC
        go_wp2_with fail
        refine (values_any _ _ _ _).mono ?_
        rintro en w2 ⟨rfl, hw2⟩
        have HW2 := Lib.hid hw2
        clear hw2
        go_wp2_with fail
        go_ret
        unfold FromP
        rw [HDR.out, HW2.out]
        exact ⟨w1.heap.size, _, 0, _, rfl, heap_alloc_new w1 _, HB1.out.size, HB1.out.trans ((Below.refl _ _).alloc HB1.out.size _), ES.nil, Nat.zero_le _, fun h => absurd h (Nat.lt_irrefl 0)⟩
end Go.Proofs.YtpbpdnjlomhkdaaGreat

namespace Go.Proofs.YtpbpdnjlomhkdaaGreat
open Go.RowKit Go.Shelf
attribute [local go_sem] Oper.semAt_some

theorem wpListIn_append_es {F : Fence} {m : Nat} {P : Program} (w : World) {ops : Array Oper} {rest : List Oper} {o : Oper} {a : Act} {Q : Exit → Act → World → Prop}
    (hgd : o.guard = none) (s x : Operand) (t : TypeId) (hop : o.op = Op.call { callee := Callee.builtin Builtin.append, args := #[s, x], argTypes := #[t, t] })
    (base : Nat) (e : TypeId) (i : TypeInfo) (z : Value) (ht : P.underlying t = some (.slice e)) (hi : P.info? e = some i) (hz : i.zero = some z) (hsize : i.size = 4) (hby : i.bytes = 32) (hzs : z.cells.size = 4)
    (A0 : Option Addr) (n0 c0 : Nat) (l0 : List En) (hs : a.eval s = .slice A0 n0 c0) (hown : w.ownsRow base e 4 (.slice A0 n0 c0) n0 (ecs l0))
    (A : Option Addr) (k c : Nat) (l : List En) (hx : a.eval x = .slice A k c) (hr : ES w A k l) (hb : n0 + k ≤ 400000000) (hbase : base ≤ w.heap.size)
    (h : ∀ A' c' w', w'.ownsRow base e 4 (.slice A' (n0 + k) c') (n0 + k) (ecs (l0 ++ l)) → w.grownBy w' (Value.slice A0 n0 c0).ownBlock → wpListIn F m P ops Q rest (a.put o.dst (.slice A' (n0 + k) c')) w') : wpListIn F m P ops Q (o :: rest) a w := by
  refine wpListIn_plain hgd fun K hK' => ?_
  obtain ⟨A', c', w', hrun, r1, r2, _⟩ := run_append_es (P := P) w base t o.type e i z ht hi hz hsize hby hzs A0 n0 c0 l0 hown A k c l hr hb hbase
  unfold Oper.wpIn
  refine ⟨?_, ?_⟩
  · simp [Oper.about, hop, resolve, Target.leads, Sem.run_pure]
  · rw [Oper.semAt_plain F _ _ (by rw [hop]; intro c hc'; cases hc')]
    simp [execOp, hop, resolve, invoke, builtin, hs, hx, hrun, Result.andThen]
    exact hK' _ _ (h A' c' w' r1 r2)

/-- What After knows between two rounds: what was taken lies in a row of its own. -/
structure AfI (W0 : World) (b : Nat) (most : Int) (pre : List En) (W : World) : Prop where
  keep : Keep (fun k => k ≠ b ∧ k < W0.heap.size) W0 W
  st : ∃ A c, W.heap[b]? = some (.cells #[.slice A pre.length c] 47 (0, 0)) ∧ W.ownsRow W0.heap.size 87 4 (.slice A pre.length c) pre.length (ecs pre)
  few : (pre.length : Int) ≤ max most 0
  blt : b < W0.heap.size
theorem own_ncells {W W' : World} {base : Nat} {t : TypeId} {v : Value} {n : Nat} {xs : List Value} {row : Option Nat} (h : W.ownsRow base t 4 v n xs) (hg : W.grownBy W' row) (hr : ∀ r, row = some r → ∃ o : Obj, W.heap[r]? = some o ∧ o.isCells = false) : W'.ownsRow base t 4 v n xs := by
  refine h.kept hg ?_
  rcases h.2 with ⟨h1, _⟩ | ⟨g, cap, cur, h1, _, h2, _⟩
  · left; rw [h1]; rfl
  · right
    rw [h1]
    intro e
    obtain ⟨o, ho, hc⟩ := hr g (by rw [← e]; rfl)
    rw [h2] at ho
    injection ho with ho
    subst ho
    cases hc
theorem AfI.grown {W0 : World} {b : Nat} {most : Int} {pre : List En} {W W' : World} {row : Option Nat} (h : AfI W0 b most pre W) (hg : W.grownBy W' row) (hr : ∀ r, row = some r → W0.heap.size ≤ r ∧ ∃ o : Obj, W.heap[r]? = some o ∧ o.isCells = false) : AfI W0 b most pre W' := by
  have hs := h.keep.size
  obtain ⟨A, c, h1, h2⟩ := h.st
  have hb := h.blt
  exact ⟨h.keep.trans ⟨hg.os, hg.tape, hg.output, hg.size, fun k hk => hg.block k (by omega) (fun e => by have := (hr k e.symm).1; omega)⟩,
    ⟨A, c, (hg.block _ (by omega) (fun e => by have := (hr b e.symm).1; omega)).trans h1, own_ncells h2 hg fun r e => (hr r e).2⟩, h.few, h.blt⟩
theorem AfI.own {W0 : World} {b : Nat} {most : Int} : OwnFrom W0.heap.size (AfI W0 b most) := fun _ _ _ _ h hg hr => h.grown hg hr
/-- What After knows behind its early return. -/
structure AfX (W0 : World) (b b6 b7 : Nat) (most : Int) (c : Code) (pre : List En) (W : World) : Prop where
  ret : c = Code.ret
  keep : Keep (fun k => k ≠ b6 ∧ k ≠ b7 ∧ k ≠ b ∧ k < W0.heap.size) W0 W
  st : ∃ A c, W.heap[b6]? = some (.cells #[.slice A pre.dropLast.length c] 47 (0, 0)) ∧ W.ownsRow W0.heap.size 87 4 (.slice A pre.dropLast.length c) pre.dropLast.length (ecs pre.dropLast)
  no : W.heap[b7]? = some (.cells #[.bool false] 4 (0, 0))
  few : (pre.dropLast.length : Int) = max most 0
  ne : pre ≠ []
  lt : b6 < W0.heap.size ∧ b7 < W0.heap.size
theorem AfX.own {W0 : World} {b b6 b7 : Nat} {most : Int} {c : Code} : OwnFrom W0.heap.size (AfX W0 b b6 b7 most c) := fun pre W W' row h hg hr => by
  have hs := h.keep.size
  obtain ⟨A, cc, h1, h2⟩ := h.st
  have hl := h.lt
  exact ⟨h.ret, h.keep.trans ⟨hg.os, hg.tape, hg.output, hg.size, fun k hk => hg.block k (by omega) (fun e => by have := (hr k e.symm).1; omega)⟩,
    ⟨A, cc, (hg.block _ (by omega) (fun e => by have := (hr b6 e.symm).1; omega)).trans h1, own_ncells h2 hg fun r e => (hr r e).2⟩, (hg.block _ (by omega) (fun e => by have := (hr b7 e.symm).1; omega)).trans h.no, h.few, h.ne, h.lt⟩
/-- The loop's variable in a block of its own. -/
def AfA (W0 : World) (f : Nat → Act) (x : En) (a : Act) (W : World) : Prop := ∃ q, W0.heap.size ≤ q ∧ EB W q 87 x ∧ a = f q
theorem AfA.own {W0 : World} {f : Nat → Act} {x : En} {a : Act} : OwnFrom W0.heap.size (fun (_ : Unit) W => AfA W0 f x a W) := fun _ W W' row h hg hr => by
  obtain ⟨q, h1, h2, h3⟩ := h
  refine ⟨q, h1, (hg.block q h2.lt (fun e => ?_)).trans h2, h3⟩
  obtain ⟨o, ho, hc⟩ := (hr q e.symm).2
  unfold EB at h2
  rw [h2] at ho
  injection ho with ho
  subst ho
  cases hc
/-- What After hands back. -/
def AftP (es : List En) (c : Nat) (most : Int) (w : World) (en : Ending) (w' : World) : Prop := ∃ A n cp, en = .returned (.tuple #[.slice A n cp, .bool (aftB es c most)]) ∧ ES w' A n (aftL es c most) ∧ n ≤ cp ∧ Below w.heap.size w w'

theorem vals_stops (n : Nat) (hn : 1 ≤ n) (Bs : Nat) (A : Option Addr) (m c : Nat) (es : List En) (K : Nat → Prop) (w : World) (hBs : w.cell? ⟨Bs, 0, none⟩ = some (.slice A m c)) (hE : ES w A m es) (hKA : 0 < m → ∀ ad, A = some ad → K ad.block) (hKl : ∀ k, K k → k < w.heap.size) (hm : m ≤ 100000000) :
    SeqStopsK Fence.wide n Tryz.prog 183 #[.pointer (some ⟨Bs, 0, none⟩)] (fun x : En => #[Value.agg (ec x).toArray]) (Keep K) (fun ys => ys = es) (fun pre => ∃ r, es = pre ++ r) es.length w := fun l J Jx W hW hJ _ hY h0 =>
  vals1_in n hn l Bs A m c es K J Jx hY W hJ ((hW.cell (p := ⟨Bs, 0, none⟩) (World.block_lt_of_cell? w _ hBs)).trans hBs) (hE.below hW) hKA (fun k hk => Nat.lt_of_lt_of_le (hKl k hk) hW.size) hm h0
theorem foldl_one (p : Tmp) (v : Value) (t : Array Value) : (#[p].zip #[v]).foldl (fun (t : Array Value) (x : Tmp × Value) => match x with | (p, v) => t.setIfInBounds p v) t = t.setIfInBounds p v := by simp
theorem Keep.trans2 {b b6 b7 B : Nat} {a w w' : World} (h : Keep (fun k => k ≠ b ∧ k < B) a w) (k : Keep (fun k => k ≠ b6 ∧ k ≠ b7) w w') : Keep (fun k => k ≠ b6 ∧ k ≠ b7 ∧ k ≠ b ∧ k < B) a w' :=
  (h.mono fun _ hk => ⟨hk.2.2.1, hk.2.2.2⟩).trans (k.mono fun _ hk => ⟨hk.1, hk.2.1⟩)
theorem results_two {t u : TypeId} {fn : Func} {p q : Tmp} (h : fn.results = #[.cell p t, .cell q u]) (tmps : Array Value) (w : World) (a b : Addr) (v x : Value) (hp : tmps.getD p undef = .pointer (some a)) (hq : tmps.getD q undef = .pointer (some b))
    (hu : (Tryz.prog.underlying t).map (fun d => match d with | .struct _ | .array _ _ => true | _ => false) = some false) (hu2 : (Tryz.prog.underlying u).map (fun d => match d with | .struct _ | .array _ _ => true | _ => false) = some false) (hc : w.cell? a = some v) (hc2 : w.cell? b = some x) :
    (results fn tmps).run Tryz.prog w = .ok (.tuple #[v, x]) w := by
  have hp' : tmps[p]?.getD undef = .pointer (some a) := by simpa using hp
  have hq' : tmps[q]?.getD undef = .pointer (some b) := by simpa using hq
  have one : ∀ (t : TypeId) (ad : Addr) (v : Value), (Tryz.prog.underlying t).map (fun d => match d with | .struct _ | .array _ _ => true | _ => false) = some false → w.cell? ad = some v → (loadVar t ad).run Tryz.prog w = .ok v w := by
    intro t ad v hu hc
    have hagg : (isAgg t).run Tryz.prog w = .ok false w := by
      cases hq : Tryz.prog.underlying t with
      | none => simp [hq] at hu
      | some d =>
        unfold isAgg
        rw [Sem.run_bind, run_underlying hq w]
        cases d <;> simp_all
    unfold loadVar
    rw [Sem.run_bind, hagg]
    simp [hc]
  simp [results, h, hp', hq', asAddr, one t a v hu hc, one u b x hu2 hc2]
theorem put_block {W : World} {k Dd : Nat} {o o' : Obj} (h : W.heap[k]? = some o) (hk : k ≠ Dd) : (W.putObj Dd o').heap[k]? = some o := by
  have hg := grownBy_putObj' W Dd o'
  exact (hg.block k (Array.getElem?_eq_some_iff.1 h).1 (fun e => hk (by simpa using e))).trans h
/-- Both results are stored; then the mark of the calls that wait is put away. -/
theorem fin2 {W : World} {b6 b7 D : Nat} {u6 u7 : Value} {t6 t7 : TypeId} (hne : b6 ≠ b7) (h6 : W.heap[b6]? = some (.cells #[u6] t6 (0, 0))) (h7 : W.heap[b7]? = some (.cells #[u7] t7 (0, 0))) (v6 v7 : Value) (hK : W.heap[D]? = some (.deferred (some []))) (hD6 : b6 < D) (hD7 : b7 < D) :
    ((W.setCell ⟨b6, 0, none⟩ v6).setCell ⟨b7, 0, none⟩ v7).heap[b6]? = some (.cells #[v6] t6 (0, 0)) ∧ ((W.setCell ⟨b6, 0, none⟩ v6).setCell ⟨b7, 0, none⟩ v7).heap[b7]? = some (.cells #[v7] t7 (0, 0)) ∧ ((W.setCell ⟨b6, 0, none⟩ v6).setCell ⟨b7, 0, none⟩ v7).heap[D]? = some (.deferred (some [])) := by
  have e6 : (W.setCell ⟨b6, 0, none⟩ v6).heap[b6]? = some (.cells #[v6] t6 (0, 0)) := by
    rw [setCell_eq_setRow _ _ _ _ _ _ _ h6, setRow_heap _ _ _ _ _ _ h6]
    simp
  have e7 : (W.setCell ⟨b6, 0, none⟩ v6).heap[b7]? = some (.cells #[u7] t7 (0, 0)) := (Below.heap_setCell _ ⟨b6, 0, none⟩ _ _ (fun e => hne e.symm)).trans h7
  refine ⟨(Below.heap_setCell _ ⟨b7, 0, none⟩ _ _ hne).trans e6, ?_, ?_⟩
  · rw [setCell_eq_setRow _ _ _ _ _ _ _ e7, setRow_heap _ _ _ _ _ _ e7]
    simp
  · rw [Below.heap_setCell _ ⟨b7, 0, none⟩ _ _ (by show D ≠ b7; omega), Below.heap_setCell _ ⟨b6, 0, none⟩ _ _ (by show D ≠ b6; omega)]
    exact hK
/-- Five blocks that a call lays. -/
theorem five (w : World) (a1 a2 a3 a4 a5 : Array Value) (t1 t2 t3 t4 t5 : TypeId) : ∃ W, (((((w.alloc (.cells a1 t1)).alloc (.cells a2 t2)).alloc (.cells a3 t3)).alloc (.cells a4 t4)).alloc (.cells a5 t5)) = W ∧ W.heap.size = w.heap.size + 5 ∧ Below w.heap.size w W ∧
    W.heap[w.heap.size]? = some (.cells a1 t1 (0, 0)) ∧ W.heap[w.heap.size + 1]? = some (.cells a2 t2 (0, 0)) ∧ W.heap[w.heap.size + 1 + 1]? = some (.cells a3 t3 (0, 0)) ∧ W.heap[w.heap.size + 1 + 1 + 1]? = some (.cells a4 t4 (0, 0)) ∧ W.heap[w.heap.size + 1 + 1 + 1 + 1]? = some (.cells a5 t5 (0, 0)) := by
  have s1 : (w.alloc (.cells a1 t1)).heap.size = w.heap.size + 1 := by simp
  have s2 : ((w.alloc (.cells a1 t1)).alloc (.cells a2 t2)).heap.size = w.heap.size + 1 + 1 := by simp
  have s3 : (((w.alloc (.cells a1 t1)).alloc (.cells a2 t2)).alloc (.cells a3 t3)).heap.size = w.heap.size + 1 + 1 + 1 := by simp
  have s4 : ((((w.alloc (.cells a1 t1)).alloc (.cells a2 t2)).alloc (.cells a3 t3)).alloc (.cells a4 t4)).heap.size = w.heap.size + 1 + 1 + 1 + 1 := by simp
  have n1 := heap_alloc_new w (.cells a1 t1)
  have n2 := heap_alloc_new (w.alloc (.cells a1 t1)) (.cells a2 t2)
  have n3 := heap_alloc_new ((w.alloc (.cells a1 t1)).alloc (.cells a2 t2)) (.cells a3 t3)
  have n4 := heap_alloc_new (((w.alloc (.cells a1 t1)).alloc (.cells a2 t2)).alloc (.cells a3 t3)) (.cells a4 t4)
  have n5 := heap_alloc_new ((((w.alloc (.cells a1 t1)).alloc (.cells a2 t2)).alloc (.cells a3 t3)).alloc (.cells a4 t4)) (.cells a5 t5)
  rw [s1] at n2
  rw [s2] at n3
  rw [s3] at n4
  rw [s4] at n5
  have b5 := Below.heap_alloc ((((w.alloc (.cells a1 t1)).alloc (.cells a2 t2)).alloc (.cells a3 t3)).alloc (.cells a4 t4)) (.cells a5 t5)
  have b4 := Below.heap_alloc (((w.alloc (.cells a1 t1)).alloc (.cells a2 t2)).alloc (.cells a3 t3)) (.cells a4 t4)
  have b3 := Below.heap_alloc ((w.alloc (.cells a1 t1)).alloc (.cells a2 t2)) (.cells a3 t3)
  have b2 := Below.heap_alloc (w.alloc (.cells a1 t1)) (.cells a2 t2)
  refine ⟨_, rfl, by simp, ((((((Below.refl _ _).alloc (Nat.le_refl _) _).alloc (by simp) _).alloc (by simp; omega) _).alloc (by simp; omega) _).alloc (by simp; omega) _), ?_, ?_, ?_, ?_, n5⟩
  · rw [b5 _ (by omega), b4 _ (by omega), b3 _ (by omega), b2 _ (by omega)]; exact n1
  · rw [b5 _ (by omega), b4 _ (by omega), b3 _ (by omega)]; exact n2
  · rw [b5 _ (by omega), b4 _ (by omega)]; exact n3
  · rw [b5 _ (by omega)]; exact n4

set_option maxRecDepth 100000 in
set_option maxHeartbeats 4000000 in
theorem after_any (A : Option Addr) (n cp : Nat) (es : List En) (c : Nat) (most : Int) (w : World) (h : ES w A n es) (hc : n ≤ cp) (hcm : cp ≤ 9223372036854775807) (hn : n ≤ 10000000) :
    Calls Tryz.prog 124 #[.slice A n cp, .int .u64 (c : Int), .int .i64 most] w (AftP es c most w) := by
  obtain ⟨i0, hi0, hz0, hz1, hz2⟩ := info_parts info_E
  have HI0 := Lib.hid hi0
  have HZ0 := Lib.hid hz0
  have HZ1 := Lib.hid hz1
  have HZ2 := Lib.hid hz2
  have HX := Lib.hid h
  have HN : Hid (es.length = n) := h.1
  clear h hi0 hz0 hz1 hz2
  refine (callsIn_wide (n := 9)).1 ?_
  refine callsIn_of_wp_marks Tryz.func124 rfl trivial ?_ rfl
  simp only [Tryz.ntmps124, List.size_toArray, List.length_cons, List.length_nil, Nat.reduceAdd, Nat.reduceSub, Array.replicate_succ, Array.replicate_zero, List.push_toArray, List.append_toArray, List.nil_append, List.cons_append]
  refine wpIn_wide.2 ?_
  go_wp2_with fail
  obtain ⟨wA, hwA, hsA, hbA, p0, p1, p2, p3, p4⟩ := five w #[.int .u64 (c : Int)] #[.int .i64 most] #[.slice none 0 0] #[.bool false] #[.slice none 0 0] 25 3 47 4 47
  rw [hwA]
  have HSA := Lib.hid hsA
  have HBA := Lib.hid hbA
  have P0 := Lib.hid p0
  have P1 := Lib.hid p1
  have P2 := Lib.hid p2
  have P3 := Lib.hid p3
  have P4 := Lib.hid p4
  have HXA := Lib.hid (HX.out.below hbA)
  clear hwA hsA hbA p0 p1 p2 p3 p4
  refine (from_any A n cp es w.heap.size c wA HXA.out hc hcm hn (by rw [cell_of_row _ _ _ _ _ _ P0.out]; rfl)).mono ?_
  rintro en w1 ⟨q, A', m', c', rfl, hq, hq1, hb1, hE, hm', hA'⟩
  have HQ := Lib.hid hq
  have HB1 := Lib.hid hb1
  have HE1 := Lib.hid (hE.below hb1)
  have HS1 : Hid (w.heap.size + 5 ≤ w1.heap.size) := by show _ ≤ _; have := hb1.size; have := HSA.out; omega
  have HQL : Hid (w.heap.size + 5 ≤ q) := by show _ ≤ _; have := HSA.out; omega
  have HA' : Hid (0 < m' → ∀ ad, A' = some ad → ad.block < w.heap.size) := fun h0 ad e => by
    obtain ⟨a0, e0, e1⟩ := hA' h0 ad e
    rw [e1]
    exact HX.out.lt_block (by omega) a0 e0
  have HM' : Hid (m' ≤ 100000000) := by show _ ≤ _; omega
  have P1' : Hid (w1.heap[w.heap.size + 1]? = some (.cells #[.int .i64 most] 3 (0, 0))) := (hb1.block _ (by have := HSA.out; omega)).trans P1.out
  have P2' : Hid (w1.heap[w.heap.size + 1 + 1]? = some (.cells #[.slice none 0 0] 47 (0, 0))) := (hb1.block _ (by have := HSA.out; omega)).trans P2.out
  have P3' : Hid (w1.heap[w.heap.size + 1 + 1 + 1]? = some (.cells #[.bool false] 4 (0, 0))) := (hb1.block _ (by have := HSA.out; omega)).trans P3.out
  have P4' : Hid (w1.heap[w.heap.size + 1 + 1 + 1 + 1]? = some (.cells #[.slice none 0 0] 47 (0, 0))) := (hb1.block _ (by have := HSA.out; omega)).trans P4.out
  have HBW : Hid (Below w.heap.size w w1) := HBA.out.trans (hb1.mono HBA.out.size)
  clear hq hq1 hb1 hE hm' hA' P0 P1 P2 P3 P4 HXA HB1 HBA HSA
  go_wp2_with fail
  refine (wpIn_wide (n := 9)).1 ?_
  refine wpIn_rangeFunc_ownH rfl (by omega) (gf := 183) (lb := #[.pointer (some ⟨q, 0, none⟩)]) ?hg trivial (enters_of Tryz.func183 (by kernel_rfl) rfl)
    (vals_stops (9 - 1) (by omega) q A' m' c' (es.drop (frm es c)) (fun k => k ≠ w.heap.size + 1 + 1 + 1 + 1 ∧ k < w1.heap.size) w1 (by rw [cell_of_row _ _ _ _ _ _ HQ.out]; rfl) HE1.out (fun h0 ad e => by have := HA'.out h0 ad e; have := HS1.out; exact ⟨by omega, by omega⟩) (fun k hk => hk.2) HM'.out)
    (fun h k => Keep.trans h k) ?hKb (Below.refl _ _) (fun _ => rfl) (AfI w1 (w.heap.size + 1 + 1 + 1 + 1) most) (AfX w1 (w.heap.size + 1 + 1 + 1 + 1) (w.heap.size + 1 + 1) (w.heap.size + 1 + 1 + 1) most) AfI.own (fun _ => AfX.own) ?h0
    (fun x => AfA w1 (fun g => { tmps := #[.slice A n cp, .int .u64 (c : Int), .int .i64 most, undef, .pointer (some ⟨w.heap.size, 0, none⟩), .pointer (some ⟨w.heap.size + 1, 0, none⟩), .pointer (some ⟨w.heap.size + 1 + 1, 0, none⟩), .pointer (some ⟨w.heap.size + 1 + 1 + 1, 0, none⟩), .pointer (some ⟨w.heap.size + 1 + 1 + 1 + 1, 0, none⟩), .pointer (some ⟨g, 0, none⟩), .slice A n cp, .func (.func 154) #[] #[.pointer (some ⟨w.heap.size, 0, none⟩)], .func (.func 183) #[] #[.pointer (some ⟨q, 0, none⟩)], .agg (ec x).toArray, undef, undef, undef, undef, undef, undef, undef, undef, undef, undef], defers := [] }) x) (fun _ _ => AfA.own) ?assign ?body ?done ?stop
  case hg => rfl
  case hKb =>
    intro W l o o' hl hb ho hw'
    have hg := grownBy_putObj' W l o'
    have hlt := (Array.getElem?_eq_some_iff.1 hb).1
    exact ⟨hg.os, hg.tape, hg.output, hg.size, fun k hk => hg.block k (by omega) (fun e => by cases e; omega)⟩
  case h0 =>
    exact ⟨Keep.refl _ _, ⟨none, 0, P4'.out, World.ownsRow_nil _ _ _ _⟩, by simp; omega, by have := HS1.out; omega⟩
  case assign =>
    intro l pre x W K hI hK
    rw [foldl_one]
    simp only [List.setIfInBounds_toArray, List.set_cons_succ, List.set_cons_zero]
    gi_wp2_with (first
      | (refine wpListIn_alloc_any rfl 87 rfl _ zero_E ?_
         intro w2 hb2 hs2 hw2)
      | (go_must (refine wpListIn_store_any rfl 87 (.tmp 9) (.tmp 13) rfl W.heap.size (ec x).toArray rfl rfl 87 _ hb2 size_E rfl (ec_one x) ?_)
         intro w3 hb3 hs3 hw3))
    obtain ⟨heb, hbw⟩ := box_E hw2 hb3 hw3
    have hWs := hI.keep.size
    exact hK _ _ ⟨hbw.size, fun k o _ hk _ => (hbw.block k (Array.getElem?_eq_some_iff.1 hk).1).trans hk⟩ ((Keep.refl _ W).trans ⟨hbw.os, hbw.tape, hbw.output, hbw.size, fun k hk => hbw.block k (by omega)⟩) (hI.grown (below_grown hbw) (fun r e => by cases e)) ⟨W.heap.size, hWs, heb, rfl⟩
  case body =>
    rintro lp pre x a' W hl ⟨r, hr⟩ hI ⟨g, hg1, hg2, rfl⟩ hlen
    obtain ⟨A2, c2, hb8, hrow⟩ := hI.st
    have HI := Lib.hid hI
    have HROW := Lib.hid hrow
    have HB8 := Lib.hid hb8
    have HG2 := Lib.hid hg2
    have HWS : Hid (w1.heap.size ≤ W.heap.size) := hI.keep.size
    have hs1 := HS1.out
    have Q5 : Hid (W.heap[w.heap.size + 1]? = some (.cells #[.int .i64 most] 3 (0, 0))) := (hI.keep.block _ ⟨by omega, by omega⟩).trans P1'.out
    have Q6 : Hid (W.heap[w.heap.size + 1 + 1]? = some (.cells #[.slice none 0 0] 47 (0, 0))) := (hI.keep.block _ ⟨by omega, by omega⟩).trans P2'.out
    have Q7 : Hid (W.heap[w.heap.size + 1 + 1 + 1]? = some (.cells #[.bool false] 4 (0, 0))) := (hI.keep.block _ ⟨by omega, by omega⟩).trans P3'.out
    have c5 : W.cell? ⟨w.heap.size + 1, 0, none⟩ = some (.int .i64 most) := by rw [cell_of_row _ _ _ _ _ _ Q5.out]; rfl
    have c8 : W.cell? ⟨w.heap.size + 1 + 1 + 1 + 1, 0, none⟩ = some (.slice A2 pre.length c2) := by rw [cell_of_row _ _ _ _ _ _ hb8]; rfl
    have HLEN := Lib.hid hlen
    have HOB : Hid (∀ k, (Value.slice A2 pre.length c2).ownBlock = some k → w1.heap.size ≤ k) := fun k e => (hrow.lt k e).1
    clear hI hb8 hrow hg2 hr hlen hs1
    by_cases hm : most ≤ (pre.length : Int)
    · have hd : decide (most ≤ (pre.length : Int)) = true := decide_eq_true hm
      have HM := Lib.hid hm
      have c6 : W.cell? ⟨w.heap.size + 1 + 1, 0, none⟩ = some (.slice none 0 0) := by rw [cell_of_row _ _ _ _ _ _ Q6.out]; rfl
      have f6 : W.frozen? ⟨w.heap.size + 1 + 1, 0, none⟩ = false := by simp [World.frozen?, Q6.out]
      have c7 : W.cell? ⟨w.heap.size + 1 + 1 + 1, 0, none⟩ = some (.bool false) := by rw [cell_of_row _ _ _ _ _ _ Q7.out]; rfl
      have f7 : W.frozen? ⟨w.heap.size + 1 + 1 + 1, 0, none⟩ = false := by simp [World.frozen?, Q7.out]
      clear hm
      gi_wp2
      have hs1 := HS1.out
      have hws := HWS.out
      have g1 := off_setCell W (w.heap.size + 1 + 1) 0 (.slice A2 pre.length c2)
      have g2 := off_setCell (W.setCell ⟨w.heap.size + 1 + 1, 0, none⟩ (.slice A2 pre.length c2)) (w.heap.size + 1 + 1 + 1) 0 (.bool false)
      have e1 : (W.setCell ⟨w.heap.size + 1 + 1, 0, none⟩ (.slice A2 pre.length c2)).heap[w.heap.size + 1 + 1]? = some (.cells #[.slice A2 pre.length c2] 47 (0, 0)) := by
        rw [setCell_eq_setRow _ _ _ _ _ _ _ Q6.out, setRow_heap _ _ _ _ _ _ Q6.out]
        simp
      have z1 : (W.setCell ⟨w.heap.size + 1 + 1, 0, none⟩ (.slice A2 pre.length c2)).heap.size = W.heap.size := by simp [World.setCell]
      have e7 := (g1.block (w.heap.size + 1 + 1 + 1) (by omega) (by simp)).trans Q7.out
      have hk : Keep (fun k => k ≠ w.heap.size + 1 + 1 ∧ k ≠ w.heap.size + 1 + 1 + 1) W ((W.setCell ⟨w.heap.size + 1 + 1, 0, none⟩ (.slice A2 pre.length c2)).setCell ⟨w.heap.size + 1 + 1 + 1, 0, none⟩ (.bool false)) :=
        ((Keep.refl _ W).setCell (p := ⟨w.heap.size + 1 + 1, 0, none⟩) (fun h => h.1 rfl) _).setCell (p := ⟨w.heap.size + 1 + 1 + 1, 0, none⟩) (fun h => h.2 rfl) _
      have hlast : (pre ++ [x]).dropLast = pre := List.dropLast_concat
      refine ⟨⟨hk.size, fun k o hB hk' ho => (hk.block k ⟨by omega, by omega⟩).trans hk'⟩, rfl, HI.out.keep.trans2 hk, ?_, ?_, ?_, by simp, by omega, by omega⟩
      · rw [hlast]
        refine ⟨A2, c2, (g2.block _ (by omega) (by simp)).trans e1, ?_⟩
        exact (HROW.out.kept g1 (.inr fun e => by have := HOB.out _ e; omega)).kept g2 (.inr fun e => by have := HOB.out _ e; omega)
      · rw [setCell_eq_setRow _ _ _ _ _ _ _ e7, setRow_heap _ _ _ _ _ _ e7]
        simp
      · rw [hlast]
        have := HI.out.few
        have := HM.out
        omega
    · have hd : decide (most ≤ (pre.length : Int)) = false := decide_eq_false hm
      have HM := Lib.hid hm
      have HLD := Lib.hid HG2.out.load
      have hecl := ec_length x
      have HEA : Hid (ES (W.alloc (.cells (ec x).toArray 87)) (some ⟨W.heap.size, 0, none⟩) 1 [x]) := (EB.new W 87 x).es
      have HRA : Hid ((W.alloc (.cells (ec x).toArray 87)).ownsRow w1.heap.size 87 4 (.slice A2 pre.length c2) pre.length (ecs pre)) := HROW.out.alloc _
      have HBS : Hid (w1.heap.size ≤ (W.alloc (.cells (ec x).toArray 87)).heap.size) := by show _ ≤ _; have := HWS.out; simp; omega
      have hpl : pre.length + 1 ≤ 400000000 := by have := HLEN.out; have := HE1.out.1; have := HM'.out; omega
      have HBA8 : Hid ((W.alloc (.cells (ec x).toArray 87)).heap[w.heap.size + 1 + 1 + 1 + 1]? = some (.cells #[.slice A2 pre.length c2] 47 (0, 0))) := (Below.heap_alloc _ _ _ (by have := HS1.out; have := HWS.out; omega)).trans HB8.out
      clear hm HROW HB8
      gi_wp2_with (first
        | (refine Did.listIn rfl (by intro c h; cases h) (by intro c h; cases h) (did_load 87 (.tmp 9) rfl ⟨g, 0, none⟩ rfl _ Tryz.underlying87 rfl (ec x) size_E HLD.out) ?_)
        | (gi_at_builtin
           (refine wpListIn_append_es (w := W.alloc (.cells (ec x).toArray 87)) rfl (.tmp 19) (.tmp 21) 47 rfl w1.heap.size 87 i0 _ Tryz.underlying47 HI0.out HZ0.out HZ1.out HZ2.out rfl A2 pre.length c2 pre rfl HRA.out (some ⟨W.heap.size, 0, none⟩) 1 1 [x] rfl HEA.out (by omega) HBS.out ?_)
           intro A4 c4 w4 ho4 hg4
           have HO4 := Lib.hid ho4
           have HG4 := Lib.hid hg4
           have HB84 : Hid (w4.heap[w.heap.size + 1 + 1 + 1 + 1]? = some (.cells #[.slice A2 pre.length c2] 47 (0, 0))) := (hg4.block _ (by have := HS1.out; have := HWS.out; simp; omega) (fun e => by have := HOB.out _ e.symm; have := HS1.out; omega)).trans HBA8.out
           have c84 : w4.cell? ⟨w.heap.size + 1 + 1 + 1 + 1, 0, none⟩ = some (.slice A2 pre.length c2) := by rw [cell_of_row _ _ _ _ _ _ HB84.out]; rfl
           have f84 : w4.frozen? ⟨w.heap.size + 1 + 1 + 1 + 1, 0, none⟩ = false := by simp [World.frozen?, HB84.out]
           clear ho4 hg4))
      have hs1 := HS1.out
      have hws := HWS.out
      have hk4 : Keep (fun k => k < W.heap.size ∧ k < w1.heap.size) W w4 := ((Keep.refl _ W).alloc (fun k hk => hk.1) _).trans ⟨HG4.out.os, HG4.out.tape, HG4.out.output, HG4.out.size, fun k hk => HG4.out.block k (by have := hk.1; simp; omega) (fun e => by have := HOB.out _ e.symm; omega)⟩
      have hz4 : W.heap.size + 1 ≤ w4.heap.size := by have := HG4.out.size; simpa using this
      have hk5 : Keep (fun k => k ≠ w.heap.size + 1 + 1 + 1 + 1 ∧ k < w1.heap.size) W (w4.setCell ⟨w.heap.size + 1 + 1 + 1 + 1, 0, none⟩ (.slice A4 (pre.length + 1) c4)) :=
        (hk4.mono (fun k hk => ⟨by have := hk.2; omega, hk.2⟩)).setCell (p := ⟨w.heap.size + 1 + 1 + 1 + 1, 0, none⟩) (fun h => h.1 rfl) _
      have g5 := off_setCell w4 (w.heap.size + 1 + 1 + 1 + 1) 0 (.slice A4 (pre.length + 1) c4)
      have hrow5 := HO4.out.kept g5 (.inr fun e => by have := (HO4.out.lt _ e).1; omega)
      refine ⟨⟨hk5.size, fun k o hB hk ho => ?_⟩, hk5, HI.out.keep.trans hk5, ⟨A4, c4, ?_, ?_⟩, ?_, by omega⟩
      · have hlt := (Array.getElem?_eq_some_iff.1 hk).1
        rw [Below.heap_setCell _ _ _ _ (by show k ≠ w.heap.size + 1 + 1 + 1 + 1; omega)]
        have hne : some k ≠ (Value.slice A2 pre.length c2).ownBlock := by
          intro e
          rcases HRA.out.2 with ⟨h1, _⟩ | ⟨g', cap', cur', h1, _, h2, _⟩
          · rw [h1] at e; cases e
          · rw [h1] at e
            obtain rfl : k = g' := by simpa [Value.ownBlock] using e
            rw [Below.heap_alloc _ _ _ hlt, hk] at h2
            injection h2 with h2
            subst h2
            cases ho
        rw [HG4.out.block k (by simp; omega) hne, Below.heap_alloc _ _ _ hlt]
        exact hk
      · rw [setCell_eq_setRow _ _ _ _ _ _ _ HB84.out, setRow_heap _ _ _ _ _ _ HB84.out]
        simp
      · have e1 : (pre ++ [x]).length = pre.length + 1 := by simp
        rw [e1]
        exact hrow5
      · have := HI.out.few
        have := HM.out
        rw [List.length_append]
        simp
        omega
  case done =>
    rintro D ys W hD hys hI hK
    have HYS := Lib.hid hys
    clear hys
    obtain ⟨A2, c2, hb8, hrow⟩ := hI.st
    have HI := Lib.hid hI
    have HROW := Lib.hid hrow
    have HK := Lib.hid hK
    have HWS : Hid (w1.heap.size ≤ W.heap.size) := hI.keep.size
    have hs1 := HS1.out
    have Q6 : Hid (W.heap[w.heap.size + 1 + 1]? = some (.cells #[.slice none 0 0] 47 (0, 0))) := (hI.keep.block _ ⟨by omega, by omega⟩).trans P2'.out
    have Q7 : Hid (W.heap[w.heap.size + 1 + 1 + 1]? = some (.cells #[.bool false] 4 (0, 0))) := (hI.keep.block _ ⟨by omega, by omega⟩).trans P3'.out
    have c8 : W.cell? ⟨w.heap.size + 1 + 1 + 1 + 1, 0, none⟩ = some (.slice A2 ys.length c2) := by rw [cell_of_row _ _ _ _ _ _ hb8]; rfl
    have c6 : W.cell? ⟨w.heap.size + 1 + 1, 0, none⟩ = some (.slice none 0 0) := by rw [cell_of_row _ _ _ _ _ _ Q6.out]; rfl
    have f6 : W.frozen? ⟨w.heap.size + 1 + 1, 0, none⟩ = false := by simp [World.frozen?, Q6.out]
    have c7 : W.cell? ⟨w.heap.size + 1 + 1 + 1, 0, none⟩ = some (.bool false) := by rw [cell_of_row _ _ _ _ _ _ Q7.out]; rfl
    have f7 : W.frozen? ⟨w.heap.size + 1 + 1 + 1, 0, none⟩ = false := by simp [World.frozen?, Q7.out]
    have HOB : Hid (∀ k, (Value.slice A2 ys.length c2).ownBlock = some k → w1.heap.size ≤ k) := fun k e => (hrow.lt k e).1
    clear hI hb8 hrow hK hs1
    go_wp2
    have hs1 := HS1.out
    have hws := HWS.out
    have hne : w.heap.size + 1 + 1 ≠ w.heap.size + 1 + 1 + 1 := by omega
    obtain ⟨k6, k7, kD⟩ := fin2 (D := D) hne Q6.out Q7.out (.slice A2 ys.length c2) (.bool true) HK.out (by omega) (by omega)
    have g1 := off_setCell W (w.heap.size + 1 + 1) 0 (.slice A2 ys.length c2)
    have g2 := off_setCell (W.setCell ⟨w.heap.size + 1 + 1, 0, none⟩ (.slice A2 ys.length c2)) (w.heap.size + 1 + 1 + 1) 0 (.bool true)
    have hrow2 := (HROW.out.kept g1 (.inr fun e => by have := HOB.out _ e; omega)).kept g2 (.inr fun e => by have := HOB.out _ e; omega)
    have hkk : Keep (fun k => k ≠ w.heap.size + 1 + 1 ∧ k ≠ w.heap.size + 1 + 1 + 1) W ((W.setCell ⟨w.heap.size + 1 + 1, 0, none⟩ (.slice A2 ys.length c2)).setCell ⟨w.heap.size + 1 + 1 + 1, 0, none⟩ (.bool true)) :=
      ((Keep.refl _ W).setCell (p := ⟨w.heap.size + 1 + 1, 0, none⟩) (fun h => h.1 rfl) _).setCell (p := ⟨w.heap.size + 1 + 1 + 1, 0, none⟩) (fun h => h.2 rfl) _
    have hbl : Below w.heap.size w ((W.setCell ⟨w.heap.size + 1 + 1, 0, none⟩ (.slice A2 ys.length c2)).setCell ⟨w.heap.size + 1 + 1 + 1, 0, none⟩ (.bool true)) :=
      HBW.out.trans (Keep.below ((HI.out.keep.trans2 hkk).mono fun k hk => by omega))
    generalize (W.setCell ⟨w.heap.size + 1 + 1, 0, none⟩ (.slice A2 ys.length c2)).setCell ⟨w.heap.size + 1 + 1 + 1, 0, none⟩ (.bool true) = V at *
    have hfew := HI.out.few
    refine ⟨by simp, .inl ⟨_, _, rfl, run_takeDeferred kD, ?_⟩⟩
    have hgD := grownBy_putObj' V D (.deferred none)
    refine ⟨_, results_two rfl _ _ ⟨w.heap.size + 1 + 1, 0, none⟩ ⟨w.heap.size + 1 + 1 + 1, 0, none⟩ (.slice A2 ys.length c2) (.bool true) rfl rfl (by kernel_rfl) (by kernel_rfl) (by rw [cell_of_row _ _ _ _ _ _ (put_block k6 (by omega))]; rfl) (by rw [cell_of_row _ _ _ _ _ _ (put_block k7 (by omega))]; rfl), A2, _, c2, ?_, ?_, (own_le hrow2).1, ?_⟩
    · rw [show aftB es c most = true from decide_eq_true (by rw [← HYS.out]; omega)]
    · rw [show aftL es c most = ys from by unfold aftL; rw [← HYS.out]; exact List.take_of_length_le (by omega)]
      exact ES.of_own (own_ncells hrow2 hgD (fun r e => by cases e; exact ⟨_, kD, rfl⟩))
    · exact hbl.trans (belowK_b (w := w) (Nat.le_refl _) _ D _ _ (by omega) kD rfl rfl)
  case stop =>
    rintro D cd pre W hD ⟨r, hr⟩ hX hK
    obtain ⟨A2, c2, hb6, hrow⟩ := hX.st
    have HXX := Lib.hid hX
    have HROW := Lib.hid hrow
    have HB6 := Lib.hid hb6
    have HK := Lib.hid hK
    have HR := Lib.hid hr
    obtain rfl := hX.ret
    clear hX hb6 hrow hK hr
    refine wpIn_wide.2 ?_
    go_wp2
    have hs1 := HS1.out
    have hws := HXX.out.keep.size
    have hlt := HXX.out.lt
    have hfew := HXX.out.few
    obtain ⟨z, hz⟩ : ∃ z, pre = pre.dropLast ++ [z] := ⟨_, (List.dropLast_concat_getLast HXX.out.ne).symm⟩
    have hR := HR.out
    rw [hz, List.append_assoc] at hR
    have hbl : Below w.heap.size w W := HBW.out.trans (Keep.below (HXX.out.keep.mono fun k hk => by omega))
    have hgD := grownBy_putObj' W D (.deferred none)
    have hN := HXX.out.no
    generalize pre.dropLast = q2 at *
    refine ⟨by simp, .inl ⟨_, _, rfl, run_takeDeferred HK.out, ?_⟩⟩
    refine ⟨_, results_two rfl _ _ ⟨w.heap.size + 1 + 1, 0, none⟩ ⟨w.heap.size + 1 + 1 + 1, 0, none⟩ (.slice A2 q2.length c2) (.bool false) rfl rfl (by kernel_rfl) (by kernel_rfl) (by rw [cell_of_row _ _ _ _ _ _ (put_block HB6.out (by omega))]; rfl) (by rw [cell_of_row _ _ _ _ _ _ (put_block hN (by omega))]; rfl), A2, _, c2, ?_, ?_, (own_le HROW.out).1, ?_⟩
    · rw [show aftB es c most = false from decide_eq_false (by rw [hR]; simp; omega)]
    · rw [show aftL es c most = q2 from by unfold aftL; rw [hR, show most.toNat = q2.length by omega, List.take_left]]
      exact ES.of_own (own_ncells HROW.out hgD (fun r e => by cases e; exact ⟨_, HK.out, rfl⟩))
    · exact hbl.trans (belowK_b (w := w) (Nat.le_refl _) _ D _ _ (by omega) HK.out rfl rfl)
end Go.Proofs.YtpbpdnjlomhkdaaGreat

namespace Go.Proofs.YtpbpdnjlomhkdaaGreat
open Go.RowKit Go.Shelf

theorem encs_min (es : List En) : 20 * es.length ≤ (encs es).length := by
  induction es with
  | nil => exact Nat.zero_le _
  | cons e r ih =>
    rw [encs_cons, List.length_append, enc1_length, List.length_cons]
    omega
theorem Rd.blk {w : World} {q : Nat} {l : List UInt8} {e : Int} (h : Rd w q l e) : ∃ cs, w.heap[q]? = some (.cells cs 187 (0, 0)) := by
  obtain ⟨A, c, h⟩ := h
  exact ⟨_, h.1⟩
theorem own_type {w : World} {base : Nat} {t : TypeId} {v : Value} {n : Nat} {xs : List Value} (h : w.ownsRow base t 4 v n xs) {g : Nat} {cs : Array Value} {u : TypeId} {fr : Nat × Nat} (hg : w.heap[g]? = some (.cells cs u fr)) (ht : u ≠ t) : v.ownBlock ≠ some g := by
  intro he
  rcases h.2 with ⟨h1, _⟩ | ⟨g', cap', cur', h1, _, h2, _⟩
  · rw [h1] at he; cases he
  · rw [h1] at he
    obtain rfl : g' = g := by simpa [Value.ownBlock] using he
    rw [hg] at h2
    injection h2 with h2
    injection h2 with _ h2 _
    exact ht h2
theorem EB.set {w : World} {g : Nat} {t : TypeId} {e e' : En} (h : EB w g t e) (k : Nat) (v : Value) (he : (ec e').toArray = (ec e).toArray.setIfInBounds k v) : EB (w.setCell ⟨g, k, none⟩ v) g t e' := by
  unfold EB
  rw [setCell_eq_setRow _ _ _ _ _ _ _ h, setRow_heap _ _ _ _ _ _ h, he]
/-- Within a round of Get: the Reader, the entry that is read, the row of those that were. -/
structure GR (w : World) (q g : Nat) (s : List UInt8) (er : Int) (es : List En) (A : Option Addr) (c : Nat) (e : En) (W : World) : Prop where
  rd : Rd W q s er
  eb : EB W g 87 e
  row : W.ownsRow w.heap.size 87 4 (.slice A es.length c) es.length (ecs es)
  bel : Below w.heap.size w W
  hq : w.heap.size ≤ q
  hg : w.heap.size ≤ g
  qg : q ≠ g
  rg : (Value.slice A es.length c).ownBlock ≠ some g
section
variable {w W W' : World} {q g : Nat} {s s' : List UInt8} {er er' : Int} {es : List En} {A : Option Addr} {c : Nat} {e e' : En}
theorem GR.below (h : GR w q g s er es A c e W) (hb : Below W.heap.size W W') : GR w q g s er es A c e W' :=
  ⟨h.rd.kept hb, h.eb.below' hb, h.row.kept (below_grown hb) (Classical.em _), h.bel.trans (hb.mono h.bel.size), h.hq, h.hg, h.qg, h.rg⟩
theorem GR.read (h : GR w q g s er es A c e W) (hr : Rd W' q s' er') (hg : W.grownBy W' (some q)) : GR w q g s' er' es A c e W' := by
  obtain ⟨cs, hb⟩ := h.rd.blk
  have hq := h.hq
  exact ⟨hr, (hg.block g h.eb.lt (fun e => h.qg (by injection e with e; exact e.symm))).trans h.eb, h.row.kept hg (.inr (own_type h.row hb (by decide))),
    h.bel.trans ⟨hg.os, hg.tape, hg.output, hg.size, fun k hk => hg.block k (Nat.lt_of_lt_of_le hk h.bel.size) (fun e => by injection e with e; omega)⟩, h.hq, h.hg, h.qg, h.rg⟩
theorem GR.set (h : GR w q g s er es A c e W) (k : Nat) (v : Value) (he : (ec e').toArray = (ec e).toArray.setIfInBounds k v) : GR w q g s er es A c e' (W.setCell ⟨g, k, none⟩ v) := by
  have hg := h.hg
  exact ⟨h.rd.off h.eb (by decide) h.qg (fun j _ hj => Below.heap_setCell W ⟨g, k, none⟩ v j hj), h.eb.set k v he, h.row.kept (off_setCell W g k v) (.inr h.rg), h.bel.setCell (p := ⟨g, k, none⟩) hg v, h.hq, h.hg, h.qg, h.rg⟩
end

theorem gr_rd {w W W' : World} {q g : Nat} {s : List UInt8} {er : Int} {es : List En} {A : Option Addr} {c : Nat} {e : En} (h : GR w q g s er es A c e W) (hg : W.grownBy W' (Value.slice A es.length c).ownBlock) : Rd W' q s er := by
  rcases h.row.2 with ⟨h1, _⟩ | ⟨g', cap', cur', h1, _, h2, _⟩
  · rw [h1] at hg
    exact h.rd.kept ⟨hg.os, hg.tape, hg.output, hg.size, fun k hk => hg.block k hk (by simp [Value.ownBlock])⟩
  · have hq : q ≠ g' := by
      rintro rfl
      obtain ⟨cs, h3⟩ := h.rd.blk
      rw [h3] at h2
      injection h2 with h2
      injection h2 with _ h2 _
      exact absurd h2 (by decide)
    refine h.rd.off h2 (by decide) hq (fun k hk hne => hg.block k hk ?_)
    rw [h1]
    simp [Value.ownBlock]
    exact hne
set_option maxRecDepth 100000 in
set_option maxHeartbeats 4000000 in
theorem get_any (A : Option Addr) (n cp : Nat) (l : List UInt8) (w : World) (h : BS w A n l) (hn : n ≤ 10000000) : Calls Tryz.prog 50 #[.slice A n cp] w (EsQ (gotE l) (errE l) w) := by
  obtain ⟨i0, hi0, hz0, hz1, hz2⟩ := info_parts info_E
  have HI0 := Lib.hid hi0
  have HZ0 := Lib.hid hz0
  have HZ1 := Lib.hid hz1
  have HZ2 := Lib.hid hz2
  have HL := Lib.hid h
  have HN : Hid (l.length = n) := h.1
  clear h hi0 hz0 hz1 hz2
  go_enter Tryz.func50, Tryz.ntmps50
  go_wp2_with fail
  refine (newReader_any A n cp l w HL.out (by omega)).mono ?_
  rintro e w1 ⟨q, rfl, hrd, hb1, hq⟩
  have HRD := Lib.hid hrd
  have HB1 := Lib.hid hb1
  have HQ := Lib.hid hq
  clear hrd hb1 hq
  go_wp2_with fail
  go_loopg [4] n (fun gg s4 wr => ∃ k A2 c2, s4 = .slice A2 (reads k l).2.2.length c2 ∧ (reads k l).1.length ≤ gg ∧ Hid ((reads k l).2.1 = 0) ∧ Hid ((reads k l).2.2.length = k) ∧ Hid (Rd wr q (reads k l).1 0) ∧ Hid (wr.ownsRow w.heap.size 87 4 (.slice A2 (reads k l).2.2.length c2) (reads k l).2.2.length (ecs (reads k l).2.2)) ∧ Hid (Below w.heap.size w wr))
  case atStart => exact ⟨0, none, 0, rfl, by show l.length ≤ n; rw [HN.out]; exact Nat.le_refl _, rfl, rfl, HRD.out, World.ownsRow_nil _ _ _ _, HB1.out⟩
  case round =>
    obtain ⟨k, A2, c2, rfl, hgg, H0, HLK, HR, HROW, HW⟩ := hrel
    have HBK := Lib.hid (reads_back l k H0.out)
    have HMORE := fun hs => Lib.hid (reads_more k l H0.out hs)
    have HALL := fun j hj hs => Lib.hid (all_of j l hj hs)
    have HWD := Lib.hid (reads_wide l k)
    have HKL : Hid (20 * k + (reads k l).1.length ≤ n) := by
      show _ ≤ _
      have h1 := HBK.out
      have h2 := congrArg List.length h1
      rw [List.length_append, HN.out] at h2
      have h3 := encs_min (reads k l).2.2
      rw [HLK.out] at h3
      omega
    have HNXT := Lib.hid (reads_more k l H0.out)
    have hErr : ∀ j, j ≤ l.length → ((reads j l).2.1 ≠ 0 ∨ (reads j l).1 = []) → errE l = (if (reads j l).2.1 ≠ 0 then (reads j l).2.1 else chkE (reads j l).2.2) ∧ ((reads j l).2.1 = 0 → gotE l = if okB (reads j l).2.2 then (reads j l).2.2 else []) := by
      intro j hj hs
      have e := all_of j l hj hs
      refine ⟨by unfold errE; rw [e], fun h0 => ?_⟩
      unfold gotE errE
      rw [e, h0]
      unfold chkE
      cases okB (reads j l).2.2 <;> simp
    have HERR := Lib.hid hErr
    clear hErr HALL HBK HMORE
    generalize hrd : reads k l = R at *
    have HRDK := Lib.hid hrd
    clear hrd
    obtain ⟨s, er0, es⟩ := R
    dsimp only at *
    obtain rfl : k = es.length := HLK.out.symm
    by_cases hs : s = []
    · subst hs
      have hE := HERR.out es.length (by have := HKL.out; have := HN.out; omega) (.inr (by rw [HRDK.out]))
      rw [HRDK.out] at hE
      dsimp only at hE
      have h0 := H0.out
      rw [if_neg (by rw [h0]; simp)] at hE
      have HE1 := Lib.hid hE.1
      have HE2 := Lib.hid (hE.2 h0)
      clear hE h0
      have HES := Lib.hid (ES.of_own HROW.out)
      have HLE := Lib.hid (own_le HROW.out)
      have hel : es.length ≤ 100000000 := by have := HKL.out; omega
      go_wp2_with fail
      refine (left_any wr q _ _ HR.out).mono ?_
      rintro en w2 ⟨rfl, rfl⟩
      go_wp2_with fail
      refine (valid_any A2 es.length c2 es wr HES.out HWD.out hel).mono ?_
      rintro en w2 ⟨rfl, hb2⟩
      have HB2 := Lib.hid (HW.out.trans (hb2.mono HW.out.size))
      have HES2 := Lib.hid (HES.out.below hb2)
      clear hb2 HES hel HERR HNXT
      unfold chkE at HE1
      cases hok : okB es
      · rw [hok] at HE1 HE2
        clear hok
        go_wp2_with fail
        go_ret2
        rw [show errE l = 11 from HE1.out]
        exact EsQ.nil HE2.out HB2.out
      · rw [hok] at HE1 HE2
        clear hok
        go_wp2_with fail
        go_ret2
        rw [show errE l = 0 from HE1.out, show gotE l = es from HE2.out]
        exact ⟨A2, _, c2, rfl, HES2.out, HLE.out, HB2.out⟩
    · have hsp : 0 < s.length := List.length_pos_iff.2 hs
      have HN1 := Lib.hid (HNXT.out hs)
      have HERR1 := fun hx => Lib.hid (HERR.out (es.length + 1) (by have := HKL.out; have := HN.out; omega) (.inl hx))
      clear hs HNXT HERR
      have hsi : (0 : Int) < (s.length : Int) := by omega
      have HOWN : Hid (∀ j, (Value.slice A2 es.length c2).ownBlock = some j → j < wr.heap.size) := fun j e => (HROW.out.lt j e).2
      go_wp2_with fail
      refine (left_any wr q _ _ HR.out).mono ?_
      rintro en w2 ⟨rfl, rfl⟩
      go_upto_region 5 with (refine wpList_alloc_any rfl 87 rfl _ zero_E ?_; intro w3 hb3 hs3 hw3)
      have G3 : Hid (GR w q wr.heap.size s 0 es A2 c2 ⟨0, 0, 0, []⟩ w3) :=
        ⟨HR.out.kept hw3, hb3, HROW.out.kept (below_grown hw3) (Classical.em _), HW.out.trans (hw3.mono HW.out.size), HQ.out, HW.out.size, by have := HR.out.lt; omega, fun e => by have := HOWN.out _ e; omega⟩
      have HGL : Hid (w.heap.size ≤ wr.heap.size) := HW.out.size
      clear hb3 hs3 hw3 HR HROW HW HOWN
      generalize wr.heap.size = g at *
      go_wp2_with fail
      refine (u64r w3 q s 0 G3.out.rd).mono ?_
      rintro en w4 ⟨rfl, hr, hgr⟩
      have G4 : Hid (GR w q g (r1 s).1.1 (r1 s).1.2 es A2 c2 ⟨0, 0, 0, []⟩ w4) := G3.out.read hr hgr
      clear hr hgr G3
      change Hid _ at G4
      have c0 := G4.out.eb.c0
      have f0 := G4.out.eb.froz 0
      rw [show (rdN 8 (s, 0)).2 = (r1 s).2 from rfl]
      go_wp2_with fail
      have G5 : Hid (GR w q g (r1 s).1.1 (r1 s).1.2 es A2 c2 ⟨(r1 s).2, 0, 0, []⟩ (w4.setCell ⟨g, 0, none⟩ (.int .u64 ((r1 s).2 : Int)))) := G4.out.set 0 _ rfl
      clear c0 f0 G4
      generalize w4.setCell ⟨g, 0, none⟩ (.int .u64 ((r1 s).2 : Int)) = w5 at *
      refine (u32r w5 q _ _ G5.out.rd).mono ?_
      rintro en w6 ⟨rfl, hr, hgr⟩
      have G6 : Hid (GR w q g (r2 s).1.1 (r2 s).1.2 es A2 c2 ⟨(r1 s).2, 0, 0, []⟩ w6) := G5.out.read hr hgr
      clear hr hgr G5
      have c1 := G6.out.eb.c1
      have f1 := G6.out.eb.froz 1
      rw [show (rdN 4 ((r1 s).1.1, (r1 s).1.2)).2 = (r2 s).2 from rfl]
      go_wp2_with fail
      have G7 : Hid (GR w q g (r2 s).1.1 (r2 s).1.2 es A2 c2 ⟨(r1 s).2, (r2 s).2, 0, []⟩ (w6.setCell ⟨g, 1, none⟩ (.int .u32 ((r2 s).2 : Int)))) := G6.out.set 1 _ rfl
      clear c1 f1 G6
      generalize w6.setCell ⟨g, 1, none⟩ (.int .u32 ((r2 s).2 : Int)) = w7 at *
      refine (u32r w7 q _ _ G7.out.rd).mono ?_
      rintro en w8 ⟨rfl, hr, hgr⟩
      have G8 : Hid (GR w q g (r3 s).1.1 (r3 s).1.2 es A2 c2 ⟨(r1 s).2, (r2 s).2, 0, []⟩ w8) := G7.out.read hr hgr
      clear hr hgr G7
      have c2' := G8.out.eb.c2
      have f2 := G8.out.eb.froz 2
      rw [show (rdN 4 ((r2 s).1.1, (r2 s).1.2)).2 = (r3 s).2 from rfl]
      go_wp2_with fail
      have G9 : Hid (GR w q g (r3 s).1.1 (r3 s).1.2 es A2 c2 ⟨(r1 s).2, (r2 s).2, (r3 s).2, []⟩ (w8.setCell ⟨g, 2, none⟩ (.int .u32 ((r3 s).2 : Int)))) := G8.out.set 2 _ rfl
      clear c2' f2 G8
      generalize w8.setCell ⟨g, 2, none⟩ (.int .u32 ((r3 s).2 : Int)) = w9 at *
      refine (opaquer w9 q _ _ 24 (by omega) (by omega) G9.out.rd).mono ?_
      rintro en wA ⟨BA, cA, rfl, hbs, hr, hgr, _⟩
      have GA : Hid (GR w q g (r4 s).1.1 (r4 s).1.2 es A2 c2 ⟨(r1 s).2, (r2 s).2, (r3 s).2, []⟩ wA) := G9.out.read hr hgr
      have hcv := run_convert_bs wA BA _ cA _ hbs
      clear hr hgr G9 hbs
      change (convert _ _ (.slice BA (r4 s).2.length cA)).run _ _ = .ok (.string (txt (r4 s).2)) _ at hcv
      rw [show (rdO 24 ((r3 s).1.1, (r3 s).1.2)).2 = (r4 s).2 from rfl]
      have c3 := GA.out.eb.c3
      have f3 := GA.out.eb.froz 3
      go_wp2_with fail
      have GB : Hid (GR w q g (r4 s).1.1 (r4 s).1.2 es A2 c2 (one s) (wA.setCell ⟨g, 3, none⟩ (.string (txt (r4 s).2)))) := GA.out.set 3 _ rfl
      clear c3 f3 GA hcv
      generalize wA.setCell ⟨g, 3, none⟩ (.string (txt (r4 s).2)) = wB at *
      refine (err_any wB q _ _ GB.out.rd).mono ?_
      rintro en wC ⟨rfl, rfl⟩
      by_cases he : (r4 s).1.2 = 0
      · have hd : ((r4 s).1.2 != 0) = false := by simpa using he
        have HSH : Hid ((r4 s).1.1.length + 20 ≤ s.length) := by
          show _ ≤ _
          have := congrArg List.length (one_back s he)
          rw [List.length_append, enc1_length] at this
          omega
        have HE0 := Lib.hid he
        clear he HERR1
        have hecl := ec_length (one s)
        have HEA : Hid (ES (wB.alloc (.cells (ec (one s)).toArray 87)) (some ⟨wB.heap.size, 0, none⟩) 1 [one s]) := (EB.new wB 87 (one s)).es
        have hab : Below wB.heap.size wB (wB.alloc (.cells (ec (one s)).toArray 87)) := (Below.refl _ _).alloc (Nat.le_refl _) _
        have GC := Lib.hid (GB.out.below hab)
        have hnl : es.length + 1 ≤ 400000000 := by have := HKL.out; omega
        clear hab
        go_wp2_with (first
          | (refine wpList_load_row rfl 87 (.tmp 6) rfl _ rfl 87 (ec (one s)).toArray (0, 0) _ GB.out.eb Tryz.underlying87 rfl size_E ?_)
          | (at_builtin
             refine wpList_append_es (wB.alloc (.cells (ec (one s)).toArray 87)) rfl (.tmp 32) (.tmp 34) 47 rfl w.heap.size 87 i0 _ Tryz.underlying47 HI0.out HZ0.out HZ1.out HZ2.out rfl A2 es.length c2 es rfl GC.out.row (some ⟨wB.heap.size, 0, none⟩) 1 1 [one s] rfl HEA.out (by omega) GC.out.bel.size ?_
             intro A4 c4 wD ho hgr _
             have HRD4 := Lib.hid (gr_rd GC.out hgr)
             have HBD4 := Lib.hid (own_below GC.out.bel GC.out.row hgr)
             have HOD4 := Lib.hid ho
             clear ho hgr))
        go_roundg ((r4 s).1.1.length)
        case measure => have := HSH.out; omega
        case rel =>
          have h1 : (es ++ [one s]).length = es.length + 1 := by simp
          refine ⟨es.length + 1, A4, c4, ?_, ?_, ?_, ?_, ?_, ?_, HBD4.out⟩
          · rw [HN1.out]; show _ = Value.slice A4 (es ++ [one s]).length c4; rw [h1]
          · rw [HN1.out]; exact Nat.le_refl _
          · show _ = _; rw [HN1.out]; exact HE0.out
          · show _ = _; rw [HN1.out]; exact h1
          · rw [HN1.out]
            have := HRD4.out
            rw [HE0.out] at this
            exact this
          · rw [HN1.out]
            show wD.ownsRow _ _ _ (.slice A4 (es ++ [one s]).length c4) (es ++ [one s]).length _
            rw [h1]
            exact HOD4.out
      · have hd : ((r4 s).1.2 != 0) = true := by simpa using he
        have HE := HERR1 (by rw [HN1.out]; exact he)
        rw [HN1.out] at HE
        have HE1 : Hid (errE l = (r4 s).1.2) := by have := HE.out.1; dsimp only at this; rwa [if_pos he] at this
        have HE2 : Hid (gotE l = []) := if_neg (by rw [HE1.out]; exact he)
        clear he HE HERR1
        generalize (r4 s).1.2 = er at *
        go_wp2_with fail
        refine (err_any wB q _ _ GB.out.rd).mono ?_
        rintro en wC ⟨rfl, rfl⟩
        go_wp2_with fail
        go_ret2
        rw [HE1.out]
        exact EsQ.nil HE2.out GB.out.bel
end Go.Proofs.YtpbpdnjlomhkdaaGreat

namespace Go.Proofs.YtpbpdnjlomhkdaaGreat
open Go.RowKit Go.Shelf

def eA : En := ⟨1, 0, 0, [97]⟩
def eB : En := ⟨2, 0, 0, [98]⟩
def eC : En := ⟨3, 0, 0, [99]⟩
def eD : En := ⟨3, 0, 0, [100]⟩
def es0 : List En := [eA, eB, eC]
theorem built_A : Tryz.prog.built 87 [(0, .int .u64 1), (2, .string ⟨#[97]⟩)] = some (ec eA).toArray := by kernel_rfl
theorem built_B : Tryz.prog.built 87 [(0, .int .u64 2), (2, .string ⟨#[98]⟩)] = some (ec eB).toArray := by kernel_rfl
theorem built_C : Tryz.prog.built 87 [(0, .int .u64 3), (2, .string ⟨#[99]⟩)] = some (ec eC).toArray := by kernel_rfl
theorem built_D : Tryz.prog.built 87 [(0, .int .u64 3), (2, .string ⟨#[100]⟩)] = some (ec eD).toArray := by kernel_rfl
theorem es0_wide : ∀ x ∈ es0, x.Wide := by
  intro x hx
  simp only [es0, List.mem_cons, List.not_mem_nil, or_false] at hx
  rcases hx with rfl | rfl | rfl <;> exact ⟨by decide, by decide, by decide⟩
theorem es0_ok : okB es0 = true := by decide +kernel
theorem es0_len : (putE es0).length = 72 := by decide +kernel
theorem es0_aft : aftL es0 1 1 = [eB] ∧ aftB es0 1 1 = false := by decide +kernel
theorem es0_rem : remE es0 [98] = 0 ∧ remL es0 [98] = [eA, eC] := by decide +kernel
theorem es0_add : addE [eA, eC] eD = 70 := by decide +kernel
theorem es0_addL : addL [eA, eC] eD = [] := by decide +kernel
theorem es0_fnd : fnd es0 [99] = 2 := by decide +kernel
theorem dots : nameE [46, 46] = 67 := by decide +kernel
/-- A block that holds entries. -/
theorem es_block {w : World} {g : Nat} {t : TypeId} {es : List En} (h : w.heap[g]? = some (.cells (ecs es).toArray t (0, 0))) : ES w (some ⟨g, 0, none⟩) es.length es :=
  ⟨rfl, fun _ => ⟨g, 0, rfl, fun j hj i v hv => by
    rw [cell_of_row w g _ _ _ _ h, Nat.zero_add]
    simpa using ecs_get es j hj i v hv⟩⟩

end Go.Proofs.YtpbpdnjlomhkdaaGreat

namespace Go.Proofs.YtpbpdnjlomhkdaaGreat
open Go.RowKit Go.Shelf

/-- What a name must be ahead of its bytes. -/
def headOk (l : List UInt8) : Bool := decide (1 ≤ l.length) && decide (l.length ≤ 24) && !(l == [46]) && !(l == [46, 46])
theorem nameOk_head (l : List UInt8) : nameOk l = (headOk l && !parts l) := by
  rw [nameOk_eq]
  unfold headOk
  have e1 : (!decide (l.length < 1)) = decide (1 ≤ l.length) := by
    rw [← decide_not]
    exact decide_eq_decide.2 (by omega)
  have e2 : (!decide (24 < l.length)) = decide (l.length ≤ 24) := by
    rw [← decide_not]
    exact decide_eq_decide.2 (by omega)
  rw [e1, e2]
theorem parts_take (l : List UInt8) (k : Nat) (h : k < l.length) : parts (l.take (k + 1)) = (parts (l.take k) || (l[k] == 0 || l[k] == 47)) := by
  unfold parts
  rw [List.take_succ_eq_append_getElem h, List.any_append]
  simp
theorem parts_at (l : List UInt8) (k : Nat) (h : k < l.length) : ∃ x : UInt8, (∀ hk : k < (txt l).size, (txt l)[k]'hk = x) ∧ parts (l.take (k + 1)) = (parts (l.take k) || (x == 0 || x == 47)) :=
  ⟨l[k], fun _ => rfl, parts_take l k h⟩
theorem fnd_nil (nm : List UInt8) : fnd [] nm = -1 := rfl
theorem addE_nil (e : En) (h : 0 < e.ck) : addE [] e = if nameOk e.nm = true then 0 else 67 := by
  unfold addE
  cases nameOk e.nm
  · rfl
  · rw [if_neg (by simp), if_neg (by rw [fnd_nil]; omega), if_neg (by show ¬ e.ck ≤ 0; omega)]
    rfl
theorem u8_ne (b c : UInt8) (n : Int) (hc : (c.toNat : Int) = n) : (((b.toNat : Int)) != n) = !(b == c) := by
  rw [← hc]
  by_cases h : b = c
  · subst h; simp
  · have h2 : b.toNat ≠ c.toNat := fun e => h (UInt8.toNat_inj.1 e)
    have e1 : (b == c) = false := by simpa using h
    rw [e1]
    simp
    omega
theorem built_N (v : ByteArray) : Tryz.prog.built 87 [(0, .int .u64 1), (2, .string v)] = some #[.int .u64 1, .int .u32 0, .int .u32 0, .string v] := by kernel_rfl

end Go.Proofs.YtpbpdnjlomhkdaaGreat
