/-
  A map of functions by numbers that a call makes and asks: package ops' operations (layer 13).
-/
import Derived.Test.YtpbpdnjlomhkdaaGreatOPC
import Derived.Carry
import Derived.Maps.Own
namespace Go.Proofs.YtpbpdnjlomhkdaaGreat
open Go.RowKit Go.Shelf Go.Maps

theorem lawU : Keyed Tryz.prog 33 := int_keyed Tryz.underlying33
theorem keyU {n : Nat} (h : n < 4294967296) : keyOf Tryz.prog 33 (.int .u32 (n : Int)) = some (.int .u32 (n : Int)) := keyOf_int_mk Tryz.underlying33 (by simp [Lit.wf, IntKind.min, IntKind.max, IntKind.bits, IntKind.signed]; omega)
/-- The entries of a map from 1 to k. -/
def eop (F : Nat → Value) (k : Nat) : List MapEntry := (List.range k).map fun i => { key := .int .u32 ((i + 1 : Nat) : Int), val := F (i + 1), born := i }
theorem eop_len (F : Nat → Value) (k : Nat) : (eop F k).length = k := by simp [eop]
theorem eop_key (F : Nat → Value) (k : Nat) : ∀ e ∈ eop F k, ∃ i, i < k ∧ e.key = .int .u32 ((i + 1 : Nat) : Int) ∧ e.val = F (i + 1) := by
  intro e he
  simp only [eop, List.mem_map, List.mem_range] at he
  obtain ⟨i, hi, rfl⟩ := he
  exact ⟨i, hi, rfl, rfl⟩
theorem eop_succ (F : Nat → Value) (k : Nat) : eop F (k + 1) = eop F k ++ [{ key := .int .u32 ((k + 1 : Nat) : Int), val := F (k + 1), born := k }] := by simp [eop, List.range_succ]
/-- A map from 1 to k. -/
def MW (F : Nat → Value) (w : World) (b k : Nat) : Prop := w.heap[b]? = some (.map (eop F k).toArray k)
theorem MW.lt {F : Nat → Value} {w : World} {b k : Nat} (h : MW F w b k) : b < w.heap.size := (Array.getElem?_eq_some_iff.1 h).1
theorem eop_keys (F : Nat → Value) (k : Nat) (hk : k ≤ 100) : ∀ e ∈ eop F k, ∃ l, keyOf Tryz.prog 33 e.key = some l := fun e he => by
  obtain ⟨i, hi, h1, _⟩ := eop_key F k e he
  rw [h1]
  exact ⟨_, keyU (by omega)⟩
theorem MW.put {F : Nat → Value} {w : World} {b k : Nat} (h : MW F w b k) (hk : k ≤ 100) {mt et : TypeId} (ht : Tryz.prog.underlying mt = some (.map 33 et)) :
    ∃ w', (Instr.mapUpdate mt (.map (some b)) (.int .u32 ((k + 1 : Nat) : Int)) (F (k + 1))).run Tryz.prog w = .ok () w' ∧ MW F w' b (k + 1) ∧ w.grownBy w' (some b) := by
  have hc := lawU.check w false (keyU (n := k + 1) (by omega))
  have hf : (Instr.findKey 33 (.int .u32 ((k + 1 : Nat) : Int)) (eop F k)).run Tryz.prog w = .ok none w := by
    rcases lawU.find w (keyU (n := k + 1) (by omega)) (eop F k) (eop_keys F k hk) with h1 | ⟨j, e, _, h2, h3⟩
    · exact h1.1
    · obtain ⟨i, hi, h4, _⟩ := eop_key F k e (List.mem_of_getElem? h2)
      rw [h4] at h3
      have h6 := (Value.int.inj h3).2
      omega
  have he := eop_succ F k
  generalize hK : Value.int .u32 ((k + 1 : Nat) : Int) = K at *
  generalize F (k + 1) = f at *
  refine ⟨{ w with heap := w.heap.setIfInBounds b (.map (eop F (k + 1)).toArray (k + 1)) }, ?_, ?_, ?_⟩
  · simp [Instr.mapUpdate, run_underlying ht, MapKept.run_getObj_map h, hc, hf, MapKept.run_setObj_map _ h, Result.andThen, he]
  · unfold MW
    simp [h.lt]
  · exact ⟨rfl, rfl, rfl, by simp, fun q hq hne => by simp [show b ≠ q from fun e => hne (by rw [e])]⟩
theorem MW.ask {F : Nat → Value} {w : World} {b k : Nat} (h : MW F w b k) (hk : k ≤ 100) {mt et : TypeId} (ht : Tryz.prog.underlying mt = some (.map 33 et)) {z : Value} (hz : (zeroValue et).run Tryz.prog w = .ok z w) {n : Nat} (hn : n < 4294967296) :
    (Instr.lookup mt (.map (some b)) (.int .u32 (n : Int)) true).run Tryz.prog w = .ok (.tuple #[if 1 ≤ n ∧ n ≤ k then F n else z, .bool (decide (1 ≤ n ∧ n ≤ k))]) w := by
  have hc := fun em => lawU.check w em (keyU hn)
  rcases lawU.find w (keyU hn) (eop F k) (eop_keys F k hk) with h1 | ⟨j, e, h1, h2, h3⟩
  · have hno : ¬ (1 ≤ n ∧ n ≤ k) := fun hh => by
      refine h1.2 { key := .int .u32 (((n - 1) + 1 : Nat) : Int), val := F ((n - 1) + 1), born := n - 1 } ?_ ?_
      · simp only [eop, List.mem_map, List.mem_range]
        exact ⟨n - 1, by omega, rfl⟩
      · show Value.int .u32 _ = _
        rw [show n - 1 + 1 = n by omega]
    rw [if_neg hno, decide_eq_false hno]
    simp [Instr.lookup, run_underlying ht, MapKept.run_getObj_map h, hc, h1.1, hz, Result.andThen]
  · obtain ⟨i, hi, h4, h5⟩ := eop_key F k e (List.mem_of_getElem? h2)
    have hin : n = i + 1 := by
      rw [h4] at h3
      have h6 := (Value.int.inj h3).2
      omega
    have hyes : 1 ≤ n ∧ n ≤ k := by omega
    rw [if_pos hyes, decide_eq_true hyes]
    rw [h5, ← hin] at h1
    simp [Instr.lookup, run_underlying ht, MapKept.run_getObj_map h, hc, h1, Result.andThen]
/-- One more entry, in a walk. -/
theorem wpList_insert {F : Nat → Value} {w : World} {ops : Array Oper} {rest : List Oper} {o : Oper} {a : Act} {Q : Exit → Act → World → Prop} (hg : o.guard = none) (m x v : Operand) (mt et : TypeId) (ho : o.op = .insert mt m x v)
    (ht : Tryz.prog.underlying mt = some (.map 33 et)) {b k : Nat} (hm : a.eval m = .map (some b)) (hw : MW F w b k) (hk : k ≤ 100) (hx : a.eval x = .int .u32 ((k + 1 : Nat) : Int)) (hv : a.eval v = F (k + 1))
    (hK : ∀ w', MW F w' b (k + 1) → w.grownBy w' (some b) → wpList Tryz.prog ops Q rest (a.put o.dst undef) w') : wpList Tryz.prog ops Q (o :: rest) a w := by
  refine wpList_plain hg fun K' hK' => ?_
  obtain ⟨w', hrun, h1, h2⟩ := hw.put hk ht
  have h3 := hK w' h1 h2
  generalize hK : Value.int .u32 ((k + 1 : Nat) : Int) = K at *
  generalize F (k + 1) = f at *
  unfold Oper.wp
  simp [execOp, ho, hm, hx, hv, hrun, Result.andThen]
  exact hK' _ _ h3
/-- The operations' functions. -/
def opF : Nat → Nat
  | 1 => 53
  | 2 => 54
  | 3 => 55
  | 4 => 56
  | 5 => 57
  | 6 => 58
  | 7 => 59
  | 8 => 60
  | 9 => 61
  | 10 => 62
  | 11 => 63
  | 12 => 64
  | 13 => 65
  | 14 => 66
  | 15 => 67
  | 16 => 68
  | _ => 0
def opV (n : Nat) : Value := .func (.func (opF n)) #[] #[]
set_option maxRecDepth 100000 in
set_option maxHeartbeats 1000000 in
theorem operations_any (w : World) : Calls Tryz.prog 35 #[] w fun e w' => e = .returned (.map (some w.heap.size)) ∧ MW opV w' w.heap.size 16 ∧ Below w.heap.size w w' := by
  have hmm := @run_makeMap Tryz.prog
  have HM0 : Hid (MW opV (w.alloc (.map #[] 0)) w.heap.size 0) := heap_alloc_new w _
  have HB0 := Lib.hid (alloc_below w (.map #[] 0))
  have HG : Hid (∀ w1 w2 : World, Below w.heap.size w w1 → w1.grownBy w2 (some w.heap.size) → Below w.heap.size w w2) := (show Hid _ from fun w1 w2 h1 h2 => h1.grown h2 h1.size (fun j hj => by cases hj; exact Nat.le_refl _))
  go_enter Tryz.func35, Tryz.ntmps35
  go_wp2_with (first
    | (refine wpList_insert rfl (.tmp 1) _ _ 99 _ rfl Tryz.underlying99 (k := 0) rfl HM0.out (by omega) rfl rfl ?_
       intro w1 hm1 hg1
       have HM1 := Lib.hid hm1
       have HB1 := Lib.hid (HG.out _ _ HB0.out hg1)
       clear hm1 hg1 HM0 HB0)
    | (refine wpList_insert rfl (.tmp 1) _ _ 99 _ rfl Tryz.underlying99 (k := 1) rfl HM1.out (by omega) rfl rfl ?_
       intro w2 hm2 hg2
       have HM2 := Lib.hid hm2
       have HB2 := Lib.hid (HG.out _ _ HB1.out hg2)
       clear hm2 hg2 HM1 HB1)
    | (refine wpList_insert rfl (.tmp 1) _ _ 99 _ rfl Tryz.underlying99 (k := 2) rfl HM2.out (by omega) rfl rfl ?_
       intro w3 hm3 hg3
       have HM3 := Lib.hid hm3
       have HB3 := Lib.hid (HG.out _ _ HB2.out hg3)
       clear hm3 hg3 HM2 HB2)
    | (refine wpList_insert rfl (.tmp 1) _ _ 99 _ rfl Tryz.underlying99 (k := 3) rfl HM3.out (by omega) rfl rfl ?_
       intro w4 hm4 hg4
       have HM4 := Lib.hid hm4
       have HB4 := Lib.hid (HG.out _ _ HB3.out hg4)
       clear hm4 hg4 HM3 HB3)
    | (refine wpList_insert rfl (.tmp 1) _ _ 99 _ rfl Tryz.underlying99 (k := 4) rfl HM4.out (by omega) rfl rfl ?_
       intro w5 hm5 hg5
       have HM5 := Lib.hid hm5
       have HB5 := Lib.hid (HG.out _ _ HB4.out hg5)
       clear hm5 hg5 HM4 HB4)
    | (refine wpList_insert rfl (.tmp 1) _ _ 99 _ rfl Tryz.underlying99 (k := 5) rfl HM5.out (by omega) rfl rfl ?_
       intro w6 hm6 hg6
       have HM6 := Lib.hid hm6
       have HB6 := Lib.hid (HG.out _ _ HB5.out hg6)
       clear hm6 hg6 HM5 HB5)
    | (refine wpList_insert rfl (.tmp 1) _ _ 99 _ rfl Tryz.underlying99 (k := 6) rfl HM6.out (by omega) rfl rfl ?_
       intro w7 hm7 hg7
       have HM7 := Lib.hid hm7
       have HB7 := Lib.hid (HG.out _ _ HB6.out hg7)
       clear hm7 hg7 HM6 HB6)
    | (refine wpList_insert rfl (.tmp 1) _ _ 99 _ rfl Tryz.underlying99 (k := 7) rfl HM7.out (by omega) rfl rfl ?_
       intro w8 hm8 hg8
       have HM8 := Lib.hid hm8
       have HB8 := Lib.hid (HG.out _ _ HB7.out hg8)
       clear hm8 hg8 HM7 HB7)
    | (refine wpList_insert rfl (.tmp 1) _ _ 99 _ rfl Tryz.underlying99 (k := 8) rfl HM8.out (by omega) rfl rfl ?_
       intro w9 hm9 hg9
       have HM9 := Lib.hid hm9
       have HB9 := Lib.hid (HG.out _ _ HB8.out hg9)
       clear hm9 hg9 HM8 HB8)
    | (refine wpList_insert rfl (.tmp 1) _ _ 99 _ rfl Tryz.underlying99 (k := 9) rfl HM9.out (by omega) rfl rfl ?_
       intro w10 hm10 hg10
       have HM10 := Lib.hid hm10
       have HB10 := Lib.hid (HG.out _ _ HB9.out hg10)
       clear hm10 hg10 HM9 HB9)
    | (refine wpList_insert rfl (.tmp 1) _ _ 99 _ rfl Tryz.underlying99 (k := 10) rfl HM10.out (by omega) rfl rfl ?_
       intro w11 hm11 hg11
       have HM11 := Lib.hid hm11
       have HB11 := Lib.hid (HG.out _ _ HB10.out hg11)
       clear hm11 hg11 HM10 HB10)
    | (refine wpList_insert rfl (.tmp 1) _ _ 99 _ rfl Tryz.underlying99 (k := 11) rfl HM11.out (by omega) rfl rfl ?_
       intro w12 hm12 hg12
       have HM12 := Lib.hid hm12
       have HB12 := Lib.hid (HG.out _ _ HB11.out hg12)
       clear hm12 hg12 HM11 HB11)
    | (refine wpList_insert rfl (.tmp 1) _ _ 99 _ rfl Tryz.underlying99 (k := 12) rfl HM12.out (by omega) rfl rfl ?_
       intro w13 hm13 hg13
       have HM13 := Lib.hid hm13
       have HB13 := Lib.hid (HG.out _ _ HB12.out hg13)
       clear hm13 hg13 HM12 HB12)
    | (refine wpList_insert rfl (.tmp 1) _ _ 99 _ rfl Tryz.underlying99 (k := 13) rfl HM13.out (by omega) rfl rfl ?_
       intro w14 hm14 hg14
       have HM14 := Lib.hid hm14
       have HB14 := Lib.hid (HG.out _ _ HB13.out hg14)
       clear hm14 hg14 HM13 HB13)
    | (refine wpList_insert rfl (.tmp 1) _ _ 99 _ rfl Tryz.underlying99 (k := 14) rfl HM14.out (by omega) rfl rfl ?_
       intro w15 hm15 hg15
       have HM15 := Lib.hid hm15
       have HB15 := Lib.hid (HG.out _ _ HB14.out hg15)
       clear hm15 hg15 HM14 HB14)
    | (refine wpList_insert rfl (.tmp 1) _ _ 99 _ rfl Tryz.underlying99 (k := 15) rfl HM15.out (by omega) rfl rfl ?_
       intro w16 hm16 hg16
       have HM16 := Lib.hid hm16
       have HB16 := Lib.hid (HG.out _ _ HB15.out hg16)
       clear hm16 hg16 HM15 HB15))
  go_ret
  exact ⟨rfl, HM16.out, HB16.out⟩
end Go.Proofs.YtpbpdnjlomhkdaaGreat
