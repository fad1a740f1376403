/-
  The table of ops, parts of blocks that are stored, and the small functions of package call (layer 9).
-/
import Derived.Test.YtobhmjokoicpoaaDoorKMath
import Derived.Test.YtobhmjokoicpoaaDoorEPut
import Derived.Test.YtobhmjokoicpoaaDoorDMem
import Derived.Lib.LaidTab
import Derived.MakeChecks
namespace Go.Proofs.YtobhmjokoicpoaaDoor
open Go.RowKit

/-! ### The table -/
def chg : List Bool := [false, false, false, true, false, true, true, true, true, false, true, true, true, true, false, false, false]
def chB (op : Nat) : Bool := op == 3 || (decide (5 ≤ op) && decide (op ≤ 8)) || (decide (10 ≤ op) && decide (op ≤ 13))
/-- The table of ops lies as it is laid. -/
def Ch (w : World) : Prop := ∀ i (b : Bool), chg[i]? = some b → w.cell? ⟨0, i, none⟩ = some (.bool b)
theorem Ch.keep {w w' : World} (h : Ch w) (hk : ∀ p : Addr, p.block < w.heap.size → w'.cell? p = w.cell? p) : Ch w' := fun i b hb => (hk _ (World.block_lt_of_cell? w _ (h i b hb))).trans (h i b hb)
theorem Ch.below {w w' : World} (h : Ch w) (hb : Below w.heap.size w w') : Ch w' := h.keep fun _ hp => hb.cell hp
theorem cells_of_bools {H : Type} {enc : TypeId × Value → H} {P : Program} {w : World} {base : Nat} {sp : Nat → Bool} {held : Bool} {fuel : Nat} {t e : TypeId} {n : Nat} {cs : List Value} {zs : List Bool} {p : List MemPlace}
    (ht : P.underlying t = some (.array n e)) (he : P.underlying e = some .bool) (hce : P.cellsOf e = 1) (hct : P.cellsOf t = n)
    (h : DataW.trod enc P w base sp held fuel t cs = some (.agg (zs.map fun z => .lit (.bool z)), p)) : cs = zs.map fun z => Value.bool z := by
  cases fuel with
  | zero => simp [DataW.trod] at h
  | succ fuel =>
    simp only [DataW.trod, ht, hce, hct, Nat.mul_one] at h
    split at h
    · rename_i hl
      obtain ⟨xs, hm, hx⟩ := Option.map_eq_some_iff.1 h
      have hxs : xs.map (·.1) = zs.map fun z => (DataW.lit (.bool z) : DataW H) := by
        have := congrArg Prod.fst hx
        simpa using this
      have hxl : xs.length = n := by simpa using Lib.mapM_length hm
      have hzl : zs.length = n := by
        have := congrArg List.length hxs
        simp at this
        omega
      apply List.ext_getElem?
      intro i
      by_cases hi : i < n
      · obtain ⟨b, hb, hf⟩ := Lib.mapM_at hm i i (by simp [hi])
        obtain ⟨z, hc, rfl⟩ := DataW.trod_bool he hf
        have h1 : cs[i]? = some (.bool z) := by
          have := congrArg (·[0]?) hc
          simpa [List.getElem?_take, List.getElem?_drop] using this
        have h2 : (xs.map (·.1))[i]? = some (DataW.lit (.bool z) : DataW H) := by simp [hb]
        rw [hxs] at h2
        simp only [List.getElem?_map, Option.map_eq_some_iff, DataW.lit.injEq, Lit.bool.injEq] at h2
        obtain ⟨z', hz', rfl⟩ := h2
        simp [h1, hz']
      · rw [List.getElem?_eq_none (by omega), List.getElem?_eq_none (by simp; omega)]
    · cases h
/-- The row's condition says it. -/
theorem ch_of_laid {W : World} {rest : List (String × DataW Unit)} (h : laidMet Tryd.prog (("removalist/call.changing", .agg (chg.map fun z => .lit (.bool z))) :: rest) W) : Ch W := by
  obtain ⟨ps, ⟨g', t', cs, fuel, p, q, hg', ht', hvar, hd, _, _⟩, _⟩ := h
  have hg : Tryd.prog.globalNamed "removalist/call.changing" = some 0 := by kernel_rfl
  have hty : (Tryd.prog.globals[0]?).map (·.type) = some 92 := by kernel_rfl
  obtain rfl := Option.some.inj (hg.symm.trans hg')
  obtain rfl := Option.some.inj (hty.symm.trans ht')
  have hcs := cells_of_bools Tryd.underlying92 Tryd.underlying4 (by kernel_rfl) (by kernel_rfl) hd
  intro i b hb
  rw [World.var?_cell hg hvar i]
  rw [← Array.getElem?_toList, hcs, List.getElem?_map, hb]
  rfl

theorem opOk_any (op : Nat) (w : World) : Calls Tryd.prog 23 #[.int .u32 (op : Int)] w fun e w' => e = .returned (.bool (opOk op)) ∧ w = w' := by
  by_cases h1 : 1 ≤ op
  · have h1' : (1 : Int) ≤ (op : Int) := by omega
    by_cases h2 : op ≤ 16
    · have h2' : (op : Int) ≤ 16 := by omega
      have HE : Hid (opOk op = true) := by show _ = _; simp [opOk, h1, h2]
      clear h1 h2
      go_enter Tryd.func23, Tryd.ntmps23
      go_wp2
      go_ret
      rw [HE.out]
      exact ⟨rfl, rfl⟩
    · have h2' : ¬ (op : Int) ≤ 16 := by omega
      have HE : Hid (opOk op = false) := by show _ = _; simp [opOk, h2]
      clear h1 h2
      go_enter Tryd.func23, Tryd.ntmps23
      go_wp2
      go_ret
      rw [HE.out]
      exact ⟨rfl, rfl⟩
  · have h1' : ¬ (1 : Int) ≤ (op : Int) := by omega
    have HE : Hid (opOk op = false) := by show _ = _; simp [opOk, h1]
    clear h1
    go_enter Tryd.func23, Tryd.ntmps23
    go_wp2
    go_ret
    rw [HE.out]
    exact ⟨rfl, rfl⟩

theorem chg_at : ∀ op, op ≤ 16 → chg[op]? = some (chB op) := by decide
theorem chB_no (op : Nat) (h : ¬ op ≤ 16) : chB op = false := by
  unfold chB
  have h1 : (op == 3) = false := by simp; omega
  have h2 : decide (op ≤ 8) = false := by simp; omega
  have h3 : decide (op ≤ 13) = false := by simp; omega
  rw [h1, h2, h3]
  simp
theorem changes_any (op : Nat) (w : World) (h : Ch w) : Calls Tryd.prog 15 #[.int .u32 (op : Int)] w fun e w' => e = .returned (.bool (chB op)) ∧ w = w' := by
  by_cases h2 : op ≤ 16
  · have hc := h op _ (chg_at op h2)
    have h2' : (op : Int) ≤ 16 := by omega
    clear h
    go_enter Tryd.func15, Tryd.ntmps15
    go_wp2
    go_ret
    exact ⟨rfl, rfl⟩
  · have h2' : ¬ (op : Int) ≤ 16 := by omega
    rw [chB_no op h2]
    clear h h2
    go_enter Tryd.func15, Tryd.ntmps15
    go_wp2
    go_ret
    exact ⟨rfl, rfl⟩
theorem status_any (z : Int) (w : World) : Calls Tryd.prog 43 #[.int .i64 z] w fun e w' => e = .returned (.bool (stOk z)) ∧ w = w' := by
  by_cases h0 : z = 0
  · subst h0
    go_enter Tryd.func43, Tryd.ntmps43
    go_wp2
    go_ret
    exact ⟨rfl, rfl⟩
  · have h0' : (z == 0) = false := by simp [h0]
    by_cases h1 : 60 ≤ z
    · by_cases h2 : z ≤ 71
      · have HE : Hid (stOk z = true) := (stOk_iff z).2 (.inr ⟨h1, h2⟩)
        go_enter Tryd.func43, Tryd.ntmps43
        go_wp2
        go_ret
        rw [HE.out]
        exact ⟨rfl, rfl⟩
      · have HE : Hid (stOk z = false) := by show _ = _; simp [stOk, h0, h2]
        go_enter Tryd.func43, Tryd.ntmps43
        go_wp2
        go_ret
        rw [HE.out]
        exact ⟨rfl, rfl⟩
    · have HE : Hid (stOk z = false) := by show _ = _; simp [stOk, h0, h1]
      go_enter Tryd.func43, Tryd.ntmps43
      go_wp2
      go_ret
      rw [HE.out]
      exact ⟨rfl, rfl⟩
end Go.Proofs.YtobhmjokoicpoaaDoor
