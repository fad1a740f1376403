/-
  Contracts of layer 2: shifted, effects, number, More and Of.
-/
import Derived.Test.YtcieahfhpanogaaCInt
import Derived.Test.YtcieahfhpanogaaBytes
namespace Go.Proofs.Ytcieahfhpanogaa
open Go.RowKit

set_option maxHeartbeats 400000 in
theorem shifted_any (a : BitVec 32) (w : World) : Calls Try.prog 88 #[.int .u32 (a.toNat : Int)] w fun e w' => e = .returned (.int .u32 ((sh a).toNat : Int)) ∧ w = w' := by
  have hlt := a.isLt
  by_cases h : (2147483648 : Int) ≤ (a.toNat : Int)
  · have HH := Lib.hid (sh_hi a h)
    go_enter Try.func88, Try.ntmps88
    go_wp2
    go_ret
    exact ⟨ret_int HH.out, rfl⟩
  · have HH := Lib.hid (sh_lo a h)
    go_enter Try.func88, Try.ntmps88
    go_wp2
    go_ret
    exact ⟨ret_int (by rw [← HH.out]; omega), rfl⟩

/-- The table: what shifting four bits out leaves behind. -/
def tabv (i : Nat) : BitVec 32 := shn 4 (BitVec.ofNat 32 i <<< 28)
/-- Its first k numbers, noughts behind them. -/
def tab (k : Nat) : List Value := (List.range 16).map fun i => .int .u32 ((if i < k then tabv i else 0#32).toNat : Int)
theorem tab_len (k : Nat) : (tab k).length = 16 := by simp [tab]
theorem tab_get (k j : Nat) (h : j < 16) : (tab k)[j]? = some (.int .u32 ((if j < k then tabv j else 0#32).toNat : Int)) := by simp [tab, h]
theorem tab_set (k : Nat) (h : k < 16) : (tab k).set k (.int .u32 ((tabv k).toNat : Int)) = tab (k + 1) := by
  apply List.ext_getElem?
  intro j
  rw [List.getElem?_set, tab_len]
  by_cases hj : j < 16
  · rw [tab_get _ _ hj, tab_get _ _ hj]
    by_cases e : k = j
    · subst e
      rw [if_pos rfl, if_pos hj, if_pos (by omega)]
    · rw [if_neg e]
      by_cases hl : j < k
      · rw [if_pos hl, if_pos (by omega)]
      · rw [if_neg hl, if_neg (by omega)]
  · rw [if_neg (by omega), List.getElem?_eq_none (by rw [tab_len]; omega), List.getElem?_eq_none (by rw [tab_len]; omega)]
theorem tab_one (k : Nat) : ∀ v ∈ tab k, v.oneCell' = true := by
  intro v hv
  simp only [tab, List.mem_map] at hv
  obtain ⟨i, _, rfl⟩ := hv
  rfl
theorem info_tab : (Try.prog.info? 122).map (·.size) = some 16 := by kernel_rfl
theorem shn_succ (n : Nat) (x : BitVec 32) : shn (n + 1) x = sh (shn n x) := by rw [shn_add]; rfl
theorem start28 (k : Nat) (h : k < 16) : (k : Int) * (268435456 : Int) = ((shn 0 (BitVec.ofNat 32 k <<< 28)).toNat : Int) := by
  show _ = ((BitVec.ofNat 32 k <<< 28).toNat : Int)
  rw [BitVec.toNat_shiftLeft, Nat.shiftLeft_eq, BitVec.toNat_ofNat]
  omega
/-- What effects knows of its two blocks behind k rounds. -/
def EffI (w : World) (k : Nat) (wr : World) : Prop :=
  wr.heap[w.heap.size + 1]? = some (.cells (tab k).toArray 122 (0, 0)) ∧ wr.heap[w.heap.size]? = some (.cells (tab 0).toArray 122 (0, 0)) ∧ Below w.heap.size w wr
theorem EffI.start (w : World) : EffI w 0 ((w.alloc (.cells (tab 0).toArray 122)).alloc (.cells (tab 0).toArray 122)) :=
  ⟨by
    have := heap_alloc_new (w.alloc (.cells (tab 0).toArray 122)) (.cells (tab 0).toArray 122)
    simpa using this, by
    rw [Below.heap_alloc _ _ _ (by simp), heap_alloc_new], ((Below.refl _ _).alloc (Nat.le_refl _) _).alloc (by simp) _⟩
theorem EffI.step {w wr : World} {k : Nat} (h : EffI w k wr) (hk : k < 16) : EffI w (k + 1) (wr.setCell ⟨w.heap.size + 1, k, none⟩ (.int .u32 ((tabv k).toNat : Int))) := by
  refine ⟨?_, ?_, h.2.2.setCell (by simp) _⟩
  · rw [setCell_eq_setRow _ _ _ _ _ _ _ h.1, setRow_heap _ _ _ _ _ _ h.1, ← tab_set k hk]
    simp
  · rw [setCell_eq_setRow _ _ _ _ _ _ _ h.1, setRow_other _ _ _ _ (by omega), h.2.1]

set_option maxRecDepth 100000 in
set_option maxHeartbeats 1000000 in
theorem effects_any (w : World) : Calls Try.prog 87 #[] w fun e w' => e = .returned (.agg (tab 16).toArray) ∧ Below w.heap.size w w' := by
  have HS := Lib.hid (EffI.start w)
  go_enter Try.func87, Try.ntmps87
  go_wp2
  go_loopw [4] (fun i wr => ∃ k : Nat, k ≤ 16 ∧ i = .int .i64 k ∧ Hid (EffI w k wr)) (fun i _ => 16 - (intOf i).toNat)
  case atStart => exact ⟨0, by omega, rfl, HS⟩
  case round =>
    clear HS
    obtain ⟨k, hk, rfl, HI⟩ := hrel
    by_cases hlt : k < 16
    · have HE := Lib.hid (start28 k hlt)
      have hd : decide ((k : Int) < 16) = true := by simp; omega
      go_wp2
      go_loop [3, 10] (fun x j => ∃ m : Nat, m ≤ 4 ∧ j = .int .i64 m ∧ x = .int .u32 ((shn m (BitVec.ofNat 32 k <<< 28)).toNat : Int)) (fun _ j => 4 - (intOf j).toNat)
      case atStart => exact ⟨0, by omega, rfl, by rw [← HE.out]⟩
      case round =>
        clear HE
        obtain ⟨m, hm, rfl, rfl⟩ := hrel
        by_cases hl4 : m < 4
        · have HN := Lib.hid (shn_succ m (BitVec.ofNat 32 k <<< 28))
          go_wp2_with fail
          refine (shifted_any _ _).mono ?_
          rintro e w' ⟨rfl, rfl⟩
          go_wp2
          go_round
          case rel => exact ⟨m + 1, by omega, by go_num, by rw [HN.out]⟩
          case measure => simp [intOf]; omega
        · have hm4 : m = 4 := by omega
          subst hm4
          have hcell : wr.cell? ⟨w.heap.size + 1, k, none⟩ = some (.int .u32 ((if k < k then tabv k else 0#32).toNat : Int)) := by
            rw [cell_of_row _ _ _ _ _ _ HI.out.1]
            simpa using tab_get k k hlt
          have hfro : wr.frozen? ⟨w.heap.size + 1, k, none⟩ = false := by simp [World.frozen?, HI.out.1]
          have HI2 := Lib.hid (HI.out.step hlt)
          go_wp2
          go_roundw
          case rel => exact ⟨k + 1, by omega, by go_num, HI2⟩
          case measure => simp [intOf]; omega
    · have H16 : Hid (k = 16) := by show _ = _; omega
      have hd : decide ((k : Int) < 16) = false := by simp; omega
      obtain ⟨h1, h2, h3⟩ := HI.out
      have G1 := Lib.hid h1
      have G2 := Lib.hid h2
      have G3 := Lib.hid h3
      clear h1 h2 h3 HI
      go_wp2_with
        (first
        | (refine wpList_load_row rfl 122 (.tmp 1) rfl (w.heap.size + 1) rfl 122 (tab k).toArray (0, 0) _ G1.out Try.underlying122 rfl (by rw [info_tab]; simp [tab_len]) ?_)
        | (refine wpList_store_row rfl 122 (.tmp 0) (.tmp 19) rfl w.heap.size (tab k).toArray rfl rfl 122 (tab 0).toArray G2.out (by rw [info_tab]; simp [tab_len]) (by simp [tab_len]) (by simpa using tab_one k) ?_))
      have HR := Lib.hid (setRow_heap wr w.heap.size (tab 0).toArray (tab k).toArray 122 (0, 0) G2.out)
      have HB : Hid (Below w.heap.size w (wr.setRow w.heap.size (tab k).toArray)) :=
        G3.out.trans ⟨rfl, rfl, rfl, by simp, fun i hi => setRow_other _ _ _ _ (by omega)⟩
      refine bodyPost_ret (v := .agg (tab k).toArray) (results_cell_row Try.results87 _ _ w.heap.size 122 _ _ _ rfl HR.out Try.underlying122 rfl (by rw [info_tab]; simp [tab_len])) rfl ?_
      exact ⟨by rw [H16.out], HB.out⟩
end Go.Proofs.Ytcieahfhpanogaa
