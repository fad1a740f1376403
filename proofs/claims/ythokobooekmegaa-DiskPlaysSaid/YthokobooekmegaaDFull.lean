/-
  Crash as a plain contract; the law's own helper full.
-/
import Derived.Test.YthokobooekmegaaDCrash
namespace Go.Proofs.Ythokobooekmegaa
open Go.RowKit

theorem crash_any (p : Nat) (S : Nat → Prop) (s : DS) (A : Option Addr) (m c : Nat) (L : List UInt8) (w : World) (h : Dk w p S s) (hs : s.pend.length ≤ 1000000) (hL : BS w A m L) (hA : 0 < m → ∀ ad, A = some ad → ¬ S ad.block) (hm : m ≤ maxLen) :
    Calls Try.prog 20 #[.pointer (some ⟨p, 0, none⟩), .slice A m c] w fun e w' =>
      e = .returned (.int .i64 ((cho L s.pend s.pend.length).length : Int)) ∧ Dk w' p S (s.crashed L) ∧ Fr S w w' :=
  callsIn_wide.1 (crash_in Fence.wide 3 trivial trivial trivial rfl (by omega) p S s A m c L w h hs hL hA hm)
set_option maxHeartbeats 400000 in
theorem crash_nil (A : Option Addr) (m c : Nat) (w : World) : Calls Try.prog 20 #[.pointer none, .slice A m c] w fun e w' => e = .returned (.int .i64 0) ∧ Below w.heap.size w w' := by
  go_enter Try.func20, Try.ntmps20
  go_wp2
  go_ret
  exact ⟨rfl, (Below.refl _ _).alloc (Nat.le_refl _) _⟩

/-- A sector out of bytes. -/
def fl (l : List UInt8) : List UInt8 := (l ++ zs).take 128
theorem fl_len (l : List UInt8) : (fl l).length = 128 := by simp [fl, zs_len]
/-- The first k bytes, noughts behind them. -/
def flk (l : List UInt8) (k : Nat) : List UInt8 := l.take k ++ List.replicate (128 - k) 0
theorem flk_zero (l : List UInt8) : flk l 0 = zs := by simp [flk, zs]
theorem flk_len (l : List UInt8) (k : Nat) (hk : k ≤ l.length) (h : k ≤ 128) : (flk l k).length = 128 := by simp [flk]; omega
theorem flk_step (l : List UInt8) (k : Nat) (hk : k < l.length) (h : k < 128) : (flk l k).set k l[k] = flk l (k + 1) := by
  unfold flk
  rw [List.set_append_right _ _ (by simp; omega), List.take_succ_eq_append_getElem hk]
  have e : k - (l.take k).length = 0 := by simp; omega
  rw [e, show 128 - k = (128 - (k + 1)) + 1 by omega, List.replicate_succ, List.append_assoc]
  rfl
theorem flk_end (l : List UInt8) (k : Nat) (hk : k ≤ l.length) (h : k = 128 ∨ k = l.length) (h2 : k ≤ 128) : flk l k = fl l := by
  unfold flk fl zs
  rcases h with rfl | rfl
  · rw [List.take_append_of_le_length hk]; simp
  · rw [List.take_append, List.take_of_length_le (Nat.le_refl _), List.take_of_length_le h2, List.take_replicate]
    congr 2
    omega

theorem made_bytes (n : Nat) : madeCells (Value.int .u8 0).cells (n * 1) = (bc (List.replicate n 0)).toArray := by
  apply Array.ext'
  simp [madeCells, bc, Value.cells, Nat.mod_one]
  rw [List.eq_replicate_iff]
  simp
/-- make([]byte, n), the world under a name of its own. -/
theorem wpList_make_bytes {o : Oper} {a : Act} {w : World} {ops : Array Oper} {rest : List Oper} {Q : Exit → Act → World → Prop} (hgd : o.guard = none) (l c : Operand) (ho : o.op = .makeSlice 34 l c) (n : Nat) (hl : a.eval l = .int .i64 (n : Int)) (hc : a.eval c = .int .i64 (n : Int)) (hn : n ≤ 1000000)
    (h : ∀ w', w'.heap[w.heap.size]? = some (.cells (bc (List.replicate n 0)).toArray 5 (0, 0)) → w'.heap.size = w.heap.size + 1 → Below w.heap.size w w' → wpList Try.prog ops Q rest (a.put o.dst (.slice (some ⟨w.heap.size, 0, none⟩) n n)) w') : wpList Try.prog ops Q (o :: rest) a w := by
  obtain ⟨i, hi, hz, hs, hb⟩ := info_parts info_u8
  have hr := run_makeSlice (P := Try.prog) w 34 5 i (.int .u8 0) Try.underlying34 hi hz .i64 .i64 (n : Int) (n : Int) (by omega) (by omega) (by rw [hs]; simp; omega) (by rw [hb]; omega) (by omega)
  rw [hs, Int.toNat_natCast, made_bytes] at hr
  refine Did.list hgd (v := .slice (some ⟨w.heap.size, 0, none⟩) n n) (w' := w.alloc (.cells (bc (List.replicate n 0)).toArray 5)) (.inl ?_) (h _ (heap_alloc_new w _) (by simp) ((Below.refl _ _).alloc (Nat.le_refl _) _))
  unfold execOp
  simp only [ho, hl, hc, Sem.run_bind, hr, Result.andThen_ok]
  rfl

set_option maxRecDepth 100000 in
set_option maxHeartbeats 1000000 in
theorem full_any (A : Option Addr) (m c : Nat) (l : List UInt8) (odd : Bool) (w : World) (hb : BS w A m l) (hm : m ≤ maxLen) :
    Calls Try.prog 13 #[.slice A m c, .bool odd] w fun e w' =>
      e = .returned (.slice (some ⟨w.heap.size, 0, none⟩) (if odd then 127 else 128) 128) ∧ w'.heap[w.heap.size]? = some (.cells (bc (fl l)).toArray 5 (0, 0)) ∧ Below w.heap.size w w' := by
  unfold maxLen at hm
  have HB := Lib.hid hb
  have hll := hb.1
  clear hb
  go_enter Try.func13, Try.ntmps13
  go_wp2_with (refine wpList_make_bytes rfl (.const (.int .i64 128)) (.const (.int .i64 128)) rfl 128 rfl rfl (by omega) ?_; intro w1 hb1 hs1 hw1; have HB1 := Lib.hid hb1; have HS1 := Lib.hid hs1; have HW1 := Lib.hid hw1; clear hb1 hs1 hw1)
  go_loopw [6] (fun i wr => ∃ k : Nat, k ≤ m ∧ k ≤ 128 ∧ i = .int .i64 k ∧ Hid (wr.heap[w.heap.size]? = some (.cells (bc (flk l k)).toArray 5 (0, 0))) ∧ Hid (Below w.heap.size w wr)) (fun i _ => 128 - (intOf i).toNat)
  case atStart => exact ⟨0, by omega, by omega, rfl, by rw [flk_zero]; exact HB1, HW1⟩
  case round =>
    obtain ⟨k, hk, hk128, rfl, HC, HW⟩ := hrel
    by_cases h128 : k < 128
    · by_cases hkm : k < m
      · obtain ⟨b, o, rfl, hj, hcell⟩ := (HB.out.below HW.out).at hkm
        have HS : Hid ((flk l k).set k l[k] = flk l (k + 1)) := flk_step l k hj h128
        have hold : wr.cell? ⟨w.heap.size, k, none⟩ = some (.int .u8 (((flk l k)[k]'(by rw [flk_len l k (by omega) (by omega)]; omega)).toNat : Int)) := by
          rw [cell_of_row _ _ _ _ _ _ HC.out]
          simpa using bc_get (flk l k) k (by rw [flk_len l k (by omega) (by omega)]; omega)
        have hfro : wr.frozen? ⟨w.heap.size, k, none⟩ = false := by simp [World.frozen?, HC.out]
        have HN : Hid ((wr.setCell ⟨w.heap.size, k, none⟩ (.int .u8 (l[k].toNat : Int))).heap[w.heap.size]? = some (.cells (bc (flk l (k + 1))).toArray 5 (0, 0))) := by
          show _ = _
          rw [setCell_eq_setRow _ _ _ _ _ _ _ HC.out, setRow_heap _ _ _ _ _ _ HC.out, ← HS.out]
          congr 2
          simp [bc, List.map_set]
        have HWN : Hid (Below w.heap.size w (wr.setCell ⟨w.heap.size, k, none⟩ (.int .u8 (l[k].toNat : Int)))) := HW.out.setCell (p := ⟨w.heap.size, k, none⟩) (Nat.le_refl _) _
        go_wp2
        go_roundw
        case rel => exact ⟨k + 1, by omega, by omega, by go_num, HN, HWN⟩
        case measure => simp [intOf]; omega
      · have HE : Hid (flk l k = fl l) := flk_end l k (by omega) (.inr (by omega)) hk128
        have hkm' : ¬ (k : Int) < (m : Int) := by omega
        cases odd
        all_goals
          go_wp2
          go_ret
          exact ⟨rfl, by rw [← HE.out]; exact HC.out, HW.out⟩
    · have HE : Hid (flk l k = fl l) := flk_end l k (by omega) (.inl (by omega)) hk128
      cases odd
      all_goals
        go_wp2
        go_ret
        exact ⟨rfl, by rw [← HE.out]; exact HC.out, HW.out⟩
end Go.Proofs.Ythokobooekmegaa
