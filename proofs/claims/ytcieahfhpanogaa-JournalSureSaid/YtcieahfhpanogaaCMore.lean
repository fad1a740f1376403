/-
  Contracts of layer 2: number, More and Of.
-/
import Derived.Test.YtcieahfhpanogaaCrc
import Derived.Deep.DeepCutAuto
namespace Go.Proofs.Ytcieahfhpanogaa
open Go.RowKit

theorem noughts16 : #[Value.int .u32 0, .int .u32 0, .int .u32 0, .int .u32 0, .int .u32 0, .int .u32 0, .int .u32 0, .int .u32 0, .int .u32 0, .int .u32 0, .int .u32 0, .int .u32 0, .int .u32 0, .int .u32 0, .int .u32 0, .int .u32 0] = (tab 0).toArray := rfl

theorem shr_lt (y : BitVec 32) : (y.toNat : Int) / (268435456 : Int) < 16 ∧ (0 : Int) ≤ (y.toNat : Int) / (268435456 : Int) := by
  have := y.isLt
  omega
theorem tab_cell {w : World} {g : Nat} {t : TypeId} (h : w.heap[g]? = some (.cells (tab 16).toArray t (0, 0))) (y : BitVec 32) :
    w.cell? ⟨g, y.toNat / 268435456, none⟩ = some (.int .u32 ((tabv (y.toNat / 268435456)).toNat : Int)) := by
  have hy := y.isLt
  have h16 : y.toNat / 268435456 < 16 := by omega
  rw [cell_of_row _ _ _ _ _ _ h]
  have := tab_get 16 _ h16
  rw [if_pos h16] at this
  simpa using this
theorem top_eq (y : BitVec 32) : BitVec.ofNat 32 (y.toNat / 268435456) = y >>> 28 := by
  apply BitVec.eq_of_toNat_eq
  rw [BitVec.toNat_ofNat, BitVec.toNat_ushiftRight, Nat.shiftRight_eq_div_pow]
  have := y.isLt
  omega
theorem tab_step (y : BitVec 32) : bits .xor .u32 ((y.toNat : Int) * (16 : Int) % (4294967296 : Int)) ((tabv (y.toNat / 268435456)).toNat : Int) = ((shn 4 y).toNat : Int) := by
  have e : (y.toNat : Int) * (16 : Int) % (4294967296 : Int) = ((y <<< 4).toNat : Int) := by rw [← shl32 y 4]; simp
  rw [e, xor32, shn4 y, ← top_eq]
  rfl

set_option maxRecDepth 100000 in
set_option maxHeartbeats 1000000 in
theorem more_any (s : BitVec 32) (A : Option Addr) (n c : Nat) (l : List UInt8) (w : World) (h : BS w A n l) (hn : n ≤ 3000000) :
    Calls Try.prog 85 #[.int .u32 (s.toNat : Int), .slice A n c] w fun e w' => e = .returned (.int .u32 ((more s l).toNat : Int)) ∧ Below w.heap.size w w' := by
  have HB := Lib.hid h
  have Hn : Hid (l.length = n) := h.1
  have hs := s.isLt
  have HN := Lib.hid (not32x s)
  clear h
  go_enter Try.func85, Try.ntmps85
  go_wp2_with fail
  refine (effects_any w).mono ?_
  rintro e w1 ⟨rfl, hb1⟩
  have HB1 := Lib.hid hb1
  clear hb1
  go_wp2_with
    (refine wpList_store_row rfl 122 (.tmp 5) (.tmp 9) rfl w1.heap.size (tab 16).toArray rfl rfl 122 (tab 0).toArray (by rw [noughts16]; exact heap_alloc_new _ _) (by rw [info_tab]; simp [tab_len]) (by simp [tab_len]) (by simpa using tab_one 16) ?_)
  rw [HN.out]
  have HT : Hid (((w1.alloc (.cells (tab 0).toArray 122)).setRow w1.heap.size (tab 16).toArray).heap[w1.heap.size]? = some (.cells (tab 16).toArray 122 (0, 0))) := setRow_heap _ _ _ _ _ _ (heap_alloc_new _ _)
  have HB2 : Hid (Below w.heap.size w ((w1.alloc (.cells (tab 0).toArray 122)).setRow w1.heap.size (tab 16).toArray)) :=
    (HB1.out.alloc HB1.out.size _).trans ⟨rfl, rfl, rfl, by simp, fun i hi => setRow_other _ _ _ _ (by have := HB1.out.size; omega)⟩
  rw [noughts16]
  generalize (w1.alloc (.cells (tab 0).toArray 122)).setRow w1.heap.size (tab 16).toArray = w2 at *
  generalize w1.heap.size = g at *
  have HL := Lib.hid (HB.out.below HB2.out)
  clear HB HB1 HN
  have hraw : Hid (more s l = ~~~ raw (~~~ s) l) := rfl
  generalize ~~~ s = x0 at *
  go_loop [6, 14] (fun x i => ∃ k : Nat, k ≤ n ∧ i = .int .i64 k ∧ x = .int .u32 ((raw x0 (l.take k)).toNat : Int)) (fun _ i => n - (intOf i).toNat)
  case atStart => exact ⟨0, by omega, rfl, rfl⟩
  case round =>
    obtain ⟨k, hk, rfl, rfl⟩ := hrel
    by_cases hlt : k < n
    · obtain ⟨b, o, rfl, hj, hcell⟩ := HL.out.at hlt
      have hby := l[k].toNat_lt
      have hd : decide (k < n) = true := by simp; omega
      have HR : Hid (raw x0 (l.take (k + 1)) = shn 4 (shn 4 (raw x0 (l.take k) ^^^ up l[k]))) := by
        show _ = _
        rw [List.take_succ_eq_append_getElem hj, raw_snoc, ← shn_add]
        rfl
      have HX := Lib.hid (xor_up (raw x0 (l.take k)) l[k])
      go_upto_region 7 with (fail)
      rw [HX.out]
      have c1 := tab_cell HT.out (raw x0 (l.take k) ^^^ up l[k])
      have c2 := shr_lt (raw x0 (l.take k) ^^^ up l[k])
      generalize raw x0 (l.take k) ^^^ up l[k] = y at *
      have HY := Lib.hid (tab_step y)
      go_upto_region 8 with (fail)
      rw [HY.out]
      clear c1 c2
      have c1 := tab_cell HT.out (shn 4 y)
      have c2 := shr_lt (shn 4 y)
      have HZ := Lib.hid (tab_step (shn 4 y))
      generalize hz : shn 4 y = z at *
      clear hz
      go_wp2
      rw [HZ.out]
      go_round
      case rel => exact ⟨k + 1, by omega, by go_num, by rw [HR.out]⟩
      case measure => simp [intOf]; omega
    · have Hkn : Hid (k = n) := by show _ = _; omega
      have hd : decide (k < n) = false := by simp; omega
      have HX := Lib.hid (not32x (raw x0 (l.take k)))
      go_wp2
      rw [HX.out]
      go_ret
      exact ⟨ret_int (by rw [hraw.out, Hkn.out, List.take_of_length_le (by rw [Hn.out]; exact Nat.le_refl _)]), HB2.out⟩

theorem of_any (A : Option Addr) (n c : Nat) (l : List UInt8) (w : World) (h : BS w A n l) (hn : n ≤ 3000000) :
    Calls Try.prog 77 #[.slice A n c] w fun e w' => e = .returned (.int .u32 ((sum l).toNat : Int)) ∧ Below w.heap.size w w' := by
  have HC : Hid (Calls Try.prog 85 #[.int .u32 0, .slice A n c] w fun e w' => e = .returned (.int .u32 ((sum l).toNat : Int)) ∧ Below w.heap.size w w') := more_any 0#32 A n c l w h hn
  clear h
  go_enter Try.func77, Try.ntmps77
  go_wp2_with fail
  refine HC.out.mono ?_
  rintro e w1 ⟨rfl, h1⟩
  have H1 := Lib.hid h1
  clear h1
  go_wp2
  go_ret
  exact ⟨rfl, H1.out⟩

/-- The number of four bytes, round by round. -/
theorem num_step (a : Nat) (b : UInt8) (h : a * 256 < 4294967296) : bits .or .u32 ((a : Int) * (256 : Int)) (b.toNat : Int) = ((a * 256 + b.toNat : Nat) : Int) := by
  have hb := b.toNat_lt
  have e : (a : Int) * (256 : Int) = ((a * 256 : Nat) : Int) := by omega
  have e2 : a * 256 ||| b.toNat = a * 256 + b.toNat := by
    have := Nat.shiftLeft_add_eq_or_of_lt (i := 8) (b := b.toNat) (by omega) a
    rw [Nat.shiftLeft_eq] at this
    exact this.symm
  rw [e, u32_or_nat _ _ h (by omega), e2]
set_option maxRecDepth 100000 in
set_option maxHeartbeats 1000000 in
theorem number_any (A : Option Addr) (c : Nat) (l : List UInt8) (w : World) (h : BS w A 4 l) :
    Calls Try.prog 78 #[.slice A 4 c] w fun e w' => e = .returned (.int .u32 (num l : Int)) ∧ w = w' := by
  have HL := Lib.hid h
  have Hn : Hid (l.length = 4) := h.1
  clear h
  go_enter Try.func78, Try.ntmps78
  go_wp2
  go_loop [3, 8] (fun x i => ∃ k : Nat, k ≤ 4 ∧ i = .int .i64 k ∧ x = .int .u32 (num (l.take k) : Int)) (fun _ i => 4 - (intOf i).toNat)
  case atStart => exact ⟨0, by omega, rfl, rfl⟩
  case round =>
    obtain ⟨k, hk, rfl, rfl⟩ := hrel
    by_cases hlt : k < 4
    · obtain ⟨b, o, rfl, hj, hcell⟩ := HL.out.at hlt
      have hby := l[k].toNat_lt
      have hd : decide (k < 4) = true := by simp; omega
      have hm : num (l.take k) < 16777216 := by
        have h1 := num_lt (l.take k)
        have h2 : 256 ^ (l.take k).length ≤ 256 ^ 3 := Nat.pow_le_pow_right (by omega) (by rw [List.length_take]; omega)
        omega
      have HE : Hid (num (l.take (k + 1)) = num (l.take k) * 256 + l[k].toNat) := by
        show _ = _
        rw [List.take_succ_eq_append_getElem hj, num_snoc]
      have HX := Lib.hid (num_step (num (l.take k)) l[k] (by omega))
      generalize num (l.take k) = m at *
      go_wp2
      rw [HX.out]
      go_round
      case rel => exact ⟨k + 1, by omega, by go_num, by rw [HE.out]⟩
      case measure => simp [intOf]; omega
    · have Hkn : Hid (k = 4) := by show _ = _; omega
      have hd : decide (k < 4) = false := by simp; omega
      go_wp2
      go_ret
      exact ⟨ret_int (by rw [Hkn.out, List.take_of_length_le (by rw [Hn.out]; exact Nat.le_refl _)]), rfl⟩
end Go.Proofs.Ytcieahfhpanogaa
