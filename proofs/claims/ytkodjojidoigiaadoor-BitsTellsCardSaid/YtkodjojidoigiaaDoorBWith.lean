/-
  Contract of bits' With (layer 6).
-/
import Derived.Test.YtkodjojidoigiaaDoorBMem
namespace Go.Proofs.YtkodjojidoigiaaDoor
open Go.RowKit

/-- What With's closure hands back. -/
theorem or_all : ∀ x : Fin 256, ∀ k : Fin 8, Go.bits .or .u8 (x.1 : Int) (2 ^ k.1 : Int) = ((if x.1.testBit k.1 then x.1 else x.1 + 2 ^ k.1 : Nat) : Int) := by decide +kernel
theorem andNot_all : ∀ x : Fin 256, ∀ k : Fin 8, Go.bits .andNot .u8 (x.1 : Int) (2 ^ k.1 : Int) = ((if x.1.testBit k.1 then x.1 - 2 ^ k.1 else x.1 : Nat) : Int) := by decide +kernel
theorem pow_small : ∀ k : Fin 8, (2 ^ k.1 : Int) % (256 : Int) = (2 ^ k.1 : Int) := by decide +kernel
theorem chg_or (b : UInt8) (k : Nat) (hk : k < 8) : Go.bits .or .u8 (b.toNat : Int) (2 ^ k : Int) = ((Bt.chg b k true).toNat : Int) := by
  rw [Bt.chg_nat b k hk, or_all ⟨b.toNat, b.toNat_lt⟩ ⟨k, hk⟩]
  simp
theorem chg_andNot (b : UInt8) (k : Nat) (hk : k < 8) : Go.bits .andNot .u8 (b.toNat : Int) (2 ^ k : Int) = ((Bt.chg b k false).toNat : Int) := by
  rw [Bt.chg_nat b k hk, andNot_all ⟨b.toNat, b.toNat_lt⟩ ⟨k, hk⟩]
  simp

set_option maxRecDepth 100000 in
set_option maxHeartbeats 1000000 in
theorem change_any (b : UInt8) (i : Nat) (t : Bool) (bi bt : Nat) (w : World) (hi : w.cell? ⟨bi, 0, none⟩ = some (.int .i64 (i : Int))) (ht : w.cell? ⟨bt, 0, none⟩ = some (.bool t)) (hb : i ≤ 1000000000) :
    Calls Tryd.prog 21 #[.int .u8 (b.toNat : Int), .pointer (some ⟨bt, 0, none⟩), .pointer (some ⟨bi, 0, none⟩)] w fun e w' => e = .returned (.int .u8 ((Bt.chg b (7 - i % 8) t).toNat : Int)) ∧ w = w' := by
  have H1 := Lib.hid (chg_or b (7 - i % 8) (by omega))
  have H2 := Lib.hid (chg_andNot b (7 - i % 8) (by omega))
  have H3 : Hid ((2 ^ (7 - i % 8) : Int) % (256 : Int) = (2 ^ (7 - i % 8) : Int)) := pow_small ⟨7 - i % 8, by omega⟩
  have hby := b.toNat_lt
  cases t
  all_goals
    go_enter Tryd.func21, Tryd.ntmps21
    go_wp2_with (go_at_call 19; refine (height_any i _ (by omega)).mono ?_; rintro e w' ⟨rfl, rfl⟩)
    go_ret
    exact ⟨ret_int (by rw [H3.out]; first | exact H1.out | exact H2.out), rfl⟩

theorem own_cap {w : World} {base : Nat} {e : TypeId} {A : Option Addr} {n c : Nat} {l : List Value} (h : w.ownsRow base e 1 (.slice A n c) n l) : n ≤ c := by
  rcases h.2 with ⟨_, h0⟩ | ⟨_, _, _, h1, _, _, h2, _⟩
  · omega
  · injection h1 with _ _ h3
    omega
theorem pre_yes (l : List UInt8) (k : Nat) {n : Nat} (h : l.length = n) : l ++ List.replicate (k / 8 + 1 - n) 0 = Bt.pre l k true := by subst h; rfl
theorem put_at {L : List UInt8} {k : Nat} (h : k / 8 < L.length) (t : Bool) (l : List UInt8) (e : Bt.pre l k t = L) : L.set (k / 8) (Bt.chg L[k / 8] (7 - k % 8) t) = Bt.put l k t := by
  subst e
  unfold Bt.put
  rw [List.getD_eq_getElem?_getD, List.getElem?_eq_getElem h, Option.getD_some]

set_option maxRecDepth 100000 in
set_option maxHeartbeats 1000000 in
theorem with_any (A : Option Addr) (n c : Nat) (l : List UInt8) (i : Int) (t : Bool) (w : World) (h : BS w A n l) (hi : i ≤ 1000000) (hn : n ≤ 1000000) :
    Calls Tryd.prog 13 #[.slice A n c, .int .i64 i, .bool t] w fun e w' => ∃ A' m c', e = .returned (.slice A' m c') ∧ BS w' A' m (Bt.witI l i t) ∧ Below w.heap.size w w' := by
  have HL := Lib.hid h
  have HLN : Hid (l.length = n) := h.1
  clear h
  have HW2 : Hid (Below w.heap.size w ((w.alloc (.cells #[.int .i64 i] 3)).alloc (.cells #[.bool t] 4))) := ((Below.refl _ _).alloc (Nat.le_refl _) _).alloc (by simp) _
  have HB0 : Hid (((w.alloc (.cells #[.int .i64 i] 3)).alloc (.cells #[.bool t] 4)).heap[w.heap.size]? = some (.cells #[.int .i64 i] 3 (0, 0))) := by
    show _ = _
    rw [Below.heap_alloc _ _ _ (by simp)]
    exact heap_alloc_new w _
  have HB1 : Hid (((w.alloc (.cells #[.int .i64 i] 3)).alloc (.cells #[.bool t] 4)).heap[w.heap.size + 1]? = some (.cells #[.bool t] 4 (0, 0))) := by
    show _ = _
    have := heap_alloc_new (w.alloc (.cells #[.int .i64 i] 3)) (.cells #[.bool t] 4)
    rwa [World.size_alloc] at this
  have HZ2 : Hid (((w.alloc (.cells #[.int .i64 i] 3)).alloc (.cells #[.bool t] 4)).heap.size = w.heap.size + 2) := by show _ = _; simp
  go_enter Tryd.func13, Tryd.ntmps13
  go_upto_region 1 with (fail)
  generalize (w.alloc (.cells #[.int .i64 i] 3)).alloc (.cells #[.bool t] 4) = w2 at *
  go_wp2_with fail
  refine (clone_any A n c l _ (HL.out.below HW2.out) (by omega)).mono ?_
  rintro e w3 ⟨A3, c3, rfl, ho3⟩
  have HO3 := Lib.hid ho3
  have H30 : Hid (w3.heap[w.heap.size]? = some (.cells #[.int .i64 i] 3 (0, 0))) := (ho3.2.block _ (by rw [HZ2.out]; omega)).trans HB0.out
  have H31 : Hid (w3.heap[w.heap.size + 1]? = some (.cells #[.bool t] 4 (0, 0))) := (ho3.2.block _ (by rw [HZ2.out]; omega)).trans HB1.out
  clear ho3
  have c0 : w3.cell? ⟨w.heap.size, 0, none⟩ = some (.int .i64 i) := by rw [cell_of_row _ _ _ _ _ _ H30.out]; rfl
  have c1 : w3.cell? ⟨w.heap.size + 1, 0, none⟩ = some (.bool t) := by rw [cell_of_row _ _ _ _ _ _ H31.out]; rfl
  by_cases h0 : 0 ≤ i
  · obtain ⟨k, rfl⟩ := Int.eq_ofNat_of_zero_le h0
    have HWT := Lib.hid (Bt.witI_nat l k t)
    have H38 : Hid ((k : Int) / 8 + 1 = ((k / 8 + 1 : Nat) : Int)) := by show _ = _; omega
    cases t
    case true =>
      have hm : (k : Int) / 8 < 2147483647 := by omega
      go_upto_region 4 with (fail)
      have HI := Lib.hid hi
      clear hi
      go_wp2_with fail
      rw [H38.out]
      refine (extended_any w2.heap.size A3 n c3 l (k / 8 + 1) w3 HO3.out.1 HO3.out.2.size hn (by have := HI.out; omega)).mono ?_
      rintro e w4 ⟨A4, c4, rfl, ho4, hk4⟩
      rw [pre_yes l k HLN.out] at ho4
      have HO4 := Lib.hid ho4
      have HK4 := Lib.hid hk4
      have hlen : (Bt.pre l k true).length = n + (k / 8 + 1 - n) := by rw [Bt.pre_length, HLN.out]; simp; omega
      obtain ⟨g, cap, hv, hg⟩ : ∃ g cap, A4 = some ⟨g, 0, none⟩ ∧ c4 = cap := by
        obtain ⟨g, cap, hv, _⟩ := ho4.form (by omega)
        injection hv with h1 _ h3
        exact ⟨g, cap, h1, h3⟩
      subst hv
      clear hg
      obtain ⟨⟨hl4, hc4⟩, hf4, hb4, hs4⟩ := own_set ho4 (j := k / 8) (by omega)
      have HS4 := Lib.hid (hs4 (Bt.chg (Bt.pre l k true)[k / 8] (7 - k % 8) true))
      have HPA := Lib.hid (put_at hl4 true l rfl)
      have hd : (k : Int) / 8 < ((n + (k / 8 + 1 - n) : Nat) : Int) := by omega
      have hki : (k : Int) / 8 = ((k / 8 : Nat) : Int) := by omega
      have HKI := Lib.hid hki
      have H40 : Hid (w4.heap[w.heap.size]? = some (.cells #[.int .i64 (k : Int)] 3 (0, 0))) := (hk4.block _ (by rw [HZ2.out]; omega)).trans H30.out
      have H41 : Hid (w4.heap[w.heap.size + 1]? = some (.cells #[.bool true] 4 (0, 0))) := (hk4.block _ (by rw [HZ2.out]; omega)).trans H31.out
      have c4 : w4.cell? ⟨w.heap.size, 0, none⟩ = some (.int .i64 (k : Int)) := by rw [cell_of_row _ _ _ _ _ _ H40.out]; rfl
      have c5 : w4.cell? ⟨w.heap.size + 1, 0, none⟩ = some (.bool true) := by rw [cell_of_row _ _ _ _ _ _ H41.out]; rfl
      clear ho4 hk4 hs4 c0 c1 hlen hki hm
      have HL4 : Hid ((Bt.put l k true).length = n + (k / 8 + 1 - n)) := by show _ = _; rw [Bt.put_length, Bt.pre_length, HLN.out]; simp; omega
      have HSM : Hid (n + (k / 8 + 1 - n) ≤ 1000000000) := by show _ ≤ _; have := HI.out; omega
      go_wp2_with fail
      refine (change_any (Bt.pre l k true)[k / 8] k true _ _ w4 c4 c5 (by have := HI.out; omega)).mono ?_
      rintro e w5 ⟨rfl, rfl⟩
      go_wp2_with fail
      rw [HPA.out] at HS4
      have HK5 : Hid (Keep (· < w2.heap.size) w3 (w4.setCell ⟨g, k / 8, none⟩ (.int .u8 ((Bt.chg (Bt.pre l k true)[k / 8] (7 - k % 8) true).toNat : Int)))) := HK4.out.setCell (p := ⟨g, k / 8, none⟩) (by show ¬ g < _; omega) _
      refine (trimRight_any _ _ _ (Bt.put l k true) _ (BS.of_own HS4.out) HSM.out (own_cap HS4.out)).mono ?_
      rintro e w6 ⟨rfl, HB6, rfl⟩
      go_wp2
      go_ret
      rw [HWT.out]
      exact ⟨_, _, _, rfl, HB6.out, HW2.out.trans (HO3.out.2.trans HK5.out.below |>.mono HW2.out.size)⟩
    case false =>
      have HC3 := Lib.hid HO3.out.cap
      by_cases hk : k / 8 < n
      · have HI := Lib.hid hi
        have ho3 := HO3.out.1
        obtain ⟨g, rfl⟩ : ∃ g, A3 = some ⟨g, 0, none⟩ := by
          obtain ⟨g, cap, hv, _⟩ := ho3.form (by omega)
          injection hv with h1 _ h3
          exact ⟨g, h1⟩
        obtain ⟨⟨hl4, hc4⟩, hf4, hb4, hs4⟩ := own_set ho3 hk
        have HS4 := Lib.hid (hs4 (Bt.chg l[k / 8] (7 - k % 8) false))
        have HPA := Lib.hid (put_at (L := l) hl4 false l rfl)
        have HKI : Hid ((k : Int) / 8 = ((k / 8 : Nat) : Int)) := by show _ = _; omega
        have hd : (k : Int) / 8 < (n : Int) := by omega
        clear ho3 hs4 hi
        go_wp2_with fail
        refine (change_any l[k / 8] k false _ _ w3 c0 c1 (by have := HI.out; omega)).mono ?_
        rintro e w5 ⟨rfl, rfl⟩
        go_wp2_with fail
        rw [HPA.out] at HS4
        have HK5 : Hid (Keep (· < w2.heap.size) w3 (w3.setCell ⟨g, k / 8, none⟩ (.int .u8 ((Bt.chg l[k / 8] (7 - k % 8) false).toNat : Int)))) := (Keep.refl _ _).setCell (p := ⟨g, k / 8, none⟩) (by show ¬ g < _; omega) _
        refine (trimRight_any _ _ _ (Bt.put l k false) _ (BS.of_own HS4.out) (by omega) HC3.out).mono ?_
        rintro e w6 ⟨rfl, HB6, rfl⟩
        go_wp2
        go_ret
        rw [HWT.out]
        exact ⟨_, _, _, rfl, HB6.out, HW2.out.trans (HO3.out.2.trans HK5.out.below |>.mono HW2.out.size)⟩
      · have hd : (n : Int) ≤ (k : Int) / 8 := by omega
        have HPA : Hid (Bt.wit l k false = Bt.trim l) := by
          show _ = _
          unfold Bt.wit Bt.put
          rw [List.set_eq_of_length_le (by rw [Bt.pre_length, HLN.out]; simp; omega)]
          rfl
        go_wp2_with fail
        refine (trimRight_any A3 n c3 l w3 HO3.out.bs (by omega) HC3.out).mono ?_
        rintro e w6 ⟨rfl, HB6, rfl⟩
        go_wp2
        go_ret
        rw [HWT.out, HPA.out]
        exact ⟨_, _, _, rfl, HB6.out, HW2.out.trans (HO3.out.2.mono HW2.out.size)⟩
  · have HE := Lib.hid (Bt.witI_neg l t (by omega : i < 0))
    have hd : decide (0 ≤ i) = false := by simp; omega
    cases t
    all_goals
      go_wp2_with fail
      refine (trimRight_any A3 n c3 l w3 HO3.out.bs (by omega) HO3.out.cap).mono ?_
      rintro e w5 ⟨rfl, HB5, rfl⟩
      go_wp2
      go_ret
      rw [HE.out]
      exact ⟨_, _, _, rfl, HB5.out, HW2.out.trans (HO3.out.2.mono HW2.out.size)⟩
end Go.Proofs.YtkodjojidoigiaaDoor
