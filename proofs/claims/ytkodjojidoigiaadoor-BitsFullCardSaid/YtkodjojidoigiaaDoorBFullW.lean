/-
  BitsFull walked (layer 6).
-/
import Derived.Test.YtkodjojidoigiaaDoorBAwake
import Derived.IntWalk
namespace Go.Proofs.YtkodjojidoigiaaDoor
open Go.RowKit

/-- Just the ones below x are taken. -/
structure Pf (b : List UInt8) (x : Nat) : Prop where
  has : ∀ j, Bt.has b j = decide (j < x)
  len : b.length ≤ 13
theorem Pf.nil : Pf [] 0 := ⟨fun j => by rw [Bt.has_out (by simp)]; simp, by simp⟩
theorem Pf.next {b : List UInt8} {x : Nat} (h : Pf b x) (hx : x < 100) : Pf (Bt.wit b x true) (x + 1) := by
  refine ⟨fun j => ?_, ?_⟩
  · rw [Bt.has_wit, h.has]
    by_cases e : j = x
    · subst e; simp
    · rw [if_neg e]
      congr 1
      apply propext
      omega
  · have := Bt.wit_length b x true
    have := h.len
    omega
theorem Pf.cnt {b : List UInt8} {x : Nat} (h : Pf b x) : ∀ k, Bt.cnt b k = min k x
  | 0 => by simp [Bt.cnt_zero]
  | k + 1 => by
    rw [Bt.cnt_succ, h.cnt k, h.has]
    by_cases e : k < x
    · simp [e]; omega
    · simp [e]; omega
theorem Pf.fr {b : List UInt8} {x : Nat} (h : Pf b x) : ∀ k, Bt.fr b k = List.range' x (k - x)
  | 0 => by simp [Bt.fr]
  | k + 1 => by
    rw [Bt.fr_succ, h.fr k, h.has]
    by_cases e : k < x
    · simp [e, show k + 1 - x = k - x by omega]
    · have : k + 1 - x = (k - x) + 1 := by omega
      simp only [e, decide_false, Bool.false_eq_true, if_false]
      rw [this, List.range'_concat]
      simp; omega
theorem Pf.drw {b : List UInt8} {x k : Nat} (h : Pf b x) {n : Int} (hn : n = (k : Int)) {m : Int} {y : Nat} (hm : m = (y : Int)) (hy : y ≤ k - x) : Bt.drw b n m = List.range' x y ∧ Bt.drwE b n m = 0 := by
  subst hn hm
  have hl : (Bt.fr b k).length = k - x := by rw [h.fr]; simp
  unfold Bt.drw Bt.drwE
  rw [Int.toNat_natCast, hl, if_neg (by omega), if_neg (by omega), if_neg (by omega), if_neg (by omega), h.fr, Int.toNat_natCast]
  refine ⟨?_, rfl⟩
  rw [List.take_range'_of_length_ge (by omega)]
theorem Pf.drw_no {b : List UInt8} {k : Nat} (h : Pf b k) : Bt.drw b (k : Int) 1 = [] ∧ Bt.drwE b (k : Int) 1 = 66 := by
  have hl : (Bt.fr b k).length = 0 := by rw [h.fr]; simp
  unfold Bt.drw Bt.drwE
  rw [Int.toNat_natCast, hl]
  simp
theorem Pf.drw0 {b : List UInt8} {k : Nat} (h : Pf b k) : Bt.drw b (k : Int) 0 = [] ∧ Bt.drwE b (k : Int) 0 = 0 := h.drw (k := k) rfl (y := 0) rfl (by omega)
theorem drw_arg (b : List UInt8) (n : Int) : Bt.drw b n (-1) = [] ∧ Bt.drwE b n (-1) = 1 := by simp [Bt.drw, Bt.drwE]

/-- What BitsFull knows in its loops: a row that was drawn, and bits of which just the ones below x are set. -/
structure FW (w : World) (A : Option Addr) (n : Nat) (l : List Nat) (B : Option Addr) (m : Nat) (x : Nat) (W : World) : Prop where
  bel : Below w.heap.size w W
  row : NS W A n l
  bits : ∃ L, BS W B m L ∧ Pf L x
theorem FW.below {w W W' : World} {A B : Option Addr} {n m x : Nat} {l : List Nat} (h : FW w A n l B m x W) (hb : Below W.heap.size W W') : FW w A n l B m x W' :=
  ⟨h.bel.trans (hb.mono h.bel.size), h.row.below hb, by obtain ⟨L, h1, h2⟩ := h.bits; exact ⟨L, h1.below hb, h2⟩⟩

set_option maxRecDepth 100000 in
set_option maxHeartbeats 2000000 in
theorem full_walk (n first : Int) (w : World) (h0 : 0 ≤ n) (h1 : n ≤ 255) (h2 : 0 ≤ first) (h3 : first ≤ 255) :
    Calls Tryd.prog 7 #[.int .u8 n, .int .u8 first] w fun e w' => e = .returned (.bool true) ∧ Below w.heap.size w w' := by
  obtain ⟨nn, rfl⟩ := Int.eq_ofNat_of_zero_le h0
  obtain ⟨f, rfl⟩ := Int.eq_ofNat_of_zero_le h2
  obtain ⟨k, hk, hkl⟩ : ∃ k : Nat, (nn : Int) % 100 = (k : Int) ∧ k < 100 := ⟨nn % 100, by omega, by omega⟩
  obtain ⟨a, ha, hak⟩ : ∃ a : Nat, min (f : Int) (k : Int) = (a : Int) ∧ a ≤ k := ⟨min f k, by omega, by omega⟩
  have HK := Lib.hid hk
  have HA := Lib.hid ha
  have hka : (k : Int) - (a : Int) = ((k - a : Nat) : Int) := by omega
  have HKA := Lib.hid hka
  clear hk ha hka
  go_enter Tryd.func7, Tryd.ntmps7
  go_wp2_with fail
  refine (awake_any w).mono ?_
  rintro e w1 ⟨rfl, hb1⟩
  have HW1 := Lib.hid hb1
  clear hb1
  go_wp2_with fail
  rw [HK.out, HA.out]
  clear HK HA h0 h1 h2 h3
  refine (draw_any none 0 0 [] (k : Int) (a : Int) w1 BS.nil (by omega) (by omega)).mono ?_
  rintro e w2 ⟨A2, n2, c2, rfl, hn2, hb2⟩
  rw [(Pf.nil.drw (k := k) rfl (y := a) rfl (by omega)).2]
  rw [(Pf.nil.drw (k := k) rfl (y := a) rfl (by omega)).1] at hn2
  have hna : a = n2 := by have := hn2.1; simpa using this
  subst hna
  have HI := Lib.hid (FW.mk (HW1.out.trans (hb2.mono HW1.out.size)) hn2 ⟨[], BS.nil (A := none), Pf.nil⟩)
  clear hb2 hn2
  go_wp2_with fail
  go_loopw [11, 10] (fun i u wr => ∃ j : Nat, j ≤ a ∧ i = .int .i64 j ∧ ∃ B m c, u = .slice B m c ∧ Hid (FW w A2 a (List.range' 0 a) B m j wr)) (fun i _ _ => a - (intOf i).toNat)
  case atStart => exact ⟨0, by omega, rfl, none, 0, 0, rfl, HI⟩
  case round =>
    clear HI
    obtain ⟨j, hj, rfl, B, m, c, rfl, HI⟩ := hrel
    by_cases hlt : j < a
    · obtain ⟨b, o, rfl, hjl, hcell⟩ := HI.out.row.at hlt
      have hjj : (List.range' 0 a)[j] = j := by simp
      rw [hjj] at hcell
      obtain ⟨L, hL, hP⟩ := HI.out.bits
      have HL := Lib.hid hL
      have HP := Lib.hid (hP.next (show j < 100 by omega))
      have HPL : Hid (m ≤ 13) := by show _ ≤ _; rw [← hL.1]; exact hP.len
      clear hL hP hjj hjl
      go_wp2_with fail
      refine (with_any B m c L (j : Int) true wr HL.out (by omega) (by have := HPL.out; omega)).mono ?_
      rintro e w3 ⟨B3, m3, c3, rfl, h3, hb3⟩
      rw [Bt.witI_nat] at h3
      have HI3 := HI.out.below hb3
      have HI4 := Lib.hid (FW.mk HI3.bel HI3.row ⟨_, h3, HP.out⟩)
      clear h3 hb3 HI3
      go_wp2
      go_roundw
      case rel => exact ⟨j + 1, by omega, by go_num, B3, m3, c3, rfl, HI4⟩
      case measure => simp [intOf]; omega
    · have hja : j = a := by omega
      subst hja
      obtain ⟨L, hL, hP⟩ := HI.out.bits
      have HL := Lib.hid hL
      have HP := Lib.hid hP
      have HPL : Hid (m ≤ 13) := by show _ ≤ _; rw [← hL.1]; exact hP.len
      clear hL hP
      go_wp2_with fail
      rw [HKA.out]
      refine (draw_any B m c L (k : Int) ((k - j : Nat) : Int) wr HL.out (by omega) (by have := HPL.out; omega)).mono ?_
      rintro e w4 ⟨A4, n4, c4, rfl, hn4, hb4⟩
      rw [(HP.out.drw (k := k) rfl (y := k - j) rfl (by omega)).2]
      rw [(HP.out.drw (k := k) rfl (y := k - j) rfl (by omega)).1] at hn4
      have hna : k - j = n4 := by have := hn4.1; simpa using this
      have hnk : n4 ≤ 100 := by omega
      have hn5 : j + n4 = k := by omega
      have HI4 := Lib.hid (FW.mk (HI.out.bel.trans (hb4.mono HI.out.bel.size)) hn4 ⟨L, HL.out.below hb4, HP.out⟩)
      rw [hna] at HI4
      have HNA := Lib.hid hna
      have HN5 := Lib.hid hn5
      clear hb4 hn4 hna HI hn5
      rw [HNA.out] at HKA
      go_wp2_with fail
      go_loopw [14, 10] (fun i u wr => ∃ y : Nat, y ≤ n4 ∧ i = .int .i64 y ∧ ∃ B m c, u = .slice B m c ∧ Hid (FW w A4 n4 (List.range' j n4) B m (j + y) wr)) (fun i _ _ => n4 - (intOf i).toNat)
      case atStart => exact ⟨0, by omega, rfl, B, m, c, rfl, HI4⟩
      case round =>
        clear HI4 HL HPL HP L
        obtain ⟨y, hy, rfl, B, m, c, rfl, HI⟩ := hrel
        obtain ⟨L, hL, hP⟩ := HI.out.bits
        have HL := Lib.hid hL
        have HPL : Hid (m ≤ 13) := by show _ ≤ _; rw [← hL.1]; exact hP.len
        by_cases hlt : y < n4
        · obtain ⟨b, o, rfl, hjl, hcell⟩ := HI.out.row.at hlt
          have hjj : (List.range' j n4)[y] = j + y := by simp
          rw [hjj] at hcell
          have HP := Lib.hid (hP.next (show j + y < 100 by have := HN5.out; omega))
          clear hL hP hjj hjl
          go_wp2_with fail
          refine (with_any B m c L ((j + y : Nat) : Int) true _ HL.out (by have := HN5.out; omega) (by have := HPL.out; omega)).mono ?_
          rintro e w3 ⟨B3, m3, c3, rfl, h3, hb3⟩
          rw [Bt.witI_nat] at h3
          have HI3 := HI.out.below hb3
          have HI4 := Lib.hid (FW.mk HI3.bel HI3.row ⟨_, h3, HP.out⟩)
          clear h3 hb3 HI3
          go_wp2
          go_roundw
          case rel => exact ⟨y + 1, by omega, by go_num, B3, m3, c3, rfl, HI4⟩
          case measure => simp [intOf]; omega
        · have HP : Hid (Pf L k) := by
            have : j + y = k := by have := HN5.out; omega
            rw [← this]; exact hP
          clear hL hP
          have HCN : Hid (Bt.cnt L k = k) := by show _ = _; rw [HP.out.cnt, Nat.min_self]
          go_wp2_with fail
          refine (draw_any B m c L (k : Int) 1 _ HL.out (by omega) (by have := HPL.out; omega)).mono ?_
          rintro e w5 ⟨A5, n5, c5, rfl, hn5, hb5⟩
          rw [HP.out.drw_no.2]
          have HL5 := Lib.hid (HL.out.below hb5)
          have HI5 := Lib.hid (HI.out.below hb5)
          clear hn5 hb5
          go_wp2_with fail
          refine (draw_any B m c L (k : Int) 0 _ HL5.out (by omega) (by have := HPL.out; omega)).mono ?_
          rintro e w6 ⟨A6, n6, c6, rfl, hn6, hb6⟩
          rw [HP.out.drw0.2]
          rw [HP.out.drw0.1] at hn6
          have hn60 : 0 = n6 := hn6.1
          subst hn60
          have HL6 := Lib.hid (HL5.out.below hb6)
          have HI6 := Lib.hid (HI5.out.below hb6)
          clear hn6 hb6
          go_wp2_with fail
          refine (draw_any B m c L (k : Int) (-1) _ HL6.out (by omega) (by have := HPL.out; omega)).mono ?_
          rintro e w7 ⟨A7, n7, c7, rfl, hn7, hb7⟩
          rw [(drw_arg L k).2]
          have HL7 := Lib.hid (HL6.out.below hb7)
          have HI7 := Lib.hid (HI6.out.below hb7)
          clear hn7 hb7
          have hkk : (k : Int) - (j : Int) = (n4 : Int) := HKA.out
          go_wp2_with fail
          refine (count_any B m c L (k : Int) _ HL7.out (by omega) (by have := HPL.out; omega)).mono ?_
          rintro e w8 ⟨rfl, d8, rfl⟩
          rw [Int.toNat_natCast, HCN.out]
          go_wp2
          go_ret
          exact ⟨rfl, below_drewN HI7.out.bel _⟩
end Go.Proofs.YtkodjojidoigiaaDoor
