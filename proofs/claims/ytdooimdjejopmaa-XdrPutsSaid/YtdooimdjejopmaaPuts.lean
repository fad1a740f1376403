/-
  The walk of XdrPuts: what is put of any numbers and bytes is the document's: the law's function returns true for every input.
-/
import Derived.Test.YtdooimdjejopmaaRef
import Derived.Deep.DeepCutAuto
namespace Go.Proofs.Ytdooimdjejopmaa
open Go.RowKit

theorem Wr.kept {K : Nat → Prop} {w w' : World} {p : Nat} {l : List UInt8} (h : Wr K w p l) (hb : Below w.heap.size w w') : Wr K w' p l := by
  obtain ⟨A, c, h⟩ := h
  refine ⟨A, c, (hb.block p h.lt).trans h.1, ?_, h.2.2.1, h.2.2.2.1, fun k hk => Nat.lt_of_lt_of_le (h.2.2.2.2 k hk) hb.size⟩
  refine ⟨h.2.1.1, ?_⟩
  rcases h.2.1.2 with h1 | ⟨g, cap, cur, h1, h2, h3, h4⟩
  · exact .inl h1
  · have hlt : g < w.heap.size := by
      rcases Nat.lt_or_ge g w.heap.size with hlt | hge
      · exact hlt
      · rw [Array.getElem?_eq_none hge] at h3; cases h3
    exact .inr ⟨g, cap, cur, h1, h2, (hb.block g hlt).trans h3, h4⟩

/-- What the last statement of the law leans on, in each world on its way. -/
def PInv (w0 : World) (B p : Nat) (L : List UInt8) (A : Option Addr) (n : Nat) (c : List UInt8) (W : World) : Prop := Wr (· < B) W p L ∧ Below w0.heap.size w0 W ∧ BS W A n c
theorem PInv.step {w0 W W' : World} {B p : Nat} {L : List UInt8} {A : Option Addr} {n : Nat} {c : List UInt8} (h : PInv w0 B p L A n c W) (hb : Below W.heap.size W W') : PInv w0 B p L A n c W' :=
  ⟨h.1.kept hb, h.2.1.trans (hb.mono h.2.1.size), h.2.2.below hb⟩
theorem PInv.drew {w0 W : World} {B p : Nat} {L : List UInt8} {A : Option Addr} {n : Nat} {c : List UInt8} (h : PInv w0 B p L A n c W) : PInv w0 B p L A n c W.drew := ⟨h.1, h.2.1.drew, h.2.2⟩

set_option maxRecDepth 100000 in
set_option maxHeartbeats 4000000 in
theorem puts_walk (A : Option Addr) (n ca : Nat) (xs : List Nat) (A2 : Option Addr) (n2 ca2 : Nat) (ys : List Nat) (A3 : Option Addr) (n3 ca3 : Nat) (c : List UInt8) (d : Bool) (w : World)
    (hx : NS .u32 w A n xs) (hx32 : ∀ x ∈ xs, x < 256 ^ 4) (hy : NS .u64 w A2 n2 ys) (hy64 : ∀ y ∈ ys, y < 256 ^ 8) (hc : BS w A3 n3 c) :
    Calls Try.prog 3 #[.slice A n ca, .slice A2 n2 ca2, .slice A3 n3 ca3, .bool d] w fun e w' => e = .returned (.bool true) ∧ Below w.heap.size w w' := by
  have HA := Lib.hid (awake_any w)
  have HX := Lib.hid hx
  have HX32 := Lib.hid hx32
  have HY := Lib.hid hy
  have HY64 := Lib.hid hy64
  have HC := Lib.hid hc
  have Hnx : Hid (xs.length = n) := hx.1
  have Hny : Hid (ys.length = n2) := hy.1
  have Hnc : Hid (c.length = n3) := hc.1
  clear hx hx32 hy hy64 hc
  by_cases h30 : 30 < n
  · go_enter Try.func3, Try.ntmps3
    have hd : decide ((30 : Int) < (n : Int)) = true := by simp; omega
    go_wp2_with fail
    refine HA.out.mono ?_
    rintro e w1 ⟨rfl, hw1⟩
    have HW1 := Lib.hid hw1
    clear hw1
    go_wp2_with fail
    go_ret
    exact ⟨rfl, HW1.out⟩
  by_cases h30' : 30 < n2
  · go_enter Try.func3, Try.ntmps3
    have hd : decide ((30 : Int) < (n : Int)) = false := by simp; omega
    have hd2 : decide ((30 : Int) < (n2 : Int)) = true := by simp; omega
    go_wp2_with fail
    refine HA.out.mono ?_
    rintro e w1 ⟨rfl, hw1⟩
    have HW1 := Lib.hid hw1
    clear hw1
    go_wp2_with fail
    go_ret
    exact ⟨rfl, HW1.out⟩
  by_cases h200 : 200 < n3
  · go_enter Try.func3, Try.ntmps3
    have hd : decide ((30 : Int) < (n : Int)) = false := by simp; omega
    have hd2 : decide ((30 : Int) < (n2 : Int)) = false := by simp; omega
    have hd3 : decide ((200 : Int) < (n3 : Int)) = true := by simp; omega
    go_wp2_with fail
    refine HA.out.mono ?_
    rintro e w1 ⟨rfl, hw1⟩
    have HW1 := Lib.hid hw1
    clear hw1
    go_wp2_with fail
    go_ret
    exact ⟨rfl, HW1.out⟩
  go_enter Try.func3, Try.ntmps3
  have hd : decide ((30 : Int) < (n : Int)) = false := by simp; omega
  have hd2 : decide ((30 : Int) < (n2 : Int)) = false := by simp; omega
  have hd3 : decide ((200 : Int) < (n3 : Int)) = false := by simp; omega
  go_wp2_with fail
  refine HA.out.mono ?_
  rintro e w1 ⟨rfl, hw1⟩
  have HW1 := Lib.hid hw1
  have hs1 := hw1.size
  clear hw1 HA
  go_wp2_with fail
  refine (newWriter_op w1).mono ?_
  rintro e w2 ⟨p, rfl, hw, hbe⟩
  have HW := Lib.hid hw
  have HK := Lib.hid ((Keep.of_below HW1.out).trans ((Keep.of_below hbe).mono (fun k h => Nat.lt_of_lt_of_le h hs1)))
  clear hw hbe
  go_wp2_with fail
  go_loopw [11, 12] (fun t i wr => ∃ k : Nat, k ≤ n ∧ i = .int .i64 k ∧ t = .string (txt (enc 4 (xs.take k))) ∧ Hid (Wr (· < w1.heap.size) wr p (enc 4 (xs.take k))) ∧ Hid (Keep (· < w.heap.size) w wr)) (fun _ i _ => n - (intOf i).toNat)
  case atStart => exact ⟨0, by omega, rfl, rfl, by simpa [Hid, enc] using HW.out, HK⟩
  case round =>
    clear HW HK
    obtain ⟨k, hk, rfl, rfl, HW, HK⟩ := hrel
    by_cases hlt : k < n
    · obtain ⟨bb, o, rfl, hj, hcell⟩ := (HX.out.below HK.out.below).at hlt
      have hxk : xs[k] < 4294967296 := HX32.out _ (List.getElem_mem hj)
      have HE := Lib.hid (enc_snoc 4 xs k hj)
      have hL : (enc 4 (xs.take k)).length ≤ 200 := by rw [enc_length, List.length_take]; omega
      generalize hL1 : enc 4 (xs.take k) = L1 at *
      clear hL1
      go_wp2_with fail
      refine (u32w _ wr p _ _ (by omega) HW.out (by omega)).mono ?_
      rintro e w3 ⟨rfl, hw, hkk⟩
      rw [Int.toNat_natCast, ← HE.out] at hw
      have HW3 := Lib.hid hw
      have HK3 := Lib.hid (HK.out.trans (hkk.mono (fun k h => Nat.lt_of_lt_of_le h hs1)))
      clear hw hkk HW HK
      obtain ⟨bb', o', hee, hj', hcell'⟩ := (HX.out.below HK3.out.below).at hlt
      injection hee with hee
      injection hee with h1 h2 _
      subst h1 h2
      clear hcell
      go_wp2_with fail
      refine (refU32 _ w3 (by omega) (by omega)).mono ?_
      rw [Int.toNat_natCast]
      rintro e w4 ⟨rfl, hb4⟩
      have HW4 := Lib.hid (HW3.out.kept hb4)
      have HK4 := Lib.hid (HK3.out.trans ((Keep.of_below hb4).mono (fun k h => Nat.lt_of_lt_of_le h HK3.out.size)))
      have z1 := txt_size L1
      have z2 := txt_be 4 xs[k]
      have r1 : txt L1 ++ txt (be 4 xs[k]) = txt (enc 4 (xs.take (k + 1))) := by rw [txt_append, HE.out]
      clear hb4 HW3 HK3
      go_wp2_with fail
      go_roundw
      case rel => exact ⟨k + 1, by omega, by go_num, rfl, HW4, HK4⟩
      case measure => simp [intOf]; omega
    · have hkn : k = n := by omega
      subst hkn
      have hT : xs.take k = xs := List.take_of_length_le (by rw [Hnx.out]; exact Nat.le_refl _)
      rw [hT] at HW ⊢
      have hL : (enc 4 xs).length = 4 * k := by rw [enc_length, Hnx.out]
      have HLx := Lib.hid hL
      clear hT hlt hk hL
      go_wp2_with fail
      go_loopw [11, 13] (fun t i wr => ∃ j : Nat, j ≤ n2 ∧ i = .int .i64 j ∧ t = .string (txt (enc 4 xs ++ enc 8 (ys.take j))) ∧ Hid (Wr (· < w1.heap.size) wr p (enc 4 xs ++ enc 8 (ys.take j))) ∧ Hid (Keep (· < w.heap.size) w wr)) (fun _ i _ => n2 - (intOf i).toNat)
      case atStart => exact ⟨0, by omega, rfl, by simp [enc], by simpa [Hid, enc] using HW.out, HK⟩
      case round =>
        clear HW HK
        obtain ⟨j, hj, rfl, rfl, HW, HK⟩ := hrel
        by_cases hlt : j < n2
        · obtain ⟨bb, o, rfl, hjy, hcell⟩ := (HY.out.below HK.out.below).at hlt
          have HYk : Hid (ys[j] < 18446744073709551616) := HY64.out _ (List.getElem_mem hjy)
          have HE : Hid (enc 4 xs ++ enc 8 (ys.take (j + 1)) = enc 4 xs ++ enc 8 (ys.take j) ++ be 8 ys[j]) := by show _ = _; rw [enc_snoc 8 ys j hjy, List.append_assoc]
          have hL : (enc 4 xs ++ enc 8 (ys.take j)).length ≤ 600 := by rw [List.length_append, HLx.out, enc_length, List.length_take]; omega
          generalize hL1 : enc 4 xs ++ enc 8 (ys.take j) = L1 at *
          clear hL1
          go_wp2_with fail
          refine (u64w _ wr p _ _ (by omega) HW.out (by omega)).mono ?_
          rintro e w3 ⟨rfl, hw, hkk⟩
          rw [Int.toNat_natCast, ← HE.out] at hw
          have HW3 := Lib.hid hw
          have HK3 := Lib.hid (HK.out.trans (hkk.mono (fun k h => Nat.lt_of_lt_of_le h hs1)))
          clear hw hkk HW HK
          obtain ⟨bb', o', hee, hjy', hcell'⟩ := (HY.out.below HK3.out.below).at hlt
          injection hee with hee
          injection hee with h1 h2 _
          subst h1 h2
          clear hcell
          go_wp2_with fail
          refine (refU64 _ w3 HYk.out).mono ?_
          rintro e w4 ⟨rfl, hb4⟩
          have HW4 := Lib.hid (HW3.out.kept hb4)
          have HK4 := Lib.hid (HK3.out.trans ((Keep.of_below hb4).mono (fun k h => Nat.lt_of_lt_of_le h HK3.out.size)))
          have z1 := txt_size L1
          have z2 := txt_be 8 ys[j]
          have r1 : txt L1 ++ txt (be 8 ys[j]) = txt (enc 4 xs ++ enc 8 (ys.take (j + 1))) := by rw [txt_append, HE.out]
          clear hb4 HW3 HK3
          go_wp2_with fail
          go_roundw
          case rel => exact ⟨j + 1, by omega, by go_num, rfl, HW4, HK4⟩
          case measure => simp [intOf]; omega
        · have hjn : j = n2 := by omega
          subst hjn
          have hT : ys.take j = ys := List.take_of_length_le (by rw [Hny.out]; exact Nat.le_refl _)
          rw [hT] at HW ⊢
          have hL : (enc 4 xs ++ enc 8 ys).length = 4 * k + 8 * j := by rw [List.length_append, HLx.out, enc_length, Hny.out]
          clear hT hlt hj
          generalize enc 4 xs ++ enc 8 ys = L1 at *
          have HL1 := Lib.hid hL
          have hL1b : L1.length ≤ 400 := by omega
          clear hL
          go_wp2_with fail
          refine (opaquew _ wr p L1 A3 n3 ca3 c HW.out (HC.out.kept HK.out) (fun h ad ha => Nat.lt_of_lt_of_le (HC.out.lt_block h ad ha) hs1) (by omega) (by omega)).mono ?_
          rintro e w3 ⟨rfl, hw, hkk⟩
          have HW3 := Lib.hid hw
          have HK3 := Lib.hid (HK.out.trans (hkk.mono (fun k h => Nat.lt_of_lt_of_le h hs1)))
          clear hw hkk HW HK
          have hpb := pad_lt n3
          have Hpm : Hid ((n3 + pad n3) % 4 = 0) := by show _ = _; unfold pad; omega
          have hol : (opq c).length = 4 + n3 + pad n3 := by rw [opq_length, Hnc.out]
          have HL2 : Hid ((L1 ++ opq c).length = L1.length + (4 + n3 + pad n3)) := by show _ = _; rw [List.length_append, hol]
          have Hol := Lib.hid hol
          clear hol
          go_wp2_with fail
          refine (boolw _ w3 p _ d HW3.out (by rw [HL2.out]; omega)).mono ?_
          rintro e w4 ⟨rfl, hw, hkk⟩
          have HW4 := Lib.hid hw
          have HK4 := Lib.hid (HK3.out.trans (hkk.mono (fun k h => Nat.lt_of_lt_of_le h hs1)))
          clear hw hkk HW3 HK3
          have HL3 : Hid ((L1 ++ opq c ++ be 4 (b01 d)).length = L1.length + (4 + n3 + pad n3) + 4) := by show _ = _; rw [List.length_append, HL2.out, be_length]
          have r1 : txt L1 ++ txt (opq c) = txt (L1 ++ opq c) := txt_append _ _
          have r2 : txt (L1 ++ opq c) ++ txt (be 4 (b01 d)) = txt (L1 ++ opq c ++ be 4 (b01 d)) := txt_append _ _
          have q1 : (txt L1).size + (txt (opq c)).size ≤ 9223372036854775807 := by rw [txt_size, txt_size, Hol.out]; omega
          have q2 : (txt (L1 ++ opq c)).size + (txt (be 4 (b01 d))).size ≤ 9223372036854775807 := by rw [txt_size, txt_be, HL2.out]; omega
          generalize hL3 : L1 ++ opq c ++ be 4 (b01 d) = L3 at *
          generalize hL2' : L1 ++ opq c = L2 at *
          have HD1 := Lib.hid hL3
          clear hL3 hL2'
          have h4 : ((L3.length : Int) % 4 == 0) = true := by rw [beq_iff_eq, HL3.out]; have := HL1.out; have := Hpm.out; omega
          have H4T : Hid ((((L3.length : Nat) : Int).tmod 4 == 0) = true) := by show _ = true; rw [Int.tmod_eq_emod_of_nonneg (by omega)]; exact h4
          have hL3b : L3.length ≤ 700 := by rw [HL3.out]; omega
          go_wp2_with fail
          refine (u32w_nil w4 _).mono ?_
          rintro e w5 ⟨rfl, rfl⟩
          go_wp2_with fail
          refine (opaquew_nil w4 _ _ _).mono ?_
          rintro e w5 ⟨rfl, rfl⟩
          go_wp2_with fail
          refine (boolw_nil w4 _).mono ?_
          rintro e w5 ⟨rfl, rfl⟩
          have IW : Hid (PInv w w1.heap.size p L3 A3 n3 c w4.drew) := PInv.drew ⟨HW4.out, HK4.out.below, HC.out.kept HK4.out⟩
          have v2 := run_convert_bs w4.drew A3 n3 ca3 c IW.out.2.2
          have hcs : c.length ≤ 1000000 := by rw [Hnc.out]; omega
          clear HW4 HK4 HX HX32 HY HY64 HC Hnx Hny Hnc HLx HL1 Hpm Hol HL2 HL3 HD1 HW1 hd hd2 hd3
          go_wp2_with fail
          have q1' : ¬ 9223372036854775807 < (txt L1).size + (txt (opq c)).size := by omega
          have q2' : ¬ 9223372036854775807 < (txt L2).size + (txt (be 4 (b01 d))).size := by omega
          clear q1 q2
          go_cut [8] (fun s8 W => s8 = .bool true ∧ Hid (Below w.heap.size w W))
          case first =>
            go_region_law
              (first
                | (go_simp; go_at_call_of 19 (Value.pointer (some ⟨p, 0, none⟩))
                   refine (out_any (· < w1.heap.size) _ p L3 (Hid.out (p := PInv w w1.heap.size p L3 A3 n3 c _) (by assumption)).1 (by omega)).mono ?_
                   rintro e w6 ⟨A6, c6, rfl, ho⟩
                   have I6 : Hid (PInv w w1.heap.size p L3 A3 n3 c w6) := PInv.step (Hid.out (by assumption)) ho.2
                   have B6 : Hid (BS w6 A6 L3.length L3) := ho.bs
                   have v6 := run_convert_bs w6 A6 L3.length c6 L3 B6.out
                   have v7 := run_convert_bs w6 A3 n3 ca3 c I6.out.2.2
                   clear ho)
                | (go_simp; go_at_call_of 19 (Value.pointer none)
                   refine (out_nil _).mono ?_
                   rintro e w6 ⟨rfl, rfl⟩)
                | (go_simp; go_at_call 20
                   refine (refOpaque c _ hcs).mono ?_
                   rintro e w8 ⟨rfl, hb8⟩
                   have I8 : Hid (PInv w w1.heap.size p L3 A3 n3 c w8) := PInv.step (Hid.out (by assumption)) hb8
                   have B8 : Hid (BS w8 A6 L3.length L3) := BS.below (Hid.out (by assumption)) hb8
                   have v8 := run_convert_bs w8 A6 L3.length c6 L3 B8.out
                   clear hb8)
                | (go_simp; go_at_call 21
                   refine (refBool d _).mono ?_
                   rintro e w9 ⟨rfl, hb9⟩
                   have I9 : Hid (PInv w w1.heap.size p L3 A3 n3 c w9) := PInv.step (Hid.out (by assumption)) hb9
                   have B9 : Hid (BS w9 A6 L3.length L3) := BS.below (Hid.out (by assumption)) hb9
                   have v9 := run_convert_bs w9 A6 L3.length c6 L3 B9.out
                   clear hb9))
            all_goals
              go_wp2_with fail
              go_meet
              exact ⟨congrArg Value.bool H4T.out, (Hid.out (p := PInv w w1.heap.size p L3 A3 n3 c _) (by assumption)).2.1⟩
          case rest =>
            obtain ⟨rfl, HW⟩ := hcut
            go_wp2_with fail
            go_ret
            exact ⟨rfl, HW.out⟩
end Go.Proofs.Ytdooimdjejopmaa
