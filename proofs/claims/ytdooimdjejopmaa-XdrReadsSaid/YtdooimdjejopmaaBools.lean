/-
  The walk of XdrBools: bools are read as they were put; a number above 1 is none: the law's function returns true for every input.
-/
import Derived.Test.YtdooimdjejopmaaRow4
namespace Go.Proofs.Ytdooimdjejopmaa
open Go.RowKit

/-- A slice of bools reads as bs. -/
def BoolS (w : World) (A : Option Addr) (n : Nat) (bs : List Bool) : Prop :=
  bs.length = n ∧ (0 < n → ∃ b o, A = some ⟨b, o, none⟩ ∧ ∀ j (hj : j < bs.length), w.cell? ⟨b, o + j, none⟩ = some (.bool bs[j]))
theorem BoolS.below {w w' : World} {A : Option Addr} {n : Nat} {bs : List Bool} (h : BoolS w A n bs) (hb : Below w.heap.size w w') : BoolS w' A n bs :=
  ⟨h.1, fun hn => by
    obtain ⟨b, o, e, hc⟩ := h.2 hn
    exact ⟨b, o, e, fun j hj => (hb.cell (p := ⟨b, o + j, none⟩) (World.block_lt_of_cell? w _ (hc j hj))).trans (hc j hj)⟩⟩
theorem BoolS.at {w : World} {A : Option Addr} {n : Nat} {bs : List Bool} (h : BoolS w A n bs) {i : Nat} (hi : i < n) :
    ∃ b o, A = some ⟨b, o, none⟩ ∧ ∃ hj : i < bs.length, w.cell? ⟨b, o + i, none⟩ = some (.bool bs[i]) := by
  obtain ⟨b, o, e, hc⟩ := h.2 (by omega)
  have hj : i < bs.length := by rw [h.1]; exact hi
  exact ⟨b, o, e, hj, hc i hj⟩

theorem b01_lt (b : Bool) : b01 b < 256 ^ 4 := by cases b <;> decide
theorem rdN_enc' (n : Nat) (xs : List Nat) (t : List UInt8) (i : Nat) (hi : i < xs.length) (hx : xs[i] < 256 ^ n) :
    rdN n ((enc n xs ++ t).drop (n * i), 0) = (((enc n xs ++ t).drop (n * (i + 1)), 0), xs[i]) := by
  have h := rdN_enc n xs t i (enc n xs ++ t).length hi (by
    have := Nat.mul_le_mul_left n hi
    rw [List.length_append, enc_length]
    rw [Nat.mul_succ] at this
    omega) hx
  rwa [List.take_of_length_le (Nat.le_refl _)] at h
theorem rdB_enc (bs : List Bool) (t : List UInt8) (i : Nat) (hi : i < bs.length) : rdB ((enc 4 (bs.map b01) ++ t).drop (4 * i), 0) = (((enc 4 (bs.map b01) ++ t).drop (4 * (i + 1)), 0), bs[i]) := by
  have h := rdN_enc' 4 (bs.map b01) t i (by simpa using hi) (by rw [List.getElem_map]; exact b01_lt _)
  rw [List.getElem_map] at h
  unfold rdB
  rw [h]
  cases bs[i] <;> simp [b01]
theorem rdB_be (x : Nat) (hx : x < 4294967296) : rdB (be 4 x, 0) = if 1 < x then (([], 11), false) else (([], 0), x == 1) := by
  have h := rdN_be 4 x [] (by simpa using hx)
  rw [List.append_nil] at h
  unfold rdB
  rw [h]
theorem Rd.drew {w : World} {q : Nat} {l : List UInt8} {e : Int} (h : Rd w q l e) : Rd w.drew q l e := h

set_option maxRecDepth 100000 in
set_option maxHeartbeats 4000000 in
theorem bools_walk (A : Option Addr) (n c : Nat) (bs : List Bool) (x : Nat) (w : World) (hb : BoolS w A n bs) (hx : x < 4294967296) :
    Calls Try.prog 10 #[.slice A n c, .int .u32 x] w fun e w' => e = .returned (.bool true) ∧ Below w.heap.size w w' := by
  have HA := Lib.hid (awake_any w)
  have HB := Lib.hid hb
  have Hnx : Hid (bs.length = n) := hb.1
  clear hb
  by_cases h40 : 40 < n
  · go_enter Try.func10, Try.ntmps10
    have hd : decide ((40 : Int) < (n : Int)) = true := by simp; omega
    go_wp2_with fail
    refine HA.out.mono ?_
    rintro e w1 ⟨rfl, hw1⟩
    have HW1 := Lib.hid hw1
    clear hw1
    go_wp2_with fail
    go_ret
    exact ⟨rfl, HW1.out⟩
  · go_enter Try.func10, Try.ntmps10
    have hd : decide ((40 : Int) < (n : Int)) = false := by simp; omega
    go_wp2_with fail
    refine HA.out.mono ?_
    rintro e w1 ⟨rfl, hw1⟩
    have HW1 := Lib.hid hw1
    have hs1 := hw1.size
    clear hw1 HA
    go_wp2_with fail
    refine (newWriter_op w1).mono ?_
    rintro e w2 ⟨p, rfl, hw, hbe⟩
    have HW := Lib.hid hw
    have HK := Lib.hid ((Keep.of_below HW1.out).trans ((Keep.of_below hbe).mono (fun k h => Nat.lt_of_lt_of_le h hs1)))
    clear hw hbe
    go_wp2_with fail
    go_loopw [7] (fun i wr => ∃ k : Nat, k ≤ n ∧ i = .int .i64 k ∧ Hid (Wr (· < w1.heap.size) wr p (enc 4 ((bs.map b01).take k))) ∧ Hid (Keep (· < w.heap.size) w wr)) (fun i _ => n - (intOf i).toNat)
    case atStart => exact ⟨0, by omega, rfl, by simpa [Hid, enc] using HW.out, HK⟩
    case round =>
      clear HW HK
      obtain ⟨k, hk, rfl, HW, HK⟩ := hrel
      by_cases hlt : k < n
      · obtain ⟨bb, o, rfl, hj, hcell⟩ := (HB.out.below HK.out.below).at hlt
        have HE := Lib.hid (enc_snoc 4 (bs.map b01) k (by simpa using hj))
        have HL : Hid ((enc 4 ((bs.map b01).take k)).length ≤ 200) := by show _ ≤ _; rw [enc_length, List.length_take]; omega
        go_wp2_with fail
        refine (boolw _ wr p _ bs[k] HW.out (Nat.le_trans HL.out (by omega))).mono ?_
        rintro e w3 ⟨rfl, hw, hkk⟩
        have hE := HE.out
        rw [List.getElem_map] at hE
        rw [← hE] at hw
        have HW3 := Lib.hid hw
        have HK3 := Lib.hid (HK.out.trans (hkk.mono (fun k h => Nat.lt_of_lt_of_le h hs1)))
        clear hw hkk hE
        go_wp2_with fail
        go_roundw
        case rel => exact ⟨k + 1, by omega, by go_num, HW3, HK3⟩
        case measure => simp [intOf]; omega
      · have hkn : k = n := by omega
        subst hkn
        have HW2 : Hid (Wr (· < w1.heap.size) wr p (enc 4 (bs.map b01))) := by
          have := HW.out
          rwa [List.take_of_length_le (by rw [List.length_map, Hnx.out]; exact Nat.le_refl _)] at this
        clear HW hlt hk
        have HEl : Hid ((enc 4 (bs.map b01)).length = 4 * k) := by show _ = _; rw [enc_length, List.length_map, Hnx.out]
        go_wp2_with fail
        refine (u32w _ wr p _ _ (by omega) HW2.out (by rw [HEl.out]; omega)).mono ?_
        rintro e w3 ⟨rfl, hw, hkk⟩
        rw [Int.toNat_natCast] at hw
        have HW3 := Lib.hid hw
        have HK3 := Lib.hid (HK.out.trans (hkk.mono (fun k h => Nat.lt_of_lt_of_le h hs1)))
        clear hw hkk HW2 HK
        have HLn : Hid ((enc 4 (bs.map b01) ++ be 4 x).length = 4 * k + 4) := by show _ = _; rw [List.length_append, HEl.out, be_length]
        go_wp2_with fail
        refine (out_any _ w3 p _ HW3.out (by rw [HLn.out]; omega)).mono ?_
        rintro e w4 ⟨A4, c4, rfl, ho⟩
        rw [HLn.out] at ho ⊢
        have HO4 := Lib.hid ho.bs
        have HK4 := Lib.hid (HK3.out.trans ((Keep.of_below ho.2).mono (fun k h => Nat.lt_of_lt_of_le h HK3.out.size)))
        clear ho HW3 HK3
        go_wp2_with fail
        refine (newReader_any A4 _ c4 _ w4 HO4.out (by omega)).mono ?_
        rintro e w5 ⟨q, rfl, hr, hbe, hq⟩
        have HR5 := Lib.hid hr
        have HK5 := Lib.hid (HK4.out.trans ((Keep.of_below hbe).mono (fun k h => Nat.lt_of_lt_of_le h HK4.out.size)))
        have hq0 : w.heap.size ≤ q := Nat.le_trans HK4.out.size hq
        clear hr hbe HK4 hq HO4
        go_wp2_with fail
        go_loopw [9] (fun i wr => ∃ j : Nat, j ≤ k ∧ i = .int .i64 j ∧ Hid (Rd wr q ((enc 4 (bs.map b01) ++ be 4 x).drop (4 * j)) 0) ∧ Hid (Keep (· < w.heap.size) w wr)) (fun i _ => k - (intOf i).toNat)
        case atStart => exact ⟨0, by omega, rfl, by simpa [Hid] using HR5.out, HK5⟩
        case round =>
          clear HR5 HK5
          obtain ⟨j, hj, rfl, HR, HK⟩ := hrel
          by_cases hlt : j < k
          · obtain ⟨bb, o, hAe, hjx, hcell⟩ := (HB.out.below HK.out.below).at hlt
            subst hAe
            have hbq : bb < w.heap.size := by
              obtain ⟨b', o', he, _, hc⟩ := HB.out.at hlt
              injection he with he
              injection he with h1 _ _
              subst h1
              exact World.block_lt_of_cell? w _ hc
            have Hrd := Lib.hid (rdB_enc bs (be 4 x) j hjx)
            have HLl : Hid ((((enc 4 (bs.map b01) ++ be 4 x).drop (4 * (j + 1))).length : Int) = 4 * ((k : Int) - (j : Int))) := by show _ = _; rw [List.length_drop, HLn.out]; omega
            have i0 : (0 : Int) ≤ (j : Int) := by omega
            have i1 : (j : Int) < (k : Int) := by omega
            have s1 : IntKind.i64.wrap ((k : Int) - (j : Int)) = (k : Int) - (j : Int) := by rw [IntKind.wrap_i64]; omega
            have s2 : IntKind.i64.wrap (4 * ((k : Int) - (j : Int))) = 4 * ((k : Int) - (j : Int)) := by rw [IntKind.wrap_i64]; omega
            go_wp2_with fail
            go_region_held3 (fun w' => w'.cell? ⟨bb, o + j, none⟩ = some (.bool bs[j]))
              (first | go_keep | (rw [hgc]; assumption))
              (first
                | (go_at_call 27
                   refine (boolr _ q _ 0 HR.out.drew).mono ?_
                   rw [Hrd.out]
                   rintro e w6 ⟨rfl, hr, hg⟩
                   have HR6 := Lib.hid hr
                   have hgc : w6.cell? ⟨bb, o + j, none⟩ = wr.cell? ⟨bb, o + j, none⟩ := hg.cell_far ⟨bb, o + j, none⟩ (by have := HK.out.size; simp; omega) (by simp; omega)
                   have HG6 := Lib.hid hg
                   clear hr hg)
                | (go_at_call 34
                   refine (left_any _ q _ 0 HR6.out).mono ?_
                   rintro e w7 ⟨rfl, rfl⟩
                   rw [HLl.out]))
            clear hgc
            have HK6 := Lib.hid (HK.out.drew.grown HG6.out (fun k h => Nat.lt_of_lt_of_le h HK.out.size) (fun k h h' => by injection h with h; omega))
            clear HG6 HK HR s1 s2
            go_wp2_with fail
            go_roundw
            case rel => exact ⟨j + 1, by omega, by go_num, HR6, HK6⟩
            case measure => simp [intOf]; omega
          · have hjk : j = k := by omega
            subst hjk
            have HE : Hid ((enc 4 (bs.map b01) ++ be 4 x).drop (4 * j) = be 4 x) := by
              show _ = _
              rw [← HEl.out, List.drop_append_of_le_length (Nat.le_refl _), List.drop_of_length_le (Nat.le_refl _), List.nil_append]
            have Hrb := Lib.hid (rdB_be x hx)
            clear hlt hj
            go_wp2_with fail
            refine (boolr _ q _ 0 HR.out).mono ?_
            rw [HE.out, Hrb.out]
            by_cases hx1 : 1 < x
            · rw [if_pos hx1]
              rintro e w6 ⟨rfl, hr, hg⟩
              have HR6 := Lib.hid hr
              have HK6 := Lib.hid (HK.out.grown hg (fun k h => Nat.lt_of_lt_of_le h HK.out.size) (fun k h h' => by injection h with h; omega))
              have t1 : ((x : Int) == 1) = false := by simp; omega
              have t2 : decide ((x : Int) < 2) = false := by simp; omega
              clear hr hg HR HK hx1
              go_wp2_with fail
              refine (end_any _ q [] 11 HR6.out).mono ?_
              rintro e w7 ⟨rfl, rfl⟩
              rw [show endOf [] 11 = 11 from rfl]
              go_wp2_with fail
              refine (err_any _ q [] 11 HR6.out).mono ?_
              rintro e w7 ⟨rfl, rfl⟩
              go_wp2_with fail
              go_ret
              exact ⟨rfl, HK6.out.below⟩
            · rw [if_neg hx1]
              have hx01 : x = 0 ∨ x = 1 := by omega
              rcases hx01 with rfl | rfl
              all_goals
                rintro e w6 ⟨rfl, hr, hg⟩
                have HR6 := Lib.hid hr
                have HK6 := Lib.hid (HK.out.grown hg (fun k h => Nat.lt_of_lt_of_le h HK.out.size) (fun k h h' => by injection h with h; omega))
                clear hr hg HR HK hx1
                go_wp2_with fail
                refine (end_any _ q [] 0 HR6.out).mono ?_
                rintro e w7 ⟨rfl, rfl⟩
                rw [show endOf [] 0 = 0 from rfl]
                go_wp2_with fail
                go_ret
                exact ⟨rfl, HK6.out.below⟩
end Go.Proofs.Ytdooimdjejopmaa
