/-
  Contracts of the document's answers for layer 2: More, Of, Sealed and Right (over texts).
-/
import Derived.Test.YtbikfmcppfkjgaaCRight
namespace Go.Proofs.Ytbikfmcppfkjgaa
open Go.RowKit

theorem txt_get (l : List UInt8) (k : Nat) (h : k < (txt l).size) (h' : k < l.length) : (txt l)[k]'h = l[k] := by
  simp [txt, ByteArray.getElem_eq_getElem_data]
theorem xor_up' (x : BitVec 32) (b : UInt8) : bits .xor .u32 (x.toNat : Int) ((b.toNat : Int) % (4294967296 : Int) * (16777216 : Int) % (4294967296 : Int)) = ((x ^^^ up b).toNat : Int) := by
  have h := b.toNat_lt
  rw [← xor_up x b]
  congr 1
  omega

set_option maxRecDepth 100000 in
set_option maxHeartbeats 2000000 in
theorem refMore (s : BitVec 32) (l : List UInt8) (w : World) (hl : l.length ≤ 1000000) :
    Calls Try.prog 28 #[.int .u32 (s.toNat : Int), .string (txt l)] w fun e w' => e = .returned (.int .u32 ((more s l).toNat : Int)) ∧ w = w' := by
  have hsz := txt_size l
  have hs := s.isLt
  have HN := Lib.hid (not32 s)
  go_enter Try.func28, Try.ntmps28
  go_wp2_with fail
  rw [HN.out]
  have hraw : Hid (more s l = ~~~ raw (~~~ s) l) := rfl
  clear HN
  generalize ~~~ s = x0 at *
  go_loop [5, 6] (fun x i => ∃ k : Nat, k ≤ l.length ∧ i = .int .i64 k ∧ x = .int .u32 ((raw x0 (l.take k)).toNat : Int)) (fun _ i => l.length - (intOf i).toNat)
  case atStart => exact ⟨0, by omega, rfl, rfl⟩
  case round =>
    obtain ⟨k, hk, rfl, rfl⟩ := hrel
    by_cases hlt : k < l.length
    · have hd : decide (k < l.length) = true := by simp; omega
      have hks : k < (txt l).size := by rw [hsz]; exact hlt
      have HX := Lib.hid (xor_up' (raw x0 (l.take k)) (txt l)[k])
      have HR : Hid (raw x0 (l.take (k + 1)) = shn 8 (raw x0 (l.take k) ^^^ up (txt l)[k])) := by
        show _ = _
        rw [List.take_succ_eq_append_getElem hlt, raw_snoc, ← txt_get l k hks hlt]
        rfl
      go_upto_region 6 with (fail)
      rw [HX.out]
      generalize raw x0 (l.take k) ^^^ up (txt l)[k] = y at *
      go_wp2_with fail
      go_loop [5, 7] (fun x j => ∃ m : Nat, m ≤ 8 ∧ j = .int .i64 m ∧ x = .int .u32 ((shn m y).toNat : Int)) (fun _ j => 8 - (intOf j).toNat)
      case atStart => exact ⟨0, by omega, rfl, rfl⟩
      case round =>
        clear HX
        obtain ⟨m, hm, rfl, rfl⟩ := hrel
        by_cases hl8 : m < 8
        · have hdm : decide ((m : Int) < 8) = true := by simp; omega
          have HS := Lib.hid (shn_succ m y)
          generalize shn m y = z at *
          have hz := z.isLt
          by_cases htop : (2147483648 : Int) ≤ (z.toNat : Int)
          · have HH := Lib.hid (sh_hi z htop)
            have hdt : decide ((2147483648 : Int) ≤ (z.toNat : Int)) = true := by simp; omega
            go_wp2_with fail
            go_round
            case rel => exact ⟨m + 1, by omega, by go_num, by rw [HS.out, ← HH.out]⟩
            case measure => simp [intOf]; omega
          · have HH := Lib.hid (sh_lo z htop)
            have hdt : decide ((2147483648 : Int) ≤ (z.toNat : Int)) = false := by simp; omega
            go_wp2_with fail
            go_round
            case rel => exact ⟨m + 1, by omega, by go_num, by rw [HS.out, ← HH.out]; go_num⟩
            case measure => simp [intOf]; omega
        · have H8 : Hid (m = 8) := by show _ = _; omega
          have hdm : decide ((m : Int) < 8) = false := by simp; omega
          go_wp2_with fail
          go_round
          case rel => exact ⟨k + 1, by omega, by go_num, by rw [HR.out, H8.out]⟩
          case measure => simp [intOf]; omega
    · have hd : decide (k < l.length) = false := by simp; omega
      have Hk : Hid (l.take k = l) := List.take_of_length_le (by omega)
      have hy := (raw x0 (l.take k)).isLt
      have HX := Lib.hid (not32 (raw x0 (l.take k)))
      go_wp2_with fail
      rw [HX.out]
      go_ret
      exact ⟨ret_int (by rw [hraw.out, Hk.out]), rfl⟩

theorem refOf (l : List UInt8) (w : World) (hl : l.length ≤ 1000000) :
    Calls Try.prog 23 #[.string (txt l)] w fun e w' => e = .returned (.int .u32 ((sum l).toNat : Int)) ∧ w = w' := by
  have HC : Hid (Calls Try.prog 28 #[.int .u32 0, .string (txt l)] w fun e w' => e = .returned (.int .u32 ((sum l).toNat : Int)) ∧ w = w') := refMore 0#32 l w hl
  go_enter Try.func23, Try.ntmps23
  go_wp2_with fail
  refine HC.out.mono ?_
  rintro e w1 ⟨rfl, rfl⟩
  go_wp2
  go_ret
  exact ⟨rfl, rfl⟩

theorem refSealed (l : List UInt8) (w : World) (hl : l.length ≤ 1000000) :
    Calls Try.prog 13 #[.string (txt l)] w fun e w' => e = .returned (.string (txt (sealed l))) ∧ Below w.heap.size w w' := by
  have hs := (sum l).isLt
  go_enter Try.func13, Try.ntmps13
  go_wp2_with fail
  refine (refOf l w hl).mono ?_
  rintro e w1 ⟨rfl, rfl⟩
  go_wp2_with fail
  refine (refU32 _ w (by omega) (by omega)).mono ?_
  rw [Int.toNat_natCast]
  rintro e w2 ⟨rfl, hb⟩
  have HB := Lib.hid hb
  clear hb
  have z1 := txt_size l
  have z2 := txt_be 4 (sum l).toNat
  have r1 : txt l ++ txt (be 4 (sum l).toNat) = txt (sealed l) := txt_append _ _
  go_wp2_with fail
  go_ret
  exact ⟨rfl, HB.out⟩

theorem txt_take (l : List UInt8) (k : Nat) : (txt l).extract 0 k = txt (l.take k) := by
  apply ByteArray.ext
  simp [txt, ByteArray.data_extract]
theorem txt_list (l : List UInt8) : (txt l).toList = l := ByteArray.toList_mk l
theorem txt_right (l : List UInt8) (h : 4 ≤ l.length) : ((txt (sealed (l.take (l.length - 4)))).toList == (txt l).toList) = right l := by
  unfold right
  rw [decide_eq_true h, Bool.true_and, Bool.eq_iff_iff, beq_iff_eq, decide_eq_true_iff, txt_list, txt_list]

set_option maxRecDepth 100000 in
set_option maxHeartbeats 2000000 in
theorem refRight (l : List UInt8) (w : World) (hl : l.length ≤ 1000000) :
    Calls Try.prog 24 #[.string (txt l)] w fun e w' => e = .returned (.bool (right l)) ∧ Below w.heap.size w w' := by
  have hsz := txt_size l
  by_cases h4 : l.length < 4
  · have HR := Lib.hid (right_short l h4)
    have hd : decide ((4 : Int) ≤ (l.length : Int)) = false := by simp; omega
    go_enter Try.func24, Try.ntmps24
    go_wp2_with fail
    go_ret
    exact ⟨by rw [HR.out]; rfl, Below.refl _ _⟩
  · have hd : decide ((4 : Int) ≤ (l.length : Int)) = true := by simp; omega
    go_enter Try.func24, Try.ntmps24
    have HX := Lib.hid (txt_take l (l.length - 4))
    go_wp2_with fail
    rw [HX.out]
    refine (refSealed (l.take (l.length - 4)) w (by rw [List.length_take]; omega)).mono ?_
    rintro e w1 ⟨rfl, hb⟩
    have HB := Lib.hid hb
    clear hb
    have HR : Hid (((txt (sealed (l.take (l.length - 4)))).toList == (txt l).toList) = right l) := txt_right l (by omega)
    go_wp2_with fail
    go_ret
    exact ⟨congrArg (fun b => Ending.returned (Value.bool b)) HR.out, HB.out⟩
end Go.Proofs.Ytbikfmcppfkjgaa
