/-
  The walk of XdrStays: behind an error nothing is read any more, and it stays: the law's function returns true for every input.
-/
import Derived.Test.YtdooimdjejopmaaRow
namespace Go.Proofs.Ytdooimdjejopmaa
open Go.RowKit

set_option maxRecDepth 100000 in
set_option maxHeartbeats 4000000 in
theorem stays_walk (A : Option Addr) (n c : Nat) (b : List UInt8) (A2 : Option Addr) (n2 c2 : Nat) (cs : List UInt8) (w : World) (hb : BS w A n b) (hc : BS w A2 n2 cs) :
    Calls Try.prog 9 #[.slice A n c, .slice A2 n2 c2] w fun e w' => e = .returned (.bool true) ∧ Below w.heap.size w w' := by
  have HA := Lib.hid (awake_any w)
  have HB := Lib.hid hb
  have HC := Lib.hid hc
  clear hb hc
  by_cases h200 : 200 < n
  · go_enter Try.func9, Try.ntmps9
    have hd : decide ((200 : Int) < (n : Int)) = true := by simp; omega
    go_wp2_with fail
    refine HA.out.mono ?_
    rintro e w1 ⟨rfl, hw1⟩
    have HW1 := Lib.hid hw1
    clear hw1
    go_wp2_with fail
    go_ret
    exact ⟨rfl, HW1.out⟩
  · by_cases h40 : 40 < n2
    · go_enter Try.func9, Try.ntmps9
      have hd : decide ((200 : Int) < (n : Int)) = false := by simp; omega
      have hd2 : decide ((40 : Int) < (n2 : Int)) = true := by simp; omega
      go_wp2_with fail
      refine HA.out.mono ?_
      rintro e w1 ⟨rfl, hw1⟩
      have HW1 := Lib.hid hw1
      clear hw1
      go_wp2_with fail
      go_ret
      exact ⟨rfl, HW1.out⟩
    · go_enter Try.func9, Try.ntmps9
      have hd : decide ((200 : Int) < (n : Int)) = false := by simp; omega
      have hd2 : decide ((40 : Int) < (n2 : Int)) = false := by simp; omega
      go_wp2_with fail
      refine HA.out.mono ?_
      rintro e w1 ⟨rfl, hw1⟩
      have HW1 := Lib.hid hw1
      clear hw1
      go_wp2_with fail
      refine (newReader_any A n c b w1 (HB.out.below HW1.out) (by omega)).mono ?_
      rintro e w2 ⟨q, rfl, hr, hbe, hq⟩
      have HR := Lib.hid hr
      have HK : Hid (Keep (· < w.heap.size) w w2) := (Keep.of_below HW1.out).trans ((Keep.of_below hbe).mono (fun k h => Nat.lt_of_lt_of_le h HW1.out.size))
      have hq0 : w.heap.size ≤ q := Nat.le_trans HW1.out.size hq
      have Hbn : Hid (b.length = n) := HB.out.1
      clear hr hbe HW1 hq HB HA
      go_wp2_with fail
      go_loopw [7, 8, 9] (fun f lf i wr => ∃ (k : Nat) (l : List UInt8) (e : Int), k ≤ n2 ∧ l.length ≤ 200 ∧ i = .int .i64 k ∧ f = .int .i64 e ∧ lf = .int .i64 l.length ∧ Hid (Rd wr q l e) ∧ Hid (Keep (· < w.heap.size) w wr)) (fun _ _ i _ => n2 - (intOf i).toNat)
      case atStart => exact ⟨0, b, 0, by omega, by rw [Hbn.out]; omega, rfl, rfl, by rw [Hbn.out], HR, HK⟩
      case round =>
        obtain ⟨k, l, e, hk, hl, rfl, rfl, rfl, HR, HK⟩ := hrel
        by_cases hlt : k < n2
        · obtain ⟨bb, o, rfl, hj, hcell⟩ := (HC.out.below HK.out.below).at hlt
          have h4 : cs[k].toNat % 4 = 0 ∨ cs[k].toNat % 4 = 1 ∨ cs[k].toNat % 4 = 2 ∨ cs[k].toNat % 4 = 3 := by omega
          rcases h4 with h4 | h4 | h4 | h4
          · have hbt := and3 cs[k] 0 h4
            clear h4
            by_cases he : e = 0
            · subst he
              go_wp2_with fail
              refine (u32r wr q l 0 HR.out).mono ?_
              rintro en w3 ⟨rfl, hr, hg⟩
              have hle := rdN_len 4 (l, 0)
              generalize (rdN 4 (l, 0)).1 = s' at *
              obtain ⟨l', e'⟩ := s'
              have HR' := Lib.hid hr
              have HK' := Lib.hid (HK.out.grown hg (fun k h => Nat.lt_of_lt_of_le h HK.out.size) (fun k h h' => by injection h with h; omega))
              clear hr hg
              simp only at hle
              go_wp2_with fail
              refine (left_any _ q l' e' HR'.out).mono ?_
              rintro en w4 ⟨rfl, rfl⟩
              have hd3 : decide ((l.length : Int) < (l'.length : Int)) = false := by simp; omega
              go_wp2_with fail
              refine (err_any _ q l' e' HR'.out).mono ?_
              rintro en w4 ⟨rfl, rfl⟩
              go_wp2_with fail
              refine (left_any _ q l' e' HR'.out).mono ?_
              rintro en w4 ⟨rfl, rfl⟩
              go_wp2_with fail
              go_roundw
              case rel => exact ⟨k + 1, l', e', by omega, by omega, by go_num, rfl, rfl, HR', HK'⟩
              case measure => simp [intOf]; omega
            · have he1 : (e != 0) = true := by simp [he]
              have he2 : (e != e) = false := by simp
              go_wp2_with fail
              refine (u32r wr q l e HR.out).mono ?_
              rw [rdN_err 4 l e he]
              rintro en w3 ⟨rfl, hr, hg⟩
              clear he
              have HR' := Lib.hid hr
              have HK' := Lib.hid (HK.out.grown hg (fun k h => Nat.lt_of_lt_of_le h HK.out.size) (fun k h h' => by injection h with h; omega))
              clear hr hg
              go_wp2_with fail
              refine (err_any _ q l e HR'.out).mono ?_
              rintro en w4 ⟨rfl, rfl⟩
              go_wp2_with fail
              refine (left_any _ q l e HR'.out).mono ?_
              rintro en w4 ⟨rfl, rfl⟩
              go_wp2_with fail
              refine (left_any _ q l e HR'.out).mono ?_
              rintro en w4 ⟨rfl, rfl⟩
              go_wp2_with fail
              refine (err_any _ q l e HR'.out).mono ?_
              rintro en w4 ⟨rfl, rfl⟩
              go_wp2_with fail
              refine (left_any _ q l e HR'.out).mono ?_
              rintro en w4 ⟨rfl, rfl⟩
              go_wp2_with fail
              go_roundw
              case rel => exact ⟨k + 1, l, e, by omega, by omega, by go_num, rfl, rfl, HR', HK'⟩
              case measure => simp [intOf]; omega
          · have hbt := and3 cs[k] 1 h4
            clear h4
            by_cases he : e = 0
            · subst he
              go_wp2_with fail
              refine (u64r wr q l 0 HR.out).mono ?_
              rintro en w3 ⟨rfl, hr, hg⟩
              have hle := rdN_len 8 (l, 0)
              generalize (rdN 8 (l, 0)).1 = s' at *
              obtain ⟨l', e'⟩ := s'
              have HR' := Lib.hid hr
              have HK' := Lib.hid (HK.out.grown hg (fun k h => Nat.lt_of_lt_of_le h HK.out.size) (fun k h h' => by injection h with h; omega))
              clear hr hg
              simp only at hle
              go_wp2_with fail
              refine (left_any _ q l' e' HR'.out).mono ?_
              rintro en w4 ⟨rfl, rfl⟩
              have hd3 : decide ((l.length : Int) < (l'.length : Int)) = false := by simp; omega
              go_wp2_with fail
              refine (err_any _ q l' e' HR'.out).mono ?_
              rintro en w4 ⟨rfl, rfl⟩
              go_wp2_with fail
              refine (left_any _ q l' e' HR'.out).mono ?_
              rintro en w4 ⟨rfl, rfl⟩
              go_wp2_with fail
              go_roundw
              case rel => exact ⟨k + 1, l', e', by omega, by omega, by go_num, rfl, rfl, HR', HK'⟩
              case measure => simp [intOf]; omega
            · have he1 : (e != 0) = true := by simp [he]
              have he2 : (e != e) = false := by simp
              go_wp2_with fail
              refine (u64r wr q l e HR.out).mono ?_
              rw [rdN_err 8 l e he]
              rintro en w3 ⟨rfl, hr, hg⟩
              clear he
              have HR' := Lib.hid hr
              have HK' := Lib.hid (HK.out.grown hg (fun k h => Nat.lt_of_lt_of_le h HK.out.size) (fun k h h' => by injection h with h; omega))
              clear hr hg
              go_wp2_with fail
              refine (err_any _ q l e HR'.out).mono ?_
              rintro en w4 ⟨rfl, rfl⟩
              go_wp2_with fail
              refine (left_any _ q l e HR'.out).mono ?_
              rintro en w4 ⟨rfl, rfl⟩
              go_wp2_with fail
              refine (left_any _ q l e HR'.out).mono ?_
              rintro en w4 ⟨rfl, rfl⟩
              go_wp2_with fail
              refine (err_any _ q l e HR'.out).mono ?_
              rintro en w4 ⟨rfl, rfl⟩
              go_wp2_with fail
              refine (left_any _ q l e HR'.out).mono ?_
              rintro en w4 ⟨rfl, rfl⟩
              go_wp2_with fail
              go_roundw
              case rel => exact ⟨k + 1, l, e, by omega, by omega, by go_num, rfl, rfl, HR', HK'⟩
              case measure => simp [intOf]; omega
          · have hbt := and3 cs[k] 2 h4
            clear h4
            by_cases he : e = 0
            · subst he
              go_wp2_with fail
              refine (boolr wr q l 0 HR.out).mono ?_
              rintro en w3 ⟨rfl, hr, hg⟩
              have hle := rdB_len (l, 0)
              generalize (rdB (l, 0)).1 = s' at *
              obtain ⟨l', e'⟩ := s'
              have HR' := Lib.hid hr
              have HK' := Lib.hid (HK.out.grown hg (fun k h => Nat.lt_of_lt_of_le h HK.out.size) (fun k h h' => by injection h with h; omega))
              clear hr hg
              simp only at hle
              go_wp2_with fail
              refine (left_any _ q l' e' HR'.out).mono ?_
              rintro en w4 ⟨rfl, rfl⟩
              have hd3 : decide ((l.length : Int) < (l'.length : Int)) = false := by simp; omega
              go_wp2_with fail
              refine (err_any _ q l' e' HR'.out).mono ?_
              rintro en w4 ⟨rfl, rfl⟩
              go_wp2_with fail
              refine (left_any _ q l' e' HR'.out).mono ?_
              rintro en w4 ⟨rfl, rfl⟩
              go_wp2_with fail
              go_roundw
              case rel => exact ⟨k + 1, l', e', by omega, by omega, by go_num, rfl, rfl, HR', HK'⟩
              case measure => simp [intOf]; omega
            · have he1 : (e != 0) = true := by simp [he]
              have he2 : (e != e) = false := by simp
              go_wp2_with fail
              refine (boolr wr q l e HR.out).mono ?_
              rw [rdB_err l e he]
              rintro en w3 ⟨rfl, hr, hg⟩
              clear he
              have HR' := Lib.hid hr
              have HK' := Lib.hid (HK.out.grown hg (fun k h => Nat.lt_of_lt_of_le h HK.out.size) (fun k h h' => by injection h with h; omega))
              clear hr hg
              go_wp2_with fail
              refine (err_any _ q l e HR'.out).mono ?_
              rintro en w4 ⟨rfl, rfl⟩
              go_wp2_with fail
              refine (left_any _ q l e HR'.out).mono ?_
              rintro en w4 ⟨rfl, rfl⟩
              go_wp2_with fail
              refine (left_any _ q l e HR'.out).mono ?_
              rintro en w4 ⟨rfl, rfl⟩
              go_wp2_with fail
              refine (err_any _ q l e HR'.out).mono ?_
              rintro en w4 ⟨rfl, rfl⟩
              go_wp2_with fail
              refine (left_any _ q l e HR'.out).mono ?_
              rintro en w4 ⟨rfl, rfl⟩
              go_wp2_with fail
              go_roundw
              case rel => exact ⟨k + 1, l, e, by omega, by omega, by go_num, rfl, rfl, HR', HK'⟩
              case measure => simp [intOf]; omega
          · have hbt := and3 cs[k] 3 h4
            have hb8 : (cs[k].toNat : Int) < 256 := by have : cs[k].toNat < 256 := cs[k].toNat_lt
                                                       omega
            clear h4
            by_cases he : e = 0
            · subst he
              go_wp2_with fail
              refine (opaquer wr q l 0 _ (by omega) (by omega) HR.out).mono ?_
              rintro en w3 ⟨Ao, co, rfl, _, hr, hg, _⟩
              have hle := rdO_len ((cs[k].toNat : Int) / 4) (l, 0)
              generalize rdO ((cs[k].toNat : Int) / 4) (l, 0) = s' at *
              obtain ⟨⟨l', e'⟩, bo⟩ := s'
              have HR' := Lib.hid hr
              have HK' := Lib.hid (HK.out.grown hg (fun k h => Nat.lt_of_lt_of_le h HK.out.size) (fun k h h' => by injection h with h; omega))
              clear hr hg
              simp only at hle
              go_wp2_with fail
              refine (left_any _ q l' e' HR'.out).mono ?_
              rintro en w4 ⟨rfl, rfl⟩
              have hd3 : decide ((l.length : Int) < (l'.length : Int)) = false := by simp; omega
              go_wp2_with fail
              refine (err_any _ q l' e' HR'.out).mono ?_
              rintro en w4 ⟨rfl, rfl⟩
              go_wp2_with fail
              refine (left_any _ q l' e' HR'.out).mono ?_
              rintro en w4 ⟨rfl, rfl⟩
              go_wp2_with fail
              go_roundw
              case rel => exact ⟨k + 1, l', e', by omega, by omega, by go_num, rfl, rfl, HR', HK'⟩
              case measure => simp [intOf]; omega
            · have he1 : (e != 0) = true := by simp [he]
              have he2 : (e != e) = false := by simp
              go_wp2_with fail
              refine (opaquer wr q l e _ (by omega) (by omega) HR.out).mono ?_
              rw [rdO_err _ l e he]
              rintro en w3 ⟨Ao, co, rfl, _, hr, hg, _⟩
              clear he
              have HR' := Lib.hid hr
              have HK' := Lib.hid (HK.out.grown hg (fun k h => Nat.lt_of_lt_of_le h HK.out.size) (fun k h h' => by injection h with h; omega))
              clear hr hg
              go_wp2_with fail
              refine (err_any _ q l e HR'.out).mono ?_
              rintro en w4 ⟨rfl, rfl⟩
              go_wp2_with fail
              refine (left_any _ q l e HR'.out).mono ?_
              rintro en w4 ⟨rfl, rfl⟩
              go_wp2_with fail
              refine (left_any _ q l e HR'.out).mono ?_
              rintro en w4 ⟨rfl, rfl⟩
              go_wp2_with fail
              refine (err_any _ q l e HR'.out).mono ?_
              rintro en w4 ⟨rfl, rfl⟩
              go_wp2_with fail
              refine (left_any _ q l e HR'.out).mono ?_
              rintro en w4 ⟨rfl, rfl⟩
              go_wp2_with fail
              go_roundw
              case rel => exact ⟨k + 1, l, e, by omega, by omega, by go_num, rfl, rfl, HR', HK'⟩
              case measure => simp [intOf]; omega
        · go_wp2_with fail
          go_ret
          exact ⟨rfl, HK.out.below⟩
end Go.Proofs.Ytdooimdjejopmaa
