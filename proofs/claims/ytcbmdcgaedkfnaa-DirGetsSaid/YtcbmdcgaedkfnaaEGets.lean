/-
  DirGets walked (layer 8).
-/
import Derived.Test.YtcbmdcgaedkfnaaERGet
import Derived.Test.YtcbmdcgaedkfnaaEOf
import Derived.Test.YtcbmdcgaedkfnaaESame
namespace Go.Proofs.Ytcbmdcgaedkfnaa
open Go.RowKit Go.Shelf

theorem got_len (l : List UInt8) : (gotE l).length ≤ l.length := by
  by_cases h : errE l = 0
  · obtain ⟨h1, h2⟩ := got_back l h
    have h3 : putE (gotE l) = encs (gotE l) := if_pos h1
    rw [h3] at h2
    have h4 := encs_min (gotE l)
    rw [h2] at h4
    omega
  · rw [show gotE l = [] from if_neg h]
    exact Nat.zero_le _

set_option maxRecDepth 100000 in
set_option maxHeartbeats 4000000 in
theorem gets_walk (A : Option Addr) (n c : Nat) (l : List UInt8) (w : World) (h : BS w A n l) :
    Calls Try.prog 3 #[.slice A n c] w fun e w' => e = .returned (.bool true) ∧ Below w.heap.size w w' := by
  have HS := Lib.hid h
  have HN : Hid (l.length = n) := h.1
  clear h
  go_enter Try.func3, Try.ntmps3
  go_wp2_with fail
  refine (awake_any w).mono ?_
  rintro en w1 ⟨rfl, hb1⟩
  have HW1 := Lib.hid hb1
  have HS1 := Lib.hid (HS.out.below hb1)
  clear hb1
  by_cases h40 : 400 < n
  · have h40' : (400 : Int) < (n : Int) := by omega
    go_wp2_with fail
    go_ret
    exact ⟨rfl, HW1.out⟩
  have h40' : ¬ (400 : Int) < (n : Int) := by omega
  have HN4 : Hid (n ≤ 400) := Nat.le_of_not_lt h40
  have HGL : Hid ((gotE l).length ≤ 400) := Nat.le_trans (got_len l) (by rw [HN.out]; exact HN4.out)
  have HGB := Lib.hid (got_back l)
  have HGW := Lib.hid (gotE_wide l)
  go_wp2_with fail
  refine (get_any A n c l w1 HS1.out (by have := HN4.out; omega)).mono ?_
  rintro en w2 ⟨A2, n2, c2, rfl, hes2, hc2, hb2⟩
  have HE2 := Lib.hid hes2
  have HW2 := Lib.hid (HW1.out.trans (hb2.mono HW1.out.size))
  have HS2 := Lib.hid (HS1.out.below hb2)
  have HN2 : Hid (n2 ≤ 400) := by show _ ≤ _; rw [← hes2.1]; exact HGL.out
  clear hes2 hc2 hb2 HS1 HW1 h40 h40'
  have hcv := run_convert_bs w2 A n c l HS2.out
  go_wp2_with fail
  refine (refGet_any l w2 (by rw [HN.out]; have := HN4.out; omega)).mono ?_
  rintro en w3 ⟨A3, n3, c3, rfl, hes3, hc3, hb3⟩
  have HE3 := Lib.hid hes3
  have HF3 := Lib.hid (HE2.out.below hb3)
  have HW3 := Lib.hid (HW2.out.trans (hb3.mono HW2.out.size))
  have HS3 := Lib.hid (HS2.out.below hb3)
  clear hes3 hc3 hb3 HS2 HW2 HE2 hcv
  go_wp2_with fail
  refine (of_any A2 n2 c2 (gotE l) w3 HF3.out (by have := HN2.out; omega)).mono ?_
  rintro en w4 ⟨A4, c4, rfl, hes4, hb4⟩
  have HE4 := Lib.hid hes4
  have HF4 := Lib.hid (HF3.out.below hb4)
  have HR4 := Lib.hid (HE3.out.below hb4)
  have HW4 := Lib.hid (HW3.out.trans (hb4.mono HW3.out.size))
  have HS4 := Lib.hid (HS3.out.below hb4)
  clear hes4 hb4 HS3 HW3 HE3 HF3
  go_wp2_with fail
  refine (same_any A4 A3 n2 n3 c4 c3 (gotE l) (gotE l) w4 HE4.out HR4.out (by have := HN2.out; omega)).mono ?_
  rintro en w5 ⟨rfl, hb5⟩
  rw [decide_eq_true (show gotE l = gotE l from rfl)]
  have HF5 := Lib.hid (HF4.out.below hb5)
  have HW5 := Lib.hid (HW4.out.trans (hb5.mono HW4.out.size))
  have HS5 := Lib.hid (HS4.out.below hb5)
  clear hb5 HS4 HW4 HE4 HF4 HR4
  by_cases he : errE l = 0
  rotate_left
  · have hd : (errE l != 0) = true := by simpa using he
    go_wp2_with fail
    go_ret
    exact ⟨rfl, HW5.out⟩
  obtain ⟨hok, hpe⟩ := HGB.out he
  have HPE := Lib.hid hpe
  have HCK : Hid (chkE (gotE l) = 0) := if_pos hok
  rw [he]
  have HOK := Lib.hid hok
  clear he hok hpe
  go_wp2_with fail
  refine (put_any A2 n2 c2 (gotE l) w5 HF5.out HGW.out (by have := HN2.out; omega) (fun hk => by
    have h1 : putE (gotE l) = encs (gotE l) := if_pos hk
    rw [← h1, HPE.out, HN.out]
    have := HN4.out
    omega)).mono ?_
  rintro en w6 ⟨A6, n6, c6, rfl, hbs6, hb6⟩
  rw [HCK.out]
  rw [HPE.out] at hbs6
  have HW6 := Lib.hid (HW5.out.trans (hb6.mono HW5.out.size))
  have HS6 := Lib.hid (HS5.out.below hb6)
  have v1 := run_convert_bs w6 A6 n6 c6 l hbs6
  have v2 := run_convert_bs w6 A n c l HS6.out
  clear hbs6 hb6
  go_wp2_with fail
  go_ret
  exact ⟨rfl, HW6.out⟩
end Go.Proofs.Ytcbmdcgaedkfnaa
