/-
  Contract of the document's example (layer 9): it holds, and leaves all memory that was there alone.
-/
import Derived.Test.YtobhmjokoicpoaaDoorKGetR
import Derived.Lib.SlBytesConst
namespace Go.Proofs.YtobhmjokoicpoaaDoor
open Go.RowKit Go.Shelf

def cW : Cl := ⟨0, 5, 2, 0, 0, [], 0, 0, [], 0, 0, 0, 0, []⟩
def rW : Rp := ⟨0, 0, 71, 0, 0, 0, 0, 0, 0, 0, [120], [], false, 0, 0⟩
theorem built_cW : Tryd.prog.built 28 [(2, .int .u32 2), (1, .int .u32 5)] = some (cc cW (.slice none 0 0)).toArray := by kernel_rfl
theorem built_rW (A : Option Addr) (n cp : Nat) : Tryd.prog.built 48 [(2, .int .i64 71), (5, .slice A n cp)] = some (rc rW (.slice A n cp) (.slice none 0 0)).toArray := by kernel_rfl
theorem cW_ok : cW.okB = true := by decide +kernel
theorem rW_ok : rW.okB = true := by decide +kernel
theorem cW_wide : cW.Wide := ⟨by decide, by decide, by decide, by decide, by decide, by decide, by decide, by decide, by decide, by decide, by decide⟩
theorem rW_wide : rW.Wide := ⟨by decide, by decide, by decide, by decide, by decide, by decide, by decide, by decide, by decide, by decide, by decide, fun _ h => by cases h⟩
theorem cW_len : cW.enc.length = 64 := by decide +kernel
theorem cW_7 : ∀ h : 7 < cW.enc.length, (cW.enc[7]'h).toNat = 5 := by decide +kernel
theorem cW_11 : ∀ h : 11 < cW.enc.length, (cW.enc[11]'h).toNat = 2 := by decide +kernel
theorem Rp.errP_ok (r : Rp) (h : r.okB = true) : r.errP = 0 := by
  unfold Rp.errP
  rw [if_pos (r.okB_iff.1 h).1]
  exact if_pos (r.okB_iff.1 h).2

set_option maxRecDepth 100000 in
set_option maxHeartbeats 4000000 in
theorem awake_any (w : World) (hch : Ch w) : Calls Tryd.prog 9 #[] w fun e w' => e = .returned (.bool true) ∧ Below w.heap.size w w' := by
  have HCH := Lib.hid hch
  clear hch
  have kc := fun (w : World) (C : Array Value) (n c : Nat) => Lib.run_convert_bytes_const (P := Tryd.prog) w 26 5 C n c Tryd.underlying26 Tryd.underlying5
  go_enter Tryd.func9, Tryd.ntmps9
  go_wp2_with (refine Did.list rfl (did_build 28 #[(2, .const (.int .u32 2)), (1, .const (.int .u32 5))] rfl _ built_cW) ?_)
  refine (putCall_any none 0 0 cW w (fun _ => BS.nil) rfl).mono ?_
  rintro en w1 ⟨A1, n1, c1, rfl, ho1⟩
  rw [show cW.errP = 0 from if_pos cW_ok]
  rw [show cW.put = cW.enc from if_pos cW_ok] at ho1
  have hb1 := ho1.bs
  have hn1 : n1 = 64 := by have := hb1.1; rw [cW_len] at this; exact this.symm
  subst hn1
  have HB1 := Lib.hid hb1
  have HW1 := Lib.hid ho1.2
  clear hb1 ho1
  go_wp2_with fail
  refine (getCall_any A1 64 c1 cW.enc w1 HB1.out (by omega)).mono ?_
  rintro en w2 ⟨A2, n2, c2, rfl, _, hb2⟩
  rw [(Cl.got_put cW cW_wide cW_ok).1, (Cl.got_put cW cW_wide cW_ok).2]
  have HW2 := Lib.hid (HW1.out.trans (hb2.mono HW1.out.size))
  have HB2 := Lib.hid (HB1.out.below hb2)
  clear hb2 HW1 HB1
  go_upto_region 3 with (first
    | (refine wpList_alloc_any rfl 28 rfl _ zero_C ?_; intro w3 hb3 hs3 hw3)
    | (refine wpList_store_part rfl 28 (.tmp 3) (.tmp 17) rfl w2.heap.size 0 (cc cW (.slice A2 n2 c2)) rfl rfl 28 _ hb3 size_C (by simp [cc]) (cc_one _ _ _ _) ?_
       intro w4 hb4 hs4 hk4))
  have HC4 : Hid (Bw w4 w2.heap.size (cc cW (.slice A2 n2 c2)) 28) := hb4
  have hbw : Below w2.heap.size w2 w4 := hw3.trans (hk4.below2 (fun k hk => by omega))
  have HW4 := Lib.hid (HW2.out.trans (hbw.mono HW2.out.size))
  have HB4 := Lib.hid (HB2.out.below hbw)
  clear hb3 hs3 hw3 hb4 hs4 hk4 hbw HW2 HB2
  generalize w2.heap.size = p at *
  go_wp2_with (refine Did.list rfl (did_build 48 #[(2, .const (.int .i64 71)), (5, .tmp 21)] rfl _ (built_rW _ _ _)) ?_)
  have hal : Below w4.heap.size w4 (w4.alloc (.cells #[.int .u8 120] 5 (1, 2))) := (Below.refl _ _).alloc (Nat.le_refl _) _
  have HB5 := Lib.hid (HB4.out.below hal)
  have HC5 := Lib.hid (HC4.out.below hal)
  have HW5 := Lib.hid (HW4.out.trans (hal.mono HW4.out.size))
  have hx5 : BS (w4.alloc (.cells #[.int .u8 120] 5 (1, 2))) (some ⟨w4.heap.size, 0, none⟩) 1 [120] := BS.of_block (l := [120]) (heap_alloc_new w4 _)
  clear HB4 HC4 HW4 hal
  generalize w4.alloc (.cells #[.int .u8 120] 5 (1, 2)) = w5 at *
  refine (putReply_any (some ⟨w4.heap.size, 0, none⟩) 1 1 none 0 0 rW w5 hx5 ES.nil (fun _ h => by cases h)).mono ?_
  rintro en w6 ⟨A6, n6, c6, rfl, ho6⟩
  rw [rW.errP_ok rW_ok]
  rw [show rW.put = rW.enc from if_pos rW_ok] at ho6
  have HB6 := Lib.hid (HB5.out.below ho6.2)
  have HC6 := Lib.hid (HC5.out.below ho6.2)
  have HW6 := Lib.hid (HW5.out.trans (ho6.2.mono HW5.out.size))
  have HP6 := Lib.hid ho6.bs
  have HL6 : Hid (n6 ≤ 4000) := by
    show _ ≤ _
    have h1 := HP6.out.1
    have h2 := (Rp.enc_len rW rW_ok).2
    omega
  clear HB5 HC5 HW5 hx5 ho6
  go_wp2_with fail
  refine (getReply_any A6 n6 c6 rW.enc w6 HP6.out (by have := HL6.out; omega)).mono ?_
  rintro en w7 ⟨A7, n7, c7, B7, m7, d7, rfl, hx7, _, hb7⟩
  rw [(Rp.got_put rW rW_wide rW_ok).2] at hx7
  rw [(Rp.got_put rW rW_wide rW_ok).1, (Rp.got_put rW rW_wide rW_ok).2]
  have HB7 := Lib.hid (HB6.out.below hb7)
  have HC7 := Lib.hid (HC6.out.below hb7)
  have HW7 := Lib.hid (HW6.out.trans (hb7.mono HW6.out.size))
  have HX7 : Hid (BS w7 A7 n7 [120]) := hx7
  clear HB6 HC6 HW6 hx7 hb7 HP6 HL6
  go_upto_region 5 with (first
    | (refine wpList_alloc_any rfl 48 rfl _ zero_Rp ?_; intro w8 hb8 hs8 hw8)
    | (refine wpList_store_part rfl 48 (.tmp 7) (.tmp 29) rfl w7.heap.size 0 (rc rW (.slice A7 n7 c7) (.slice B7 m7 d7)) rfl rfl 48 _ hb8 size_Rp (by simp [rc]) (rc_one _ _ _ _ _ _ _) ?_
       intro w9 hb9 hs9 hk9))
  have HR9 : Hid (Bw w9 w7.heap.size (rc rW (.slice A7 n7 c7) (.slice B7 m7 d7)) 48) := hb9
  have hbw : Below w7.heap.size w7 w9 := hw8.trans (hk9.below2 (fun k hk => by omega))
  have HW9 := Lib.hid (HW7.out.trans (hbw.mono HW7.out.size))
  have HB9 := Lib.hid (HB7.out.below hbw)
  have HC9 := Lib.hid (HC7.out.below hbw)
  have HX9 := Lib.hid (HX7.out.below hbw)
  clear hb8 hs8 hw8 hb9 hs9 hk9 hbw HW7 HB7 HC7 HX7
  generalize w7.heap.size = r at *
  obtain ⟨b, o, rfl, hj7, k7⟩ := HB9.out.at (k := 7) (by omega)
  obtain ⟨b', o', hA, hj11, k11⟩ := HB9.out.at (k := 11) (by omega)
  injection hA with hA
  injection hA with hA1 hA2 _
  subst hA1 hA2
  rw [cW_7 hj7] at k7
  rw [cW_11 hj11] at k11
  have kx : w9.cell? ⟨p, 1, none⟩ = some (.int .u32 5) := HC9.out.cell 1 _ rfl
  have ks : w9.cell? ⟨r, 2, none⟩ = some (.int .i64 71) := HR9.out.cell 2 _ rfl
  have kd : w9.cell? ⟨r, 10, none⟩ = some (.slice A7 n7 c7) := HR9.out.cell 10 _ rfl
  have hcv := run_convert_bs w9 A7 n7 c7 [120] HX9.out
  rw [show txt [120] = ⟨#[120]⟩ from rfl] at hcv
  have HCH9 := Lib.hid (HCH.out.below HW9.out)
  clear HB9 HC9 HX9 HR9
  go_wp2_with fail
  refine (changes_any 12 w9 HCH9.out).mono ?_
  rintro en wA ⟨rfl, rfl⟩
  rw [show chB 12 = true from rfl]
  go_wp2_with fail
  refine (changes_any 16 w9 HCH9.out).mono ?_
  rintro en wA ⟨rfl, rfl⟩
  rw [show chB 16 = false from rfl]
  go_wp2_with fail
  go_ret
  exact ⟨rfl, HW9.out⟩
end Go.Proofs.YtobhmjokoicpoaaDoor
