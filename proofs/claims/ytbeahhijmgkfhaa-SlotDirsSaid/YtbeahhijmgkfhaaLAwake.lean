/-
  Contract of the document's example (layer 11): it holds, and leaves all memory that was there alone; what package slot answers, in one structure.
-/
import Derived.Test.YtbeahhijmgkfhaaLSame
import Derived.Test.YtbeahhijmgkfhaaLPk
namespace Go.Proofs.Ytbeahhijmgkfhaa
open Go.RowKit Go.Shelf

def aS : Vl.Th := ⟨3, 0, 2, 0, 0, 0, 0, 0, []⟩
def aF : Vl.Th := ⟨0, 1, 0, 0, 0, 0, 0, 0, []⟩
def aD : Vl.Th := ⟨0, 2, 0, 1, 0, 0, 0, 0, []⟩
theorem built_aS : Try.prog.built 26 [(0, .int .u32 3), (2, .int .u32 2)] = some (sc aS (.slice none 0 0)).toArray := by kernel_rfl
theorem built_aF : Try.prog.built 26 [(1, .int .u32 1)] = some (sc aF (.slice none 0 0)).toArray := by kernel_rfl
theorem built_aD : Try.prog.built 26 [(1, .int .u32 2), (3, .int .u32 1)] = some (sc aD (.slice none 0 0)).toArray := by kernel_rfl
theorem aS_fits : Fits aS := ⟨by decide, by decide, ⟨by decide, by decide, by decide, by decide, by decide, by decide⟩⟩
theorem aF_fits : Fits aF := ⟨by decide, by decide, ⟨by decide, by decide, by decide, by decide, by decide, by decide⟩⟩
theorem aD_fits : Fits aD := ⟨by decide, by decide, ⟨by decide, by decide, by decide, by decide, by decide, by decide⟩⟩
theorem aS_ok : Sl.okS aS = true := by decide +kernel
theorem aF_no : Sl.okS aF = false := by decide +kernel
theorem aD_ok : Sl.okS aD = true := by decide +kernel
theorem aS_len : (Sl.enc aS).length = 48 := by decide +kernel
theorem aS_3 : ∀ h : 3 < (Sl.enc aS).length, ((Sl.enc aS)[3]'h).toNat = 3 := by decide +kernel

set_option maxRecDepth 100000 in
set_option maxHeartbeats 4000000 in
theorem awakeS_any (w : World) : Calls Try.prog 9 #[] w fun e w' => e = .returned (.bool true) ∧ Below w.heap.size w w' := by
  go_enter Try.func9, Try.ntmps9
  go_wp2_with (refine Did.list rfl (did_build 26 #[(0, .const (.int .u32 3)), (2, .const (.int .u32 2))] rfl _ built_aS) ?_)
  refine (putS_any aS none 0 0 w aS_fits BS.nil (by omega)).mono ?_
  rintro en w1 ⟨A1, n1, c1, rfl, ho1⟩
  rw [show Sl.chkS aS = 0 from if_pos aS_ok]
  rw [show Sl.put aS = Sl.enc aS from if_pos aS_ok] at ho1
  have hb1 := ho1.bs
  have hn1 : n1 = 48 := by have := hb1.1; rw [aS_len] at this; exact this.symm
  subst hn1
  have HB1 := Lib.hid hb1
  have HW1 := Lib.hid ho1.2
  clear hb1 ho1
  go_wp2_with fail
  refine (getS_any (Sl.enc aS) A1 48 c1 w1 HB1.out (by omega)).mono ?_
  rintro en w2 ⟨A2, n2, c2, rfl, hx2, hb2⟩
  rw [(Sl.got_put aS aS_fits.wide aS_ok).2] at hx2
  rw [(Sl.got_put aS aS_fits.wide aS_ok).1, (Sl.got_put aS aS_fits.wide aS_ok).2]
  have HW2 := Lib.hid (HW1.out.trans (hb2.mono HW1.out.size))
  have HB2 := Lib.hid (HB1.out.below hb2)
  have HX2 := Lib.hid hx2
  clear hb2 hx2 HW1 HB1
  go_upto_region 3 with (first
    | (refine wpList_alloc_any rfl 26 rfl _ zero_Sl ?_; intro w3 hb3 hs3 hw3)
    | (refine wpList_store_part rfl 26 (.tmp 3) (.tmp 13) rfl w2.heap.size 0 (sc aS (.slice A2 n2 c2)) rfl rfl 26 _ hb3 size_Sl (by simp [sc]) (sc_row _ _ _ _) ?_
       intro w4 hb4 hs4 hk4))
  have HC4 : Hid (Bw w4 w2.heap.size (sc aS (.slice A2 n2 c2)) 26) := hb4
  have hbw : Below w2.heap.size w2 w4 := hw3.trans (hk4.below2 (fun k hk => by omega))
  have HW4 := Lib.hid (HW2.out.trans (hbw.mono HW2.out.size))
  have HB4 := Lib.hid (HB2.out.below hbw)
  have HX4 := Lib.hid (HX2.out.below hbw)
  clear hb3 hs3 hw3 hb4 hs4 hk4 hbw HW2 HB2 HX2
  generalize w2.heap.size = p at *
  obtain ⟨b, o, rfl, hj3, k3⟩ := HB4.out.at (k := 3) (by omega)
  rw [aS_3 hj3] at k3
  have k0 : w4.cell? ⟨p, 0, none⟩ = some (.int .u32 3) := HC4.out.cell 0 _ rfl
  have k1 : w4.cell? ⟨p, 1, none⟩ = some (.int .u32 0) := HC4.out.cell 1 _ rfl
  have k2 : w4.cell? ⟨p, 2, none⟩ = some (.int .u32 2) := HC4.out.cell 2 _ rfl
  have k3' : w4.cell? ⟨p, 3, none⟩ = some (.int .u32 0) := HC4.out.cell 3 _ rfl
  have k4 : w4.cell? ⟨p, 4, none⟩ = some (.int .u32 0) := HC4.out.cell 4 _ rfl
  have k5 : w4.cell? ⟨p, 5, none⟩ = some (.int .u64 0) := HC4.out.cell 5 _ rfl
  have k6 : w4.cell? ⟨p, 6, none⟩ = some (.int .u64 0) := HC4.out.cell 6 _ rfl
  have k7 : w4.cell? ⟨p, 7, none⟩ = some (.int .u64 0) := HC4.out.cell 7 _ rfl
  have k8 : w4.cell? ⟨p, 8, none⟩ = some (.slice A2 n2 c2) := HC4.out.cell 8 _ rfl
  go_wp2_with fail
  refine (handleS_any aS (.slice A2 n2 c2) w4).mono ?_
  rintro en w5 ⟨rfl, hb5⟩
  have HC5 := Lib.hid (HC4.out.below hb5)
  have HW5 := Lib.hid (HW4.out.trans (hb5.mono HW4.out.size))
  have HX5 := Lib.hid (HX4.out.below hb5)
  clear hb5 HC4 HW4 HX4 HB4 k0 k1 k2 k3 k3' k4 k5 k6 k7 k8
  rw [show hc aS.ino aS.gen = [.int .u32 3, .int .u32 2] from rfl]
  have hfld : ∀ W : World, (Instr.field 37 (.agg #[.int .u32 3, .int .u32 2]) 0).run Try.prog W = .ok (.int .u32 3) W := fun W => by
    kernel_rfl
  go_wp2_with fail
  refine (checkS_any aF none 0 0 w5 aF_fits BS.nil (by omega)).mono ?_
  rintro en w6 ⟨rfl, hb6⟩
  rw [show Sl.chkS aF = 1 from if_neg (by rw [aF_no]; decide)]
  have HC6 := Lib.hid (HC5.out.below hb6)
  have HW6 := Lib.hid (HW5.out.trans (hb6.mono HW5.out.size))
  have HX6 := Lib.hid (HX5.out.below hb6)
  clear hb6 HC5 HW5 HX5 hfld
  go_wp2_with fail
  refine (checkS_any aD none 0 0 w6 aD_fits BS.nil (by omega)).mono ?_
  rintro en w7 ⟨rfl, hb7⟩
  rw [show Sl.chkS aD = 0 from if_pos aD_ok]
  have HC7 := Lib.hid (HC6.out.below hb7)
  have HW7 := Lib.hid (HW6.out.trans (hb7.mono HW6.out.size))
  have HX7 := Lib.hid (HX6.out.below hb7)
  clear hb7 HC6 HW6 HX6
  have k0 := HC7.out.cell 0 _ rfl
  have k1 := HC7.out.cell 1 _ rfl
  have k2 := HC7.out.cell 2 _ rfl
  have k3 := HC7.out.cell 3 _ rfl
  have k4 := HC7.out.cell 4 _ rfl
  have k5 := HC7.out.cell 5 _ rfl
  have k6 := HC7.out.cell 6 _ rfl
  have k7 := HC7.out.cell 7 _ rfl
  have k8 := HC7.out.cell 8 _ rfl
  go_wp2_with fail
  refine (sameS_any aS aS A2 n2 c2 none 0 0 w7 HX7.out BS.nil).mono ?_
  rintro en w8 ⟨rfl, hb8⟩
  rw [decide_eq_true rfl]
  have HW8 := Lib.hid (HW7.out.trans (hb8.mono HW7.out.size))
  clear hb8 k0 k1 k2 k3 k4 k5 k6 k7 k8
  go_wp2_with fail
  go_ret
  exact ⟨rfl, HW8.out⟩

/-- Package slot answers as the document says. -/
theorem pk : Pk where
  check := fun s A n cp w hf h hn => checkS_any s A n cp w hf h hn
  put := fun s A n cp w hf h hn => putS_any s A n cp w hf h hn
  get := fun l A n cp w h hn => getS_any l A n cp w h hn
  same := fun s t A n cp B m cq w hx hy _ _ => sameS_any s t A n cp B m cq w hx hy
  handle := fun s v w => handleS_any s v w
  awake := fun w => awakeS_any w
end Go.Proofs.Ytbeahhijmgkfhaa
