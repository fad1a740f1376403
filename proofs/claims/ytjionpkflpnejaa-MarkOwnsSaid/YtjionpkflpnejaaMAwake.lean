/-
  Contract of the document's example (layer 15): it holds, and leaves all memory that was there alone.
-/
import Derived.Test.YtjionpkflpnejaaMTx
namespace Go.Proofs.Ytjionpkflpnejaa
open Go.RowKit Go.Shelf

def aM : Ms := ⟨true, 0, 0, 0, 0, 0, 0, 0, 0⟩
def bM : Ms := ⟨false, 1, 0, 0, 0, 0, 0, 0, 0⟩
theorem built_aM : Try.prog.built 25 [(0, .bool true)] = some (mc aM).toArray := by kernel_rfl
theorem built_bM : Try.prog.built 25 [(1, .int .u32 1)] = some (mc bM).toArray := by kernel_rfl
theorem aM_wide : aM.Wide := ⟨by decide, by decide, by decide, by decide, by decide, by decide, by decide, by decide⟩
theorem aM_ok : Mk.okM aM = true := by decide +kernel
theorem bM_no : Mk.chkM bM = 1 := by decide +kernel
theorem aM_len : (Mk.put aM).length = 52 := by decide +kernel
set_option maxRecDepth 100000 in
set_option maxHeartbeats 4000000 in
theorem awakeM_any (w : World) : Calls Try.prog 7 #[] w fun e w' => e = .returned (.bool true) ∧ Below w.heap.size w w' := by
  have hmk : ∀ W : World, (Instr.makeSlice 37 (.int .i64 3) (.int .i64 3)).run Try.prog W = .ok (.slice (some ⟨W.heap.size, 0, none⟩) 3 3) (W.alloc (.cells (Array.replicate 3 (.slice none 0 0)) 27)) := fun W => run_make_rows W 3 (by omega)
  go_enter Try.func7, Try.ntmps7
  go_wp2_with (refine Did.list rfl (did_build 25 #[(0, .const (.bool true))] rfl _ built_aM) ?_)
  refine (putM_any aM w aM_wide).mono ?_
  rintro en w1 ⟨A1, n1, c1, rfl, ho1⟩
  rw [show Mk.chkM aM = 0 from if_pos aM_ok]
  have hn1 : n1 = 52 := by have := ho1.bs.1; rw [aM_len] at this; exact this.symm
  subst hn1
  have HB1 := Lib.hid ho1.bs
  have HW1 := Lib.hid ho1.2
  clear ho1
  go_wp2_with fail
  refine (getM_any (Mk.put aM) A1 52 c1 w1 HB1.out (by omega)).mono ?_
  rintro en w2 ⟨rfl, hb2⟩
  rw [(Mk.got_put aM aM_wide aM_ok).1, (Mk.got_put aM aM_wide aM_ok).2]
  have HW2 := Lib.hid (HW1.out.trans (hb2.mono HW1.out.size))
  clear hb2 HW1 HB1
  go_upto_region 3 with (first
    | (refine wpList_alloc_any rfl 25 rfl _ zero_Mk ?_; intro w3 hb3 hs3 hw3)
    | (refine wpList_store_part rfl 25 (.tmp 3) (.tmp 17) rfl w2.heap.size 0 (mc aM) rfl rfl 25 _ hb3 size_Mk (by simp [mc]) (mc_one _) ?_
       intro w4 hb4 hs4 hk4))
  have HC4 : Hid (Bw w4 w2.heap.size (mc aM) 25) := hb4
  have hbw : Below w2.heap.size w2 w4 := hw3.trans (hk4.below2 (fun k hk => by omega))
  have HW4 := Lib.hid (HW2.out.trans (hbw.mono HW2.out.size))
  clear hb3 hs3 hw3 hb4 hs4 hk4 hbw HW2
  generalize w2.heap.size = g at *
  have HRI := Lib.hid (RI.made w4 3)
  have HBa : Hid (Below w4.heap.size w4 (w4.alloc (.cells (Array.replicate 3 (.slice none 0 0)) 27))) := (Below.refl _ _).alloc (Nat.le_refl _) _
  go_wp2_with fail
  refine (new_any _ 3 3 (List.replicate 3 []) _ HRI.out (by omega)).mono ?_
  rintro en w5 ⟨h, m, p, rfl, ht, hb, _, hm⟩
  have HT5 : Hid (Tq w5 p m ⟨some ⟨h, 0, none⟩, 3, 3⟩ (fun z => w4.heap.size ≤ z) (TX.new (List.replicate 3 []))) := ht.mono fun k hk => Nat.le_trans HBa.out.size hk
  have hb5 := HBa.out.trans (hb.mono HBa.out.size)
  have HM5 : Hid (w4.heap.size ≤ m) := Nat.le_trans HBa.out.size hm
  have HC5 := Lib.hid (HC4.out.below hb5)
  have HB5 := Lib.hid hb5
  clear ht hb hm hb5 HBa HRI hmk
  go_wp2_with (refine wpList_load_part rfl 25 (.tmp 3) rfl _ 0 rfl _ Try.underlying25 rfl (mc aM) 25 _ HC5.out size_Mk (fun j u hu => by rw [Nat.zero_add]; exact hu) ?_)
  refine (saveM_any HT5.out (by show 0 < 3; omega) (fun k hk => Nat.le_trans HB5.out.size hk) aM aM_wide).mono ?_
  rintro en w6 ⟨rfl, ht, hb⟩
  rw [if_pos aM_ok] at ht
  have hb6 := HB5.out.trans (hb w4.heap.size HB5.out.size HM5.out)
  have HT6 := Lib.hid ht
  have HC6 := Lib.hid (HC4.out.below hb6)
  have HW6 := Lib.hid (HW4.out.trans (hb6.mono HW4.out.size))
  have HX0 : Hid (((TX.new (List.replicate 3 [])).put 0 (Mk.put aM)).get 0 = Mk.put aM) := by show _ = _; rw [TX.get_put, if_pos rfl]
  rw [show Mk.chkM aM = 0 from if_pos aM_ok]
  clear ht hb hb6 HC4 HC5 HW4 HT5 HB5 HM5
  go_wp2_with fail
  refine (loadM_any HT6.out (by show 0 < 3; omega) (by rw [HX0.out, aM_len]; omega)).mono ?_
  rintro en w7 ⟨rfl, hb⟩
  rw [HX0.out, (Mk.got_put aM aM_wide aM_ok).1, (Mk.got_put aM aM_wide aM_ok).2]
  have HC7 := Lib.hid (HC6.out.below hb)
  have HW7 := Lib.hid (HW6.out.trans (hb.mono HW6.out.size))
  clear hb HC6 HW6 HT6 HX0
  go_upto_region 6 with (first
    | (refine wpList_alloc_any rfl 25 rfl _ zero_Mk ?_; intro w8 hb8 hs8 hw8)
    | (refine wpList_store_part rfl 25 (.tmp 7) (.tmp 27) rfl w7.heap.size 0 (mc aM) rfl rfl 25 _ hb8 size_Mk (by simp [mc]) (mc_one _) ?_
       intro w9 hb9 hs9 hk9))
  have HD9 : Hid (Bw w9 w7.heap.size (mc aM) 25) := hb9
  have hbw : Below w7.heap.size w7 w9 := hw8.trans (hk9.below2 (fun k hk => by omega))
  have HC9 := Lib.hid (HC7.out.below hbw)
  have HW9 := Lib.hid (HW7.out.trans (hbw.mono HW7.out.size))
  clear hb8 hs8 hw8 hb9 hs9 hk9 hbw HC7 HW7
  generalize w7.heap.size = q at *
  have e0 : w9.cell? ⟨g, 0, none⟩ = some (.bool true) := HC9.out.cell 0 _ rfl
  have e1 : w9.cell? ⟨g, 1, none⟩ = some (.int .u32 0) := HC9.out.cell 1 _ rfl
  have e2 : w9.cell? ⟨g, 2, none⟩ = some (.int .u32 0) := HC9.out.cell 2 _ rfl
  have e3 : w9.cell? ⟨g, 3, none⟩ = some (.int .u64 0) := HC9.out.cell 3 _ rfl
  have e4 : w9.cell? ⟨g, 4, none⟩ = some (.int .u64 0) := HC9.out.cell 4 _ rfl
  have e5 : w9.cell? ⟨g, 5, none⟩ = some (.int .u64 0) := HC9.out.cell 5 _ rfl
  have e6 : w9.cell? ⟨g, 6, none⟩ = some (.int .u64 0) := HC9.out.cell 6 _ rfl
  have e7 : w9.cell? ⟨g, 7, none⟩ = some (.int .u32 0) := HC9.out.cell 7 _ rfl
  have e8 : w9.cell? ⟨g, 8, none⟩ = some (.int .u32 0) := HC9.out.cell 8 _ rfl
  have d0 : w9.cell? ⟨q, 0, none⟩ = some (.bool true) := HD9.out.cell 0 _ rfl
  have d1 : w9.cell? ⟨q, 1, none⟩ = some (.int .u32 0) := HD9.out.cell 1 _ rfl
  have d2 : w9.cell? ⟨q, 2, none⟩ = some (.int .u32 0) := HD9.out.cell 2 _ rfl
  have d3 : w9.cell? ⟨q, 3, none⟩ = some (.int .u64 0) := HD9.out.cell 3 _ rfl
  have d4 : w9.cell? ⟨q, 4, none⟩ = some (.int .u64 0) := HD9.out.cell 4 _ rfl
  have d5 : w9.cell? ⟨q, 5, none⟩ = some (.int .u64 0) := HD9.out.cell 5 _ rfl
  have d6 : w9.cell? ⟨q, 6, none⟩ = some (.int .u64 0) := HD9.out.cell 6 _ rfl
  have d7 : w9.cell? ⟨q, 7, none⟩ = some (.int .u32 0) := HD9.out.cell 7 _ rfl
  have d8 : w9.cell? ⟨q, 8, none⟩ = some (.int .u32 0) := HD9.out.cell 8 _ rfl
  have heq : ∀ W : World, (binOp .eql 25 (.agg #[.bool true, .int .u32 0, .int .u32 0, .int .u64 0, .int .u64 0, .int .u64 0, .int .u64 0, .int .u32 0, .int .u32 0]) (.agg #[.bool true, .int .u32 0, .int .u32 0, .int .u64 0, .int .u64 0, .int .u64 0, .int .u64 0, .int .u32 0, .int .u32 0])).run Try.prog W = .ok (.bool true) W := fun W => by
    have := mEq aM aM W
    rw [decide_eq_true rfl] at this
    exact this
  have hbb := built_bM
  clear HC9 HD9
  go_wp2_with fail
  refine (checkM_any bM w9).mono ?_
  rintro en w10 ⟨rfl, hb⟩
  rw [bM_no]
  go_wp2_with fail
  go_ret
  exact ⟨rfl, HW9.out.trans (hb.mono HW9.out.size)⟩
end Go.Proofs.Ytjionpkflpnejaa
