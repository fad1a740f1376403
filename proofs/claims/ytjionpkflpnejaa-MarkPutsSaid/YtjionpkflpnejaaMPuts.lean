/-
  The walk of the statement on what is put (layer 15).
-/
import Derived.Test.YtjionpkflpnejaaMQ6
namespace Go.Proofs.Ytjionpkflpnejaa
open Go.RowKit Go.Shelf

set_option maxRecDepth 100000 in
set_option maxHeartbeats 8000000 in
theorem puts_walk (w : World) (s : Ms) (hw : s.Wide) :
    Calls Try.prog 3 #[.agg (mc s).toArray] w fun e w' => e = .returned (.bool true) ∧ Below w.heap.size w w' := by
  have hmk : ∀ W : World, (Instr.makeSlice 37 (.int .i64 3) (.int .i64 3)).run Try.prog W = .ok (.slice (some ⟨W.heap.size, 0, none⟩) 3 3) (W.alloc (.cells (Array.replicate 3 (.slice none 0 0)) 27)) := fun W => run_make_rows W 3 (by omega)
  have HWD := Lib.hid hw
  have HMK := Lib.hid hmk
  clear hw hmk
  go_enter Try.func3, Try.ntmps3
  go_upto_region 1 with fail
  have HB0 : Hid (Bw (w.alloc (.cells (mc s).toArray 25)) w.heap.size (mc s) 25) := heap_alloc_new w _
  have HW0 : Hid (Below w.heap.size w (w.alloc (.cells (mc s).toArray 25))) := (Below.refl _ w).alloc (Nat.le_refl _) _
  generalize w.alloc (.cells (mc s).toArray 25) = w0 at *
  go_wp2_with fail
  refine (awakeM_any _).mono ?_
  rintro e w1 ⟨rfl, hb⟩
  have HB1 := Lib.hid (HB0.out.below hb)
  have HW1 := Lib.hid (HW0.out.trans (hb.mono HW0.out.size))
  clear hb HB0 HW0
  go_wp2_with (refine wpList_load_part rfl 25 (.tmp 1) rfl _ 0 rfl _ Try.underlying25 rfl (mc s) 25 _ HB1.out size_Mk (fun j u hu => by rw [Nat.zero_add]; exact hu) ?_)
  refine (putM_any s w1 HWD.out).mono ?_
  rintro e w2 ⟨A3, n3, c3, rfl, ho⟩
  have HB2 := Lib.hid (HB1.out.below ho.2)
  have HW2 := Lib.hid (HW1.out.trans (ho.2.mono HW1.out.size))
  have HP2 := Lib.hid ho.bs
  clear ho HB1 HW1
  go_wp2_with (refine wpList_load_part rfl 25 (.tmp 1) rfl _ 0 rfl _ Try.underlying25 rfl (mc s) 25 _ HB2.out size_Mk (fun j u hu => by rw [Nat.zero_add]; exact hu) ?_)
  refine (stateOf_any s w2).mono ?_
  rintro e w3 ⟨rfl, hb⟩
  have HB3 := Lib.hid (HB2.out.below hb)
  have HW3 := Lib.hid (HW2.out.trans (hb.mono HW2.out.size))
  have HP3 := Lib.hid (HP2.out.below hb)
  clear hb HB2 HW2 HP2
  go_wp2_with fail
  refine (refPutM_any s w3 HWD.out).mono ?_
  rintro e w4 ⟨rfl, hb⟩
  have HB4 := Lib.hid (HB3.out.below hb)
  have HW4 := Lib.hid (HW3.out.trans (hb.mono HW3.out.size))
  have HP4 := Lib.hid (HP3.out.below hb)
  clear hb HB3 HW3 HP3
  have HRI := Lib.hid (RI.made w4 3)
  have HBa : Hid (Below w4.heap.size w4 (w4.alloc (.cells (Array.replicate 3 (.slice none 0 0)) 27))) := (Below.refl _ _).alloc (Nat.le_refl _) _
  have hmk := HMK.out
  go_wp2_with fail
  refine (new_any _ 3 3 (List.replicate 3 []) _ HRI.out (by omega)).mono ?_
  rintro en w5 ⟨h, m, p, rfl, ht, hb, _, hm⟩
  have HT5 : Hid (Tq w5 p m ⟨some ⟨h, 0, none⟩, 3, 3⟩ (fun z => w4.heap.size ≤ z) (TX.new (List.replicate 3 []))) := ht.mono fun k hk => Nat.le_trans HBa.out.size hk
  have hb5 := HBa.out.trans (hb.mono HBa.out.size)
  have HM5 : Hid (w4.heap.size ≤ m) := Nat.le_trans HBa.out.size hm
  have HC5 := Lib.hid (HB4.out.below hb5)
  have HB5 := Lib.hid hb5
  clear ht hb hm hb5 HBa HRI hmk HMK
  obtain ⟨XX, hXX⟩ : ∃ X : TX, (if Mk.okM s = true then (TX.new (List.replicate 3 [])).put 0 (Mk.put s) else TX.new (List.replicate 3 [])) = X := ⟨_, rfl⟩
  have HX0 : Hid ((Mk.okM s = true → XX.get 0 = Mk.put s) ∧ (¬ Mk.okM s = true → XX.get 0 = [] ∧ XX.chs 3 = [])) := by
    rw [← hXX]
    refine ⟨fun h => ?_, fun h => ?_⟩
    · rw [if_pos h, TX.get_put, if_pos rfl]
    · rw [if_neg h]
      exact ⟨rfl, rfl⟩
  have HXX := Lib.hid hXX
  clear hXX
  go_wp2_with (refine wpList_load_part rfl 25 (.tmp 1) rfl _ 0 rfl _ Try.underlying25 rfl (mc s) 25 _ HC5.out size_Mk (fun j u hu => by rw [Nat.zero_add]; exact hu) ?_)
  refine (saveM_any HT5.out (by show 0 < 3; omega) (fun k hk => Nat.le_trans HB5.out.size hk) s HWD.out).mono ?_
  rintro en w6 ⟨rfl, ht, hb⟩
  rw [HXX.out] at ht
  have hb6 := HB5.out.trans (hb w4.heap.size HB5.out.size HM5.out)
  have HT6 := Lib.hid ht
  have HB6 := Lib.hid (HB4.out.below hb6)
  have HP6 := Lib.hid (HP4.out.below hb6)
  have HW6 := Lib.hid (HW4.out.trans (hb6.mono HW4.out.size))
  have HS6 : Hid (∀ k, w6.heap.size ≤ k → w4.heap.size ≤ k) := fun k hk => Nat.le_trans hb6.size hk
  clear ht hb hb6 HB4 HP4 HW4 HT5 HB5 HM5 HC5 HXX
  have HLN : Hid ((XX.get 0).length ≤ 2000) := by
    by_cases h : Mk.okM s = true
    · rw [HX0.out.1 h]
      show _ ≤ _
      rw [Mk.put_length s h]
      split <;> omega
    · rw [(HX0.out.2 h).1]
      exact Nat.zero_le _
  go_wp2_with fail
  refine (loadM_any HT6.out (by show 0 < 3; omega) HLN.out).mono ?_
  rintro en w7 ⟨rfl, hb⟩
  have HU : Hid (Mk.err (XX.get 0) = 0 ∧ (Mk.okM s = true → Mk.got (XX.get 0) = s) ∧ (¬ Mk.okM s = true → Mk.got (XX.get 0) = Mk.zero)) := by
    by_cases h : Mk.okM s = true
    · rw [HX0.out.1 h]
      exact ⟨(Mk.got_put s HWD.out h).1, fun _ => (Mk.got_put s HWD.out h).2, fun h2 => absurd h h2⟩
    · rw [(HX0.out.2 h).1]
      exact ⟨Mk.err_nil, fun h2 => absurd h2 h, fun _ => Mk.got_nil⟩
  rw [HU.out.1]
  generalize Mk.got (XX.get 0) = u at *
  have HB7 := Lib.hid (HB6.out.below hb)
  have HP7 := Lib.hid (HP6.out.below hb)
  have HW7 := Lib.hid (HW6.out.trans (hb.mono HW6.out.size))
  have HT7 := Lib.hid (HT6.out.below hb)
  clear hb HB6 HP6 HW6 HT6 HS6 HLN
  go_upto_region 9 with (first
    | (refine wpList_alloc_any rfl 25 rfl _ zero_Mk ?_; intro w8 hb8 hs8 hw8)
    | (refine wpList_store_part rfl 25 (.tmp 10) (.tmp 36) rfl w7.heap.size 0 (mc u) rfl rfl 25 _ hb8 size_Mk (by simp [mc]) (mc_one _) ?_
       intro w9 hb9 hs9 hk9))
  have hbw : Below w7.heap.size w7 w9 := hw8.trans (hk9.below2 (fun k hk => by omega))
  have HU9 : Hid (Bw w9 w7.heap.size (mc u) 25) := hb9
  have HB9 := Lib.hid (HB7.out.below hbw)
  have HP9 := Lib.hid (HP7.out.below hbw)
  have HW9 := Lib.hid (HW7.out.trans (hbw.mono HW7.out.size))
  have HT9 := Lib.hid (HT7.out.below hbw)
  clear hb8 hs8 hw8 hb9 hs9 hk9 hbw HB7 HP7 HW7 HT7
  generalize w7.heap.size = g at *
  obtain ⟨er, her⟩ : ∃ z, Mk.chkM s = z := ⟨_, rfl⟩
  obtain ⟨px, hpx⟩ : ∃ z, Mk.put s = z := ⟨_, rfl⟩
  have HER := Lib.hid her
  have HPX := Lib.hid hpx
  rw [her]
  rw [hpx] at HP9
  rw [hpx]
  clear her hpx
  have HQ : Hid ((fun W : World => Bw W g (mc u) 25 ∧ Tq W p m ⟨some ⟨h, 0, none⟩, 3, 3⟩ (fun z => w4.heap.size ≤ z) XX ∧ BS W A3 n3 px ∧ Below w.heap.size w W) w9.drew) := ⟨HU9.out, HT9.out.drew, HP9.out, HW9.out.drew⟩
  have HSd : Hid ((fun W : World => Bw W w.heap.size (mc s) 25 ∧ (convert 27 9 (.slice A3 n3 c3)).run Try.prog W = .ok (.string (txt px)) W) w9.drew) := ⟨HB9.out, run_convert_bs _ _ _ _ _ HP9.out⟩
  clear HU9 HB9 HP9 HW9 HT9
  refine wp_region_held_drew (S := fun W : World => Bw W w.heap.size (mc s) 25 ∧ (convert 27 9 (.slice A3 n3 c3)).run Try.prog W = .ok (.string (txt px)) W) (by kernel_rfl) HSd.out (fun _ => ?_)
  change wpAnyH _ _ _ _ _ 26 (Array.replicate 26 false) _ _
  refine takeH (i := 0) 38 (.agg (mc s).toArray) rfl rfl (by kernel_rfl) (by kernel_rfl) (by kernel_rfl) (fun _ _ _ h => h) (.inl ⟨by rfl, fun W hW => by (exact run_load_part 25 (.tmp 1) rfl w.heap.size 0 rfl _ Try.underlying25 rfl (mc s) 25 _ hW.1 size_Mk (fun j u hu => by rw [Nat.zero_add]; exact hu))⟩) HSd.out ?_
  simp only [Act.put, List.setIfInBounds_toArray, List.set_cons_zero, List.set_cons_succ]
  refine takeH (i := 2) 40 (.agg (mc s).toArray) rfl rfl (by kernel_rfl) (by kernel_rfl) (by kernel_rfl) (fun _ _ _ h => h) (.inl ⟨by rfl, fun W hW => by (exact run_load_part 25 (.tmp 1) rfl w.heap.size 0 rfl _ Try.underlying25 rfl (mc s) 25 _ hW.1 size_Mk (fun j u hu => by rw [Nat.zero_add]; exact hu))⟩) HSd.out ?_
  simp only [Act.put, List.setIfInBounds_toArray, List.set_cons_zero, List.set_cons_succ]
  refine wpAnyH_ready (rs := [1]) (by kernel_rfl) (by simp) ?_
  refine AllReadyH.cons rfl (fun K hK => ?_) AllReadyH.nil
  go_simp
  refine (checkM_any s _).mono ?_
  rintro e y1 ⟨rfl, hb⟩
  have HQ1 : Hid ((fun W : World => Bw W g (mc u) 25 ∧ Tq W p m ⟨some ⟨h, 0, none⟩, 3, 3⟩ (fun z => w4.heap.size ≤ z) XX ∧ BS W A3 n3 px ∧ Below w.heap.size w W) y1) := ⟨HQ.out.1.below hb, HQ.out.2.1.below hb, HQ.out.2.2.1.below hb, HQ.out.2.2.2.trans (hb.mono HQ.out.2.2.2.size)⟩
  have HS1 : Hid ((fun W : World => Bw W w.heap.size (mc s) 25 ∧ (convert 27 9 (.slice A3 n3 c3)).run Try.prog W = .ok (.string (txt px)) W) y1) := ⟨HSd.out.1.below hb, run_convert_bs _ _ _ _ _ HQ1.out.2.2.1⟩
  refine hK.out _ _ HS1.out fun _ => ?_
  clear hK K hb HSd HQ
  rw [HER.out]
  refine wpAnyH_ready (rs := [3]) (by kernel_rfl) (by simp) ?_
  refine AllReadyH.cons rfl (fun K hK => ?_) AllReadyH.nil
  go_simp
  refine (stateOf_any s _).mono ?_
  rintro e y2 ⟨rfl, hb⟩
  have HQ2 : Hid ((fun W : World => Bw W g (mc u) 25 ∧ Tq W p m ⟨some ⟨h, 0, none⟩, 3, 3⟩ (fun z => w4.heap.size ≤ z) XX ∧ BS W A3 n3 px ∧ Below w.heap.size w W) y2) := ⟨HQ1.out.1.below hb, HQ1.out.2.1.below hb, HQ1.out.2.2.1.below hb, HQ1.out.2.2.2.trans (hb.mono HQ1.out.2.2.2.size)⟩
  have HS2 : Hid ((fun W : World => Bw W w.heap.size (mc s) 25 ∧ (convert 27 9 (.slice A3 n3 c3)).run Try.prog W = .ok (.string (txt px)) W) y2) := ⟨HS1.out.1.below hb, run_convert_bs _ _ _ _ _ HQ2.out.2.2.1⟩
  refine hK.out _ _ HS2.out fun _ => ?_
  clear hK K hb HS1 HQ1
  refine wpAnyH_ready (rs := [4]) (by kernel_rfl) (by simp) ?_
  refine AllReadyH.cons rfl (fun K hK => ?_) AllReadyH.nil
  go_simp
  refine (refCheckM_any s _).mono ?_
  rintro e y3 ⟨rfl, hb⟩
  have HQ3 : Hid ((fun W : World => Bw W g (mc u) 25 ∧ Tq W p m ⟨some ⟨h, 0, none⟩, 3, 3⟩ (fun z => w4.heap.size ≤ z) XX ∧ BS W A3 n3 px ∧ Below w.heap.size w W) y3) := ⟨HQ2.out.1.below hb, HQ2.out.2.1.below hb, HQ2.out.2.2.1.below hb, HQ2.out.2.2.2.trans (hb.mono HQ2.out.2.2.2.size)⟩
  have HS3 : Hid ((fun W : World => Bw W w.heap.size (mc s) 25 ∧ (convert 27 9 (.slice A3 n3 c3)).run Try.prog W = .ok (.string (txt px)) W) y3) := ⟨HS2.out.1.below hb, run_convert_bs _ _ _ _ _ HQ3.out.2.2.1⟩
  refine hK.out _ _ HS3.out fun _ => ?_
  clear hK K hb HS2 HQ2
  rw [HER.out]
  refine takeH (i := 5) 43 (.bool false) rfl rfl (by kernel_rfl) (by kernel_rfl) (by kernel_rfl) (fun _ _ _ h => h) (.inl ⟨by rfl, fun W hW => by go_simp⟩) HS3.out ?_
  simp only [Act.put, List.setIfInBounds_toArray, List.set_cons_zero, List.set_cons_succ]
  refine takeH (i := 6) 44 (.bool false) rfl rfl (by kernel_rfl) (by kernel_rfl) (by kernel_rfl) (fun _ _ _ h => h) (.inl ⟨by rfl, fun W hW => by go_simp⟩) HS3.out ?_
  simp only [Act.put, List.setIfInBounds_toArray, List.set_cons_zero, List.set_cons_succ]
  refine takeH (i := 7) 45 (.slice A3 n3 c3) rfl rfl (by kernel_rfl) (by kernel_rfl) (by kernel_rfl) (fun _ _ _ h => h) (.inl ⟨by rfl, fun W hW => by go_simp⟩) HS3.out ?_
  simp only [Act.put, List.setIfInBounds_toArray, List.set_cons_zero, List.set_cons_succ]
  refine takeH (i := 8) 46 (.string (txt px)) rfl rfl (by kernel_rfl) (by kernel_rfl) (by kernel_rfl) (fun _ _ _ h => h) (.inl ⟨by rfl, fun W hW => by (obtain ⟨_, hc⟩ := hW; go_simp)⟩) HS3.out ?_
  simp only [Act.put, List.setIfInBounds_toArray, List.set_cons_zero, List.set_cons_succ]
  refine takeH (i := 9) 47 (.string (txt px)) rfl rfl (by kernel_rfl) (by kernel_rfl) (by kernel_rfl) (fun _ _ _ h => h) (.inl ⟨by rfl, fun W hW => by go_simp⟩) HS3.out ?_
  simp only [Act.put, List.setIfInBounds_toArray, List.set_cons_zero, List.set_cons_succ]
  refine takeH (i := 10) 48 (.bool false) rfl rfl (by kernel_rfl) (by kernel_rfl) (by kernel_rfl) (fun _ _ _ h => h) (.inl ⟨by rfl, fun W hW => by go_simp⟩) HS3.out ?_
  simp only [Act.put, List.setIfInBounds_toArray, List.set_cons_zero, List.set_cons_succ]
  refine takeH (i := 11) 49 (.bool false) rfl rfl (by kernel_rfl) (by kernel_rfl) (by kernel_rfl) (fun _ _ _ h => h) (.inl ⟨by rfl, fun W hW => by go_simp⟩) HS3.out ?_
  simp only [Act.put, List.setIfInBounds_toArray, List.set_cons_zero, List.set_cons_succ]
  refine takeH (i := 12) 50 (.bool false) rfl rfl (by kernel_rfl) (by kernel_rfl) (by kernel_rfl) (fun _ _ _ h => h) (.inl ⟨by rfl, fun W hW => by go_simp⟩) HS3.out ?_
  simp only [Act.put, List.setIfInBounds_toArray, List.set_cons_zero, List.set_cons_succ]
  refine takeH (i := 13) 51 (.int .i64 er) rfl rfl (by kernel_rfl) (by kernel_rfl) (by kernel_rfl) (fun _ _ _ h => h) (.inl ⟨by rfl, fun W hW => by go_simp⟩) HS3.out ?_
  simp only [Act.put, List.setIfInBounds_toArray, List.set_cons_zero, List.set_cons_succ]
  refine takeH (i := 14) 52 (.int .i64 er) rfl rfl (by kernel_rfl) (by kernel_rfl) (by kernel_rfl) (fun _ _ _ h => h) (.inl ⟨by rfl, fun W hW => by go_simp⟩) HS3.out ?_
  simp only [Act.put, List.setIfInBounds_toArray, List.set_cons_zero, List.set_cons_succ]
  refine takeH (i := 15) 53 (.bool false) rfl rfl (by kernel_rfl) (by kernel_rfl) (by kernel_rfl) (fun _ _ _ h => h) (.inl ⟨by rfl, fun W hW => by go_simp⟩) HS3.out ?_
  simp only [Act.put, List.setIfInBounds_toArray, List.set_cons_zero, List.set_cons_succ]
  refine takeH (i := 16) 54 (.bool false) rfl rfl (by kernel_rfl) (by kernel_rfl) (by kernel_rfl) (fun _ _ _ h => h) (.inl ⟨by rfl, fun W hW => by go_simp⟩) HS3.out ?_
  simp only [Act.put, List.setIfInBounds_toArray, List.set_cons_zero, List.set_cons_succ]
  refine takeH (i := 17) 55 (.bool false) rfl rfl (by kernel_rfl) (by kernel_rfl) (by kernel_rfl) (fun _ _ _ h => h) (.inl ⟨by rfl, fun W hW => by go_simp⟩) HS3.out ?_
  simp only [Act.put, List.setIfInBounds_toArray, List.set_cons_zero, List.set_cons_succ]
  refine takeH (i := 18) 56 (.int .i64 er) rfl rfl (by kernel_rfl) (by kernel_rfl) (by kernel_rfl) (fun _ _ _ h => h) (.inl ⟨by rfl, fun W hW => by go_simp⟩) HS3.out ?_
  simp only [Act.put, List.setIfInBounds_toArray, List.set_cons_zero, List.set_cons_succ]
  refine takeH (i := 19) 57 (.int .i64 er) rfl rfl (by kernel_rfl) (by kernel_rfl) (by kernel_rfl) (fun _ _ _ h => h) (.inl ⟨by rfl, fun W hW => by go_simp⟩) HS3.out ?_
  simp only [Act.put, List.setIfInBounds_toArray, List.set_cons_zero, List.set_cons_succ]
  refine takeH (i := 20) 58 (.bool false) rfl rfl (by kernel_rfl) (by kernel_rfl) (by kernel_rfl) (fun _ _ _ h => h) (.inl ⟨by rfl, fun W hW => by go_simp⟩) HS3.out ?_
  simp only [Act.put, List.setIfInBounds_toArray, List.set_cons_zero, List.set_cons_succ]
  refine takeH (i := 21) 59 (.bool false) rfl rfl (by kernel_rfl) (by kernel_rfl) (by kernel_rfl) (fun _ _ _ h => h) (.inl ⟨by rfl, fun W hW => by go_simp⟩) HS3.out ?_
  simp only [Act.put, List.setIfInBounds_toArray, List.set_cons_zero, List.set_cons_succ]
  refine takeH (i := 22) 60 (.bool false) rfl rfl (by kernel_rfl) (by kernel_rfl) (by kernel_rfl) (fun _ _ _ h => h) (.inl ⟨by rfl, fun W hW => by go_simp⟩) HS3.out ?_
  simp only [Act.put, List.setIfInBounds_toArray, List.set_cons_zero, List.set_cons_succ]
  refine takeH (i := 23) 61 (.int .i64 0) rfl rfl (by kernel_rfl) (by kernel_rfl) (by kernel_rfl) (fun _ _ _ h => h) (.inl ⟨by rfl, fun W hW => by go_simp⟩) HS3.out ?_
  simp only [Act.put, List.setIfInBounds_toArray, List.set_cons_zero, List.set_cons_succ]
  refine takeH (i := 24) 62 (.bool false) rfl rfl (by kernel_rfl) (by kernel_rfl) (by kernel_rfl) (fun _ _ _ h => h) (.inl ⟨by rfl, fun W hW => by go_simp⟩) HS3.out ?_
  simp only [Act.put, List.setIfInBounds_toArray, List.set_cons_zero, List.set_cons_succ]
  refine takeH (i := 25) 63 (.bool false) rfl rfl (by kernel_rfl) (by kernel_rfl) (by kernel_rfl) (fun _ _ _ h => h) (.inl ⟨by rfl, fun W hW => by go_simp⟩) HS3.out ?_
  simp only [Act.put, List.setIfInBounds_toArray, List.set_cons_zero, List.set_cons_succ]
  refine wpAnyH_done (by kernel_rfl) ?_ _
  go_upto_region 11 with fail
  have HU2 := Lib.hid HQ3.out.1
  have HB2 := Lib.hid HS3.out.1
  have HT2 := Lib.hid HQ3.out.2.1
  have HP2 := Lib.hid HQ3.out.2.2.1
  have HW2 := Lib.hid HQ3.out.2.2.2
  clear HQ3 HS3
  by_cases hok : Mk.okM s = true
  rotate_left
  · obtain rfl : er = 1 := by rw [← HER.out]; exact if_neg hok
    obtain rfl : u = Mk.zero := HU.out.2.2 hok
    have HCH : Hid (XX.chs 3 = []) := (HX0.out.2 hok).2
    clear hok HU HX0 HER HPX
    have heq : ∀ W : World, (binOp .eql 25 (.agg (mc Mk.zero).toArray) (.agg #[.bool false, .int .u32 0, .int .u32 0, .int .u64 0, .int .u64 0, .int .u64 0, .int .u64 0, .int .u32 0, .int .u32 0])).run Try.prog W = .ok (.bool true) W := fun W => by
      have := mEq Mk.zero Mk.zero W
      rw [decide_eq_true rfl] at this
      exact this
    go_wp2_with (first
      | (refine wpList_load_part rfl 25 (.tmp 10) rfl _ 0 rfl _ Try.underlying25 rfl (mc Mk.zero) 25 _ HU2.out size_Mk (fun j u hu => by rw [Nat.zero_add]; exact hu) ?_)
      | (refine Did.list rfl (did_build 25 #[] rfl (mc Mk.zero).toArray (by exact built_Mkz)) ?_))
    refine (changes_any HT2.out (by show 3 ≤ _; omega)).mono ?_
    intro e w8 hc
    have hc' : ChgQ y3 [] e w8 := by rw [← HCH.out]; exact hc
    obtain ⟨A4, c4, sl, rfl, _, hb, _⟩ := hc'
    have HW8 := Lib.hid (HW2.out.trans (hb.mono HW2.out.size))
    clear hc hb heq
    rw [List.length_nil]
    go_wp2_with fail
    go_ret
    exact ⟨rfl, HW8.out⟩
  obtain rfl : er = 0 := by rw [← HER.out]; exact if_pos hok
  obtain rfl : u = s := HU.out.2.1 hok
  have HGP := Lib.hid (Mk.got_put u HWD.out hok)
  rw [HPX.out] at HGP
  have HPL : Hid (px.length ≤ 96) := by
    show _ ≤ _
    rw [← HPX.out, Mk.put_length u hok]
    split <;> omega
  clear hok HU HX0 HER HPX
  go_wp2_with fail
  refine (getM_any px A3 n3 c3 y3 HP2.out (by have := HP2.out.1; have := HPL.out; omega)).mono ?_
  rintro e w8 ⟨rfl, hb⟩
  rw [HGP.out.1, HGP.out.2]
  have HU8 := Lib.hid (HU2.out.below hb)
  have HB8 := Lib.hid (HB2.out.below hb)
  have HW8 := Lib.hid (HW2.out.trans (hb.mono HW2.out.size))
  clear hb HU2 HB2 HT2 HP2 HW2 HGP HPL
  go_upto_region 14 with (first
    | (refine wpList_alloc_any rfl 25 rfl _ zero_Mk ?_; intro wa hba hsa hwa)
    | (refine wpList_store_part rfl 25 (.tmp 12) (.tmp 78) rfl w8.heap.size 0 (mc u) rfl rfl 25 _ hba size_Mk (by simp [mc]) (mc_one _) ?_
       intro wb hbb hsb hkb))
  have hbw : Below w8.heap.size w8 wb := hwa.trans (hkb.below2 (fun k hk => by omega))
  have HV9 : Hid (Bw wb w8.heap.size (mc u) 25) := hbb
  have HU9 := Lib.hid (HU8.out.below hbw)
  have HB9 := Lib.hid (HB8.out.below hbw)
  have HW9 := Lib.hid (HW8.out.trans (hbw.mono HW8.out.size))
  clear hba hsa hwa hbb hsb hkb hbw HU8 HB8 HW8
  generalize w8.heap.size = q at *
  have heq : ∀ W : World, (binOp .eql 25 (.agg #[.bool u.ow, .int .u32 (u.ph : Int), .int .u32 (u.pr : Int), .int .u64 (u.ep : Int), .int .u64 (u.sq : Int), .int .u64 (u.fr : Int), .int .u64 (u.gl : Int), .int .u32 (u.nx : Int), .int .u32 (u.rn : Int)]) (.agg #[.bool u.ow, .int .u32 (u.ph : Int), .int .u32 (u.pr : Int), .int .u64 (u.ep : Int), .int .u64 (u.sq : Int), .int .u64 (u.fr : Int), .int .u64 (u.gl : Int), .int .u32 (u.nx : Int), .int .u32 (u.rn : Int)])).run Try.prog W = .ok (.bool true) W := fun W => by
    have := mEq u u W
    rw [decide_eq_true rfl] at this
    exact this
  have e0 := HV9.out.cell 0 _ rfl
  have e1 := HV9.out.cell 1 _ rfl
  have e2 := HV9.out.cell 2 _ rfl
  have e3 := HV9.out.cell 3 _ rfl
  have e4 := HV9.out.cell 4 _ rfl
  have e5 := HV9.out.cell 5 _ rfl
  have e6 := HV9.out.cell 6 _ rfl
  have e7 := HV9.out.cell 7 _ rfl
  have e8 := HV9.out.cell 8 _ rfl
  have d0 := HU9.out.cell 0 _ rfl
  have d1 := HU9.out.cell 1 _ rfl
  have d2 := HU9.out.cell 2 _ rfl
  have d3 := HU9.out.cell 3 _ rfl
  have d4 := HU9.out.cell 4 _ rfl
  have d5 := HU9.out.cell 5 _ rfl
  have d6 := HU9.out.cell 6 _ rfl
  have d7 := HU9.out.cell 7 _ rfl
  have d8 := HU9.out.cell 8 _ rfl
  have f0 := HB9.out.cell 0 _ rfl
  have f1 := HB9.out.cell 1 _ rfl
  have f2 := HB9.out.cell 2 _ rfl
  have f3 := HB9.out.cell 3 _ rfl
  have f4 := HB9.out.cell 4 _ rfl
  have f5 := HB9.out.cell 5 _ rfl
  have f6 := HB9.out.cell 6 _ rfl
  have f7 := HB9.out.cell 7 _ rfl
  have f8 := HB9.out.cell 8 _ rfl
  go_wp2_with fail
  go_ret
  exact ⟨rfl, HW9.out⟩
end Go.Proofs.Ytjionpkflpnejaa
