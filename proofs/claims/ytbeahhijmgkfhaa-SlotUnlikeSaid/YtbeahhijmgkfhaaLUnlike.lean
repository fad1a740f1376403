/-
  The walk of the statement on two of them (layer 11).
-/
import Derived.Test.YtbeahhijmgkfhaaLOf
import Derived.Test.YtbeahhijmgkfhaaLIn
import Derived.Test.YtbeahhijmgkfhaaLPk
namespace Go.Proofs.Ytbeahhijmgkfhaa
open Go.RowKit Go.Shelf

/-- Both lie in blocks of their own. -/
structure G2 (w : World) (p q : Nat) (cs ds : List Value) (W : World) : Prop where
  one : Bw W p cs 26
  two : Bw W q ds 26
  bel : Below w.heap.size w W
theorem G2.below {w W W' : World} {p q : Nat} {cs ds : List Value} (h : G2 w p q cs ds W) (hb : Below W.heap.size W W') : G2 w p q cs ds W' := ⟨h.one.below hb, h.two.below hb, h.bel.trans (hb.mono h.bel.size)⟩
theorem G2.drew {w W : World} {p q : Nat} {cs ds : List Value} (h : G2 w p q cs ds W) : G2 w p q cs ds W.drew := ⟨h.one, h.two, h.bel.drew⟩

set_option maxRecDepth 100000 in
set_option maxHeartbeats 4000000 in
theorem unlike_walk (w : World) (hp : Pk) (v1 v2 : Value) (c : Vl.Th) (A : Option Addr) (n cp : Nat) (d : Vl.Th) (B : Option Addr) (m cq : Nat) (same : Bool) (h1 : SI w v1 c A n cp) (h2 : SI w v2 d B m cq) :
    Calls Try.prog 8 #[v1, v2, .bool same] w fun e w' => e = .returned (.bool true) ∧ Below w.heap.size w w' := by
  obtain ⟨rfl, hx, hw, hfew⟩ := h1
  obtain ⟨rfl, hy, hv, hfew2⟩ := h2
  have HPK := Lib.hid hp
  have HX := Lib.hid hx
  have HY := Lib.hid hy
  have HWX := Lib.hid hw
  have HWY := Lib.hid hv
  clear hp hx hy hw hv hfew hfew2
  have hb0 : Below w.heap.size w ((w.alloc (.cells (sc c (.slice A n cp)).toArray 26)).alloc (.cells (sc d (.slice B m cq)).toArray 26)) := ((Below.refl _ _).alloc (Nat.le_refl _) _).alloc (by simp) _
  have HG0 : Hid (G2 w w.heap.size (w.heap.size + 1) (sc c (.slice A n cp)) (sc d (.slice B m cq)) ((w.alloc (.cells (sc c (.slice A n cp)).toArray 26)).alloc (.cells (sc d (.slice B m cq)).toArray 26))) := by
    refine ⟨(Below.heap_alloc _ _ _ (by simp)).trans (heap_alloc_new w _), ?_, hb0⟩
    have := heap_alloc_new (w.alloc (.cells (sc c (.slice A n cp)).toArray 26)) (.cells (sc d (.slice B m cq)).toArray 26)
    unfold Bw
    simpa using this
  clear hb0
  go_enter Try.func8, Try.ntmps8
  go_wp2_with fail
  refine (HPK.out.awake _).mono ?_
  rintro e w1 ⟨rfl, hb1⟩
  have HG1 := Lib.hid (HG0.out.below hb1)
  clear hb1 HG0
  have HP0 : Hid (w.heap.size + 1 ≠ w.heap.size) := by show _ ≠ _; omega
  have HL0 : Hid (w.heap.size ≤ w.heap.size + 1) := Nat.le_succ _
  generalize hq : w.heap.size + 1 = q at *
  clear hq
  have HPE : Hid (w.heap.size ≤ w.heap.size) := Nat.le_refl _
  generalize hbb : w.heap.size = p at HG1 HP0 HL0 ⊢
  have HPP : Hid (w.heap.size = p) := hbb
  clear hbb HPE
  have e8 := HG1.out.one.cell 8 _ rfl
  have f8 := HG1.out.two.cell 8 _ rfl
  by_cases g1 : n > 900
  · have hd : decide ((900 : Int) < (n : Int)) = true := by simp; omega
    go_wp2_with fail
    go_ret
    exact ⟨rfl, HG1.out.bel⟩
  have hd : decide ((900 : Int) < (n : Int)) = false := by simp; omega
  by_cases g2 : m > 900
  · have he : decide ((900 : Int) < (m : Int)) = true := by simp; omega
    go_wp2_with fail
    go_ret
    exact ⟨rfl, HG1.out.bel⟩
  have he : decide ((900 : Int) < (m : Int)) = false := by simp; omega
  have HNF : Hid (n ≤ 1000) := by show _ ≤ _; omega
  have HMF : Hid (m ≤ 1000) := by show _ ≤ _; omega
  go_upto_if 25 with fail
  clear hd he e8 f8 g1 g2
  go_cut [] (fun W => ∃ (D : Vl.Th) (B' : Option Addr) (m' cr : Nat), Hid (Fits D ∧ BS w B' m' D.dt ∧ m' ≤ 1000 ∧ G2 w p q (sc c (.slice A n cp)) (sc D (.slice B' m' cr)) W))
  case first =>
    cases same
    · go_wp2_with fail
      go_meet
      case rel => exact ⟨d, B, m, cq, HWY.out, HY.out, HMF.out, HG1.out⟩
    · go_wp2_with (first
        | (refine wpList_load_part rfl 26 (.tmp 3) rfl _ 0 rfl _ Try.underlying26 rfl (sc c (.slice A n cp)) 26 _ HG1.out.one size_Sl (fun j u hu => by rw [Nat.zero_add]; exact hu) ?_)
        | (refine wpList_store_part rfl 26 (.tmp 4) (.tmp 26) rfl q 0 (sc c (.slice A n cp)) rfl rfl 26 _ HG1.out.two size_Sl (by simp [sc]) (sc_row _ _ _ _) ?_
           intro w2 hb2 _ hk2
           have HH2 : Hid (G2 w p q (sc c (.slice A n cp)) (sc c (.slice A n cp)) w2) :=
             ⟨HG1.out.one.keep hk2 (fun e => HP0.out e.symm), hb2, HG1.out.bel.trans (hk2.below2 (fun k hk => by have := HL0.out; have := HPP.out; omega))⟩
           clear hb2 hk2))
      go_meet
      case rel => exact ⟨c, A, n, cp, HWX.out, HX.out, HNF.out, HH2.out⟩
  obtain ⟨D, B', m', cr, H2⟩ := hcut
  have HWD : Hid (Fits D) := H2.out.1
  have HD : Hid (BS w B' m' D.dt) := H2.out.2.1
  have HDF : Hid (m' ≤ 1000) := H2.out.2.2.1
  have HG2 : Hid (G2 w p q (sc c (.slice A n cp)) (sc D (.slice B' m' cr)) wc) := H2.out.2.2.2
  clear H2 HG1 HY HWY HMF
  go_wp2_with (refine wpList_load_part rfl 26 (.tmp 3) rfl _ 0 rfl _ Try.underlying26 rfl (sc c (.slice A n cp)) 26 _ HG2.out.one size_Sl (fun j u hu => by rw [Nat.zero_add]; exact hu) ?_)
  refine (HPK.out.put c A n cp _ HWX.out (HX.out.below HG2.out.bel) HNF.out).mono ?_
  rintro e w3 ⟨A3, n3, cp3, rfl, ho3⟩
  have HG3 := Lib.hid (HG2.out.below ho3.2)
  have HB3 := Lib.hid ho3.bs
  clear ho3 HG2
  go_wp2_with (refine wpList_load_part rfl 26 (.tmp 4) rfl _ 0 rfl _ Try.underlying26 rfl (sc D (.slice B' m' cr)) 26 _ HG3.out.two size_Sl (fun j u hu => by rw [Nat.zero_add]; exact hu) ?_)
  refine (HPK.out.put D B' m' cr _ HWD.out (HD.out.below HG3.out.bel) HDF.out).mono ?_
  rintro e w4 ⟨A4, n4, cp4, rfl, ho4⟩
  have HG4 := Lib.hid (HG3.out.below ho4.2)
  have HB3' := Lib.hid (HB3.out.below ho4.2)
  have HB4 := Lib.hid ho4.bs
  clear ho4 HG3 HB3
  by_cases hox : Sl.okS c = true
  rotate_left
  · have hz : Sl.chkS c = 1 := if_neg hox
    rw [hz]
    clear hz hox
    go_wp2_with fail
    go_ret
    exact ⟨rfl, HG4.out.bel⟩
  have hzx : Sl.chkS c = 0 := if_pos hox
  rw [hzx]
  clear hzx
  by_cases hoy : Sl.okS D = true
  rotate_left
  · have hz : Sl.chkS D = 1 := if_neg hoy
    rw [hz]
    clear hz hoy hox
    go_wp2_with fail
    go_ret
    exact ⟨rfl, HG4.out.bel⟩
  have hzy : Sl.chkS D = 0 := if_pos hoy
  rw [hzy]
  clear hzy
  have HI := Lib.hid (Sl.enc_inj _ _ HWX.out.wide HWD.out.wide hox hoy)
  rw [show Sl.put c = Sl.enc c from if_pos hox] at HB3'
  rw [show Sl.put D = Sl.enc D from if_pos hoy] at HB4
  clear hox hoy
  obtain ⟨z, hz⟩ : ∃ z, decide (c = D) = z := ⟨_, rfl⟩
  have HZ := Lib.hid hz
  have HZ' : Hid (decide (D = c) = z) := by
    show _ = _
    rw [← hz]
    exact decide_eq_decide.2 ⟨Eq.symm, Eq.symm⟩
  have HJ : Hid (c = D → Sl.enc c = Sl.enc D) := fun e => by rw [e]
  obtain ⟨px, hpx⟩ : ∃ px, Sl.enc c = px := ⟨_, rfl⟩
  obtain ⟨py, hpy⟩ : ∃ py, Sl.enc D = py := ⟨_, rfl⟩
  rw [hpx] at HB3' HI HJ
  rw [hpy] at HB4 HI HJ
  clear hpx hpy
  have HEQ : Hid (((txt px).toList == (txt py).toList) = z) := by
    show _ = _
    rw [txt_toList, txt_toList, ← hz]
    by_cases h : px = py
    · rw [decide_eq_true (HI.out h), h]
      exact beq_self_eq_true _
    · rw [decide_eq_false (fun e => h (HJ.out e))]
      exact beq_false_of_ne h
  clear hz
  go_upto_region 12 with fail
  have hzz := HEQ.out
  have HS : Hid ((fun W : World => Bw W p (sc c (.slice A n cp)) 26 ∧ Bw W q (sc D (.slice B' m' cr)) 26 ∧ (convert 24 9 (.slice A3 n3 cp3)).run Try.prog W = .ok (.string (txt px)) W ∧ (convert 24 9 (.slice A4 n4 cp4)).run Try.prog W = .ok (.string (txt py)) W) w4.drew) := ⟨HG4.out.drew.one, HG4.out.drew.two, run_convert_bs _ _ _ _ _ HB3'.out, run_convert_bs _ _ _ _ _ HB4.out⟩
  refine wp_region_held_drew (S := fun W : World => Bw W p (sc c (.slice A n cp)) 26 ∧ Bw W q (sc D (.slice B' m' cr)) 26 ∧ (convert 24 9 (.slice A3 n3 cp3)).run Try.prog W = .ok (.string (txt px)) W ∧ (convert 24 9 (.slice A4 n4 cp4)).run Try.prog W = .ok (.string (txt py)) W) (by kernel_rfl) HS.out (fun _ => ?_)
  change wpAnyH _ _ _ _ _ 19 (Array.replicate 19 false) _ _
  refine takeH (i := 0) 43 (.slice A3 n3 cp3) rfl rfl (by kernel_rfl) (by kernel_rfl) (by kernel_rfl) (fun _ _ _ h => h) (.inl ⟨by rfl, fun W hW => by go_simp⟩) HS.out ?_
  simp only [Act.put, List.setIfInBounds_toArray, List.set_cons_zero, List.set_cons_succ]
  refine takeH (i := 1) 44 (.string (txt px)) rfl rfl (by kernel_rfl) (by kernel_rfl) (by kernel_rfl) (fun _ _ _ h => h) (.inl ⟨by rfl, fun W hW => by (obtain ⟨_, _, hc, hd⟩ := hW; go_simp)⟩) HS.out ?_
  simp only [Act.put, List.setIfInBounds_toArray, List.set_cons_zero, List.set_cons_succ]
  refine takeH (i := 2) 45 (.slice A4 n4 cp4) rfl rfl (by kernel_rfl) (by kernel_rfl) (by kernel_rfl) (fun _ _ _ h => h) (.inl ⟨by rfl, fun W hW => by go_simp⟩) HS.out ?_
  simp only [Act.put, List.setIfInBounds_toArray, List.set_cons_zero, List.set_cons_succ]
  refine takeH (i := 3) 46 (.string (txt py)) rfl rfl (by kernel_rfl) (by kernel_rfl) (by kernel_rfl) (fun _ _ _ h => h) (.inl ⟨by rfl, fun W hW => by (obtain ⟨_, _, hc, hd⟩ := hW; go_simp)⟩) HS.out ?_
  simp only [Act.put, List.setIfInBounds_toArray, List.set_cons_zero, List.set_cons_succ]
  refine takeH (i := 4) 47 (.bool z) rfl rfl (by kernel_rfl) (by kernel_rfl) (by kernel_rfl) (fun _ _ _ h => h) (.inl ⟨by rfl, fun W hW => by go_simp⟩) HS.out ?_
  simp only [Act.put, List.setIfInBounds_toArray, List.set_cons_zero, List.set_cons_succ]
  refine takeH (i := 5) 48 (.agg (sc c (.slice A n cp)).toArray) rfl rfl (by kernel_rfl) (by kernel_rfl) (by kernel_rfl) (fun _ _ _ h => h) (.inl ⟨by rfl, fun W hW => by (exact run_load_part 26 (.tmp 3) rfl p 0 rfl _ Try.underlying26 rfl (sc c (.slice A n cp)) 26 _ hW.1 size_Sl (fun j u hu => by rw [Nat.zero_add]; exact hu))⟩) HS.out ?_
  simp only [Act.put, List.setIfInBounds_toArray, List.set_cons_zero, List.set_cons_succ]
  refine takeH (i := 6) 49 (.agg (sc D (.slice B' m' cr)).toArray) rfl rfl (by kernel_rfl) (by kernel_rfl) (by kernel_rfl) (fun _ _ _ h => h) (.inl ⟨by rfl, fun W hW => by (exact run_load_part 26 (.tmp 4) rfl q 0 rfl _ Try.underlying26 rfl (sc D (.slice B' m' cr)) 26 _ hW.2.1 size_Sl (fun j u hu => by rw [Nat.zero_add]; exact hu))⟩) HS.out ?_
  simp only [Act.put, List.setIfInBounds_toArray, List.set_cons_zero, List.set_cons_succ]
  have HGd : Hid (G2 w p q (sc c (.slice A n cp)) (sc D (.slice B' m' cr)) w4.drew) := HG4.out.drew
  have H3d : Hid (BS w4.drew A3 n3 px) := HB3'.out
  have H4d : Hid (BS w4.drew A4 n4 py) := HB4.out
  refine wpAnyH_ready (rs := [7]) (by kernel_rfl) (by simp) ?_
  refine AllReadyH.cons rfl (fun K hK => ?_) AllReadyH.nil
  go_simp
  refine (HPK.out.same c D A n cp B' m' cr _ (HX.out.below HGd.out.bel) (HD.out.below HGd.out.bel) HNF.out HDF.out).mono ?_
  rintro e y1 ⟨rfl, hb⟩
  have HGy1 := Lib.hid (HGd.out.below hb)
  have H3y1 := Lib.hid (H3d.out.below hb)
  have H4y1 := Lib.hid (H4d.out.below hb)
  have HSy1 : Hid ((fun W : World => Bw W p (sc c (.slice A n cp)) 26 ∧ Bw W q (sc D (.slice B' m' cr)) 26 ∧ (convert 24 9 (.slice A3 n3 cp3)).run Try.prog W = .ok (.string (txt px)) W ∧ (convert 24 9 (.slice A4 n4 cp4)).run Try.prog W = .ok (.string (txt py)) W) y1) := ⟨HGy1.out.one, HGy1.out.two, run_convert_bs _ _ _ _ _ H3y1.out, run_convert_bs _ _ _ _ _ H4y1.out⟩
  refine hK.out _ _ HSy1.out fun _ => ?_
  clear hK K hb
  rw [HZ.out]
  refine takeH (i := 8) 51 (.bool true) rfl rfl (by kernel_rfl) (by kernel_rfl) (by kernel_rfl) (fun _ _ _ h => h) (.inl ⟨by rfl, fun W hW => by go_simp⟩) HSy1.out ?_
  simp only [Act.put, List.setIfInBounds_toArray, List.set_cons_zero, List.set_cons_succ]
  refine takeH (i := 9) 52 (.bool true) rfl rfl (by kernel_rfl) (by kernel_rfl) (by kernel_rfl) (fun _ _ _ h => h) (.inl ⟨by rfl, fun W hW => by go_simp⟩) HSy1.out ?_
  simp only [Act.put, List.setIfInBounds_toArray, List.set_cons_zero, List.set_cons_succ]
  refine takeH (i := 10) 53 (.agg (sc c (.slice A n cp)).toArray) rfl rfl (by kernel_rfl) (by kernel_rfl) (by kernel_rfl) (fun _ _ _ h => h) (.inl ⟨by rfl, fun W hW => by (exact run_load_part 26 (.tmp 3) rfl p 0 rfl _ Try.underlying26 rfl (sc c (.slice A n cp)) 26 _ hW.1 size_Sl (fun j u hu => by rw [Nat.zero_add]; exact hu))⟩) HSy1.out ?_
  simp only [Act.put, List.setIfInBounds_toArray, List.set_cons_zero, List.set_cons_succ]
  refine takeH (i := 11) 54 (.agg (sc D (.slice B' m' cr)).toArray) rfl rfl (by kernel_rfl) (by kernel_rfl) (by kernel_rfl) (fun _ _ _ h => h) (.inl ⟨by rfl, fun W hW => by (exact run_load_part 26 (.tmp 4) rfl q 0 rfl _ Try.underlying26 rfl (sc D (.slice B' m' cr)) 26 _ hW.2.1 size_Sl (fun j u hu => by rw [Nat.zero_add]; exact hu))⟩) HSy1.out ?_
  simp only [Act.put, List.setIfInBounds_toArray, List.set_cons_zero, List.set_cons_succ]
  refine takeH (i := 13) 56 (.agg (sc D (.slice B' m' cr)).toArray) rfl rfl (by kernel_rfl) (by kernel_rfl) (by kernel_rfl) (fun _ _ _ h => h) (.inl ⟨by rfl, fun W hW => by (exact run_load_part 26 (.tmp 4) rfl q 0 rfl _ Try.underlying26 rfl (sc D (.slice B' m' cr)) 26 _ hW.2.1 size_Sl (fun j u hu => by rw [Nat.zero_add]; exact hu))⟩) HSy1.out ?_
  simp only [Act.put, List.setIfInBounds_toArray, List.set_cons_zero, List.set_cons_succ]
  refine takeH (i := 14) 57 (.agg (sc c (.slice A n cp)).toArray) rfl rfl (by kernel_rfl) (by kernel_rfl) (by kernel_rfl) (fun _ _ _ h => h) (.inl ⟨by rfl, fun W hW => by (exact run_load_part 26 (.tmp 3) rfl p 0 rfl _ Try.underlying26 rfl (sc c (.slice A n cp)) 26 _ hW.1 size_Sl (fun j u hu => by rw [Nat.zero_add]; exact hu))⟩) HSy1.out ?_
  simp only [Act.put, List.setIfInBounds_toArray, List.set_cons_zero, List.set_cons_succ]
  refine wpAnyH_ready (rs := [12]) (by kernel_rfl) (by simp) ?_
  refine AllReadyH.cons rfl (fun K hK => ?_) AllReadyH.nil
  go_simp
  refine (HPK.out.same c D A n cp B' m' cr _ (HX.out.below HGy1.out.bel) (HD.out.below HGy1.out.bel) HNF.out HDF.out).mono ?_
  rintro e y2 ⟨rfl, hb⟩
  have HGy2 := Lib.hid (HGy1.out.below hb)
  have H3y2 := Lib.hid (H3y1.out.below hb)
  have H4y2 := Lib.hid (H4y1.out.below hb)
  have HSy2 : Hid ((fun W : World => Bw W p (sc c (.slice A n cp)) 26 ∧ Bw W q (sc D (.slice B' m' cr)) 26 ∧ (convert 24 9 (.slice A3 n3 cp3)).run Try.prog W = .ok (.string (txt px)) W ∧ (convert 24 9 (.slice A4 n4 cp4)).run Try.prog W = .ok (.string (txt py)) W) y2) := ⟨HGy2.out.one, HGy2.out.two, run_convert_bs _ _ _ _ _ H3y2.out, run_convert_bs _ _ _ _ _ H4y2.out⟩
  refine hK.out _ _ HSy2.out fun _ => ?_
  clear hK K hb
  rw [HZ.out]
  refine wpAnyH_ready (rs := [15]) (by kernel_rfl) (by simp) ?_
  refine AllReadyH.cons rfl (fun K hK => ?_) AllReadyH.nil
  go_simp
  refine (HPK.out.same D c B' m' cr A n cp _ (HD.out.below HGy2.out.bel) (HX.out.below HGy2.out.bel) HDF.out HNF.out).mono ?_
  rintro e y3 ⟨rfl, hb⟩
  have HGy3 := Lib.hid (HGy2.out.below hb)
  have H3y3 := Lib.hid (H3y2.out.below hb)
  have H4y3 := Lib.hid (H4y2.out.below hb)
  have HSy3 : Hid ((fun W : World => Bw W p (sc c (.slice A n cp)) 26 ∧ Bw W q (sc D (.slice B' m' cr)) 26 ∧ (convert 24 9 (.slice A3 n3 cp3)).run Try.prog W = .ok (.string (txt px)) W ∧ (convert 24 9 (.slice A4 n4 cp4)).run Try.prog W = .ok (.string (txt py)) W) y3) := ⟨HGy3.out.one, HGy3.out.two, run_convert_bs _ _ _ _ _ H3y3.out, run_convert_bs _ _ _ _ _ H4y3.out⟩
  refine hK.out _ _ HSy3.out fun _ => ?_
  clear hK K hb
  rw [HZ'.out]
  refine takeH (i := 16) 59 (.bool true) rfl rfl (by kernel_rfl) (by kernel_rfl) (by kernel_rfl) (fun _ _ _ h => h) (.inl ⟨by rfl, fun W hW => by go_simp⟩) HSy3.out ?_
  simp only [Act.put, List.setIfInBounds_toArray, List.set_cons_zero, List.set_cons_succ]
  refine takeH (i := 17) 60 (.bool true) rfl rfl (by kernel_rfl) (by kernel_rfl) (by kernel_rfl) (fun _ _ _ h => h) (.inl ⟨by rfl, fun W hW => by go_simp⟩) HSy3.out ?_
  simp only [Act.put, List.setIfInBounds_toArray, List.set_cons_zero, List.set_cons_succ]
  refine takeH (i := 18) 6 (.bool true) rfl rfl (by kernel_rfl) (by kernel_rfl) (by kernel_rfl) (fun _ _ _ h => h) (.inl ⟨by rfl, fun W hW => by go_simp⟩) HSy3.out ?_
  simp only [Act.put, List.setIfInBounds_toArray, List.set_cons_zero, List.set_cons_succ]
  refine wpAnyH_done (by kernel_rfl) ?_ _
  go_wp2_with fail
  go_ret
  exact ⟨rfl, HGy3.out.bel⟩
end Go.Proofs.Ytbeahhijmgkfhaa
