/-
  The walk of the statement on two calls (layer 9).
-/
import Derived.Test.YtobhmjokoicpoaaDoorKEq
import Derived.Test.YtobhmjokoicpoaaDoorKIn
namespace Go.Proofs.YtobhmjokoicpoaaDoor
open Go.RowKit Go.Shelf

/-- Both calls lie in blocks of their own. -/
structure G2 (w : World) (p q : Nat) (cs ds : List Value) (W : World) : Prop where
  one : Bw W p cs 28
  two : Bw W q ds 28
  bel : Below w.heap.size w W
theorem G2.below {w W W' : World} {p q : Nat} {cs ds : List Value} (h : G2 w p q cs ds W) (hb : Below W.heap.size W W') : G2 w p q cs ds W' := ⟨h.one.below hb, h.two.below hb, h.bel.trans (hb.mono h.bel.size)⟩
theorem G2.drew {w W : World} {p q : Nat} {cs ds : List Value} (h : G2 w p q cs ds W) : G2 w p q cs ds W.drew := ⟨h.one, h.two, h.bel.drew⟩

set_option maxRecDepth 100000 in
set_option maxHeartbeats 4000000 in
theorem unlike_walk (w : World) (hch : Ch w) (v1 v2 : Value) (c : Cl) (A : Option Addr) (n cp : Nat) (d : Cl) (B : Option Addr) (m cq : Nat) (same : Bool) (h1 : CI w v1 c A n cp) (h2 : CI w v2 d B m cq) :
    Calls Tryd.prog 6 #[v1, v2, .bool same] w fun e w' => e = .returned (.bool true) ∧ Below w.heap.size w w' := by
  obtain ⟨rfl, hx, hw, hl1, hl2, hfew⟩ := h1
  obtain ⟨rfl, hy, hv, hl3, hl4, hfew2⟩ := h2
  have HCH := Lib.hid hch
  have HX := Lib.hid hx
  have HY := Lib.hid hy
  have HWX := Lib.hid hw
  have HWY := Lib.hid hv
  have HNX := Lib.hid hx.1
  have HNY := Lib.hid hy.1
  clear hch hx hy hw hv
  have hb0 : Below w.heap.size w ((w.alloc (.cells (cc c (.slice A n cp)).toArray 28)).alloc (.cells (cc d (.slice B m cq)).toArray 28)) := ((Below.refl _ _).alloc (Nat.le_refl _) _).alloc (by simp) _
  have HG0 : Hid (G2 w w.heap.size (w.heap.size + 1) (cc c (.slice A n cp)) (cc d (.slice B m cq)) ((w.alloc (.cells (cc c (.slice A n cp)).toArray 28)).alloc (.cells (cc d (.slice B m cq)).toArray 28))) := by
    refine ⟨(Below.heap_alloc _ _ _ (by simp)).trans (heap_alloc_new w _), ?_, hb0⟩
    have := heap_alloc_new (w.alloc (.cells (cc c (.slice A n cp)).toArray 28)) (.cells (cc d (.slice B m cq)).toArray 28)
    unfold Bw
    simpa using this
  clear hb0
  have s1 : (txt c.nm).size = c.nm.length := txt_size _
  have s2 : (txt c.tn).size = c.tn.length := txt_size _
  have s3 : (txt d.nm).size = d.nm.length := txt_size _
  have s4 : (txt d.tn).size = d.tn.length := txt_size _
  clear hl1 hl2 hl3 hl4 hfew hfew2
  go_enter Tryd.func6, Tryd.ntmps6
  go_wp2_with fail
  refine (awake_any _ (HCH.out.below HG0.out.bel)).mono ?_
  rintro e w1 ⟨rfl, hb1⟩
  have HG1 := Lib.hid (HG0.out.below hb1)
  clear hb1 HG0
  have HP0 : Hid (w.heap.size + 1 ≠ w.heap.size) := by show _ ≠ _; omega
  have HL0 : Hid (w.heap.size ≤ w.heap.size + 1) := Nat.le_succ _
  generalize hq : w.heap.size + 1 = q at *
  clear hq
  have HPE : Hid (w.heap.size ≤ w.heap.size) := Nat.le_refl _
  generalize hbb : w.heap.size = p at HG1 HP0 HL0 ⊢
  have HPP : Hid (w.heap.size = p) := hbb
  clear hbb HPE
  have e5 := HG1.out.one.cell 5 _ rfl
  have e8 := HG1.out.one.cell 8 _ rfl
  have e13 := HG1.out.one.cell 13 _ rfl
  have f5 := HG1.out.two.cell 5 _ rfl
  have f8 := HG1.out.two.cell 8 _ rfl
  have f13 := HG1.out.two.cell 13 _ rfl
  by_cases g1 : n > 1100
  · have hd : decide ((1100 : Int) < (n : Int)) = true := by simp; omega
    go_wp2_with fail
    go_ret
    exact ⟨rfl, HG1.out.bel⟩
  have hd : decide ((1100 : Int) < (n : Int)) = false := by simp; omega
  by_cases g2 : m > 1100
  · have he : decide ((1100 : Int) < (m : Int)) = true := by simp; omega
    go_wp2_with fail
    go_ret
    exact ⟨rfl, HG1.out.bel⟩
  have he : decide ((1100 : Int) < (m : Int)) = false := by simp; omega
  go_upto_if 43 with fail
  · go_ret
    exact ⟨rfl, HG1.out.bel⟩
  clear hd he e5 e8 e13 f5 f8 f13 g1 g2 s1 s2 s3 s4
  go_cut [] (fun W => ∃ (D : Cl) (B' : Option Addr) (m' cr : Nat), Hid (D.Wide ∧ BS w B' m' D.dt ∧ G2 w p q (cc c (.slice A n cp)) (cc D (.slice B' m' cr)) W))
  case first =>
    cases same
    · go_wp2_with fail
      go_meet
      case rel => exact ⟨d, B, m, cq, HWY.out, HY.out, HG1.out⟩
    · go_wp2_with (first
        | (refine wpList_load_part rfl 28 (.tmp 3) rfl _ 0 rfl _ Tryd.underlying28 rfl (cc c (.slice A n cp)) 28 _ HG1.out.one size_C (fun j u hu => by rw [Nat.zero_add]; exact hu) ?_)
        | (refine wpList_store_part rfl 28 (.tmp 4) (.tmp 44) rfl q 0 (cc c (.slice A n cp)) rfl rfl 28 _ HG1.out.two size_C (by simp [cc]) (cc_one _ _ _ _) ?_
           intro w2 hb2 _ hk2
           have HH2 : Hid (G2 w p q (cc c (.slice A n cp)) (cc c (.slice A n cp)) w2) :=
             ⟨HG1.out.one.keep hk2 (fun e => HP0.out e.symm), hb2, HG1.out.bel.trans (hk2.below2 (fun k hk => by have := HL0.out; have := HPP.out; omega))⟩
           clear hb2 hk2))
      go_meet
      case rel => exact ⟨c, A, n, cp, HWX.out, HX.out, HH2.out⟩
  obtain ⟨D, B', m', cr, H2⟩ := hcut
  have HWD : Hid D.Wide := H2.out.1
  have HD : Hid (BS w B' m' D.dt) := H2.out.2.1
  have HG2 : Hid (G2 w p q (cc c (.slice A n cp)) (cc D (.slice B' m' cr)) wc) := H2.out.2.2
  clear H2 HG1 HY HWY HNY
  go_wp2_with (refine wpList_load_part rfl 28 (.tmp 3) rfl _ 0 rfl _ Tryd.underlying28 rfl (cc c (.slice A n cp)) 28 _ HG2.out.one size_C (fun j u hu => by rw [Nat.zero_add]; exact hu) ?_)
  refine (putCall_any A n cp c _ (fun _ => HX.out.below HG2.out.bel) HNX.out).mono ?_
  rintro e w3 ⟨A3, n3, cp3, rfl, ho3⟩
  have HG3 := Lib.hid (HG2.out.below ho3.2)
  have HB3 := Lib.hid ho3.bs
  clear ho3 HG2
  go_wp2_with (refine wpList_load_part rfl 28 (.tmp 4) rfl _ 0 rfl _ Tryd.underlying28 rfl (cc D (.slice B' m' cr)) 28 _ HG3.out.two size_C (fun j u hu => by rw [Nat.zero_add]; exact hu) ?_)
  refine (putCall_any B' m' cr D _ (fun _ => HD.out.below HG3.out.bel) HD.out.1).mono ?_
  rintro e w4 ⟨A4, n4, cp4, rfl, ho4⟩
  have HG4 := Lib.hid (HG3.out.below ho4.2)
  have HB3' := Lib.hid (HB3.out.below ho4.2)
  have HB4 := Lib.hid ho4.bs
  clear ho4 HG3 HB3
  by_cases hox : c.okB = true
  rotate_left
  · have hz : c.errP = 1 := if_neg hox
    rw [hz]
    clear hz hox
    go_wp2_with fail
    go_ret
    exact ⟨rfl, HG4.out.bel⟩
  have hzx : c.errP = 0 := if_pos hox
  rw [hzx]
  clear hzx
  by_cases hoy : D.okB = true
  rotate_left
  · have hz : D.errP = 1 := if_neg hoy
    rw [hz]
    clear hz hoy hox
    go_wp2_with fail
    go_ret
    exact ⟨rfl, HG4.out.bel⟩
  have hzy : D.errP = 0 := if_pos hoy
  rw [hzy]
  clear hzy
  have HI := Lib.hid (Cl.enc_inj _ _ HWX.out HWD.out hox hoy)
  have HM := Lib.hid (Cl.enc_mod c)
  rw [show c.put = c.enc from if_pos hox] at HB3'
  rw [show D.put = D.enc from if_pos hoy] at HB4
  clear hox hoy
  obtain ⟨z, hz⟩ : ∃ z, decide (c = D) = z := ⟨_, rfl⟩
  have HZ := Lib.hid hz
  have HJ : Hid (c = D → c.enc = D.enc) := fun e => by rw [e]
  obtain ⟨px, hpx⟩ : ∃ px, c.enc = px := ⟨_, rfl⟩
  obtain ⟨py, hpy⟩ : ∃ py, D.enc = py := ⟨_, rfl⟩
  rw [hpx] at HB3' HI HM HJ
  rw [hpy] at HB4 HI HJ
  clear hpx hpy
  have HEQ : Hid (((txt px).toList == (txt py).toList) = z) := by
    show _ = _
    rw [txt_toList, txt_toList, ← hz]
    by_cases h : px = py
    · rw [decide_eq_true (HI.out h), h]
      exact beq_self_eq_true _
    · rw [decide_eq_false (fun e => h (HJ.out e))]
      exact beq_false_of_ne h
  have hn3 : px.length = n3 := HB3'.out.1
  have hm3 : ((n3 : Int)).tmod 4 = 0 := by rw [Int.tmod_eq_emod_of_nonneg (by omega)]; have := HM.out; omega
  have hm4 : (n3 : Int) % 4 = 0 := by have := HM.out; omega
  clear hz
  go_upto_region 12 with fail
  have hzz := HEQ.out
  have HS : Hid ((fun W : World => Bw W p (cc c (.slice A n cp)) 28 ∧ Bw W q (cc D (.slice B' m' cr)) 28 ∧ (convert 26 9 (.slice A3 n3 cp3)).run Tryd.prog W = .ok (.string (txt px)) W ∧ (convert 26 9 (.slice A4 n4 cp4)).run Tryd.prog W = .ok (.string (txt py)) W) w4.drew) := ⟨HG4.out.drew.one, HG4.out.drew.two, run_convert_bs _ _ _ _ _ HB3'.out, run_convert_bs _ _ _ _ _ HB4.out⟩
  refine wp_region_held_drew (S := fun W : World => Bw W p (cc c (.slice A n cp)) 28 ∧ Bw W q (cc D (.slice B' m' cr)) 28 ∧ (convert 26 9 (.slice A3 n3 cp3)).run Tryd.prog W = .ok (.string (txt px)) W ∧ (convert 26 9 (.slice A4 n4 cp4)).run Tryd.prog W = .ok (.string (txt py)) W) (by kernel_rfl) HS.out (fun _ => ?_)
  change wpAnyH _ _ _ _ _ 18 (Array.replicate 18 false) _ _
  refine takeH (i := 0) 61 (.slice A3 n3 cp3) rfl rfl (by kernel_rfl) (by kernel_rfl) (by kernel_rfl) (fun _ _ _ h => h) (.inl ⟨by rfl, fun W hW => by go_simp⟩) HS.out ?_
  simp only [Act.put, List.setIfInBounds_toArray, List.set_cons_zero, List.set_cons_succ]
  refine takeH (i := 1) 62 (.string (txt px)) rfl rfl (by kernel_rfl) (by kernel_rfl) (by kernel_rfl) (fun _ _ _ h => h) (.inl ⟨by rfl, fun W hW => by (obtain ⟨_, _, hc, hd⟩ := hW; go_simp)⟩) HS.out ?_
  simp only [Act.put, List.setIfInBounds_toArray, List.set_cons_zero, List.set_cons_succ]
  refine takeH (i := 2) 63 (.slice A4 n4 cp4) rfl rfl (by kernel_rfl) (by kernel_rfl) (by kernel_rfl) (fun _ _ _ h => h) (.inl ⟨by rfl, fun W hW => by go_simp⟩) HS.out ?_
  simp only [Act.put, List.setIfInBounds_toArray, List.set_cons_zero, List.set_cons_succ]
  refine takeH (i := 3) 64 (.string (txt py)) rfl rfl (by kernel_rfl) (by kernel_rfl) (by kernel_rfl) (fun _ _ _ h => h) (.inl ⟨by rfl, fun W hW => by (obtain ⟨_, _, hc, hd⟩ := hW; go_simp)⟩) HS.out ?_
  simp only [Act.put, List.setIfInBounds_toArray, List.set_cons_zero, List.set_cons_succ]
  refine takeH (i := 4) 65 (.bool z) rfl rfl (by kernel_rfl) (by kernel_rfl) (by kernel_rfl) (fun _ _ _ h => h) (.inl ⟨by rfl, fun W hW => by go_simp⟩) HS.out ?_
  simp only [Act.put, List.setIfInBounds_toArray, List.set_cons_zero, List.set_cons_succ]
  refine takeH (i := 5) 66 (.agg (cc c (.slice A n cp)).toArray) rfl rfl (by kernel_rfl) (by kernel_rfl) (by kernel_rfl) (fun _ _ _ h => h) (.inl ⟨by rfl, fun W hW => by (exact run_load_part 28 (.tmp 3) rfl p 0 rfl _ Tryd.underlying28 rfl (cc c (.slice A n cp)) 28 _ hW.1 size_C (fun j u hu => by rw [Nat.zero_add]; exact hu))⟩) HS.out ?_
  simp only [Act.put, List.setIfInBounds_toArray, List.set_cons_zero, List.set_cons_succ]
  refine takeH (i := 7) 68 (.agg (cc D (.slice B' m' cr)).toArray) rfl rfl (by kernel_rfl) (by kernel_rfl) (by kernel_rfl) (fun _ _ _ h => h) (.inl ⟨by rfl, fun W hW => by (exact run_load_part 28 (.tmp 4) rfl q 0 rfl _ Tryd.underlying28 rfl (cc D (.slice B' m' cr)) 28 _ hW.2.1 size_C (fun j u hu => by rw [Nat.zero_add]; exact hu))⟩) HS.out ?_
  simp only [Act.put, List.setIfInBounds_toArray, List.set_cons_zero, List.set_cons_succ]
  refine wpAnyH_ready (rs := [6]) (by kernel_rfl) (by simp) ?_
  refine AllReadyH.cons rfl (fun K hK => ?_) AllReadyH.nil
  go_simp
  refine (callOf_any c A n cp w4.drew (HX.out.below HG4.out.drew.bel)).mono ?_
  rintro e w5 ⟨rfl, hb5⟩
  have HG5 := Lib.hid (HG4.out.drew.below hb5)
  have H35 : Hid (BS w5 A3 n3 px) := (show BS w4.drew A3 n3 px from HB3'.out).below hb5
  have H45 : Hid (BS w5 A4 n4 py) := (show BS w4.drew A4 n4 py from HB4.out).below hb5
  refine hK.out _ _ ⟨HG5.out.one, HG5.out.two, run_convert_bs _ _ _ _ _ H35.out, run_convert_bs _ _ _ _ _ H45.out⟩ fun _ => ?_
  clear hK K hb5
  refine wpAnyH_ready (rs := [8]) (by kernel_rfl) (by simp) ?_
  refine AllReadyH.cons rfl (fun K1 hK => ?_) AllReadyH.nil
  go_simp
  refine (callOf_any D B' m' cr w5 (HD.out.below HG5.out.bel)).mono ?_
  rintro e w6 ⟨rfl, hb6⟩
  have HG6 := Lib.hid (HG5.out.below hb6)
  have H36 := Lib.hid (H35.out.below hb6)
  have H46 := Lib.hid (H45.out.below hb6)
  have HS7 : Hid ((fun W : World => Bw W p (cc c (.slice A n cp)) 28 ∧ Bw W q (cc D (.slice B' m' cr)) 28 ∧ (convert 26 9 (.slice A3 n3 cp3)).run Tryd.prog W = .ok (.string (txt px)) W ∧ (convert 26 9 (.slice A4 n4 cp4)).run Tryd.prog W = .ok (.string (txt py)) W) w6) := ⟨HG6.out.one, HG6.out.two, run_convert_bs _ _ _ _ _ H36.out, run_convert_bs _ _ _ _ _ H46.out⟩
  refine hK.out _ _ HS7.out fun _ => ?_
  clear hK K1 hb6
  have heq := cEq c D
  rw [HZ.out] at heq
  refine takeH (i := 9) 70 (.bool z) rfl rfl (by kernel_rfl) (by kernel_rfl) (by kernel_rfl) (fun _ _ _ h => h) (.inl ⟨by rfl, fun W hW => by go_simp⟩) HS7.out ?_
  simp only [Act.put, List.setIfInBounds_toArray, List.set_cons_zero, List.set_cons_succ]
  refine takeH (i := 10) 71 (.bool true) rfl rfl (by kernel_rfl) (by kernel_rfl) (by kernel_rfl) (fun _ _ _ h => h) (.inl ⟨by rfl, fun W hW => by go_simp⟩) HS7.out ?_
  simp only [Act.put, List.setIfInBounds_toArray, List.set_cons_zero, List.set_cons_succ]
  refine takeH (i := 11) 72 (.bool true) rfl rfl (by kernel_rfl) (by kernel_rfl) (by kernel_rfl) (fun _ _ _ h => h) (.inl ⟨by rfl, fun W hW => by go_simp⟩) HS7.out ?_
  simp only [Act.put, List.setIfInBounds_toArray, List.set_cons_zero, List.set_cons_succ]
  refine takeH (i := 12) 73 (.slice A3 n3 cp3) rfl rfl (by kernel_rfl) (by kernel_rfl) (by kernel_rfl) (fun _ _ _ h => h) (.inl ⟨by rfl, fun W hW => by go_simp⟩) HS7.out ?_
  simp only [Act.put, List.setIfInBounds_toArray, List.set_cons_zero, List.set_cons_succ]
  refine takeH (i := 13) 74 (.int .i64 (n3 : Int)) rfl rfl (by kernel_rfl) (by kernel_rfl) (by kernel_rfl) (fun _ _ _ h => h) (.inl ⟨by rfl, fun W hW => by go_simp⟩) HS7.out ?_
  simp only [Act.put, List.setIfInBounds_toArray, List.set_cons_zero, List.set_cons_succ]
  refine takeH (i := 14) 75 (.int .i64 0) rfl rfl (by kernel_rfl) (by kernel_rfl) (by kernel_rfl) (fun _ _ _ h => h) (.inl ⟨by rfl, fun W hW => by go_simp⟩) HS7.out ?_
  simp only [Act.put, List.setIfInBounds_toArray, List.set_cons_zero, List.set_cons_succ]
  refine takeH (i := 15) 76 (.bool true) rfl rfl (by kernel_rfl) (by kernel_rfl) (by kernel_rfl) (fun _ _ _ h => h) (.inl ⟨by rfl, fun W hW => by go_simp⟩) HS7.out ?_
  simp only [Act.put, List.setIfInBounds_toArray, List.set_cons_zero, List.set_cons_succ]
  refine takeH (i := 16) 77 (.bool true) rfl rfl (by kernel_rfl) (by kernel_rfl) (by kernel_rfl) (fun _ _ _ h => h) (.inl ⟨by rfl, fun W hW => by go_simp⟩) HS7.out ?_
  simp only [Act.put, List.setIfInBounds_toArray, List.set_cons_zero, List.set_cons_succ]
  refine takeH (i := 17) 6 (.bool true) rfl rfl (by kernel_rfl) (by kernel_rfl) (by kernel_rfl) (fun _ _ _ h => h) (.inl ⟨by rfl, fun W hW => by go_simp⟩) HS7.out ?_
  simp only [Act.put, List.setIfInBounds_toArray, List.set_cons_zero, List.set_cons_succ]
  refine wpAnyH_done (by kernel_rfl) ?_ _
  go_wp2_with fail
  go_ret
  exact ⟨rfl, HG6.out.bel⟩
end Go.Proofs.YtobhmjokoicpoaaDoor
