/-
  The walk of the statement on replies (layer 9).
-/
import Derived.Test.YtobhmjokoicpoaaDoorKRGetR
import Derived.Test.YtobhmjokoicpoaaDoorKRSame
import Derived.Test.YtobhmjokoicpoaaDoorKROf
import Derived.Test.YtobhmjokoicpoaaDoorKIn
namespace Go.Proofs.YtobhmjokoicpoaaDoor
open Go.RowKit Go.Shelf

theorem Rp.got_few (l : List UInt8) : (Rp.got l).es.length ≤ 24 := by
  by_cases h : Rp.err l = 0
  · obtain ⟨_, _, _, h4, h5⟩ := Rp.err_cases l h
    rw [h5]
    exact h4
  · rw [show Rp.got l = Rp.zero from if_neg h]
    exact Nat.zero_le _
/-- The reply that came in, what was put of it, and both replies that were got. -/
structure G5 (w : World) (p x y : Nat) (cs : List Value) (G : Rp) (X1 : Option Addr) (x2 x3 : Nat) (X4 : Option Addr) (x5 x6 : Nat) (Y1 : Option Addr) (y2 y3 : Nat) (A3 : Option Addr) (n3 : Nat) (L : List UInt8) (W : World) : Prop where
  one : Bw W p cs 48
  two : Bw W x (rc G (.slice X1 x2 x3) (.slice X4 x5 x6)) 48
  tri : Bw W y (rc G (.string (txt G.dt)) (.slice Y1 y2 y3)) 54
  dat : BS W X1 x2 G.dt
  ent : ES W X4 x5 G.es
  ens : ES W Y1 y2 G.es
  put : BS W A3 n3 L
  bel : Below w.heap.size w W
section
variable {w W W' : World} {p x y : Nat} {cs : List Value} {G : Rp} {X1 : Option Addr} {x2 x3 : Nat} {X4 : Option Addr} {x5 x6 : Nat} {Y1 : Option Addr} {y2 y3 : Nat} {A3 : Option Addr} {n3 : Nat} {L : List UInt8}
theorem G5.below (h : G5 w p x y cs G X1 x2 x3 X4 x5 x6 Y1 y2 y3 A3 n3 L W) (hb : Below W.heap.size W W') : G5 w p x y cs G X1 x2 x3 X4 x5 x6 Y1 y2 y3 A3 n3 L W' :=
  ⟨h.one.below hb, h.two.below hb, h.tri.below hb, h.dat.below hb, h.ent.below hb, h.ens.below hb, h.put.below hb, h.bel.trans (hb.mono h.bel.size)⟩
theorem G5.drew (h : G5 w p x y cs G X1 x2 x3 X4 x5 x6 Y1 y2 y3 A3 n3 L W) : G5 w p x y cs G X1 x2 x3 X4 x5 x6 Y1 y2 y3 A3 n3 L W.drew := ⟨h.one, h.two, h.tri, h.dat, h.ent, h.ens, h.put, h.bel.drew⟩
end

set_option maxRecDepth 100000 in
set_option maxHeartbeats 8000000 in
theorem replies_walk (w : World) (hch : Ch w) (v1 : Value) (r : Rp) (A : Option Addr) (n cp : Nat) (B : Option Addr) (m cq : Nat) (M : Option Addr) (mm cm : Nat) (bl : List UInt8) (h1 : RI9 w v1 r A n cp B m cq) (h2 : BS w M mm bl) :
    Calls Tryd.prog 4 #[v1, .slice M mm cm] w fun e w' => e = .returned (.bool true) ∧ Below w.heap.size w w' := by
  obtain ⟨rfl, hx, hei, hw, _, _⟩ := h1
  have HCH := Lib.hid hch
  have HX := Lib.hid hx
  have HE := Lib.hid hei.row
  have HB := Lib.hid h2
  have HWX := Lib.hid hw
  clear hch hx hw h2 hei
  go_enter Tryd.func4, Tryd.ntmps4
  go_upto_region 1 with fail
  have HB0 : Hid (Bw (w.alloc (.cells (rc r (.slice A n cp) (.slice B m cq)).toArray 48)) w.heap.size (rc r (.slice A n cp) (.slice B m cq)) 48) := heap_alloc_new w _
  have HW0 : Hid (Below w.heap.size w (w.alloc (.cells (rc r (.slice A n cp) (.slice B m cq)).toArray 48))) := (Below.refl _ w).alloc (Nat.le_refl _) _
  generalize w.alloc (.cells (rc r (.slice A n cp) (.slice B m cq)).toArray 48) = w0 at *
  go_wp2_with fail
  refine (awake_any _ (HCH.out.below HW0.out)).mono ?_
  rintro e w1 ⟨rfl, hb1⟩
  have HB1 := Lib.hid (HB0.out.below hb1)
  have HW1 := Lib.hid (HW0.out.trans (hb1.mono HW0.out.size))
  clear hb1 HB0 HW0
  generalize hbb : w.heap.size = p at HB1 ⊢
  have HPP : Hid (w.heap.size = p) := hbb
  clear hbb
  have e10 := HB1.out.cell 10 _ rfl
  have e11 := HB1.out.cell 11 _ rfl
  by_cases h0 : mm ≤ 400
  rotate_left
  · have g0 : decide ((400 : Int) < (mm : Int)) = true := by simp; omega
    go_wp2_with fail
    go_ret
    exact ⟨rfl, HW1.out⟩
  have g0 : decide ((400 : Int) < (mm : Int)) = false := by simp; omega
  by_cases h1 : n ≤ 1100
  rotate_left
  · have g1 : decide ((1100 : Int) < (n : Int)) = true := by simp; omega
    go_wp2_with fail
    go_ret
    exact ⟨rfl, HW1.out⟩
  have g1 : decide ((1100 : Int) < (n : Int)) = false := by simp; omega
  by_cases h2 : m ≤ 30
  rotate_left
  · have g2 : decide ((30 : Int) < (m : Int)) = true := by simp; omega
    go_wp2_with fail
    go_ret
    exact ⟨rfl, HW1.out⟩
  have g2 : decide ((30 : Int) < (m : Int)) = false := by simp; omega
  have HMM : Hid (m ≤ 10000000 ∧ mm ≤ 10000000) := ⟨by omega, by omega⟩
  go_upto_region 6 with fail
  clear g0 g1 g2 e10 e11 h1 h2 h0
  go_wp2_with (refine wpList_load_part rfl 48 (.tmp 2) rfl _ 0 rfl _ Tryd.underlying48 rfl (rc r (.slice A n cp) (.slice B m cq)) 48 _ HB1.out size_Rp (fun j u hu => by rw [Nat.zero_add]; exact hu) ?_)
  refine (putReply_any A n cp B m cq r _ (HX.out.below HW1.out) (HE.out.below HW1.out) HWX.out.es).mono ?_
  rintro e w3 ⟨A3, n3, cp3, rfl, ho3⟩
  have HB3 := Lib.hid (HB1.out.below ho3.2)
  have HW3 := Lib.hid (HW1.out.trans (ho3.2.mono HW1.out.size))
  have HP3 := Lib.hid ho3.bs
  clear ho3 HB1 HW1
  go_wp2_with (refine wpList_load_part rfl 48 (.tmp 2) rfl _ 0 rfl _ Tryd.underlying48 rfl (rc r (.slice A n cp) (.slice B m cq)) 48 _ HB3.out size_Rp (fun j u hu => by rw [Nat.zero_add]; exact hu) ?_)
  refine (replyOf_any r A n cp B m cq _ (HX.out.below HW3.out) (HE.out.below HW3.out) HMM.out.1).mono ?_
  rintro e w4 ⟨E, ce, rfl, hes, hb4⟩
  have HB4 := Lib.hid (HB3.out.below hb4)
  have HW4 := Lib.hid (HW3.out.trans (hb4.mono HW3.out.size))
  have HP4 := Lib.hid (HP3.out.below hb4)
  have HE4 := Lib.hid hes
  clear hb4 hes HB3 HW3 HP3
  go_wp2_with fail
  refine (refPutReply_any r E m ce w4 HE4.out HWX.out).mono ?_
  rintro e w5 ⟨rfl, hb5⟩
  have HB5 := Lib.hid (HB4.out.below hb5)
  have HW5 := Lib.hid (HW4.out.trans (hb5.mono HW4.out.size))
  have HP5 := Lib.hid (HP4.out.below hb5)
  clear hb5 HB4 HW4 HP4 HE4
  go_wp2_with fail
  refine (getReply_any M mm cm bl w5 (HB.out.below HW5.out) HMM.out.2).mono ?_
  rintro e w6 ⟨X1, x2, x3, X4, x5, x6, rfl, hx6, he6, hb6⟩
  have HGOT : Hid (Rp.err bl = 0 → (Rp.got bl).okB = true ∧ (Rp.got bl).enc = bl ∧ (Rp.got bl).Wide) := Rp.got_back bl
  have HFEW : Hid ((Rp.got bl).es.length ≤ 24) := Rp.got_few bl
  have HREF := fun W => Lib.hid (refGetReply_any bl W)
  generalize Rp.got bl = G at *
  generalize Rp.err bl = ge at *
  have HX5 : Hid (x5 ≤ 10000000) := by have h1 := HFEW.out; have h2 := he6.1; show _ ≤ _; omega
  have HB6 := Lib.hid (HB5.out.below hb6)
  have HW6 := Lib.hid (HW5.out.trans (hb6.mono HW5.out.size))
  have HP6 := Lib.hid (HP5.out.below hb6)
  have HX6 := Lib.hid hx6
  have HE6 := Lib.hid he6
  clear hb6 HB5 HW5 HP5 hx6 he6
  go_upto_region 9 with (first
    | (refine wpList_alloc_any rfl 48 rfl _ zero_Rp ?_; intro w7 hb7 hs7 hw7)
    | (refine wpList_store_part rfl 48 (.tmp 10) (.tmp 50) rfl w6.heap.size 0 (rc G (.slice X1 x2 x3) (.slice X4 x5 x6)) rfl rfl 48 _ hb7 size_Rp (by simp [rc]) (rc_one _ _ _ _ _ _ _) ?_
       intro w8 hb8 hs8 hk8))
  have hbw : Below w6.heap.size w6 w8 := hw7.trans (hk8.below2 (fun k hk => by omega))
  have HB8 := Lib.hid (HB6.out.below hbw)
  have HW8 := Lib.hid (HW6.out.trans (hbw.mono HW6.out.size))
  have HP8 := Lib.hid (HP6.out.below hbw)
  have HX8 := Lib.hid (HX6.out.below hbw)
  have HE8 := Lib.hid (HE6.out.below hbw)
  have HC8 : Hid (Bw w8 w6.heap.size (rc G (.slice X1 x2 x3) (.slice X4 x5 x6)) 48) := hb8
  clear hb7 hs7 hw7 hb8 hs8 hk8 hbw HB6 HW6 HP6 HX6 HE6
  generalize w6.heap.size = x at *
  have hcb := run_convert_bs w8 M mm cm bl (HB.out.below HW8.out)
  go_wp2_with fail
  refine ((HREF w8).out).mono ?_
  rintro e w9 ⟨Y1, y2, y3, rfl, hy9, hb9⟩
  have HB9 := Lib.hid (HB8.out.below hb9)
  have HW9 := Lib.hid (HW8.out.trans (hb9.mono HW8.out.size))
  have HP9 := Lib.hid (HP8.out.below hb9)
  have HX9 := Lib.hid (HX8.out.below hb9)
  have HE9 := Lib.hid (HE8.out.below hb9)
  have HC9 := Lib.hid (HC8.out.below hb9)
  have HY9 := Lib.hid hy9
  clear hb9 hy9 HB8 HW8 HP8 HX8 HE8 HC8 HREF hcb
  go_upto_region 10 with (first
    | (refine wpList_alloc_any rfl 54 rfl _ zero_R9 ?_; intro wa hba hsa hwa)
    | (refine wpList_store_part rfl 54 (.tmp 12) (.tmp 56) rfl w9.heap.size 0 (rc G (.string (txt G.dt)) (.slice Y1 y2 y3)) rfl rfl 54 _ hba size_R9 (by simp [rc]) (rc_ones _ _ _ _ _) ?_
       intro wb hbb hsb hkb))
  have hbw : Below w9.heap.size w9 wb := hwa.trans (hkb.below2 (fun k hk => by omega))
  have HG0 : Hid (G5 w p x w9.heap.size (rc r (.slice A n cp) (.slice B m cq)) G X1 x2 x3 X4 x5 x6 Y1 y2 y3 A3 n3 r.put wb) := ⟨HB9.out.below hbw, HC9.out.below hbw, hbb, HX9.out.below hbw, HE9.out.below hbw, HY9.out.below hbw, HP9.out.below hbw, HW9.out.trans (hbw.mono HW9.out.size)⟩
  clear hba hsa hwa hbb hsb hkb hbw HB9 HW9 HP9 HX9 HE9 HY9 HC9
  generalize w9.heap.size = y at *
  obtain ⟨er, her⟩ : ∃ z, r.errP = z := ⟨_, rfl⟩
  obtain ⟨px, hpx⟩ : ∃ z, r.put = z := ⟨_, rfl⟩
  have HER := Lib.hid her
  have HPX := Lib.hid hpx
  rw [her]
  rw [hpx] at HG0
  rw [hpx]
  clear her hpx
  have HS : Hid ((fun W : World => Bw W x (rc G (.slice X1 x2 x3) (.slice X4 x5 x6)) 48 ∧ Bw W y (rc G (.string (txt G.dt)) (.slice Y1 y2 y3)) 54 ∧ (convert 26 9 (.slice A3 n3 cp3)).run Tryd.prog W = .ok (.string (txt px)) W) wb.drew) := ⟨HG0.out.drew.two, HG0.out.drew.tri, run_convert_bs _ _ _ _ _ HG0.out.drew.put⟩
  refine wp_region_held_drew (S := fun W : World => Bw W x (rc G (.slice X1 x2 x3) (.slice X4 x5 x6)) 48 ∧ Bw W y (rc G (.string (txt G.dt)) (.slice Y1 y2 y3)) 54 ∧ (convert 26 9 (.slice A3 n3 cp3)).run Tryd.prog W = .ok (.string (txt px)) W) (by kernel_rfl) HS.out (fun _ => ?_)
  change wpAnyH _ _ _ _ _ 21 (Array.replicate 21 false) _ _
  refine takeH (i := 0) 58 (.slice A3 n3 cp3) rfl rfl (by kernel_rfl) (by kernel_rfl) (by kernel_rfl) (fun _ _ _ h => h) (.inl ⟨by rfl, fun W hW => by go_simp⟩) HS.out ?_
  simp only [Act.put, List.setIfInBounds_toArray, List.set_cons_zero, List.set_cons_succ]
  refine takeH (i := 1) 59 (.string (txt px)) rfl rfl (by kernel_rfl) (by kernel_rfl) (by kernel_rfl) (fun _ _ _ h => h) (.inl ⟨by rfl, fun W hW => by (obtain ⟨_, _, hc⟩ := hW; go_simp)⟩) HS.out ?_
  simp only [Act.put, List.setIfInBounds_toArray, List.set_cons_zero, List.set_cons_succ]
  refine takeH (i := 2) 60 (.string (txt px)) rfl rfl (by kernel_rfl) (by kernel_rfl) (by kernel_rfl) (fun _ _ _ h => h) (.inl ⟨by rfl, fun W hW => by go_simp⟩) HS.out ?_
  simp only [Act.put, List.setIfInBounds_toArray, List.set_cons_zero, List.set_cons_succ]
  refine takeH (i := 3) 61 (.bool false) rfl rfl (by kernel_rfl) (by kernel_rfl) (by kernel_rfl) (fun _ _ _ h => h) (.inl ⟨by rfl, fun W hW => by go_simp⟩) HS.out ?_
  simp only [Act.put, List.setIfInBounds_toArray, List.set_cons_zero, List.set_cons_succ]
  refine takeH (i := 4) 62 (.bool false) rfl rfl (by kernel_rfl) (by kernel_rfl) (by kernel_rfl) (fun _ _ _ h => h) (.inl ⟨by rfl, fun W hW => by go_simp⟩) HS.out ?_
  simp only [Act.put, List.setIfInBounds_toArray, List.set_cons_zero, List.set_cons_succ]
  refine takeH (i := 5) 63 (.int .i64 er) rfl rfl (by kernel_rfl) (by kernel_rfl) (by kernel_rfl) (fun _ _ _ h => h) (.inl ⟨by rfl, fun W hW => by go_simp⟩) HS.out ?_
  simp only [Act.put, List.setIfInBounds_toArray, List.set_cons_zero, List.set_cons_succ]
  refine takeH (i := 6) 64 (.int .i64 er) rfl rfl (by kernel_rfl) (by kernel_rfl) (by kernel_rfl) (fun _ _ _ h => h) (.inl ⟨by rfl, fun W hW => by go_simp⟩) HS.out ?_
  simp only [Act.put, List.setIfInBounds_toArray, List.set_cons_zero, List.set_cons_succ]
  refine takeH (i := 7) 65 (.bool false) rfl rfl (by kernel_rfl) (by kernel_rfl) (by kernel_rfl) (fun _ _ _ h => h) (.inl ⟨by rfl, fun W hW => by go_simp⟩) HS.out ?_
  simp only [Act.put, List.setIfInBounds_toArray, List.set_cons_zero, List.set_cons_succ]
  refine takeH (i := 8) 66 (.bool false) rfl rfl (by kernel_rfl) (by kernel_rfl) (by kernel_rfl) (fun _ _ _ h => h) (.inl ⟨by rfl, fun W hW => by go_simp⟩) HS.out ?_
  simp only [Act.put, List.setIfInBounds_toArray, List.set_cons_zero, List.set_cons_succ]
  refine takeH (i := 9) 67 (.bool false) rfl rfl (by kernel_rfl) (by kernel_rfl) (by kernel_rfl) (fun _ _ _ h => h) (.inl ⟨by rfl, fun W hW => by go_simp⟩) HS.out ?_
  simp only [Act.put, List.setIfInBounds_toArray, List.set_cons_zero, List.set_cons_succ]
  refine takeH (i := 10) 68 (.int .i64 ge) rfl rfl (by kernel_rfl) (by kernel_rfl) (by kernel_rfl) (fun _ _ _ h => h) (.inl ⟨by rfl, fun W hW => by go_simp⟩) HS.out ?_
  simp only [Act.put, List.setIfInBounds_toArray, List.set_cons_zero, List.set_cons_succ]
  refine takeH (i := 11) 69 (.int .i64 ge) rfl rfl (by kernel_rfl) (by kernel_rfl) (by kernel_rfl) (fun _ _ _ h => h) (.inl ⟨by rfl, fun W hW => by go_simp⟩) HS.out ?_
  simp only [Act.put, List.setIfInBounds_toArray, List.set_cons_zero, List.set_cons_succ]
  refine takeH (i := 12) 70 (.bool false) rfl rfl (by kernel_rfl) (by kernel_rfl) (by kernel_rfl) (fun _ _ _ h => h) (.inl ⟨by rfl, fun W hW => by go_simp⟩) HS.out ?_
  simp only [Act.put, List.setIfInBounds_toArray, List.set_cons_zero, List.set_cons_succ]
  refine takeH (i := 13) 71 (.bool false) rfl rfl (by kernel_rfl) (by kernel_rfl) (by kernel_rfl) (fun _ _ _ h => h) (.inl ⟨by rfl, fun W hW => by go_simp⟩) HS.out ?_
  simp only [Act.put, List.setIfInBounds_toArray, List.set_cons_zero, List.set_cons_succ]
  refine takeH (i := 14) 72 (.bool false) rfl rfl (by kernel_rfl) (by kernel_rfl) (by kernel_rfl) (fun _ _ _ h => h) (.inl ⟨by rfl, fun W hW => by go_simp⟩) HS.out ?_
  simp only [Act.put, List.setIfInBounds_toArray, List.set_cons_zero, List.set_cons_succ]
  refine takeH (i := 15) 73 (.agg (rc G (.slice X1 x2 x3) (.slice X4 x5 x6)).toArray) rfl rfl (by kernel_rfl) (by kernel_rfl) (by kernel_rfl) (fun _ _ _ h => h) (.inl ⟨by rfl, fun W hW => by (exact run_load_part 48 (.tmp 10) rfl x 0 rfl _ Tryd.underlying48 rfl (rc G (.slice X1 x2 x3) (.slice X4 x5 x6)) 48 _ hW.1 size_Rp (fun j u hu => by rw [Nat.zero_add]; exact hu))⟩) HS.out ?_
  simp only [Act.put, List.setIfInBounds_toArray, List.set_cons_zero, List.set_cons_succ]
  refine takeH (i := 17) 75 (.agg (rc G (.string (txt G.dt)) (.slice Y1 y2 y3)).toArray) rfl rfl (by kernel_rfl) (by kernel_rfl) (by kernel_rfl) (fun _ _ _ h => h) (.inl ⟨by rfl, fun W hW => by (exact run_load_part 54 (.tmp 12) rfl y 0 rfl _ Tryd.underlying54 rfl (rc G (.string (txt G.dt)) (.slice Y1 y2 y3)) 54 _ hW.2.1 size_R9 (fun j u hu => by rw [Nat.zero_add]; exact hu))⟩) HS.out ?_
  simp only [Act.put, List.setIfInBounds_toArray, List.set_cons_zero, List.set_cons_succ]
  refine wpAnyH_ready (rs := [16]) (by kernel_rfl) (by simp) ?_
  refine AllReadyH.cons rfl (fun K hK => ?_) AllReadyH.nil
  go_simp
  refine (replyOf_any G X1 x2 x3 X4 x5 x6 _ HG0.out.drew.dat HG0.out.drew.ent HX5.out).mono ?_
  rintro e wc ⟨Z1, zc, rfl, hz, hb⟩
  have HG1 := Lib.hid (HG0.out.drew.below hb)
  have HZ1 := Lib.hid hz
  have HS1 : Hid ((fun W : World => Bw W x (rc G (.slice X1 x2 x3) (.slice X4 x5 x6)) 48 ∧ Bw W y (rc G (.string (txt G.dt)) (.slice Y1 y2 y3)) 54 ∧ (convert 26 9 (.slice A3 n3 cp3)).run Tryd.prog W = .ok (.string (txt px)) W) wc) := ⟨HG1.out.two, HG1.out.tri, run_convert_bs _ _ _ _ _ HG1.out.put⟩
  refine hK.out _ _ HS1.out fun _ => ?_
  clear hK K hb hz HS HG0
  refine wpAnyH_ready (rs := [18]) (by kernel_rfl) (by simp) ?_
  refine AllReadyH.cons rfl (fun K hK => ?_) AllReadyH.nil
  go_simp
  refine (refSame9_any G Z1 x5 zc Y1 y2 y3 wc HZ1.out HG1.out.ens HX5.out).mono ?_
  rintro e wd ⟨rfl, hb⟩
  have HG2 := Lib.hid (HG1.out.below hb)
  have HS2 : Hid ((fun W : World => Bw W x (rc G (.slice X1 x2 x3) (.slice X4 x5 x6)) 48 ∧ Bw W y (rc G (.string (txt G.dt)) (.slice Y1 y2 y3)) 54 ∧ (convert 26 9 (.slice A3 n3 cp3)).run Tryd.prog W = .ok (.string (txt px)) W) wd) := ⟨HG2.out.two, HG2.out.tri, run_convert_bs _ _ _ _ _ HG2.out.put⟩
  refine hK.out _ _ HS2.out fun _ => ?_
  clear hK K hb HS1 HG1 HZ1
  refine takeH (i := 19) 77 (.bool false) rfl rfl (by kernel_rfl) (by kernel_rfl) (by kernel_rfl) (fun _ _ _ h => h) (.inl ⟨by rfl, fun W hW => by go_simp⟩) HS2.out ?_
  simp only [Act.put, List.setIfInBounds_toArray, List.set_cons_zero, List.set_cons_succ]
  refine takeH (i := 20) 78 (.bool false) rfl rfl (by kernel_rfl) (by kernel_rfl) (by kernel_rfl) (fun _ _ _ h => h) (.inl ⟨by rfl, fun W hW => by go_simp⟩) HS2.out ?_
  simp only [Act.put, List.setIfInBounds_toArray, List.set_cons_zero, List.set_cons_succ]
  refine wpAnyH_done (by kernel_rfl) ?_ _
  clear HS2
  by_cases hok : r.okB = true
  rotate_left
  · have hz : r.errP ≠ 0 := fun h => hok (by
      unfold Rp.errP at h
      split at h
      · rename_i ha
        unfold chkE at h
        split at h
        · rename_i hb
          exact r.okB_iff.2 ⟨ha, hb⟩
        · cases h
      · cases h)
    have he : (er == 0) = false := by
      rw [HER.out] at hz
      simpa using hz
    clear hok hz
    go_upto_region 16 with fail
    by_cases hge : ge = 0
    rotate_left
    · have hd : (ge != 0) = true := by simpa using hge
      go_wp2_with fail
      go_ret
      exact ⟨rfl, HG2.out.bel⟩
    have hd : (ge != 0) = false := by simpa using hge
    obtain ⟨hgo, hge2, hgw⟩ := HGOT.out hge
    have HGW := Lib.hid hgw
    have hze : G.errP = 0 := G.errP_ok hgo
    have hzp : G.put = bl := (show G.put = G.enc from if_pos hgo).trans hge2
    clear hge hgo hge2 hgw
    go_wp2_with (refine wpList_load_part rfl 48 (.tmp 10) rfl _ 0 rfl _ Tryd.underlying48 rfl (rc G (.slice X1 x2 x3) (.slice X4 x5 x6)) 48 _ HG2.out.two size_Rp (fun j u hu => by rw [Nat.zero_add]; exact hu) ?_)
    refine (putReply_any X1 x2 x3 X4 x5 x6 G _ HG2.out.dat HG2.out.ent HGW.out.es).mono ?_
    rintro e wy ⟨V1, v2, v3, rfl, hoy⟩
    rw [hze]
    rw [hzp] at hoy
    have HGy := Lib.hid (HG2.out.below hoy.2)
    have hcv := run_convert_bs wy V1 v2 v3 bl hoy.bs
    have hcw := run_convert_bs wy M mm cm bl (HB.out.below HGy.out.bel)
    clear hze hzp hoy HG2
    go_wp2_with fail
    go_ret
    exact ⟨rfl, HGy.out.bel⟩
  obtain rfl : er = 0 := by rw [← HER.out]; exact r.errP_ok hok
  have hpe : px = r.enc := by rw [← HPX.out]; exact if_pos hok
  obtain ⟨hq1, hq2⟩ := r.got_put HWX.out hok
  have hlen := r.enc_len hok
  rw [← hpe] at hq1 hq2 hlen
  have HQ1 := Lib.hid hq1
  have HQ2 := Lib.hid hq2
  have HLN : Hid (n3 ≤ 10000000) := by show _ ≤ _; have := HG2.out.put.1; omega
  clear hok hpe hq1 hq2 hlen
  go_wp2_with fail
  refine (getReply_any A3 n3 cp3 px _ HG2.out.put HLN.out).mono ?_
  rintro e we ⟨Z1, z2, z3, Z4, z5, z6, rfl, hz, hze, hbz⟩
  rw [HQ1.out, HQ2.out]
  rw [HQ2.out] at hz hze
  have HG3 := Lib.hid (HG2.out.below hbz)
  have HZ2 := Lib.hid hz
  have HZE := Lib.hid hze
  have HZ5 : Hid (z5 ≤ 10000000) := by have h1 := hze.1; have h2 := HE.out.1; have h3 := HMM.out.1; show _ ≤ _; omega
  clear hz hze hbz HG2
  go_upto_region 14 with (first
    | (refine wpList_alloc_any rfl 48 rfl _ zero_Rp ?_; intro wf hbf hsf hwf)
    | (refine wpList_store_part rfl 48 (.tmp 14) (.tmp 84) rfl we.heap.size 0 (rc r (.slice Z1 z2 z3) (.slice Z4 z5 z6)) rfl rfl 48 _ hbf size_Rp (by simp [rc]) (rc_one _ _ _ _ _ _ _) ?_
       intro wg hbg hsg hkg))
  have hbw : Below we.heap.size we wg := hwf.trans (hkg.below2 (fun k hk => by omega))
  have HG4 := Lib.hid (HG3.out.below hbw)
  have HZ3 := Lib.hid (HZ2.out.below hbw)
  have HZF := Lib.hid (HZE.out.below hbw)
  have HC3 : Hid (Bw wg we.heap.size (rc r (.slice Z1 z2 z3) (.slice Z4 z5 z6)) 48) := hbg
  clear hbf hsf hwf hbg hsg hkg hbw HG3 HZ2 HZE
  generalize we.heap.size = z at *
  have HS : Hid ((fun W : World => Bw W z (rc r (.slice Z1 z2 z3) (.slice Z4 z5 z6)) 48 ∧ Bw W p (rc r (.slice A n cp) (.slice B m cq)) 48) wg.drew) := ⟨HC3.out, HG4.out.one⟩
  have HGd : Hid (G5 w p x y (rc r (.slice A n cp) (.slice B m cq)) G X1 x2 x3 X4 x5 x6 Y1 y2 y3 A3 n3 px wg.drew) := HG4.out.drew
  have HZd : Hid (BS wg.drew Z1 z2 r.dt) := HZ3.out
  have HZe : Hid (ES wg.drew Z4 z5 r.es) := HZF.out
  have HCd : Hid (Bw wg.drew z (rc r (.slice Z1 z2 z3) (.slice Z4 z5 z6)) 48) := HC3.out
  clear HG4 HZ3 HZF HC3
  refine wp_region_held_drew (S := fun W : World => Bw W z (rc r (.slice Z1 z2 z3) (.slice Z4 z5 z6)) 48 ∧ Bw W p (rc r (.slice A n cp) (.slice B m cq)) 48) (by kernel_rfl) HS.out (fun _ => ?_)
  change wpAnyH _ _ _ _ _ 10 (Array.replicate 10 false) _ _
  refine takeH (i := 0) 86 (.int .i64 0) rfl rfl (by kernel_rfl) (by kernel_rfl) (by kernel_rfl) (fun _ _ _ h => h) (.inl ⟨by rfl, fun W hW => by go_simp⟩) HS.out ?_
  simp only [Act.put, List.setIfInBounds_toArray, List.set_cons_zero, List.set_cons_succ]
  refine takeH (i := 1) 87 (.bool false) rfl rfl (by kernel_rfl) (by kernel_rfl) (by kernel_rfl) (fun _ _ _ h => h) (.inl ⟨by rfl, fun W hW => by go_simp⟩) HS.out ?_
  simp only [Act.put, List.setIfInBounds_toArray, List.set_cons_zero, List.set_cons_succ]
  refine takeH (i := 2) 88 (.bool false) rfl rfl (by kernel_rfl) (by kernel_rfl) (by kernel_rfl) (fun _ _ _ h => h) (.inl ⟨by rfl, fun W hW => by go_simp⟩) HS.out ?_
  simp only [Act.put, List.setIfInBounds_toArray, List.set_cons_zero, List.set_cons_succ]
  refine takeH (i := 3) 89 (.agg (rc r (.slice Z1 z2 z3) (.slice Z4 z5 z6)).toArray) rfl rfl (by kernel_rfl) (by kernel_rfl) (by kernel_rfl) (fun _ _ _ h => h) (.inl ⟨by rfl, fun W hW => by (exact run_load_part 48 (.tmp 14) rfl z 0 rfl _ Tryd.underlying48 rfl (rc r (.slice Z1 z2 z3) (.slice Z4 z5 z6)) 48 _ hW.1 size_Rp (fun j u hu => by rw [Nat.zero_add]; exact hu))⟩) HS.out ?_
  simp only [Act.put, List.setIfInBounds_toArray, List.set_cons_zero, List.set_cons_succ]
  refine takeH (i := 5) 91 (.agg (rc r (.slice A n cp) (.slice B m cq)).toArray) rfl rfl (by kernel_rfl) (by kernel_rfl) (by kernel_rfl) (fun _ _ _ h => h) (.inl ⟨by rfl, fun W hW => by (exact run_load_part 48 (.tmp 2) rfl p 0 rfl _ Tryd.underlying48 rfl (rc r (.slice A n cp) (.slice B m cq)) 48 _ hW.2 size_Rp (fun j u hu => by rw [Nat.zero_add]; exact hu))⟩) HS.out ?_
  simp only [Act.put, List.setIfInBounds_toArray, List.set_cons_zero, List.set_cons_succ]
  refine wpAnyH_ready (rs := [4]) (by kernel_rfl) (by simp) ?_
  refine AllReadyH.cons rfl (fun K hK => ?_) AllReadyH.nil
  go_simp
  refine (replyOf_any r Z1 z2 z3 Z4 z5 z6 _ HZd.out HZe.out HZ5.out).mono ?_
  rintro e wh ⟨U1, uc, rfl, hu, hb⟩
  have HG5 := Lib.hid (HGd.out.below hb)
  have HC5 := Lib.hid (HCd.out.below hb)
  have HU5 := Lib.hid hu
  refine hK.out _ _ ⟨HC5.out, HG5.out.one⟩ fun _ => ?_
  clear hK K hb hu HGd HCd HZd HZe HS
  refine wpAnyH_ready (rs := [6]) (by kernel_rfl) (by simp) ?_
  refine AllReadyH.cons rfl (fun K hK => ?_) AllReadyH.nil
  go_simp
  refine (replyOf_any r A n cp B m cq wh (HX.out.below HG5.out.bel) (HE.out.below HG5.out.bel) HMM.out.1).mono ?_
  rintro e wi ⟨T1, tc, rfl, ht, hb⟩
  have HG6 := Lib.hid (HG5.out.below hb)
  have HC6 := Lib.hid (HC5.out.below hb)
  have HU6 := Lib.hid (HU5.out.below hb)
  have HT6 := Lib.hid ht
  refine hK.out _ _ ⟨HC6.out, HG6.out.one⟩ fun _ => ?_
  clear hK K hb ht HG5 HC5 HU5
  refine wpAnyH_ready (rs := [7]) (by kernel_rfl) (by simp) ?_
  refine AllReadyH.cons rfl (fun K hK => ?_) AllReadyH.nil
  go_simp
  refine (refSame9_any r U1 z5 uc T1 m tc wi HU6.out HT6.out HZ5.out).mono ?_
  rintro e wj ⟨rfl, hb⟩
  have HG7 := Lib.hid (HG6.out.below hb)
  have HS6 : Hid ((fun W : World => Bw W z (rc r (.slice Z1 z2 z3) (.slice Z4 z5 z6)) 48 ∧ Bw W p (rc r (.slice A n cp) (.slice B m cq)) 48) wj) := ⟨HC6.out.below hb, HG7.out.one⟩
  refine hK.out _ _ HS6.out fun _ => ?_
  clear hK K hb HG6 HC6 HU6 HT6
  refine takeH (i := 8) 94 (.bool false) rfl rfl (by kernel_rfl) (by kernel_rfl) (by kernel_rfl) (fun _ _ _ h => h) (.inl ⟨by rfl, fun W hW => by go_simp⟩) HS6.out ?_
  simp only [Act.put, List.setIfInBounds_toArray, List.set_cons_zero, List.set_cons_succ]
  refine takeH (i := 9) 95 (.bool false) rfl rfl (by kernel_rfl) (by kernel_rfl) (by kernel_rfl) (fun _ _ _ h => h) (.inl ⟨by rfl, fun W hW => by go_simp⟩) HS6.out ?_
  simp only [Act.put, List.setIfInBounds_toArray, List.set_cons_zero, List.set_cons_succ]
  refine wpAnyH_done (by kernel_rfl) ?_ _
  clear HS6
  go_upto_region 16 with fail
  by_cases hge : ge = 0
  rotate_left
  · have hd : (ge != 0) = true := by simpa using hge
    go_wp2_with fail
    go_ret
    exact ⟨rfl, HG7.out.bel⟩
  have hd : (ge != 0) = false := by simpa using hge
  obtain ⟨hgo, hge2, hgw⟩ := HGOT.out hge
  have HGW := Lib.hid hgw
  have hze : G.errP = 0 := G.errP_ok hgo
  have hzp : G.put = bl := (show G.put = G.enc from if_pos hgo).trans hge2
  clear hge hgo hge2 hgw
  go_wp2_with (refine wpList_load_part rfl 48 (.tmp 10) rfl _ 0 rfl _ Tryd.underlying48 rfl (rc G (.slice X1 x2 x3) (.slice X4 x5 x6)) 48 _ HG7.out.two size_Rp (fun j u hu => by rw [Nat.zero_add]; exact hu) ?_)
  refine (putReply_any X1 x2 x3 X4 x5 x6 G _ HG7.out.dat HG7.out.ent HGW.out.es).mono ?_
  rintro e wy ⟨V1, v2, v3, rfl, hoy⟩
  rw [hze]
  rw [hzp] at hoy
  have HGy := Lib.hid (HG7.out.below hoy.2)
  have hcv := run_convert_bs wy V1 v2 v3 bl hoy.bs
  have hcw := run_convert_bs wy M mm cm bl (HB.out.below HGy.out.bel)
  clear hze hzp hoy HG7
  go_wp2_with fail
  go_ret
  exact ⟨rfl, HGy.out.bel⟩
end Go.Proofs.YtobhmjokoicpoaaDoor
