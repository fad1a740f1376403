/-
  The walk of the statement on any bytes (layer 11).
-/
import Derived.Test.YtbeahhijmgkfhaaLRGet
import Derived.Test.YtbeahhijmgkfhaaLOf
import Derived.Test.YtbeahhijmgkfhaaLIn
import Derived.Test.YtbeahhijmgkfhaaLPk
namespace Go.Proofs.Ytbeahhijmgkfhaa
open Go.RowKit Go.Shelf

/-- The one that was got of the bytes, the program's and the document's. -/
structure G4 (w : World) (x y : Nat) (G : Vl.Th) (X1 : Option Addr) (x2 x3 : Nat) (W : World) : Prop where
  two : Bw W x (sc G (.slice X1 x2 x3)) 26
  tri : Bw W y (sc G (.string (txt G.dt))) 34
  dat : BS W X1 x2 G.dt
  bel : Below w.heap.size w W
theorem G4.below {w W W' : World} {x y : Nat} {G : Vl.Th} {X1 : Option Addr} {x2 x3 : Nat} (h : G4 w x y G X1 x2 x3 W) (hb : Below W.heap.size W W') : G4 w x y G X1 x2 x3 W' :=
  ⟨h.two.below hb, h.tri.below hb, h.dat.below hb, h.bel.trans (hb.mono h.bel.size)⟩
theorem G4.drew {w W : World} {x y : Nat} {G : Vl.Th} {X1 : Option Addr} {x2 x3 : Nat} (h : G4 w x y G X1 x2 x3 W) : G4 w x y G X1 x2 x3 W.drew := ⟨h.two, h.tri, h.dat, h.bel.drew⟩

set_option maxRecDepth 100000 in
set_option maxHeartbeats 8000000 in
theorem gets_walk (w : World) (hp : Pk) (B : Option Addr) (m cq : Nat) (bl : List UInt8) (h2 : BS w B m bl) :
    Calls Try.prog 4 #[.slice B m cq] w fun e w' => e = .returned (.bool true) ∧ Below w.heap.size w w' := by
  have HPK := Lib.hid hp
  have HB := Lib.hid h2
  clear hp h2
  go_enter Try.func4, Try.ntmps4
  go_wp2_with fail
  refine (HPK.out.awake _).mono ?_
  rintro e w1 ⟨rfl, hb1⟩
  have HW1 := Lib.hid hb1
  clear hb1
  by_cases h0 : m ≤ 400
  rotate_left
  · have g0 : decide ((400 : Int) < (m : Int)) = true := by simp; omega
    go_wp2_with fail
    go_ret
    exact ⟨rfl, HW1.out⟩
  have g0 : decide ((400 : Int) < (m : Int)) = false := by simp; omega
  go_upto_region 6 with fail
  clear g0
  go_wp2_with fail
  refine (HPK.out.get bl B m cq w1 (HB.out.below HW1.out) (by omega)).mono ?_
  rintro e w6 ⟨X1, x2, x3, rfl, hx6, hb6⟩
  have HML : Hid (bl.length = m) := HB.out.1
  have HGOT : Hid (Sl.err bl = 0 → Sl.okS (Sl.got bl) = true ∧ Sl.enc (Sl.got bl) = bl ∧ (Sl.got bl).Wide) := Sl.got_back bl
  have HREF := fun W => Lib.hid (refGetS_any bl W)
  generalize Sl.got bl = G at *
  generalize Sl.err bl = ge at *
  have HW6 := Lib.hid (HW1.out.trans (hb6.mono HW1.out.size))
  have HX6 := Lib.hid hx6
  clear hb6 hx6 HW1
  go_upto_region 7 with (first
    | (refine wpList_alloc_any rfl 26 rfl _ zero_Sl ?_; intro w7 hb7 hs7 hw7)
    | (refine wpList_store_part rfl 26 (.tmp 4) (.tmp 19) rfl w6.heap.size 0 (sc G (.slice X1 x2 x3)) rfl rfl 26 _ hb7 size_Sl (by simp [sc]) (sc_row _ _ _ _) ?_
       intro w8 hb8 hs8 hk8))
  have hbw : Below w6.heap.size w6 w8 := hw7.trans (hk8.below2 (fun k hk => by omega))
  have HW8 := Lib.hid (HW6.out.trans (hbw.mono HW6.out.size))
  have HX8 := Lib.hid (HX6.out.below hbw)
  have HC8 : Hid (Bw w8 w6.heap.size (sc G (.slice X1 x2 x3)) 26) := hb8
  clear hb7 hs7 hw7 hb8 hs8 hk8 hbw HW6 HX6
  generalize w6.heap.size = x at *
  have hcb := run_convert_bs w8 B m cq bl (HB.out.below HW8.out)
  go_wp2_with fail
  refine ((HREF w8).out).mono ?_
  rintro e w9 ⟨rfl, hb9⟩
  have HW9 := Lib.hid (HW8.out.trans (hb9.mono HW8.out.size))
  have HX9 := Lib.hid (HX8.out.below hb9)
  have HC9 := Lib.hid (HC8.out.below hb9)
  clear hb9 HW8 HX8 HC8 HREF hcb
  go_upto_region 8 with (first
    | (refine wpList_alloc_any rfl 34 rfl _ zero_S11 ?_; intro wa hba hsa hwa)
    | (refine wpList_store_part rfl 34 (.tmp 6) (.tmp 25) rfl w9.heap.size 0 (sc G (.string (txt G.dt))) rfl rfl 34 _ hba size_S11 (by simp [sc]) (sc_str _ _) ?_
       intro wb hbb hsb hkb))
  have hbw : Below w9.heap.size w9 wb := hwa.trans (hkb.below2 (fun k hk => by omega))
  have HG0 : Hid (G4 w x w9.heap.size G X1 x2 x3 wb) := ⟨HC9.out.below hbw, hbb, HX9.out.below hbw, HW9.out.trans (hbw.mono HW9.out.size)⟩
  clear hba hsa hwa hbb hsb hkb hbw HW9 HX9 HC9
  generalize w9.heap.size = y at *
  have heq := sNe G G
  rw [decide_eq_true rfl] at heq
  have HS : Hid ((fun W : World => Bw W x (sc G (.slice X1 x2 x3)) 26 ∧ Bw W y (sc G (.string (txt G.dt))) 34) wb.drew) := ⟨HG0.out.drew.two, HG0.out.drew.tri⟩
  refine wp_region_held_drew (S := fun W : World => Bw W x (sc G (.slice X1 x2 x3)) 26 ∧ Bw W y (sc G (.string (txt G.dt))) 34) (by kernel_rfl) HS.out (fun _ => ?_)
  change wpAnyH _ _ _ _ _ 9 (Array.replicate 9 false) _ _
  refine takeH (i := 0) 27 (.int .i64 ge) rfl rfl (by kernel_rfl) (by kernel_rfl) (by kernel_rfl) (fun _ _ _ h => h) (.inl ⟨by rfl, fun W hW => by go_simp⟩) HS.out ?_
  simp only [Act.put, List.setIfInBounds_toArray, List.set_cons_zero, List.set_cons_succ]
  refine takeH (i := 1) 28 (.int .i64 ge) rfl rfl (by kernel_rfl) (by kernel_rfl) (by kernel_rfl) (fun _ _ _ h => h) (.inl ⟨by rfl, fun W hW => by go_simp⟩) HS.out ?_
  simp only [Act.put, List.setIfInBounds_toArray, List.set_cons_zero, List.set_cons_succ]
  refine takeH (i := 2) 29 (.bool false) rfl rfl (by kernel_rfl) (by kernel_rfl) (by kernel_rfl) (fun _ _ _ h => h) (.inl ⟨by rfl, fun W hW => by go_simp⟩) HS.out ?_
  simp only [Act.put, List.setIfInBounds_toArray, List.set_cons_zero, List.set_cons_succ]
  refine takeH (i := 3) 30 (.bool false) rfl rfl (by kernel_rfl) (by kernel_rfl) (by kernel_rfl) (fun _ _ _ h => h) (.inl ⟨by rfl, fun W hW => by go_simp⟩) HS.out ?_
  simp only [Act.put, List.setIfInBounds_toArray, List.set_cons_zero, List.set_cons_succ]
  refine takeH (i := 4) 31 (.agg (sc G (.slice X1 x2 x3)).toArray) rfl rfl (by kernel_rfl) (by kernel_rfl) (by kernel_rfl) (fun _ _ _ h => h) (.inl ⟨by rfl, fun W hW => by (exact run_load_part 26 (.tmp 4) rfl x 0 rfl _ Try.underlying26 rfl (sc G (.slice X1 x2 x3)) 26 _ hW.1 size_Sl (fun j u hu => by rw [Nat.zero_add]; exact hu))⟩) HS.out ?_
  simp only [Act.put, List.setIfInBounds_toArray, List.set_cons_zero, List.set_cons_succ]
  refine takeH (i := 6) 33 (.agg (sc G (.string (txt G.dt))).toArray) rfl rfl (by kernel_rfl) (by kernel_rfl) (by kernel_rfl) (fun _ _ _ h => h) (.inl ⟨by rfl, fun W hW => by (exact run_load_part 34 (.tmp 6) rfl y 0 rfl _ Try.underlying34 rfl (sc G (.string (txt G.dt))) 34 _ hW.2 size_S11 (fun j u hu => by rw [Nat.zero_add]; exact hu))⟩) HS.out ?_
  simp only [Act.put, List.setIfInBounds_toArray, List.set_cons_zero, List.set_cons_succ]
  refine wpAnyH_ready (rs := [5]) (by kernel_rfl) (by simp) ?_
  refine AllReadyH.cons rfl (fun K hK => ?_) AllReadyH.nil
  go_simp
  refine (slotOf_any G X1 x2 x3 _ HG0.out.drew.dat).mono ?_
  rintro e wc ⟨rfl, hb⟩
  have HG1 := Lib.hid (HG0.out.drew.below hb)
  have HS1 : Hid ((fun W : World => Bw W x (sc G (.slice X1 x2 x3)) 26 ∧ Bw W y (sc G (.string (txt G.dt))) 34) wc) := ⟨HG1.out.two, HG1.out.tri⟩
  refine hK.out _ _ HS1.out fun _ => ?_
  clear hK K hb HS HG0
  refine takeH (i := 7) 34 (.bool false) rfl rfl (by kernel_rfl) (by kernel_rfl) (by kernel_rfl) (fun _ _ _ h => h) (.inl ⟨by rfl, fun W hW => by go_simp⟩) HS1.out ?_
  simp only [Act.put, List.setIfInBounds_toArray, List.set_cons_zero, List.set_cons_succ]
  refine takeH (i := 8) 35 (.bool false) rfl rfl (by kernel_rfl) (by kernel_rfl) (by kernel_rfl) (fun _ _ _ h => h) (.inl ⟨by rfl, fun W hW => by go_simp⟩) HS1.out ?_
  simp only [Act.put, List.setIfInBounds_toArray, List.set_cons_zero, List.set_cons_succ]
  refine wpAnyH_done (by kernel_rfl) ?_ _
  clear heq HS1
  go_upto_region 10 with fail
  by_cases hge : ge = 0
  rotate_left
  · have hd : (ge != 0) = true := by simpa using hge
    go_wp2_with fail
    go_ret
    exact ⟨rfl, HG1.out.bel⟩
  have hd : (ge != 0) = false := by simpa using hge
  obtain ⟨hgo, hge2, hgw⟩ := HGOT.out hge
  have hze : Sl.chkS G = 0 := if_pos hgo
  have hzp : Sl.put G = bl := (show Sl.put G = Sl.enc G from if_pos hgo).trans hge2
  have HFT : Hid (Fits G) := Fits.of_ok hgo hgw
  have HX2 : Hid (x2 ≤ 1000) := by
    have h1 := HG1.out.dat.1
    have h2 := (Vl.okB_facts hgo).2.2
    show _ ≤ _
    omega
  clear hge hgo hge2 hgw HGOT
  go_wp2_with (refine wpList_load_part rfl 26 (.tmp 4) rfl _ 0 rfl _ Try.underlying26 rfl (sc G (.slice X1 x2 x3)) 26 _ HG1.out.two size_Sl (fun j u hu => by rw [Nat.zero_add]; exact hu) ?_)
  refine (HPK.out.put G X1 x2 x3 _ HFT.out HG1.out.dat HX2.out).mono ?_
  rintro e wy ⟨Y1, y2, y3, rfl, hoy⟩
  rw [hze]
  rw [hzp] at hoy
  have HGy := Lib.hid (HG1.out.below hoy.2)
  have hcv := run_convert_bs wy Y1 y2 y3 bl hoy.bs
  have hcw := run_convert_bs wy B m cq bl (HB.out.below HGy.out.bel)
  clear hze hzp hoy HG1
  go_wp2_with fail
  go_ret
  exact ⟨rfl, HGy.out.bel⟩
end Go.Proofs.Ytbeahhijmgkfhaa
