/-
  The walk of the statement on what is put (layer 11).
-/
import Derived.Test.YtbeahhijmgkfhaaLRPut
import Derived.Test.YtbeahhijmgkfhaaLOf
import Derived.Test.YtbeahhijmgkfhaaLIn
import Derived.Test.YtbeahhijmgkfhaaLPk
namespace Go.Proofs.Ytbeahhijmgkfhaa
open Go.RowKit Go.Shelf

/-- Both, the handle, and what was put. -/
structure G5 (w : World) (p q h : Nat) (cs ds hs : List Value) (A3 : Option Addr) (n3 : Nat) (L : List UInt8) (W : World) : Prop where
  one : Bw W p cs 26
  two : Bw W q ds 26
  hdl : Bw W h hs 37
  put : BS W A3 n3 L
  bel : Below w.heap.size w W
theorem G5.below {w W W' : World} {p q h : Nat} {cs ds hs : List Value} {A3 : Option Addr} {n3 : Nat} {L : List UInt8} (g : G5 w p q h cs ds hs A3 n3 L W) (hb : Below W.heap.size W W') : G5 w p q h cs ds hs A3 n3 L W' :=
  ⟨g.one.below hb, g.two.below hb, g.hdl.below hb, g.put.below hb, g.bel.trans (hb.mono g.bel.size)⟩
theorem G5.drew {w W : World} {p q h : Nat} {cs ds hs : List Value} {A3 : Option Addr} {n3 : Nat} {L : List UInt8} (g : G5 w p q h cs ds hs A3 n3 L W) : G5 w p q h cs ds hs A3 n3 L W.drew := ⟨g.one, g.two, g.hdl, g.put, g.bel.drew⟩

set_option maxRecDepth 100000 in
set_option maxHeartbeats 8000000 in
theorem puts_walk (w : World) (hp : Pk) (v1 v2 : Value) (c : Vl.Th) (A : Option Addr) (n cp : Nat) (d : Vl.Th) (B : Option Addr) (m cq : Nat) (h1 : SI w v1 c A n cp) (h2 : SI w v2 d B m cq) :
    Calls Try.prog 3 #[v1, v2] w fun e w' => e = .returned (.bool true) ∧ Below w.heap.size w w' := by
  obtain ⟨rfl, hx, hw, hfew⟩ := h1
  obtain ⟨rfl, hy, hv, hfew2⟩ := h2
  have HPK := Lib.hid hp
  have HX := Lib.hid hx
  have HY := Lib.hid hy
  have HWX := Lib.hid hw
  clear hp hx hy hw hv hfew hfew2
  have HB0 : Hid (Bw ((w.alloc (.cells (sc c (.slice A n cp)).toArray 26)).alloc (.cells (sc d (.slice B m cq)).toArray 26)) w.heap.size (sc c (.slice A n cp)) 26) := (Below.heap_alloc _ _ _ (by simp)).trans (heap_alloc_new w _)
  have HD0 : Hid (Bw ((w.alloc (.cells (sc c (.slice A n cp)).toArray 26)).alloc (.cells (sc d (.slice B m cq)).toArray 26)) (w.heap.size + 1) (sc d (.slice B m cq)) 26) := by
    have := heap_alloc_new (w.alloc (.cells (sc c (.slice A n cp)).toArray 26)) (.cells (sc d (.slice B m cq)).toArray 26)
    show Bw _ _ _ _
    unfold Bw
    simpa using this
  have HW0 : Hid (Below w.heap.size w ((w.alloc (.cells (sc c (.slice A n cp)).toArray 26)).alloc (.cells (sc d (.slice B m cq)).toArray 26))) := ((Below.refl _ _).alloc (Nat.le_refl _) _).alloc (by simp) _
  go_enter Try.func3, Try.ntmps3
  go_wp2_with fail
  refine (HPK.out.awake _).mono ?_
  rintro e w1 ⟨rfl, hb1⟩
  have HB1 := Lib.hid (HB0.out.below hb1)
  have HD1 := Lib.hid (HD0.out.below hb1)
  have HW1 := Lib.hid (HW0.out.trans (hb1.mono HW0.out.size))
  clear hb1 HB0 HD0 HW0
  generalize hq : w.heap.size + 1 = q at *
  clear hq
  generalize hbb : w.heap.size = p at HB1 ⊢
  clear hbb
  have e8 := HB1.out.cell 8 _ rfl
  have f8 := HD1.out.cell 8 _ rfl
  by_cases g1 : n > 900
  · have hd : decide ((900 : Int) < (n : Int)) = true := by simp; omega
    go_wp2_with fail
    go_ret
    exact ⟨rfl, HW1.out⟩
  have hd : decide ((900 : Int) < (n : Int)) = false := by simp; omega
  by_cases g2 : m > 900
  · have he : decide ((900 : Int) < (m : Int)) = true := by simp; omega
    go_wp2_with fail
    go_ret
    exact ⟨rfl, HW1.out⟩
  have he : decide ((900 : Int) < (m : Int)) = false := by simp; omega
  have HNF : Hid (n ≤ 1000) := by show _ ≤ _; omega
  have HMF : Hid (m ≤ 1000) := by show _ ≤ _; omega
  go_upto_region 6 with fail
  clear hd he e8 f8 g1 g2
  go_wp2_with (refine wpList_load_part rfl 26 (.tmp 2) rfl _ 0 rfl _ Try.underlying26 rfl (sc c (.slice A n cp)) 26 _ HB1.out size_Sl (fun j u hu => by rw [Nat.zero_add]; exact hu) ?_)
  refine (HPK.out.put c A n cp _ HWX.out (HX.out.below HW1.out) HNF.out).mono ?_
  rintro e w3 ⟨A3, n3, cp3, rfl, ho3⟩
  have HB3 := Lib.hid (HB1.out.below ho3.2)
  have HD3 := Lib.hid (HD1.out.below ho3.2)
  have HW3 := Lib.hid (HW1.out.trans (ho3.2.mono HW1.out.size))
  have HP3 := Lib.hid ho3.bs
  clear ho3 HB1 HD1 HW1
  go_wp2_with (refine wpList_load_part rfl 26 (.tmp 2) rfl _ 0 rfl _ Try.underlying26 rfl (sc c (.slice A n cp)) 26 _ HB3.out size_Sl (fun j u hu => by rw [Nat.zero_add]; exact hu) ?_)
  refine (slotOf_any c A n cp _ (HX.out.below HW3.out)).mono ?_
  rintro e w4 ⟨rfl, hb4⟩
  have HB4 := Lib.hid (HB3.out.below hb4)
  have HD4 := Lib.hid (HD3.out.below hb4)
  have HW4 := Lib.hid (HW3.out.trans (hb4.mono HW3.out.size))
  have HP4 := Lib.hid (HP3.out.below hb4)
  clear hb4 HB3 HD3 HW3 HP3
  go_wp2_with fail
  refine (refPutS_any c w4 HWX.out).mono ?_
  rintro e w5 ⟨rfl, hb5⟩
  have HB5 := Lib.hid (HB4.out.below hb5)
  have HD5 := Lib.hid (HD4.out.below hb5)
  have HW5 := Lib.hid (HW4.out.trans (hb5.mono HW4.out.size))
  have HP5 := Lib.hid (HP4.out.below hb5)
  clear hb5 HB4 HD4 HW4 HP4
  go_wp2_with (refine wpList_load_part rfl 26 (.tmp 2) rfl _ 0 rfl _ Try.underlying26 rfl (sc c (.slice A n cp)) 26 _ HB5.out size_Sl (fun j u hu => by rw [Nat.zero_add]; exact hu) ?_)
  refine (HPK.out.handle c _ w5).mono ?_
  rintro e w6 ⟨rfl, hb6⟩
  have HB6 := Lib.hid (HB5.out.below hb6)
  have HD6 := Lib.hid (HD5.out.below hb6)
  have HW6 := Lib.hid (HW5.out.trans (hb6.mono HW5.out.size))
  have HP6 := Lib.hid (HP5.out.below hb6)
  clear hb6 HB5 HD5 HW5 HP5
  go_upto_region 9 with (first
    | (refine wpList_alloc_any rfl 37 rfl _ zero_H ?_; intro w7 hb7 hs7 hw7)
    | (refine wpList_store_part rfl 37 (.tmp 10) (.tmp 38) rfl w6.heap.size 0 (hc c.ino c.gen) rfl rfl 37 _ hb7 size_H (by simp [hc]) (hc_one _ _) ?_
       intro w8 hb8 hs8 hk8))
  have hbw : Below w6.heap.size w6 w8 := hw7.trans (hk8.below2 (fun k hk => by omega))
  have HG0 : Hid (G5 w p q w6.heap.size (sc c (.slice A n cp)) (sc d (.slice B m cq)) (hc c.ino c.gen) A3 n3 (Sl.put c) w8) := ⟨HB6.out.below hbw, HD6.out.below hbw, hb8, HP6.out.below hbw, HW6.out.trans (hbw.mono HW6.out.size)⟩
  clear hb7 hs7 hw7 hb8 hs8 hk8 hbw HB6 HD6 HW6 HP6
  generalize w6.heap.size = h at *
  obtain ⟨z, hz⟩ : ∃ z, decide (c = d) = z := ⟨_, rfl⟩
  have HZ := Lib.hid hz
  clear hz
  have heq := sEq c d
  rw [HZ.out] at heq
  obtain ⟨er, her⟩ : ∃ z, Sl.chkS c = z := ⟨_, rfl⟩
  obtain ⟨px, hpx⟩ : ∃ z, Sl.put c = z := ⟨_, rfl⟩
  have HER := Lib.hid her
  have HPX := Lib.hid hpx
  rw [her]
  rw [hpx] at HG0
  rw [hpx]
  clear her hpx
  have HGd : Hid (G5 w p q h (sc c (.slice A n cp)) (sc d (.slice B m cq)) (hc c.ino c.gen) A3 n3 px w8.drew) := HG0.out.drew
  have HSd : Hid ((fun W : World => Bw W p (sc c (.slice A n cp)) 26 ∧ Bw W q (sc d (.slice B m cq)) 26 ∧ Bw W h (hc c.ino c.gen) 37 ∧ (convert 24 9 (.slice A3 n3 cp3)).run Try.prog W = .ok (.string (txt px)) W) w8.drew) := ⟨HGd.out.one, HGd.out.two, HGd.out.hdl, run_convert_bs _ _ _ _ _ HGd.out.put⟩
  clear HG0
  refine wp_region_held_drew (S := fun W : World => Bw W p (sc c (.slice A n cp)) 26 ∧ Bw W q (sc d (.slice B m cq)) 26 ∧ Bw W h (hc c.ino c.gen) 37 ∧ (convert 24 9 (.slice A3 n3 cp3)).run Try.prog W = .ok (.string (txt px)) W) (by kernel_rfl) HSd.out (fun _ => ?_)
  change wpAnyH _ _ _ _ _ 48 (Array.replicate 48 false) _ _
  refine takeH (i := 0) 39 (.agg (sc c (.slice A n cp)).toArray) rfl rfl (by kernel_rfl) (by kernel_rfl) (by kernel_rfl) (fun _ _ _ h => h) (.inl ⟨by rfl, fun W hW => by (exact run_load_part 26 (.tmp 2) rfl p 0 rfl _ Try.underlying26 rfl (sc c (.slice A n cp)) 26 _ hW.1 size_Sl (fun j u hu => by rw [Nat.zero_add]; exact hu))⟩) HSd.out ?_
  simp only [Act.put, List.setIfInBounds_toArray, List.set_cons_zero, List.set_cons_succ]
  refine takeH (i := 2) 41 (.agg (sc c (.slice A n cp)).toArray) rfl rfl (by kernel_rfl) (by kernel_rfl) (by kernel_rfl) (fun _ _ _ h => h) (.inl ⟨by rfl, fun W hW => by (exact run_load_part 26 (.tmp 2) rfl p 0 rfl _ Try.underlying26 rfl (sc c (.slice A n cp)) 26 _ hW.1 size_Sl (fun j u hu => by rw [Nat.zero_add]; exact hu))⟩) HSd.out ?_
  simp only [Act.put, List.setIfInBounds_toArray, List.set_cons_zero, List.set_cons_succ]
  refine wpAnyH_ready (rs := [1]) (by kernel_rfl) (by simp) ?_
  refine AllReadyH.cons rfl (fun K hK => ?_) AllReadyH.nil
  go_simp
  refine (HPK.out.check c A n cp _ HWX.out (HX.out.below HGd.out.bel) HNF.out).mono ?_
  rintro e y1 ⟨rfl, hb⟩
  have HG1 := Lib.hid (HGd.out.below hb)
  have HS1 : Hid ((fun W : World => Bw W p (sc c (.slice A n cp)) 26 ∧ Bw W q (sc d (.slice B m cq)) 26 ∧ Bw W h (hc c.ino c.gen) 37 ∧ (convert 24 9 (.slice A3 n3 cp3)).run Try.prog W = .ok (.string (txt px)) W) y1) := ⟨HG1.out.one, HG1.out.two, HG1.out.hdl, run_convert_bs _ _ _ _ _ HG1.out.put⟩
  refine hK.out _ _ HS1.out fun _ => ?_
  clear hK K hb HGd HSd
  rw [HER.out]
  refine wpAnyH_ready (rs := [3]) (by kernel_rfl) (by simp) ?_
  refine AllReadyH.cons rfl (fun K hK => ?_) AllReadyH.nil
  go_simp
  refine (slotOf_any c A n cp _ (HX.out.below HG1.out.bel)).mono ?_
  rintro e y2 ⟨rfl, hb⟩
  have HG2 := Lib.hid (HG1.out.below hb)
  have HS2 : Hid ((fun W : World => Bw W p (sc c (.slice A n cp)) 26 ∧ Bw W q (sc d (.slice B m cq)) 26 ∧ Bw W h (hc c.ino c.gen) 37 ∧ (convert 24 9 (.slice A3 n3 cp3)).run Try.prog W = .ok (.string (txt px)) W) y2) := ⟨HG2.out.one, HG2.out.two, HG2.out.hdl, run_convert_bs _ _ _ _ _ HG2.out.put⟩
  refine hK.out _ _ HS2.out fun _ => ?_
  clear hK K hb HG1 HS1
  refine wpAnyH_ready (rs := [4]) (by kernel_rfl) (by simp) ?_
  refine AllReadyH.cons rfl (fun K hK => ?_) AllReadyH.nil
  go_simp
  refine (refCheckS_any c _).mono ?_
  rintro e y3 ⟨rfl, hb⟩
  have HG3 := Lib.hid (HG2.out.below hb)
  have HS3 : Hid ((fun W : World => Bw W p (sc c (.slice A n cp)) 26 ∧ Bw W q (sc d (.slice B m cq)) 26 ∧ Bw W h (hc c.ino c.gen) 37 ∧ (convert 24 9 (.slice A3 n3 cp3)).run Try.prog W = .ok (.string (txt px)) W) y3) := ⟨HG3.out.one, HG3.out.two, HG3.out.hdl, run_convert_bs _ _ _ _ _ HG3.out.put⟩
  refine hK.out _ _ HS3.out fun _ => ?_
  clear hK K hb HG2 HS2
  rw [HER.out]
  refine takeH (i := 5) 44 (.bool false) rfl rfl (by kernel_rfl) (by kernel_rfl) (by kernel_rfl) (fun _ _ _ h => h) (.inl ⟨by rfl, fun W hW => by go_simp⟩) HS3.out ?_
  simp only [Act.put, List.setIfInBounds_toArray, List.set_cons_zero, List.set_cons_succ]
  refine takeH (i := 6) 45 (.bool false) rfl rfl (by kernel_rfl) (by kernel_rfl) (by kernel_rfl) (fun _ _ _ h => h) (.inl ⟨by rfl, fun W hW => by go_simp⟩) HS3.out ?_
  simp only [Act.put, List.setIfInBounds_toArray, List.set_cons_zero, List.set_cons_succ]
  refine takeH (i := 7) 46 (.slice A3 n3 cp3) rfl rfl (by kernel_rfl) (by kernel_rfl) (by kernel_rfl) (fun _ _ _ h => h) (.inl ⟨by rfl, fun W hW => by go_simp⟩) HS3.out ?_
  simp only [Act.put, List.setIfInBounds_toArray, List.set_cons_zero, List.set_cons_succ]
  refine takeH (i := 8) 47 (.string (txt px)) rfl rfl (by kernel_rfl) (by kernel_rfl) (by kernel_rfl) (fun _ _ _ h => h) (.inl ⟨by rfl, fun W hW => by (obtain ⟨_, _, _, hc⟩ := hW; go_simp)⟩) HS3.out ?_
  simp only [Act.put, List.setIfInBounds_toArray, List.set_cons_zero, List.set_cons_succ]
  refine takeH (i := 9) 48 (.string (txt px)) rfl rfl (by kernel_rfl) (by kernel_rfl) (by kernel_rfl) (fun _ _ _ h => h) (.inl ⟨by rfl, fun W hW => by go_simp⟩) HS3.out ?_
  simp only [Act.put, List.setIfInBounds_toArray, List.set_cons_zero, List.set_cons_succ]
  refine takeH (i := 10) 49 (.bool false) rfl rfl (by kernel_rfl) (by kernel_rfl) (by kernel_rfl) (fun _ _ _ h => h) (.inl ⟨by rfl, fun W hW => by go_simp⟩) HS3.out ?_
  simp only [Act.put, List.setIfInBounds_toArray, List.set_cons_zero, List.set_cons_succ]
  refine takeH (i := 11) 50 (.bool false) rfl rfl (by kernel_rfl) (by kernel_rfl) (by kernel_rfl) (fun _ _ _ h => h) (.inl ⟨by rfl, fun W hW => by go_simp⟩) HS3.out ?_
  simp only [Act.put, List.setIfInBounds_toArray, List.set_cons_zero, List.set_cons_succ]
  refine takeH (i := 12) 51 (.bool false) rfl rfl (by kernel_rfl) (by kernel_rfl) (by kernel_rfl) (fun _ _ _ h => h) (.inl ⟨by rfl, fun W hW => by go_simp⟩) HS3.out ?_
  simp only [Act.put, List.setIfInBounds_toArray, List.set_cons_zero, List.set_cons_succ]
  refine takeH (i := 13) 52 (.int .i64 er) rfl rfl (by kernel_rfl) (by kernel_rfl) (by kernel_rfl) (fun _ _ _ h => h) (.inl ⟨by rfl, fun W hW => by go_simp⟩) HS3.out ?_
  simp only [Act.put, List.setIfInBounds_toArray, List.set_cons_zero, List.set_cons_succ]
  refine takeH (i := 14) 53 (.int .i64 er) rfl rfl (by kernel_rfl) (by kernel_rfl) (by kernel_rfl) (fun _ _ _ h => h) (.inl ⟨by rfl, fun W hW => by go_simp⟩) HS3.out ?_
  simp only [Act.put, List.setIfInBounds_toArray, List.set_cons_zero, List.set_cons_succ]
  refine takeH (i := 15) 54 (.bool false) rfl rfl (by kernel_rfl) (by kernel_rfl) (by kernel_rfl) (fun _ _ _ h => h) (.inl ⟨by rfl, fun W hW => by go_simp⟩) HS3.out ?_
  simp only [Act.put, List.setIfInBounds_toArray, List.set_cons_zero, List.set_cons_succ]
  refine takeH (i := 16) 55 (.bool false) rfl rfl (by kernel_rfl) (by kernel_rfl) (by kernel_rfl) (fun _ _ _ h => h) (.inl ⟨by rfl, fun W hW => by go_simp⟩) HS3.out ?_
  simp only [Act.put, List.setIfInBounds_toArray, List.set_cons_zero, List.set_cons_succ]
  refine takeH (i := 17) 56 (.bool false) rfl rfl (by kernel_rfl) (by kernel_rfl) (by kernel_rfl) (fun _ _ _ h => h) (.inl ⟨by rfl, fun W hW => by go_simp⟩) HS3.out ?_
  simp only [Act.put, List.setIfInBounds_toArray, List.set_cons_zero, List.set_cons_succ]
  refine takeH (i := 18) 57 (.pointer (some ⟨h, 0, none⟩)) rfl rfl (by kernel_rfl) (by kernel_rfl) (by kernel_rfl) (fun _ _ _ h => h) (.inl ⟨by rfl, fun W hW => by go_simp⟩) HS3.out ?_
  simp only [Act.put, List.setIfInBounds_toArray, List.set_cons_zero, List.set_cons_succ]
  refine takeH (i := 19) 58 (.int .u32 (c.ino : Int)) rfl rfl (by kernel_rfl) (by kernel_rfl) (by kernel_rfl) (fun _ _ _ h => h) (.inl ⟨by rfl, fun W hW => by (have hz := hW.2.2.1.cell 0 _ rfl; go_simp)⟩) HS3.out ?_
  simp only [Act.put, List.setIfInBounds_toArray, List.set_cons_zero, List.set_cons_succ]
  refine takeH (i := 20) 59 (.pointer (some ⟨p, 0, none⟩)) rfl rfl (by kernel_rfl) (by kernel_rfl) (by kernel_rfl) (fun _ _ _ h => h) (.inl ⟨by rfl, fun W hW => by go_simp⟩) HS3.out ?_
  simp only [Act.put, List.setIfInBounds_toArray, List.set_cons_zero, List.set_cons_succ]
  refine takeH (i := 21) 60 (.int .u32 (c.ino : Int)) rfl rfl (by kernel_rfl) (by kernel_rfl) (by kernel_rfl) (fun _ _ _ h => h) (.inl ⟨by rfl, fun W hW => by (have hz := hW.1.cell 0 _ rfl; go_simp)⟩) HS3.out ?_
  simp only [Act.put, List.setIfInBounds_toArray, List.set_cons_zero, List.set_cons_succ]
  refine takeH (i := 22) 61 (.bool false) rfl rfl (by kernel_rfl) (by kernel_rfl) (by kernel_rfl) (fun _ _ _ h => h) (.inl ⟨by rfl, fun W hW => by go_simp⟩) HS3.out ?_
  simp only [Act.put, List.setIfInBounds_toArray, List.set_cons_zero, List.set_cons_succ]
  refine takeH (i := 23) 62 (.bool false) rfl rfl (by kernel_rfl) (by kernel_rfl) (by kernel_rfl) (fun _ _ _ h => h) (.inl ⟨by rfl, fun W hW => by go_simp⟩) HS3.out ?_
  simp only [Act.put, List.setIfInBounds_toArray, List.set_cons_zero, List.set_cons_succ]
  refine takeH (i := 24) 63 (.bool false) rfl rfl (by kernel_rfl) (by kernel_rfl) (by kernel_rfl) (fun _ _ _ h => h) (.inl ⟨by rfl, fun W hW => by go_simp⟩) HS3.out ?_
  simp only [Act.put, List.setIfInBounds_toArray, List.set_cons_zero, List.set_cons_succ]
  refine takeH (i := 25) 64 (.pointer (some ⟨h, 1, none⟩)) rfl rfl (by kernel_rfl) (by kernel_rfl) (by kernel_rfl) (fun _ _ _ h => h) (.inl ⟨by rfl, fun W hW => by go_simp⟩) HS3.out ?_
  simp only [Act.put, List.setIfInBounds_toArray, List.set_cons_zero, List.set_cons_succ]
  refine takeH (i := 26) 65 (.int .u32 (c.gen : Int)) rfl rfl (by kernel_rfl) (by kernel_rfl) (by kernel_rfl) (fun _ _ _ h => h) (.inl ⟨by rfl, fun W hW => by (have hz := hW.2.2.1.cell 1 _ rfl; go_simp)⟩) HS3.out ?_
  simp only [Act.put, List.setIfInBounds_toArray, List.set_cons_zero, List.set_cons_succ]
  refine takeH (i := 27) 66 (.pointer (some ⟨p, 2, none⟩)) rfl rfl (by kernel_rfl) (by kernel_rfl) (by kernel_rfl) (fun _ _ _ h => h) (.inl ⟨by rfl, fun W hW => by go_simp⟩) HS3.out ?_
  simp only [Act.put, List.setIfInBounds_toArray, List.set_cons_zero, List.set_cons_succ]
  refine takeH (i := 28) 67 (.int .u32 (c.gen : Int)) rfl rfl (by kernel_rfl) (by kernel_rfl) (by kernel_rfl) (fun _ _ _ h => h) (.inl ⟨by rfl, fun W hW => by (have hz := hW.1.cell 2 _ rfl; go_simp)⟩) HS3.out ?_
  simp only [Act.put, List.setIfInBounds_toArray, List.set_cons_zero, List.set_cons_succ]
  refine takeH (i := 29) 68 (.bool false) rfl rfl (by kernel_rfl) (by kernel_rfl) (by kernel_rfl) (fun _ _ _ h => h) (.inl ⟨by rfl, fun W hW => by go_simp⟩) HS3.out ?_
  simp only [Act.put, List.setIfInBounds_toArray, List.set_cons_zero, List.set_cons_succ]
  refine takeH (i := 30) 69 (.bool false) rfl rfl (by kernel_rfl) (by kernel_rfl) (by kernel_rfl) (fun _ _ _ h => h) (.inl ⟨by rfl, fun W hW => by go_simp⟩) HS3.out ?_
  simp only [Act.put, List.setIfInBounds_toArray, List.set_cons_zero, List.set_cons_succ]
  refine takeH (i := 31) 70 (.bool false) rfl rfl (by kernel_rfl) (by kernel_rfl) (by kernel_rfl) (fun _ _ _ h => h) (.inl ⟨by rfl, fun W hW => by go_simp⟩) HS3.out ?_
  simp only [Act.put, List.setIfInBounds_toArray, List.set_cons_zero, List.set_cons_succ]
  refine takeH (i := 32) 71 (.agg (sc c (.slice A n cp)).toArray) rfl rfl (by kernel_rfl) (by kernel_rfl) (by kernel_rfl) (fun _ _ _ h => h) (.inl ⟨by rfl, fun W hW => by (exact run_load_part 26 (.tmp 2) rfl p 0 rfl _ Try.underlying26 rfl (sc c (.slice A n cp)) 26 _ hW.1 size_Sl (fun j u hu => by rw [Nat.zero_add]; exact hu))⟩) HS3.out ?_
  simp only [Act.put, List.setIfInBounds_toArray, List.set_cons_zero, List.set_cons_succ]
  refine takeH (i := 33) 72 (.agg (sc d (.slice B m cq)).toArray) rfl rfl (by kernel_rfl) (by kernel_rfl) (by kernel_rfl) (fun _ _ _ h => h) (.inl ⟨by rfl, fun W hW => by (exact run_load_part 26 (.tmp 3) rfl q 0 rfl _ Try.underlying26 rfl (sc d (.slice B m cq)) 26 _ hW.2.1 size_Sl (fun j u hu => by rw [Nat.zero_add]; exact hu))⟩) HS3.out ?_
  simp only [Act.put, List.setIfInBounds_toArray, List.set_cons_zero, List.set_cons_succ]
  refine takeH (i := 35) 74 (.agg (sc c (.slice A n cp)).toArray) rfl rfl (by kernel_rfl) (by kernel_rfl) (by kernel_rfl) (fun _ _ _ h => h) (.inl ⟨by rfl, fun W hW => by (exact run_load_part 26 (.tmp 2) rfl p 0 rfl _ Try.underlying26 rfl (sc c (.slice A n cp)) 26 _ hW.1 size_Sl (fun j u hu => by rw [Nat.zero_add]; exact hu))⟩) HS3.out ?_
  simp only [Act.put, List.setIfInBounds_toArray, List.set_cons_zero, List.set_cons_succ]
  refine takeH (i := 37) 76 (.agg (sc d (.slice B m cq)).toArray) rfl rfl (by kernel_rfl) (by kernel_rfl) (by kernel_rfl) (fun _ _ _ h => h) (.inl ⟨by rfl, fun W hW => by (exact run_load_part 26 (.tmp 3) rfl q 0 rfl _ Try.underlying26 rfl (sc d (.slice B m cq)) 26 _ hW.2.1 size_Sl (fun j u hu => by rw [Nat.zero_add]; exact hu))⟩) HS3.out ?_
  simp only [Act.put, List.setIfInBounds_toArray, List.set_cons_zero, List.set_cons_succ]
  refine wpAnyH_ready (rs := [34]) (by kernel_rfl) (by simp) ?_
  refine AllReadyH.cons rfl (fun K hK => ?_) AllReadyH.nil
  go_simp
  refine (HPK.out.same c d A n cp B m cq _ (HX.out.below HG3.out.bel) (HY.out.below HG3.out.bel) HNF.out HMF.out).mono ?_
  rintro e y4 ⟨rfl, hb⟩
  have HG4 := Lib.hid (HG3.out.below hb)
  have HS4 : Hid ((fun W : World => Bw W p (sc c (.slice A n cp)) 26 ∧ Bw W q (sc d (.slice B m cq)) 26 ∧ Bw W h (hc c.ino c.gen) 37 ∧ (convert 24 9 (.slice A3 n3 cp3)).run Try.prog W = .ok (.string (txt px)) W) y4) := ⟨HG4.out.one, HG4.out.two, HG4.out.hdl, run_convert_bs _ _ _ _ _ HG4.out.put⟩
  refine hK.out _ _ HS4.out fun _ => ?_
  clear hK K hb HG3 HS3
  rw [HZ.out]
  refine wpAnyH_ready (rs := [36]) (by kernel_rfl) (by simp) ?_
  refine AllReadyH.cons rfl (fun K hK => ?_) AllReadyH.nil
  go_simp
  refine (slotOf_any c A n cp _ (HX.out.below HG4.out.bel)).mono ?_
  rintro e y5 ⟨rfl, hb⟩
  have HG5 := Lib.hid (HG4.out.below hb)
  have HS5 : Hid ((fun W : World => Bw W p (sc c (.slice A n cp)) 26 ∧ Bw W q (sc d (.slice B m cq)) 26 ∧ Bw W h (hc c.ino c.gen) 37 ∧ (convert 24 9 (.slice A3 n3 cp3)).run Try.prog W = .ok (.string (txt px)) W) y5) := ⟨HG5.out.one, HG5.out.two, HG5.out.hdl, run_convert_bs _ _ _ _ _ HG5.out.put⟩
  refine hK.out _ _ HS5.out fun _ => ?_
  clear hK K hb HG4 HS4
  refine wpAnyH_ready (rs := [38]) (by kernel_rfl) (by simp) ?_
  refine AllReadyH.cons rfl (fun K hK => ?_) AllReadyH.nil
  go_simp
  refine (slotOf_any d B m cq _ (HY.out.below HG5.out.bel)).mono ?_
  rintro e y6 ⟨rfl, hb⟩
  have HG6 := Lib.hid (HG5.out.below hb)
  have HS6 : Hid ((fun W : World => Bw W p (sc c (.slice A n cp)) 26 ∧ Bw W q (sc d (.slice B m cq)) 26 ∧ Bw W h (hc c.ino c.gen) 37 ∧ (convert 24 9 (.slice A3 n3 cp3)).run Try.prog W = .ok (.string (txt px)) W) y6) := ⟨HG6.out.one, HG6.out.two, HG6.out.hdl, run_convert_bs _ _ _ _ _ HG6.out.put⟩
  refine hK.out _ _ HS6.out fun _ => ?_
  clear hK K hb HG5 HS5
  refine takeH (i := 39) 78 (.bool z) rfl rfl (by kernel_rfl) (by kernel_rfl) (by kernel_rfl) (fun _ _ _ h => h) (.inl ⟨by rfl, fun W hW => by go_simp⟩) HS6.out ?_
  simp only [Act.put, List.setIfInBounds_toArray, List.set_cons_zero, List.set_cons_succ]
  refine takeH (i := 40) 79 (.bool false) rfl rfl (by kernel_rfl) (by kernel_rfl) (by kernel_rfl) (fun _ _ _ h => h) (.inl ⟨by rfl, fun W hW => by go_simp⟩) HS6.out ?_
  simp only [Act.put, List.setIfInBounds_toArray, List.set_cons_zero, List.set_cons_succ]
  refine takeH (i := 41) 80 (.bool false) rfl rfl (by kernel_rfl) (by kernel_rfl) (by kernel_rfl) (fun _ _ _ h => h) (.inl ⟨by rfl, fun W hW => by go_simp⟩) HS6.out ?_
  simp only [Act.put, List.setIfInBounds_toArray, List.set_cons_zero, List.set_cons_succ]
  refine takeH (i := 42) 81 (.bool false) rfl rfl (by kernel_rfl) (by kernel_rfl) (by kernel_rfl) (fun _ _ _ h => h) (.inl ⟨by rfl, fun W hW => by go_simp⟩) HS6.out ?_
  simp only [Act.put, List.setIfInBounds_toArray, List.set_cons_zero, List.set_cons_succ]
  refine takeH (i := 43) 82 (.agg (sc c (.slice A n cp)).toArray) rfl rfl (by kernel_rfl) (by kernel_rfl) (by kernel_rfl) (fun _ _ _ h => h) (.inl ⟨by rfl, fun W hW => by (exact run_load_part 26 (.tmp 2) rfl p 0 rfl _ Try.underlying26 rfl (sc c (.slice A n cp)) 26 _ hW.1 size_Sl (fun j u hu => by rw [Nat.zero_add]; exact hu))⟩) HS6.out ?_
  simp only [Act.put, List.setIfInBounds_toArray, List.set_cons_zero, List.set_cons_succ]
  refine takeH (i := 44) 83 (.agg (sc c (.slice A n cp)).toArray) rfl rfl (by kernel_rfl) (by kernel_rfl) (by kernel_rfl) (fun _ _ _ h => h) (.inl ⟨by rfl, fun W hW => by (exact run_load_part 26 (.tmp 2) rfl p 0 rfl _ Try.underlying26 rfl (sc c (.slice A n cp)) 26 _ hW.1 size_Sl (fun j u hu => by rw [Nat.zero_add]; exact hu))⟩) HS6.out ?_
  simp only [Act.put, List.setIfInBounds_toArray, List.set_cons_zero, List.set_cons_succ]
  refine wpAnyH_ready (rs := [45]) (by kernel_rfl) (by simp) ?_
  refine AllReadyH.cons rfl (fun K hK => ?_) AllReadyH.nil
  go_simp
  refine (HPK.out.same c c A n cp A n cp _ (HX.out.below HG6.out.bel) (HX.out.below HG6.out.bel) HNF.out HNF.out).mono ?_
  rintro e y7 ⟨rfl, hb⟩
  have HG7 := Lib.hid (HG6.out.below hb)
  have HS7 : Hid ((fun W : World => Bw W p (sc c (.slice A n cp)) 26 ∧ Bw W q (sc d (.slice B m cq)) 26 ∧ Bw W h (hc c.ino c.gen) 37 ∧ (convert 24 9 (.slice A3 n3 cp3)).run Try.prog W = .ok (.string (txt px)) W) y7) := ⟨HG7.out.one, HG7.out.two, HG7.out.hdl, run_convert_bs _ _ _ _ _ HG7.out.put⟩
  refine hK.out _ _ HS7.out fun _ => ?_
  clear hK K hb HG6 HS6
  rw [decide_eq_true rfl]
  refine takeH (i := 46) 85 (.bool false) rfl rfl (by kernel_rfl) (by kernel_rfl) (by kernel_rfl) (fun _ _ _ h => h) (.inl ⟨by rfl, fun W hW => by go_simp⟩) HS7.out ?_
  simp only [Act.put, List.setIfInBounds_toArray, List.set_cons_zero, List.set_cons_succ]
  refine takeH (i := 47) 86 (.bool false) rfl rfl (by kernel_rfl) (by kernel_rfl) (by kernel_rfl) (fun _ _ _ h => h) (.inl ⟨by rfl, fun W hW => by go_simp⟩) HS7.out ?_
  simp only [Act.put, List.setIfInBounds_toArray, List.set_cons_zero, List.set_cons_succ]
  refine wpAnyH_done (by kernel_rfl) ?_ _
  clear heq HS7
  by_cases hok : Sl.okS c = true
  rotate_left
  · have he : (er != 0) = true := by
      rw [← HER.out, show Sl.chkS c = 1 from if_neg hok]
      rfl
    clear hok
    go_wp2_with fail
    go_ret
    exact ⟨rfl, HG7.out.bel⟩
  obtain rfl : er = 0 := by rw [← HER.out]; exact if_pos hok
  have hpe : px = Sl.enc c := by rw [← HPX.out]; exact if_pos hok
  obtain ⟨hq1, hq2⟩ := Sl.got_put c HWX.out.wide hok
  have hlen := Sl.enc_len c hok
  rw [← hpe] at hq1 hq2 hlen
  have HQ1 := Lib.hid hq1
  have HQ2 := Lib.hid hq2
  have HLN : Hid (n3 ≤ 2000) := by show _ ≤ _; have := HG7.out.put.1; omega
  clear hok hpe hq1 hq2 hlen
  go_wp2_with fail
  refine (HPK.out.get px A3 n3 cp3 _ HG7.out.put HLN.out).mono ?_
  rintro e we ⟨Z1, z2, z3, rfl, hz, hbz⟩
  rw [HQ1.out, HQ2.out]
  rw [HQ2.out] at hz
  have HGe := Lib.hid (HG7.out.below hbz)
  have HZ2 := Lib.hid hz
  clear hz hbz HG7
  go_upto_region 14 with (first
    | (refine wpList_alloc_any rfl 26 rfl _ zero_Sl ?_; intro wf hbf hsf hwf)
    | (refine wpList_store_part rfl 26 (.tmp 11) (.tmp 92) rfl we.heap.size 0 (sc c (.slice Z1 z2 z3)) rfl rfl 26 _ hbf size_Sl (by simp [sc]) (sc_row _ _ _ _) ?_
       intro wg hbg hsg hkg))
  have hbw : Below we.heap.size we wg := hwf.trans (hkg.below2 (fun k hk => by omega))
  have HGg := Lib.hid (HGe.out.below hbw)
  have HZ3 := Lib.hid (HZ2.out.below hbw)
  have HC3 : Hid (Bw wg we.heap.size (sc c (.slice Z1 z2 z3)) 26) := hbg
  clear hbf hsf hwf hbg hsg hkg hbw HGe HZ2
  generalize we.heap.size = x at *
  have heq := sEq c c
  rw [decide_eq_true rfl] at heq
  have HS : Hid ((fun W : World => Bw W x (sc c (.slice Z1 z2 z3)) 26 ∧ Bw W p (sc c (.slice A n cp)) 26) wg.drew) := ⟨HC3.out, HGg.out.one⟩
  have HGh : Hid (G5 w p q h (sc c (.slice A n cp)) (sc d (.slice B m cq)) (hc c.ino c.gen) A3 n3 px wg.drew) := HGg.out.drew
  have HZh : Hid (BS wg.drew Z1 z2 c.dt) := HZ3.out
  have HCh : Hid (Bw wg.drew x (sc c (.slice Z1 z2 z3)) 26) := HC3.out
  clear HGg HZ3 HC3
  refine wp_region_held_drew (S := fun W : World => Bw W x (sc c (.slice Z1 z2 z3)) 26 ∧ Bw W p (sc c (.slice A n cp)) 26) (by kernel_rfl) HS.out (fun _ => ?_)
  change wpAnyH _ _ _ _ _ 10 (Array.replicate 10 false) _ _
  refine takeH (i := 0) 94 (.int .i64 0) rfl rfl (by kernel_rfl) (by kernel_rfl) (by kernel_rfl) (fun _ _ _ h => h) (.inl ⟨by rfl, fun W hW => by go_simp⟩) HS.out ?_
  simp only [Act.put, List.setIfInBounds_toArray, List.set_cons_zero, List.set_cons_succ]
  refine takeH (i := 1) 95 (.bool true) rfl rfl (by kernel_rfl) (by kernel_rfl) (by kernel_rfl) (fun _ _ _ h => h) (.inl ⟨by rfl, fun W hW => by go_simp⟩) HS.out ?_
  simp only [Act.put, List.setIfInBounds_toArray, List.set_cons_zero, List.set_cons_succ]
  refine takeH (i := 2) 96 (.bool true) rfl rfl (by kernel_rfl) (by kernel_rfl) (by kernel_rfl) (fun _ _ _ h => h) (.inl ⟨by rfl, fun W hW => by go_simp⟩) HS.out ?_
  simp only [Act.put, List.setIfInBounds_toArray, List.set_cons_zero, List.set_cons_succ]
  refine takeH (i := 3) 97 (.agg (sc c (.slice Z1 z2 z3)).toArray) rfl rfl (by kernel_rfl) (by kernel_rfl) (by kernel_rfl) (fun _ _ _ h => h) (.inl ⟨by rfl, fun W hW => by (exact run_load_part 26 (.tmp 11) rfl x 0 rfl _ Try.underlying26 rfl (sc c (.slice Z1 z2 z3)) 26 _ hW.1 size_Sl (fun j u hu => by rw [Nat.zero_add]; exact hu))⟩) HS.out ?_
  simp only [Act.put, List.setIfInBounds_toArray, List.set_cons_zero, List.set_cons_succ]
  refine takeH (i := 5) 99 (.agg (sc c (.slice A n cp)).toArray) rfl rfl (by kernel_rfl) (by kernel_rfl) (by kernel_rfl) (fun _ _ _ h => h) (.inl ⟨by rfl, fun W hW => by (exact run_load_part 26 (.tmp 2) rfl p 0 rfl _ Try.underlying26 rfl (sc c (.slice A n cp)) 26 _ hW.2 size_Sl (fun j u hu => by rw [Nat.zero_add]; exact hu))⟩) HS.out ?_
  simp only [Act.put, List.setIfInBounds_toArray, List.set_cons_zero, List.set_cons_succ]
  refine wpAnyH_ready (rs := [4]) (by kernel_rfl) (by simp) ?_
  refine AllReadyH.cons rfl (fun K hK => ?_) AllReadyH.nil
  go_simp
  refine (slotOf_any c Z1 z2 z3 _ HZh.out).mono ?_
  rintro e u1 ⟨rfl, hb⟩
  have HGi := Lib.hid (HGh.out.below hb)
  have HSi : Hid ((fun W : World => Bw W x (sc c (.slice Z1 z2 z3)) 26 ∧ Bw W p (sc c (.slice A n cp)) 26) u1) := ⟨HCh.out.below hb, HGi.out.one⟩
  refine hK.out _ _ HSi.out fun _ => ?_
  clear hK K hb HS HGh HZh
  refine wpAnyH_ready (rs := [6]) (by kernel_rfl) (by simp) ?_
  refine AllReadyH.cons rfl (fun K hK => ?_) AllReadyH.nil
  go_simp
  refine (slotOf_any c A n cp _ (HX.out.below HGi.out.bel)).mono ?_
  rintro e u2 ⟨rfl, hb⟩
  have HGj := Lib.hid (HGi.out.below hb)
  have HSj : Hid ((fun W : World => Bw W x (sc c (.slice Z1 z2 z3)) 26 ∧ Bw W p (sc c (.slice A n cp)) 26) u2) := ⟨HSi.out.1.below hb, HGj.out.one⟩
  refine hK.out _ _ HSj.out fun _ => ?_
  clear hK K hb HGi HSi
  refine takeH (i := 7) 101 (.bool true) rfl rfl (by kernel_rfl) (by kernel_rfl) (by kernel_rfl) (fun _ _ _ h => h) (.inl ⟨by rfl, fun W hW => by go_simp⟩) HSj.out ?_
  simp only [Act.put, List.setIfInBounds_toArray, List.set_cons_zero, List.set_cons_succ]
  refine takeH (i := 8) 102 (.bool true) rfl rfl (by kernel_rfl) (by kernel_rfl) (by kernel_rfl) (fun _ _ _ h => h) (.inl ⟨by rfl, fun W hW => by go_simp⟩) HSj.out ?_
  simp only [Act.put, List.setIfInBounds_toArray, List.set_cons_zero, List.set_cons_succ]
  refine takeH (i := 9) 4 (.bool true) rfl rfl (by kernel_rfl) (by kernel_rfl) (by kernel_rfl) (fun _ _ _ h => h) (.inl ⟨by rfl, fun W hW => by go_simp⟩) HSj.out ?_
  simp only [Act.put, List.setIfInBounds_toArray, List.set_cons_zero, List.set_cons_succ]
  refine wpAnyH_done (by kernel_rfl) ?_ _
  clear heq HSj
  go_wp2_with fail
  go_ret
  exact ⟨rfl, HGj.out.bel⟩
end Go.Proofs.Ytbeahhijmgkfhaa
