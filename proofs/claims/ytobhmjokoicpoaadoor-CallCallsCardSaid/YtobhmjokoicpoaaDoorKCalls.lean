/-
  The walk of the statement on calls (layer 9).
-/
import Derived.Test.YtobhmjokoicpoaaDoorKRGet
import Derived.Test.YtobhmjokoicpoaaDoorKEq
import Derived.Test.YtobhmjokoicpoaaDoorKIn
namespace Go.Proofs.YtobhmjokoicpoaaDoor
open Go.RowKit Go.Shelf

theorem refChanges_any (op : Nat) (w : World) : Calls Tryd.prog 16 #[.int .u32 (op : Int)] w fun e w' => e = .returned (.bool (chB op)) ∧ w = w' := by
  by_cases h : op < 14
  · have hm : op ∈ List.range 14 := List.mem_range.2 h
    simp only [List.range, List.range.loop, List.mem_cons, List.not_mem_nil, or_false] at hm
    rcases hm with rfl | rfl | rfl | rfl | rfl | rfl | rfl | rfl | rfl | rfl | rfl | rfl | rfl | rfl
    all_goals
      go_enter Tryd.func16, Tryd.ntmps16
      go_wp2_with fail
      go_ret
      exact ⟨rfl, rfl⟩
  · have HB : Hid (chB op = false) := by
      show _ = _
      unfold chB
      have h1 : (op == 3) = false := by simp; omega
      have h2 : decide (op ≤ 8) = false := by simp; omega
      have h3 : decide (op ≤ 13) = false := by simp; omega
      rw [h1, h2, h3]
      simp
    rw [HB.out]
    have g1 : ((op : Int) == 3) = false := by simp; omega
    have g2 : decide ((op : Int) ≤ 8) = false := by simp; omega
    have g3 : decide ((op : Int) ≤ 13) = false := by simp; omega
    have g4 : decide (5 ≤ (op : Int)) = true := by simp; omega
    have g5 : decide (10 ≤ (op : Int)) = true := by simp; omega
    go_enter Tryd.func16, Tryd.ntmps16
    go_wp2_with fail
    go_ret
    exact ⟨rfl, rfl⟩

/-- The call that came in, what was put of it, and both calls that were got. -/
structure G4 (w : World) (p x y : Nat) (cs : List Value) (G : Cl) (X1 : Option Addr) (x2 x3 : Nat) (A3 : Option Addr) (n3 : Nat) (L : List UInt8) (W : World) : Prop where
  one : Bw W p cs 28
  two : Bw W x (cc G (.slice X1 x2 x3)) 28
  tri : Bw W y (cc G (.string (txt G.dt))) 36
  dat : BS W X1 x2 G.dt
  put : BS W A3 n3 L
  bel : Below w.heap.size w W
theorem G4.below {w W W' : World} {p x y : Nat} {cs : List Value} {G : Cl} {X1 : Option Addr} {x2 x3 : Nat} {A3 : Option Addr} {n3 : Nat} {L : List UInt8} (h : G4 w p x y cs G X1 x2 x3 A3 n3 L W) (hb : Below W.heap.size W W') : G4 w p x y cs G X1 x2 x3 A3 n3 L W' :=
  ⟨h.one.below hb, h.two.below hb, h.tri.below hb, h.dat.below hb, h.put.below hb, h.bel.trans (hb.mono h.bel.size)⟩
theorem G4.drew {w W : World} {p x y : Nat} {cs : List Value} {G : Cl} {X1 : Option Addr} {x2 x3 : Nat} {A3 : Option Addr} {n3 : Nat} {L : List UInt8} (h : G4 w p x y cs G X1 x2 x3 A3 n3 L W) : G4 w p x y cs G X1 x2 x3 A3 n3 L W.drew := ⟨h.one, h.two, h.tri, h.dat, h.put, h.bel.drew⟩

set_option maxRecDepth 100000 in
set_option maxHeartbeats 8000000 in
theorem calls_walk (w : World) (hch : Ch w) (v1 : Value) (c : Cl) (A : Option Addr) (n cp : Nat) (B : Option Addr) (m cq : Nat) (bl : List UInt8) (op : Nat) (h1 : CI w v1 c A n cp) (h2 : BS w B m bl) :
    Calls Tryd.prog 3 #[v1, .slice B m cq, .int .u32 (op : Int)] w fun e w' => e = .returned (.bool true) ∧ Below w.heap.size w w' := by
  obtain ⟨rfl, hx, hw, _, _, _⟩ := h1
  have HCH := Lib.hid hch
  have HX := Lib.hid hx
  have HB := Lib.hid h2
  have HWX := Lib.hid hw
  have HNX := Lib.hid hx.1
  clear hch hx hw h2
  have s1 : (txt c.nm).size = c.nm.length := txt_size _
  have s2 : (txt c.tn).size = c.tn.length := txt_size _
  go_enter Tryd.func3, Tryd.ntmps3
  go_upto_region 1 with fail
  have HB0 : Hid (Bw (w.alloc (.cells (cc c (.slice A n cp)).toArray 28)) w.heap.size (cc c (.slice A n cp)) 28) := heap_alloc_new w _
  have HW0 : Hid (Below w.heap.size w (w.alloc (.cells (cc c (.slice A n cp)).toArray 28))) := (Below.refl _ w).alloc (Nat.le_refl _) _
  generalize w.alloc (.cells (cc c (.slice A n cp)).toArray 28) = w0 at *
  go_wp2_with fail
  refine (awake_any _ (HCH.out.below HW0.out)).mono ?_
  rintro e w1 ⟨rfl, hb1⟩
  have HB1 := Lib.hid (HB0.out.below hb1)
  have HW1 := Lib.hid (HW0.out.trans (hb1.mono HW0.out.size))
  clear hb1 HB0 HW0
  generalize hbb : w.heap.size = p at HB1 ⊢
  have HPP : Hid (w.heap.size = p) := hbb
  clear hbb
  have e5 := HB1.out.cell 5 _ rfl
  have e8 := HB1.out.cell 8 _ rfl
  have e13 := HB1.out.cell 13 _ rfl
  by_cases h0 : m ≤ 400
  rotate_left
  · have g0 : decide ((400 : Int) < (m : Int)) = true := by simp; omega
    go_wp2_with fail
    go_ret
    exact ⟨rfl, HW1.out⟩
  have g0 : decide ((400 : Int) < (m : Int)) = false := by simp; omega
  by_cases h1 : c.nm.length ≤ 100
  rotate_left
  · have g1 : decide ((100 : Int) < (c.nm.length : Int)) = true := by simp; omega
    go_wp2_with fail
    go_ret
    exact ⟨rfl, HW1.out⟩
  have g1 : decide ((100 : Int) < (c.nm.length : Int)) = false := by simp; omega
  by_cases h2 : c.tn.length ≤ 100
  rotate_left
  · have g2 : decide ((100 : Int) < (c.tn.length : Int)) = true := by simp; omega
    go_wp2_with fail
    go_ret
    exact ⟨rfl, HW1.out⟩
  have g2 : decide ((100 : Int) < (c.tn.length : Int)) = false := by simp; omega
  by_cases h3 : n ≤ 1100
  rotate_left
  · have g3 : decide ((1100 : Int) < (n : Int)) = true := by simp; omega
    go_wp2_with fail
    go_ret
    exact ⟨rfl, HW1.out⟩
  have g3 : decide ((1100 : Int) < (n : Int)) = false := by simp; omega
  go_upto_region 6 with fail
  clear g0 g1 g2 g3 e5 e8 e13 s1 s2 h1 h2 h3
  go_wp2_with (refine wpList_load_part rfl 28 (.tmp 3) rfl _ 0 rfl _ Tryd.underlying28 rfl (cc c (.slice A n cp)) 28 _ HB1.out size_C (fun j u hu => by rw [Nat.zero_add]; exact hu) ?_)
  refine (putCall_any A n cp c _ (fun _ => HX.out.below HW1.out) HNX.out).mono ?_
  rintro e w3 ⟨A3, n3, cp3, rfl, ho3⟩
  have HB3 := Lib.hid (HB1.out.below ho3.2)
  have HW3 := Lib.hid (HW1.out.trans (ho3.2.mono HW1.out.size))
  have HP3 := Lib.hid ho3.bs
  clear ho3 HB1 HW1
  go_wp2_with (refine wpList_load_part rfl 28 (.tmp 3) rfl _ 0 rfl _ Tryd.underlying28 rfl (cc c (.slice A n cp)) 28 _ HB3.out size_C (fun j u hu => by rw [Nat.zero_add]; exact hu) ?_)
  refine (callOf_any c A n cp _ (HX.out.below HW3.out)).mono ?_
  rintro e w4 ⟨rfl, hb4⟩
  have HB4 := Lib.hid (HB3.out.below hb4)
  have HW4 := Lib.hid (HW3.out.trans (hb4.mono HW3.out.size))
  have HP4 := Lib.hid (HP3.out.below hb4)
  clear hb4 HB3 HW3 HP3
  go_wp2_with fail
  refine (refPutCall_any c w4 HWX.out).mono ?_
  rintro e w5 ⟨rfl, hb5⟩
  have HB5 := Lib.hid (HB4.out.below hb5)
  have HW5 := Lib.hid (HW4.out.trans (hb5.mono HW4.out.size))
  have HP5 := Lib.hid (HP4.out.below hb5)
  clear hb5 HB4 HW4 HP4
  go_wp2_with fail
  refine (getCall_any B m cq bl w5 (HB.out.below HW5.out) (by omega)).mono ?_
  rintro e w6 ⟨X1, x2, x3, rfl, hx6, hb6⟩
  have HGOT : Hid (Cl.err bl = 0 → (Cl.got bl).okB = true ∧ (Cl.got bl).enc = bl ∧ (Cl.got bl).Wide) := Cl.got_back bl
  have HREF := fun W => Lib.hid (refGetCall_any bl W)
  generalize Cl.got bl = G at *
  generalize Cl.err bl = ge at *
  have HB6 := Lib.hid (HB5.out.below hb6)
  have HW6 := Lib.hid (HW5.out.trans (hb6.mono HW5.out.size))
  have HP6 := Lib.hid (HP5.out.below hb6)
  have HX6 := Lib.hid hx6
  clear hb6 HB5 HW5 HP5 hx6
  go_upto_region 9 with (first
    | (refine wpList_alloc_any rfl 28 rfl _ zero_C ?_; intro w7 hb7 hs7 hw7)
    | (refine wpList_store_part rfl 28 (.tmp 12) (.tmp 58) rfl w6.heap.size 0 (cc G (.slice X1 x2 x3)) rfl rfl 28 _ hb7 size_C (by simp [cc]) (cc_one _ _ _ _) ?_
       intro w8 hb8 hs8 hk8))
  have hbw : Below w6.heap.size w6 w8 := hw7.trans (hk8.below2 (fun k hk => by omega))
  have HB8 := Lib.hid (HB6.out.below hbw)
  have HW8 := Lib.hid (HW6.out.trans (hbw.mono HW6.out.size))
  have HP8 := Lib.hid (HP6.out.below hbw)
  have HX8 := Lib.hid (HX6.out.below hbw)
  have HC8 : Hid (Bw w8 w6.heap.size (cc G (.slice X1 x2 x3)) 28) := hb8
  clear hb7 hs7 hw7 hb8 hs8 hk8 hbw HB6 HW6 HP6 HX6
  generalize w6.heap.size = x at *
  have hcb := run_convert_bs w8 B m cq bl (HB.out.below HW8.out)
  go_wp2_with fail
  refine ((HREF w8).out).mono ?_
  rintro e w9 ⟨rfl, hb9⟩
  have HB9 := Lib.hid (HB8.out.below hb9)
  have HW9 := Lib.hid (HW8.out.trans (hb9.mono HW8.out.size))
  have HP9 := Lib.hid (HP8.out.below hb9)
  have HX9 := Lib.hid (HX8.out.below hb9)
  have HC9 := Lib.hid (HC8.out.below hb9)
  clear hb9 HB8 HW8 HP8 HX8 HC8 HREF hcb
  go_upto_region 10 with (first
    | (refine wpList_alloc_any rfl 36 rfl _ zero_C9 ?_; intro wa hba hsa hwa)
    | (refine wpList_store_part rfl 36 (.tmp 14) (.tmp 64) rfl w9.heap.size 0 (cc G (.string (txt G.dt))) rfl rfl 36 _ hba size_C9 (by simp [cc]) (cc_ones _ _) ?_
       intro wb hbb hsb hkb))
  have hbw : Below w9.heap.size w9 wb := hwa.trans (hkb.below2 (fun k hk => by omega))
  have HG0 : Hid (G4 w p x w9.heap.size (cc c (.slice A n cp)) G X1 x2 x3 A3 n3 c.put wb) := ⟨HB9.out.below hbw, HC9.out.below hbw, hbb, HX9.out.below hbw, HP9.out.below hbw, HW9.out.trans (hbw.mono HW9.out.size)⟩
  clear hba hsa hwa hbb hsb hkb hbw HB9 HW9 HP9 HX9 HC9
  generalize w9.heap.size = y at *
  have heq := cNe G G
  rw [decide_eq_true rfl] at heq
  obtain ⟨er, her⟩ : ∃ z, c.errP = z := ⟨_, rfl⟩
  obtain ⟨px, hpx⟩ : ∃ z, c.put = z := ⟨_, rfl⟩
  have HER := Lib.hid her
  have HPX := Lib.hid hpx
  rw [her]
  rw [hpx] at HG0
  rw [hpx]
  clear her hpx
  have HCW : Hid (Ch wb.drew) := HCH.out.below HG0.out.drew.bel
  have HS : Hid ((fun W : World => Bw W x (cc G (.slice X1 x2 x3)) 28 ∧ Bw W y (cc G (.string (txt G.dt))) 36 ∧ (convert 26 9 (.slice A3 n3 cp3)).run Tryd.prog W = .ok (.string (txt px)) W) wb.drew) := ⟨HG0.out.drew.two, HG0.out.drew.tri, run_convert_bs _ _ _ _ _ HG0.out.drew.put⟩
  refine wp_region_held_drew (S := fun W : World => Bw W x (cc G (.slice X1 x2 x3)) 28 ∧ Bw W y (cc G (.string (txt G.dt))) 36 ∧ (convert 26 9 (.slice A3 n3 cp3)).run Tryd.prog W = .ok (.string (txt px)) W) (by kernel_rfl) HS.out (fun _ => ?_)
  change wpAnyH _ _ _ _ _ 27 (Array.replicate 27 false) _ _
  refine takeH (i := 0) 66 (.slice A3 n3 cp3) rfl rfl (by kernel_rfl) (by kernel_rfl) (by kernel_rfl) (fun _ _ _ h => h) (.inl ⟨by rfl, fun W hW => by go_simp⟩) HS.out ?_
  simp only [Act.put, List.setIfInBounds_toArray, List.set_cons_zero, List.set_cons_succ]
  refine takeH (i := 1) 67 (.string (txt px)) rfl rfl (by kernel_rfl) (by kernel_rfl) (by kernel_rfl) (fun _ _ _ h => h) (.inl ⟨by rfl, fun W hW => by (obtain ⟨_, _, hc⟩ := hW; go_simp)⟩) HS.out ?_
  simp only [Act.put, List.setIfInBounds_toArray, List.set_cons_zero, List.set_cons_succ]
  refine takeH (i := 2) 68 (.string (txt px)) rfl rfl (by kernel_rfl) (by kernel_rfl) (by kernel_rfl) (fun _ _ _ h => h) (.inl ⟨by rfl, fun W hW => by go_simp⟩) HS.out ?_
  simp only [Act.put, List.setIfInBounds_toArray, List.set_cons_zero, List.set_cons_succ]
  refine takeH (i := 3) 69 (.bool false) rfl rfl (by kernel_rfl) (by kernel_rfl) (by kernel_rfl) (fun _ _ _ h => h) (.inl ⟨by rfl, fun W hW => by go_simp⟩) HS.out ?_
  simp only [Act.put, List.setIfInBounds_toArray, List.set_cons_zero, List.set_cons_succ]
  refine takeH (i := 4) 70 (.bool false) rfl rfl (by kernel_rfl) (by kernel_rfl) (by kernel_rfl) (fun _ _ _ h => h) (.inl ⟨by rfl, fun W hW => by go_simp⟩) HS.out ?_
  simp only [Act.put, List.setIfInBounds_toArray, List.set_cons_zero, List.set_cons_succ]
  refine takeH (i := 5) 71 (.int .i64 er) rfl rfl (by kernel_rfl) (by kernel_rfl) (by kernel_rfl) (fun _ _ _ h => h) (.inl ⟨by rfl, fun W hW => by go_simp⟩) HS.out ?_
  simp only [Act.put, List.setIfInBounds_toArray, List.set_cons_zero, List.set_cons_succ]
  refine takeH (i := 6) 72 (.int .i64 er) rfl rfl (by kernel_rfl) (by kernel_rfl) (by kernel_rfl) (fun _ _ _ h => h) (.inl ⟨by rfl, fun W hW => by go_simp⟩) HS.out ?_
  simp only [Act.put, List.setIfInBounds_toArray, List.set_cons_zero, List.set_cons_succ]
  refine takeH (i := 7) 73 (.bool false) rfl rfl (by kernel_rfl) (by kernel_rfl) (by kernel_rfl) (fun _ _ _ h => h) (.inl ⟨by rfl, fun W hW => by go_simp⟩) HS.out ?_
  simp only [Act.put, List.setIfInBounds_toArray, List.set_cons_zero, List.set_cons_succ]
  refine takeH (i := 8) 74 (.bool false) rfl rfl (by kernel_rfl) (by kernel_rfl) (by kernel_rfl) (fun _ _ _ h => h) (.inl ⟨by rfl, fun W hW => by go_simp⟩) HS.out ?_
  simp only [Act.put, List.setIfInBounds_toArray, List.set_cons_zero, List.set_cons_succ]
  refine takeH (i := 9) 75 (.bool false) rfl rfl (by kernel_rfl) (by kernel_rfl) (by kernel_rfl) (fun _ _ _ h => h) (.inl ⟨by rfl, fun W hW => by go_simp⟩) HS.out ?_
  simp only [Act.put, List.setIfInBounds_toArray, List.set_cons_zero, List.set_cons_succ]
  refine takeH (i := 10) 76 (.int .i64 ge) rfl rfl (by kernel_rfl) (by kernel_rfl) (by kernel_rfl) (fun _ _ _ h => h) (.inl ⟨by rfl, fun W hW => by go_simp⟩) HS.out ?_
  simp only [Act.put, List.setIfInBounds_toArray, List.set_cons_zero, List.set_cons_succ]
  refine takeH (i := 11) 77 (.int .i64 ge) rfl rfl (by kernel_rfl) (by kernel_rfl) (by kernel_rfl) (fun _ _ _ h => h) (.inl ⟨by rfl, fun W hW => by go_simp⟩) HS.out ?_
  simp only [Act.put, List.setIfInBounds_toArray, List.set_cons_zero, List.set_cons_succ]
  refine takeH (i := 12) 78 (.bool false) rfl rfl (by kernel_rfl) (by kernel_rfl) (by kernel_rfl) (fun _ _ _ h => h) (.inl ⟨by rfl, fun W hW => by go_simp⟩) HS.out ?_
  simp only [Act.put, List.setIfInBounds_toArray, List.set_cons_zero, List.set_cons_succ]
  refine takeH (i := 13) 79 (.bool false) rfl rfl (by kernel_rfl) (by kernel_rfl) (by kernel_rfl) (fun _ _ _ h => h) (.inl ⟨by rfl, fun W hW => by go_simp⟩) HS.out ?_
  simp only [Act.put, List.setIfInBounds_toArray, List.set_cons_zero, List.set_cons_succ]
  refine takeH (i := 14) 80 (.bool false) rfl rfl (by kernel_rfl) (by kernel_rfl) (by kernel_rfl) (fun _ _ _ h => h) (.inl ⟨by rfl, fun W hW => by go_simp⟩) HS.out ?_
  simp only [Act.put, List.setIfInBounds_toArray, List.set_cons_zero, List.set_cons_succ]
  refine takeH (i := 15) 81 (.agg (cc G (.slice X1 x2 x3)).toArray) rfl rfl (by kernel_rfl) (by kernel_rfl) (by kernel_rfl) (fun _ _ _ h => h) (.inl ⟨by rfl, fun W hW => by (exact run_load_part 28 (.tmp 12) rfl x 0 rfl _ Tryd.underlying28 rfl (cc G (.slice X1 x2 x3)) 28 _ hW.1 size_C (fun j u hu => by rw [Nat.zero_add]; exact hu))⟩) HS.out ?_
  simp only [Act.put, List.setIfInBounds_toArray, List.set_cons_zero, List.set_cons_succ]
  refine takeH (i := 17) 83 (.agg (cc G (.string (txt G.dt))).toArray) rfl rfl (by kernel_rfl) (by kernel_rfl) (by kernel_rfl) (fun _ _ _ h => h) (.inl ⟨by rfl, fun W hW => by (exact run_load_part 36 (.tmp 14) rfl y 0 rfl _ Tryd.underlying36 rfl (cc G (.string (txt G.dt))) 36 _ hW.2.1 size_C9 (fun j u hu => by rw [Nat.zero_add]; exact hu))⟩) HS.out ?_
  simp only [Act.put, List.setIfInBounds_toArray, List.set_cons_zero, List.set_cons_succ]
  refine wpAnyH_ready (rs := [16]) (by kernel_rfl) (by simp) ?_
  refine AllReadyH.cons rfl (fun K hK => ?_) AllReadyH.nil
  go_simp
  refine (callOf_any G X1 x2 x3 _ HG0.out.drew.dat).mono ?_
  rintro e wc ⟨rfl, hb⟩
  have HG1 := Lib.hid (HG0.out.drew.below hb)
  have HCW1 := Lib.hid (HCW.out.below hb)
  have HS1 : Hid ((fun W : World => Bw W x (cc G (.slice X1 x2 x3)) 28 ∧ Bw W y (cc G (.string (txt G.dt))) 36 ∧ (convert 26 9 (.slice A3 n3 cp3)).run Tryd.prog W = .ok (.string (txt px)) W) wc) := ⟨HG1.out.two, HG1.out.tri, run_convert_bs _ _ _ _ _ HG1.out.put⟩
  refine hK.out _ _ HS1.out fun _ => ?_
  clear hK K hb HS HG0 HCW
  refine takeH (i := 18) 84 (.bool false) rfl rfl (by kernel_rfl) (by kernel_rfl) (by kernel_rfl) (fun _ _ _ h => h) (.inl ⟨by rfl, fun W hW => by go_simp⟩) HS1.out ?_
  simp only [Act.put, List.setIfInBounds_toArray, List.set_cons_zero, List.set_cons_succ]
  refine takeH (i := 19) 85 (.bool false) rfl rfl (by kernel_rfl) (by kernel_rfl) (by kernel_rfl) (fun _ _ _ h => h) (.inl ⟨by rfl, fun W hW => by go_simp⟩) HS1.out ?_
  simp only [Act.put, List.setIfInBounds_toArray, List.set_cons_zero, List.set_cons_succ]
  refine takeH (i := 20) 86 (.bool false) rfl rfl (by kernel_rfl) (by kernel_rfl) (by kernel_rfl) (fun _ _ _ h => h) (.inl ⟨by rfl, fun W hW => by go_simp⟩) HS1.out ?_
  simp only [Act.put, List.setIfInBounds_toArray, List.set_cons_zero, List.set_cons_succ]
  refine takeH (i := 21) 87 (.int .u32 (op : Int)) rfl rfl (by kernel_rfl) (by kernel_rfl) (by kernel_rfl) (fun _ _ _ h => h) (.inl ⟨by rfl, fun W hW => by go_simp⟩) HS1.out ?_
  simp only [Act.put, List.setIfInBounds_toArray, List.set_cons_zero, List.set_cons_succ]
  refine takeH (i := 23) 89 (.int .u32 (op : Int)) rfl rfl (by kernel_rfl) (by kernel_rfl) (by kernel_rfl) (fun _ _ _ h => h) (.inl ⟨by rfl, fun W hW => by go_simp⟩) HS1.out ?_
  simp only [Act.put, List.setIfInBounds_toArray, List.set_cons_zero, List.set_cons_succ]
  refine wpAnyH_ready (rs := [22]) (by kernel_rfl) (by simp) ?_
  refine AllReadyH.cons rfl (fun K hK => ?_) AllReadyH.nil
  go_simp
  refine (changes_any op wc HCW1.out).mono ?_
  rintro e wd ⟨rfl, rfl⟩
  refine hK.out _ _ HS1.out fun _ => ?_
  clear hK K
  refine wpAnyH_ready (rs := [24]) (by kernel_rfl) (by simp) ?_
  refine AllReadyH.cons rfl (fun K hK => ?_) AllReadyH.nil
  go_simp
  refine (refChanges_any op wc).mono ?_
  rintro e wd ⟨rfl, rfl⟩
  refine hK.out _ _ HS1.out fun _ => ?_
  clear hK K
  refine takeH (i := 25) 91 (.bool false) rfl rfl (by kernel_rfl) (by kernel_rfl) (by kernel_rfl) (fun _ _ _ h => h) (.inl ⟨by rfl, fun W hW => by go_simp⟩) HS1.out ?_
  simp only [Act.put, List.setIfInBounds_toArray, List.set_cons_zero, List.set_cons_succ]
  refine takeH (i := 26) 92 (.bool false) rfl rfl (by kernel_rfl) (by kernel_rfl) (by kernel_rfl) (fun _ _ _ h => h) (.inl ⟨by rfl, fun W hW => by go_simp⟩) HS1.out ?_
  simp only [Act.put, List.setIfInBounds_toArray, List.set_cons_zero, List.set_cons_succ]
  refine wpAnyH_done (by kernel_rfl) ?_ _
  clear heq HS1 HCW1
  by_cases hok : c.okB = true
  rotate_left
  · have he : (er == 0) = false := by
      rw [← HER.out, show c.errP = 1 from if_neg hok]
      rfl
    clear hok
    go_upto_region 16 with fail
    by_cases hge : ge = 0
    rotate_left
    · have hd : (ge != 0) = true := by simpa using hge
      go_wp2_with fail
      go_ret
      exact ⟨rfl, HG1.out.bel⟩
    have hd : (ge != 0) = false := by simpa using hge
    obtain ⟨hgo, hge2, hgw⟩ := HGOT.out hge
    have HGE2 := Lib.hid hge2
    have hze : G.errP = 0 := if_pos hgo
    have hzp : G.put = bl := (show G.put = G.enc from if_pos hgo).trans hge2
    clear hge hgo hge2 hgw HGE2
    go_wp2_with (refine wpList_load_part rfl 28 (.tmp 12) rfl _ 0 rfl _ Tryd.underlying28 rfl (cc G (.slice X1 x2 x3)) 28 _ HG1.out.two size_C (fun j u hu => by rw [Nat.zero_add]; exact hu) ?_)
    refine (putCall_any X1 x2 x3 G _ (fun _ => HG1.out.dat) HG1.out.dat.1).mono ?_
    rintro e wy ⟨Y1, y2, y3, rfl, hoy⟩
    rw [hze]
    rw [hzp] at hoy
    have HGy := Lib.hid (HG1.out.below hoy.2)
    have hcv := run_convert_bs wy Y1 y2 y3 bl hoy.bs
    have hcw := run_convert_bs wy B m cq bl (HB.out.below HGy.out.bel)
    clear hze hzp hoy HG1
    go_wp2_with fail
    go_ret
    exact ⟨rfl, HGy.out.bel⟩
  obtain rfl : er = 0 := by rw [← HER.out]; exact if_pos hok
  have hpe : px = c.enc := by rw [← HPX.out]; exact if_pos hok
  obtain ⟨hq1, hq2⟩ := c.got_put HWX.out hok
  have hlen := c.enc_len hok
  rw [← hpe] at hq1 hq2 hlen
  have HQ1 := Lib.hid hq1
  have HQ2 := Lib.hid hq2
  have HLN : Hid (n3 ≤ 10000000) := by show _ ≤ _; have := HG1.out.put.1; omega
  clear hok hpe hq1 hq2 hlen
  go_wp2_with fail
  refine (getCall_any A3 n3 cp3 px _ HG1.out.put HLN.out).mono ?_
  rintro e we ⟨Z1, z2, z3, rfl, hz, hbz⟩
  rw [HQ1.out, HQ2.out]
  rw [HQ2.out] at hz
  have HG2 := Lib.hid (HG1.out.below hbz)
  have HZ2 := Lib.hid hz
  clear hz hbz HG1
  go_upto_region 14 with (first
    | (refine wpList_alloc_any rfl 28 rfl _ zero_C ?_; intro wf hbf hsf hwf)
    | (refine wpList_store_part rfl 28 (.tmp 16) (.tmp 98) rfl we.heap.size 0 (cc c (.slice Z1 z2 z3)) rfl rfl 28 _ hbf size_C (by simp [cc]) (cc_one _ _ _ _) ?_
       intro wg hbg hsg hkg))
  have hbw : Below we.heap.size we wg := hwf.trans (hkg.below2 (fun k hk => by omega))
  have HG3 := Lib.hid (HG2.out.below hbw)
  have HZ3 := Lib.hid (HZ2.out.below hbw)
  have HC3 : Hid (Bw wg we.heap.size (cc c (.slice Z1 z2 z3)) 28) := hbg
  clear hbf hsf hwf hbg hsg hkg hbw HG2 HZ2
  generalize we.heap.size = z at *
  have heq := cNe c c
  rw [decide_eq_true rfl] at heq
  have HS : Hid ((fun W : World => Bw W z (cc c (.slice Z1 z2 z3)) 28 ∧ Bw W p (cc c (.slice A n cp)) 28) wg.drew) := ⟨HC3.out, HG3.out.one⟩
  have HGd : Hid (G4 w p x y (cc c (.slice A n cp)) G X1 x2 x3 A3 n3 px wg.drew) := HG3.out.drew
  have HZd : Hid (BS wg.drew Z1 z2 c.dt) := HZ3.out
  have HCd : Hid (Bw wg.drew z (cc c (.slice Z1 z2 z3)) 28) := HC3.out
  clear HG3 HZ3 HC3
  refine wp_region_held_drew (S := fun W : World => Bw W z (cc c (.slice Z1 z2 z3)) 28 ∧ Bw W p (cc c (.slice A n cp)) 28) (by kernel_rfl) HS.out (fun _ => ?_)
  change wpAnyH _ _ _ _ _ 9 (Array.replicate 9 false) _ _
  refine takeH (i := 0) 100 (.int .i64 0) rfl rfl (by kernel_rfl) (by kernel_rfl) (by kernel_rfl) (fun _ _ _ h => h) (.inl ⟨by rfl, fun W hW => by go_simp⟩) HS.out ?_
  simp only [Act.put, List.setIfInBounds_toArray, List.set_cons_zero, List.set_cons_succ]
  refine takeH (i := 1) 101 (.bool false) rfl rfl (by kernel_rfl) (by kernel_rfl) (by kernel_rfl) (fun _ _ _ h => h) (.inl ⟨by rfl, fun W hW => by go_simp⟩) HS.out ?_
  simp only [Act.put, List.setIfInBounds_toArray, List.set_cons_zero, List.set_cons_succ]
  refine takeH (i := 2) 102 (.bool false) rfl rfl (by kernel_rfl) (by kernel_rfl) (by kernel_rfl) (fun _ _ _ h => h) (.inl ⟨by rfl, fun W hW => by go_simp⟩) HS.out ?_
  simp only [Act.put, List.setIfInBounds_toArray, List.set_cons_zero, List.set_cons_succ]
  refine takeH (i := 3) 103 (.agg (cc c (.slice Z1 z2 z3)).toArray) rfl rfl (by kernel_rfl) (by kernel_rfl) (by kernel_rfl) (fun _ _ _ h => h) (.inl ⟨by rfl, fun W hW => by (exact run_load_part 28 (.tmp 16) rfl z 0 rfl _ Tryd.underlying28 rfl (cc c (.slice Z1 z2 z3)) 28 _ hW.1 size_C (fun j u hu => by rw [Nat.zero_add]; exact hu))⟩) HS.out ?_
  simp only [Act.put, List.setIfInBounds_toArray, List.set_cons_zero, List.set_cons_succ]
  refine takeH (i := 5) 105 (.agg (cc c (.slice A n cp)).toArray) rfl rfl (by kernel_rfl) (by kernel_rfl) (by kernel_rfl) (fun _ _ _ h => h) (.inl ⟨by rfl, fun W hW => by (exact run_load_part 28 (.tmp 3) rfl p 0 rfl _ Tryd.underlying28 rfl (cc c (.slice A n cp)) 28 _ hW.2 size_C (fun j u hu => by rw [Nat.zero_add]; exact hu))⟩) HS.out ?_
  simp only [Act.put, List.setIfInBounds_toArray, List.set_cons_zero, List.set_cons_succ]
  refine wpAnyH_ready (rs := [4]) (by kernel_rfl) (by simp) ?_
  refine AllReadyH.cons rfl (fun K hK => ?_) AllReadyH.nil
  go_simp
  refine (callOf_any c Z1 z2 z3 _ HZd.out).mono ?_
  rintro e wh ⟨rfl, hb⟩
  have HG5 := Lib.hid (HGd.out.below hb)
  have HC5 := Lib.hid (HCd.out.below hb)
  refine hK.out _ _ ⟨HC5.out, HG5.out.one⟩ fun _ => ?_
  clear hK K hb HGd HCd HZd HS
  refine wpAnyH_ready (rs := [6]) (by kernel_rfl) (by simp) ?_
  refine AllReadyH.cons rfl (fun K hK => ?_) AllReadyH.nil
  go_simp
  refine (callOf_any c A n cp wh (HX.out.below HG5.out.bel)).mono ?_
  rintro e wi ⟨rfl, hb⟩
  have HG6 := Lib.hid (HG5.out.below hb)
  have HS6 : Hid ((fun W : World => Bw W z (cc c (.slice Z1 z2 z3)) 28 ∧ Bw W p (cc c (.slice A n cp)) 28) wi) := ⟨HC5.out.below hb, HG6.out.one⟩
  refine hK.out _ _ HS6.out fun _ => ?_
  clear hK K hb HG5 HC5
  refine takeH (i := 7) 107 (.bool false) rfl rfl (by kernel_rfl) (by kernel_rfl) (by kernel_rfl) (fun _ _ _ h => h) (.inl ⟨by rfl, fun W hW => by go_simp⟩) HS6.out ?_
  simp only [Act.put, List.setIfInBounds_toArray, List.set_cons_zero, List.set_cons_succ]
  refine takeH (i := 8) 108 (.bool false) rfl rfl (by kernel_rfl) (by kernel_rfl) (by kernel_rfl) (fun _ _ _ h => h) (.inl ⟨by rfl, fun W hW => by go_simp⟩) HS6.out ?_
  simp only [Act.put, List.setIfInBounds_toArray, List.set_cons_zero, List.set_cons_succ]
  refine wpAnyH_done (by kernel_rfl) ?_ _
  clear heq HS6
  go_upto_region 16 with fail
  by_cases hge : ge = 0
  rotate_left
  · have hd : (ge != 0) = true := by simpa using hge
    go_wp2_with fail
    go_ret
    exact ⟨rfl, HG6.out.bel⟩
  have hd : (ge != 0) = false := by simpa using hge
  obtain ⟨hgo, hge2, hgw⟩ := HGOT.out hge
  have HGE2 := Lib.hid hge2
  have hze : G.errP = 0 := if_pos hgo
  have hzp : G.put = bl := (show G.put = G.enc from if_pos hgo).trans hge2
  clear hge hgo hge2 hgw HGE2
  go_wp2_with (refine wpList_load_part rfl 28 (.tmp 12) rfl _ 0 rfl _ Tryd.underlying28 rfl (cc G (.slice X1 x2 x3)) 28 _ HG6.out.two size_C (fun j u hu => by rw [Nat.zero_add]; exact hu) ?_)
  refine (putCall_any X1 x2 x3 G _ (fun _ => HG6.out.dat) HG6.out.dat.1).mono ?_
  rintro e wy ⟨Y1, y2, y3, rfl, hoy⟩
  rw [hze]
  rw [hzp] at hoy
  have HGy := Lib.hid (HG6.out.below hoy.2)
  have hcv := run_convert_bs wy Y1 y2 y3 bl hoy.bs
  have hcw := run_convert_bs wy B m cq bl (HB.out.below HGy.out.bel)
  clear hze hzp hoy HG6
  go_wp2_with fail
  go_ret
  exact ⟨rfl, HGy.out.bel⟩
end Go.Proofs.YtobhmjokoicpoaaDoor
