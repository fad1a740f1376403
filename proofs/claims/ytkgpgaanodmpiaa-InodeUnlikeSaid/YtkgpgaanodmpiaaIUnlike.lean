/-
  InodeUnlike walked (layer 7).
-/
import Derived.Test.YtkgpgaanodmpiaaIPuts
namespace Go.Proofs.Ytkgpgaanodmpiaa
open Go.RowKit

/-- While InodeUnlike goes: both inodes in their blocks. -/
structure GU (w : World) (p q : Nat) (cs ds : Array Value) (A : Option Addr) (n : Nat) (xs : List Nat) (B : Option Addr) (n2 : Nat) (ys : List Nat) (W : World) : Prop where
  one : GP w p cs A n xs W
  two : GP w q ds B n2 ys W
section
variable {w W W' : World} {p q n n2 : Nat} {cs ds : Array Value} {A B : Option Addr} {xs ys : List Nat}
theorem GU.below (h : GU w p q cs ds A n xs B n2 ys W) (hb : Below W.heap.size W W') : GU w p q cs ds A n xs B n2 ys W' := ⟨h.one.below hb, h.two.below hb⟩
theorem GU.drew (h : GU w p q cs ds A n xs B n2 ys W) : GU w p q cs ds A n xs B n2 ys W.drew := ⟨h.one.drew, h.two.drew⟩
end

set_option maxRecDepth 100000 in
set_option maxHeartbeats 4000000 in
theorem unlike_walk (k g li m s c o v : Nat) (A : Option Addr) (n cp : Nat) (xs : List Nat) (k2 g2 l2 m2 s2 c2 o2 v2 : Nat) (B : Option Addr) (n2 cq : Nat) (ys : List Nat) (same : Bool) (w : World) (hw : (Nd.mk k g li m s c o v xs).Wide) (hx : NS .u32 w A n xs)
    (hw2 : (Nd.mk k2 g2 l2 m2 s2 c2 o2 v2 ys).Wide) (hy : NS .u32 w B n2 ys) :
    Calls Try.prog 8 #[(.agg #[.int .u32 (k : Int), .int .u32 (g : Int), .int .u32 (li : Int), .int .u32 (m : Int), .int .u32 (s : Int), .int .u64 (c : Int), .int .u64 (o : Int), .int .u64 (v : Int), .slice A n cp]), (.agg #[.int .u32 (k2 : Int), .int .u32 (g2 : Int), .int .u32 (l2 : Int), .int .u32 (m2 : Int), .int .u32 (s2 : Int), .int .u64 (c2 : Int), .int .u64 (o2 : Int), .int .u64 (v2 : Int), .slice B n2 cq]), .bool same] w fun e w' => e = .returned (.bool true) ∧ Below w.heap.size w w' := by
  have HW := Lib.hid hw
  have HW2 := Lib.hid hw2
  have Hn := Lib.hid hx.1
  have HX := Lib.hid hx
  have hb0 : Below w.heap.size w ((w.alloc (.cells #[.int .u32 (k : Int), .int .u32 (g : Int), .int .u32 (li : Int), .int .u32 (m : Int), .int .u32 (s : Int), .int .u64 (c : Int), .int .u64 (o : Int), .int .u64 (v : Int), .slice A n cp] 26)).alloc (.cells #[.int .u32 (k2 : Int), .int .u32 (g2 : Int), .int .u32 (l2 : Int), .int .u32 (m2 : Int), .int .u32 (s2 : Int), .int .u64 (c2 : Int), .int .u64 (o2 : Int), .int .u64 (v2 : Int), .slice B n2 cq] 26)) := ((Below.refl _ _).alloc (Nat.le_refl _) _).alloc (by simp) _
  have HG0 : Hid (GU w w.heap.size (w.heap.size + 1) #[.int .u32 (k : Int), .int .u32 (g : Int), .int .u32 (li : Int), .int .u32 (m : Int), .int .u32 (s : Int), .int .u64 (c : Int), .int .u64 (o : Int), .int .u64 (v : Int), .slice A n cp] #[.int .u32 (k2 : Int), .int .u32 (g2 : Int), .int .u32 (l2 : Int), .int .u32 (m2 : Int), .int .u32 (s2 : Int), .int .u64 (c2 : Int), .int .u64 (o2 : Int), .int .u64 (v2 : Int), .slice B n2 cq] A n xs B n2 ys ((w.alloc (.cells #[.int .u32 (k : Int), .int .u32 (g : Int), .int .u32 (li : Int), .int .u32 (m : Int), .int .u32 (s : Int), .int .u64 (c : Int), .int .u64 (o : Int), .int .u64 (v : Int), .slice A n cp] 26)).alloc (.cells #[.int .u32 (k2 : Int), .int .u32 (g2 : Int), .int .u32 (l2 : Int), .int .u32 (m2 : Int), .int .u32 (s2 : Int), .int .u64 (c2 : Int), .int .u64 (o2 : Int), .int .u64 (v2 : Int), .slice B n2 cq] 26))) := by
    refine ⟨⟨(Below.heap_alloc _ _ _ (by simp)).trans (heap_alloc_new w _), hb0, hx.below hb0⟩, ⟨?_, hb0, hy.below hb0⟩⟩
    have := heap_alloc_new (w.alloc (.cells #[.int .u32 (k : Int), .int .u32 (g : Int), .int .u32 (li : Int), .int .u32 (m : Int), .int .u32 (s : Int), .int .u64 (c : Int), .int .u64 (o : Int), .int .u64 (v : Int), .slice A n cp] 26)) (.cells #[.int .u32 (k2 : Int), .int .u32 (g2 : Int), .int .u32 (l2 : Int), .int .u32 (m2 : Int), .int .u32 (s2 : Int), .int .u64 (c2 : Int), .int .u64 (o2 : Int), .int .u64 (v2 : Int), .slice B n2 cq] 26)
    simpa using this
  clear hb0 hx hy hw hw2
  go_enter Try.func8, Try.ntmps8
  go_wp2_with fail
  refine (awake_any _).mono ?_
  rintro e w1 ⟨rfl, hb1⟩
  have HG1 := Lib.hid (HG0.out.below hb1)
  clear hb1 HG0
  have HP0 : Hid (w.heap.size + 1 ≠ w.heap.size) := by show _ ≠ _; omega
  have HL0 : Hid (w.heap.size ≤ w.heap.size + 1) := Nat.le_succ _
  generalize hq : w.heap.size + 1 = q at *
  clear hq
  generalize hbb : w.heap.size = p at HG1 HP0 ⊢
  clear hbb
  obtain ⟨c0, c1, c2', c3, c4, c5, c6, c7, c8⟩ := I_cells HG1.out.one.nod
  obtain ⟨d0, d1, d2, d3, d4, d5, d6, d7, d8⟩ := I_cells HG1.out.two.nod
  by_cases h20 : 20 < n
  · have hd : decide ((20 : Int) < (n : Int)) = true := by simp; omega
    go_wp2
    go_ret
    exact ⟨rfl, HG1.out.one.bel⟩
  have hd : decide ((20 : Int) < (n : Int)) = false := by simp; omega
  by_cases h21 : 20 < n2
  · have he : decide ((20 : Int) < (n2 : Int)) = true := by simp; omega
    go_wp2
    go_ret
    exact ⟨rfl, HG1.out.one.bel⟩
  have he : decide ((20 : Int) < (n2 : Int)) = false := by simp; omega
  go_upto_if 25 with (fail)
  clear hd he c0 c1 c2' c3 c4 c5 c6 c7 c8 d0 d1 d2 d3 d4 d5 d6 d7 d8
  go_cut [] (fun W => ∃ (K G L M S C O V : Nat) (B' : Option Addr) (n3 cr : Nat) (zs : List Nat), n3 ≤ 20 ∧ Hid ((Nd.mk K G L M S C O V zs).Wide ∧ GU w p q #[.int .u32 (k : Int), .int .u32 (g : Int), .int .u32 (li : Int), .int .u32 (m : Int), .int .u32 (s : Int), .int .u64 (c : Int), .int .u64 (o : Int), .int .u64 (v : Int), .slice A n cp] #[.int .u32 (K : Int), .int .u32 (G : Int), .int .u32 (L : Int), .int .u32 (M : Int), .int .u32 (S : Int), .int .u64 (C : Int), .int .u64 (O : Int), .int .u64 (V : Int), .slice B' n3 cr] A n xs B' n3 zs W))
  case first =>
    cases same
    · go_wp2_with fail
      go_meet
      case rel => exact ⟨k2, g2, l2, m2, s2, c2, o2, v2, B, n2, cq, ys, by omega, HW2.out, HG1.out⟩
    · go_wp2_with (first
        | (refine wpList_load_row rfl 26 (.tmp 3) rfl _ rfl 26 #[.int .u32 (k : Int), .int .u32 (g : Int), .int .u32 (li : Int), .int .u32 (m : Int), .int .u32 (s : Int), .int .u64 (c : Int), .int .u64 (o : Int), .int .u64 (v : Int), .slice A n cp] (0, 0) _ HG1.out.one.nod Try.underlying26 rfl size_I ?_)
        | (refine wpList_store_any rfl 26 (.tmp 4) (.tmp 26) rfl q #[.int .u32 (k : Int), .int .u32 (g : Int), .int .u32 (li : Int), .int .u32 (m : Int), .int .u32 (s : Int), .int .u64 (c : Int), .int .u64 (o : Int), .int .u64 (v : Int), .slice A n cp] rfl rfl 26 _ HG1.out.two.nod size_I rfl (by simp [Value.oneCell']) ?_
           intro w2 hb2 hs2 hw2
           have HH2 : Hid (GU w p q #[.int .u32 (k : Int), .int .u32 (g : Int), .int .u32 (li : Int), .int .u32 (m : Int), .int .u32 (s : Int), .int .u64 (c : Int), .int .u64 (o : Int), .int .u64 (v : Int), .slice A n cp] #[.int .u32 (k : Int), .int .u32 (g : Int), .int .u32 (li : Int), .int .u32 (m : Int), .int .u32 (s : Int), .int .u64 (c : Int), .int .u64 (o : Int), .int .u64 (v : Int), .slice A n cp] A n xs A n xs w2) := by
             have hbel : Below w.heap.size w w2 := HG1.out.one.bel.trans (Keep.below (hw2.mono fun j hj => by have := HL0.out; omega))
             have hns : NS .u32 w2 A n xs := HX.out.below hbel
             exact ⟨⟨(hw2.block p (fun e => HP0.out e.symm)).trans HG1.out.one.nod, hbel, hns⟩, ⟨hb2, hbel, hns⟩⟩
           clear hb2 hs2 hw2))
      go_meet
      case rel => exact ⟨k, g, li, m, s, c, o, v, A, n, cp, xs, by omega, HW.out, HH2.out⟩
  obtain ⟨K, G, L, M, S, C, O, V, B', n3, cr, zs, hn3, H2⟩ := hcut
  have HWY : Hid ((Nd.mk K G L M S C O V zs).Wide) := H2.out.1
  have HG2 : Hid (GU w p q #[.int .u32 (k : Int), .int .u32 (g : Int), .int .u32 (li : Int), .int .u32 (m : Int), .int .u32 (s : Int), .int .u64 (c : Int), .int .u64 (o : Int), .int .u64 (v : Int), .slice A n cp] #[.int .u32 (K : Int), .int .u32 (G : Int), .int .u32 (L : Int), .int .u32 (M : Int), .int .u32 (S : Int), .int .u64 (C : Int), .int .u64 (O : Int), .int .u64 (V : Int), .slice B' n3 cr] A n xs B' n3 zs wc) := H2.out.2
  have Hn3 : Hid (zs.length = n3) := H2.out.2.two.ns.1
  clear H2 HG1
  go_wp2_with (first
    | (refine wpList_load_row rfl 26 (.tmp 3) rfl _ rfl 26 #[.int .u32 (k : Int), .int .u32 (g : Int), .int .u32 (li : Int), .int .u32 (m : Int), .int .u32 (s : Int), .int .u64 (c : Int), .int .u64 (o : Int), .int .u64 (v : Int), .slice A n cp] (0, 0) _ HG2.out.one.nod Try.underlying26 rfl size_I ?_))
  refine (put_any k g li m s c o v A n cp xs _ HW.out HG2.out.one.ns (by omega)).mono ?_
  rintro e w3 ⟨A3, e3, cp3, rfl, hbs3, hb3⟩
  have HG3 := Lib.hid (HG2.out.below hb3)
  have HB3 := Lib.hid hbs3
  clear hb3 hbs3 HG2
  go_wp2_with (first
    | (refine wpList_load_row rfl 26 (.tmp 4) rfl _ rfl 26 #[.int .u32 (K : Int), .int .u32 (G : Int), .int .u32 (L : Int), .int .u32 (M : Int), .int .u32 (S : Int), .int .u64 (C : Int), .int .u64 (O : Int), .int .u64 (V : Int), .slice B' n3 cr] (0, 0) _ HG3.out.two.nod Try.underlying26 rfl size_I ?_))
  refine (put_any K G L M S C O V B' n3 cr zs w3 HWY.out HG3.out.two.ns (by omega)).mono ?_
  rintro e w4 ⟨A4, e4, cp4, rfl, hbs4, hb4⟩
  have HG4 := Lib.hid (HG3.out.below hb4)
  have HB3' := Lib.hid (HB3.out.below hb4)
  have HB4 := Lib.hid hbs4
  clear hb4 hbs4 HG3 HB3
  by_cases hox : (Nd.mk k g li m s c o v xs).okB = true
  rotate_left
  · have hz : (Nd.mk k g li m s c o v xs).chk = 1 := if_neg hox
    rw [hz]
    clear hz hox
    go_wp2
    go_ret
    exact ⟨rfl, HG4.out.one.bel⟩
  have hzx : (Nd.mk k g li m s c o v xs).chk = 0 := if_pos hox
  rw [hzx]
  clear hzx
  by_cases hoy : (Nd.mk K G L M S C O V zs).okB = true
  rotate_left
  · have hz : (Nd.mk K G L M S C O V zs).chk = 1 := if_neg hoy
    rw [hz]
    clear hz hoy hox
    go_wp2
    go_ret
    exact ⟨rfl, HG4.out.one.bel⟩
  have hzy : (Nd.mk K G L M S C O V zs).chk = 0 := if_pos hoy
  rw [hzy]
  clear hzy
  have HI := Lib.hid (Nd.put_inj _ _ HW.out HWY.out hox hoy)
  clear hox hoy
  obtain ⟨z, hz⟩ : ∃ z, decide (Nd.mk k g li m s c o v xs = Nd.mk K G L M S C O V zs) = z := ⟨_, rfl⟩
  have HZ := Lib.hid hz
  obtain ⟨px, hpx⟩ : ∃ px, (Nd.mk k g li m s c o v xs).put = px := ⟨_, rfl⟩
  obtain ⟨py, hpy⟩ : ∃ py, (Nd.mk K G L M S C O V zs).put = py := ⟨_, rfl⟩
  rw [hpx] at HB3' HI
  rw [hpy] at HB4 HI
  clear hpx hpy
  have HEQ : Hid (((txt px).toList == (txt py).toList) = z) := by
    show _ = _
    rw [txt_toList, txt_toList, ← hz]
    by_cases h : px = py
    · rw [decide_eq_true (HI.out.1 h), h]
      exact beq_self_eq_true _
    · rw [decide_eq_false (fun e => h (HI.out.2 e))]
      exact beq_false_of_ne h
  clear hz
  go_upto_region 12 with (fail)
  have hzz := HEQ.out
  have HS : Hid ((fun W : World => SB p k g li m s c o v A n cp W ∧ SB q K G L M S C O V B' n3 cr W ∧ (convert 28 9 (.slice A3 e3 cp3)).run Try.prog W = .ok (.string (txt px)) W ∧ (convert 28 9 (.slice A4 e4 cp4)).run Try.prog W = .ok (.string (txt py)) W) w4.drew) := ⟨HG4.out.drew.one.sb, HG4.out.drew.two.sb, run_convert_bs _ _ _ _ _ HB3'.out, run_convert_bs _ _ _ _ _ HB4.out⟩
  refine wp_region_held_drew (S := fun W => SB p k g li m s c o v A n cp W ∧ SB q K G L M S C O V B' n3 cr W ∧ (convert 28 9 (.slice A3 e3 cp3)).run Try.prog W = .ok (.string (txt px)) W ∧ (convert 28 9 (.slice A4 e4 cp4)).run Try.prog W = .ok (.string (txt py)) W) (by kernel_rfl) HS.out (fun _ => ?_)
  change wpAnyH _ _ _ _ _ 12 (Array.replicate 12 false) _ _
  refine takeH (i := 0) 43 (.slice A3 e3 cp3) rfl rfl (by kernel_rfl) (by kernel_rfl) (by kernel_rfl) (fun _ _ _ h => h) (.inl ⟨by rfl, fun W hW => by go_simp⟩) HS.out ?_
  simp only [Act.put, List.setIfInBounds_toArray, List.set_cons_zero, List.set_cons_succ]
  refine takeH (i := 1) 44 (.string (txt px)) rfl rfl (by kernel_rfl) (by kernel_rfl) (by kernel_rfl) (fun _ _ _ h => h) (.inl ⟨by rfl, fun W hW => by (obtain ⟨_, _, hc, hd⟩ := hW; go_simp)⟩) HS.out ?_
  simp only [Act.put, List.setIfInBounds_toArray, List.set_cons_zero, List.set_cons_succ]
  refine takeH (i := 2) 45 (.slice A4 e4 cp4) rfl rfl (by kernel_rfl) (by kernel_rfl) (by kernel_rfl) (fun _ _ _ h => h) (.inl ⟨by rfl, fun W hW => by go_simp⟩) HS.out ?_
  simp only [Act.put, List.setIfInBounds_toArray, List.set_cons_zero, List.set_cons_succ]
  refine takeH (i := 3) 46 (.string (txt py)) rfl rfl (by kernel_rfl) (by kernel_rfl) (by kernel_rfl) (fun _ _ _ h => h) (.inl ⟨by rfl, fun W hW => by (obtain ⟨_, _, hc, hd⟩ := hW; go_simp)⟩) HS.out ?_
  simp only [Act.put, List.setIfInBounds_toArray, List.set_cons_zero, List.set_cons_succ]
  refine takeH (i := 4) 47 (.bool z) rfl rfl (by kernel_rfl) (by kernel_rfl) (by kernel_rfl) (fun _ _ _ h => h) (.inl ⟨by rfl, fun W hW => by go_simp⟩) HS.out ?_
  simp only [Act.put, List.setIfInBounds_toArray, List.set_cons_zero, List.set_cons_succ]
  refine takeH (i := 5) 48 (.agg #[.int .u32 (k : Int), .int .u32 (g : Int), .int .u32 (li : Int), .int .u32 (m : Int), .int .u32 (s : Int), .int .u64 (c : Int), .int .u64 (o : Int), .int .u64 (v : Int), .slice A n cp]) rfl rfl (by kernel_rfl) (by kernel_rfl) (by kernel_rfl) (fun _ _ _ h => h) (.inl ⟨by rfl, fun W hW => by (obtain ⟨⟨h0, h1, h2, h3, h4, h5, h6, h7, h8⟩, _⟩ := hW; go_simp)⟩) HS.out ?_
  simp only [Act.put, List.setIfInBounds_toArray, List.set_cons_zero, List.set_cons_succ]
  refine takeH (i := 7) 50 (.agg #[.int .u32 (K : Int), .int .u32 (G : Int), .int .u32 (L : Int), .int .u32 (M : Int), .int .u32 (S : Int), .int .u64 (C : Int), .int .u64 (O : Int), .int .u64 (V : Int), .slice B' n3 cr]) rfl rfl (by kernel_rfl) (by kernel_rfl) (by kernel_rfl) (fun _ _ _ h => h) (.inl ⟨by rfl, fun W hW => by (obtain ⟨_, ⟨h0, h1, h2, h3, h4, h5, h6, h7, h8⟩, _⟩ := hW; go_simp)⟩) HS.out ?_
  simp only [Act.put, List.setIfInBounds_toArray, List.set_cons_zero, List.set_cons_succ]
  refine wpAnyH_ready (rs := [6]) (by kernel_rfl) (by simp) ?_
  refine AllReadyH.cons rfl (fun K hK => ?_) AllReadyH.nil
  go_simp
  refine (inodeOf_any k g li m s c o v A n cp w4.drew).mono ?_
  rintro e w5 ⟨rfl, hb5⟩
  have HG5 := Lib.hid (HG4.out.drew.below hb5)
  have H35 : Hid (BS w5 A3 e3 px) := (show BS w4.drew A3 e3 px from HB3'.out).below hb5
  have H45 : Hid (BS w5 A4 e4 py) := (show BS w4.drew A4 e4 py from HB4.out).below hb5
  refine hK.out _ _ ⟨HG5.out.one.sb, HG5.out.two.sb, run_convert_bs _ _ _ _ _ H35.out, run_convert_bs _ _ _ _ _ H45.out⟩ fun _ => ?_
  clear hK K hb5
  refine wpAnyH_ready (rs := [8]) (by kernel_rfl) (by simp) ?_
  refine AllReadyH.cons rfl (fun K1 hK => ?_) AllReadyH.nil
  go_simp
  refine (inodeOf_any K G L M S C O V B' n3 cr w5).mono ?_
  rintro e w6 ⟨rfl, hb6⟩
  have HG6 := Lib.hid (HG5.out.below hb6)
  have H36 := Lib.hid (H35.out.below hb6)
  have H46 := Lib.hid (H45.out.below hb6)
  refine hK.out _ _ ⟨HG6.out.one.sb, HG6.out.two.sb, run_convert_bs _ _ _ _ _ H36.out, run_convert_bs _ _ _ _ _ H46.out⟩ fun _ => ?_
  clear hK K1 hb6
  refine wpAnyH_ready (rs := [9]) (by kernel_rfl) (by simp) ?_
  refine AllReadyH.cons rfl (fun K1 hK => ?_) AllReadyH.nil
  go_simp
  refine (refSame_any k g li m s c o v A n cp xs K G L M S C O V B' n3 cr zs w6 HG6.out.one.ns HG6.out.two.ns (by omega)).mono ?_
  rintro e w7 ⟨rfl, hb7⟩
  have HG7 := Lib.hid (HG6.out.below hb7)
  have H37 := Lib.hid (H36.out.below hb7)
  have H47 := Lib.hid (H46.out.below hb7)
  rw [HZ.out]
  have HS7 : Hid ((fun W : World => SB p k g li m s c o v A n cp W ∧ SB q K G L M S C O V B' n3 cr W ∧ (convert 28 9 (.slice A3 e3 cp3)).run Try.prog W = .ok (.string (txt px)) W ∧ (convert 28 9 (.slice A4 e4 cp4)).run Try.prog W = .ok (.string (txt py)) W) w7) := ⟨HG7.out.one.sb, HG7.out.two.sb, run_convert_bs _ _ _ _ _ H37.out, run_convert_bs _ _ _ _ _ H47.out⟩
  refine hK.out _ _ HS7.out fun _ => ?_
  clear hK K1 hb7
  refine takeH (i := 10) 53 (.bool true) rfl rfl (by kernel_rfl) (by kernel_rfl) (by kernel_rfl) (fun _ _ _ h => h) (.inl ⟨by rfl, fun W hW => by go_simp⟩) HS7.out ?_
  simp only [Act.put, List.setIfInBounds_toArray, List.set_cons_zero, List.set_cons_succ]
  refine takeH (i := 11) 6 (.bool true) rfl rfl (by kernel_rfl) (by kernel_rfl) (by kernel_rfl) (fun _ _ _ h => h) (.inl ⟨by rfl, fun W hW => by go_simp⟩) HS7.out ?_
  simp only [Act.put, List.setIfInBounds_toArray, List.set_cons_zero, List.set_cons_succ]
  refine wpAnyH_done (by kernel_rfl) ?_ _
  go_wp2
  go_ret
  exact ⟨rfl, HG7.out.one.bel⟩
end Go.Proofs.Ytkgpgaanodmpiaa
