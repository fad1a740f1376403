/-
  The walk of the statement on two states (layer 15).
-/
import Derived.Test.YtjionpkflpnejaaMQ6
namespace Go.Proofs.Ytjionpkflpnejaa
open Go.RowKit Go.Shelf

theorem own_grow {W0 W W' : World} {base B : Nat} {t : TypeId} {k n : Nat} {v : Value} {xs : List Value} (h : W.ownsRow base t k v n xs) (hg : W.grownBy W' v.ownBlock) (hb : Below B W0 W) (hB : B ≤ base) (hs : B ≤ W.heap.size) : Below B W0 W' :=
  hb.grown hg hs (fun j hj => Nat.le_trans hB (h.lt j hj).1)
set_option maxRecDepth 100000 in
set_option maxHeartbeats 8000000 in
theorem unlike_walk (w : World) (s : Ms) (hw : s.Wide) (t : Ms) (hv : t.Wide) (at_ : Nat) (hat : at_ < 256) (xb : UInt8) :
    Calls Try.prog 6 #[.agg (mc s).toArray, .agg (mc t).toArray, .int .u8 (at_ : Int), .int .u8 (xb.toNat : Int)] w fun e w' => e = .returned (.bool true) ∧ Below w.heap.size w w' := by
  obtain ⟨i0, hi0, hz0, hz1, hz2⟩ := info_parts info_u8
  have HI0 := Lib.hid hi0
  have HZ0 := Lib.hid hz0
  have HZ1 := Lib.hid hz1
  have HZ2 := Lib.hid hz2
  clear hi0 hz0 hz1 hz2
  have HWD := Lib.hid hw
  have HVD := Lib.hid hv
  obtain ⟨xi, hxi⟩ : ∃ z : Int, (xb.toNat : Int) = z := ⟨_, rfl⟩
  have HXI := Lib.hid hxi
  have hx1 : 0 ≤ xi := by omega
  have hx2 : xi < 256 := by have := UInt8.toNat_lt xb; omega
  rw [hxi]
  clear hxi hw hv
  have HA0 : Hid (Bw ((w.alloc (.cells (mc s).toArray 25)).alloc (.cells (mc t).toArray 25)) w.heap.size (mc s) 25) := (Below.heap_alloc _ _ _ (by simp)).trans (heap_alloc_new w _)
  have HB0 : Hid (Bw ((w.alloc (.cells (mc s).toArray 25)).alloc (.cells (mc t).toArray 25)) (w.heap.size + 1) (mc t) 25) := by
    have := heap_alloc_new (w.alloc (.cells (mc s).toArray 25)) (.cells (mc t).toArray 25)
    show Bw _ _ _ _
    unfold Bw
    simpa using this
  have HW0 : Hid (Below w.heap.size w ((w.alloc (.cells (mc s).toArray 25)).alloc (.cells (mc t).toArray 25))) := ((Below.refl _ _).alloc (Nat.le_refl _) _).alloc (by simp) _
  go_enter Try.func6, Try.ntmps6
  go_wp2_with fail
  refine (awakeM_any _).mono ?_
  rintro e w1 ⟨rfl, hb⟩
  have HA1 := Lib.hid (HA0.out.below hb)
  have HB1 := Lib.hid (HB0.out.below hb)
  have HW1 := Lib.hid (HW0.out.trans (hb.mono HW0.out.size))
  clear hb HA0 HB0 HW0
  generalize hq : w.heap.size + 1 = q at *
  clear hq
  generalize hbb : w.heap.size = p at HA1 ⊢
  have HSP : Hid (w.heap.size = p) := hbb
  clear hbb
  go_wp2_with (refine wpList_load_part rfl 25 (.tmp 4) rfl _ 0 rfl _ Try.underlying25 rfl (mc s) 25 _ HA1.out size_Mk (fun j u hu => by rw [Nat.zero_add]; exact hu) ?_)
  refine (putM_any s w1 HWD.out).mono ?_
  rintro e w2 ⟨A3, n3, c3, rfl, ho⟩
  have HA2 := Lib.hid (HA1.out.below ho.2)
  have HB2 := Lib.hid (HB1.out.below ho.2)
  have HW2 := Lib.hid (HW1.out.trans (ho.2.mono HW1.out.size))
  have HO2 : Hid (w2.ownsRow w1.heap.size 5 1 (.slice A3 n3 c3) n3 (bc (Mk.put s))) := ho.1
  have HCP := Lib.hid ho.cap
  have HS2 : Hid (w1.heap.size ≤ w2.heap.size) := ho.2.size
  have HSZ : Hid (w.heap.size ≤ w1.heap.size) := HW1.out.size
  clear ho HA1 HB1 HW1
  go_wp2_with (refine wpList_load_part rfl 25 (.tmp 5) rfl _ 0 rfl _ Try.underlying25 rfl (mc t) 25 _ HB2.out size_Mk (fun j u hu => by rw [Nat.zero_add]; exact hu) ?_)
  refine (putM_any t w2 HVD.out).mono ?_
  rintro e w3 ⟨B3, m3, d3, rfl, ho⟩
  have HA3 := Lib.hid (HA2.out.below ho.2)
  have HB3 := Lib.hid (HB2.out.below ho.2)
  have HW3 := Lib.hid (HW2.out.trans (ho.2.mono HW2.out.size))
  have HO3 : Hid (w3.ownsRow w1.heap.size 5 1 (.slice A3 n3 c3) n3 (bc (Mk.put s))) := HO2.out.kept (below_grown ho.2) (Classical.em _)
  have HY3 := Lib.hid ho.bs
  have HS3 : Hid (w1.heap.size ≤ w3.heap.size) := Nat.le_trans HS2.out ho.2.size
  clear ho HA2 HB2 HW2 HO2 HS2
  by_cases h1 : Mk.okM s = true
  rotate_left
  · rw [show Mk.chkM s = 1 from if_neg h1]
    clear h1
    go_wp2_with fail
    go_ret
    exact ⟨rfl, HW3.out⟩
  rw [show Mk.chkM s = 0 from if_pos h1]
  by_cases h2 : Mk.okM t = true
  rotate_left
  · rw [show Mk.chkM t = 1 from if_neg h2]
    clear h2
    go_wp2_with fail
    go_ret
    exact ⟨rfl, HW3.out⟩
  rw [show Mk.chkM t = 0 from if_pos h2]
  have hinj := Mk.put_inj s t HWD.out HVD.out h1 h2
  have HLEN := Lib.hid (Mk.put_length s h1)
  have HENC : Hid (s ≠ Mk.zero → Mk.put s = Mk.enc s) := fun h => if_pos ⟨h1, h⟩
  clear h1 h2
  obtain ⟨z, hz⟩ : ∃ z, decide (s = t) = z := ⟨_, rfl⟩
  have heq := mEq s t
  rw [hz] at heq
  have hst : ((txt (Mk.put s)).toList == (txt (Mk.put t)).toList) = z := by
    rw [txt_toList, txt_toList, ← hz, Bool.eq_iff_iff]
    simp only [beq_iff_eq, decide_eq_true_eq]
    exact hinj
  have HST := Lib.hid hst
  have HEQ := Lib.hid heq
  clear hinj hz hst heq
  generalize Mk.put t = Q at *
  obtain ⟨P, hP⟩ : ∃ P, Mk.put s = P := ⟨_, rfl⟩
  have HPP := Lib.hid hP
  rw [hP] at HO3 HST HLEN HENC
  clear hP
  go_upto_region 8 with fail
  have HSd : Hid ((fun W : World => Bw W p (mc s) 25 ∧ Bw W q (mc t) 25 ∧ (convert 27 9 (.slice A3 n3 c3)).run Try.prog W = .ok (.string (txt P)) W ∧ (convert 27 9 (.slice B3 m3 d3)).run Try.prog W = .ok (.string (txt Q)) W) w3.drew) := ⟨HA3.out, HB3.out, run_convert_bs _ _ _ _ _ (BS.of_own HO3.out), run_convert_bs _ _ _ _ _ HY3.out⟩
  refine wp_region_held_drew (S := fun W : World => Bw W p (mc s) 25 ∧ Bw W q (mc t) 25 ∧ (convert 27 9 (.slice A3 n3 c3)).run Try.prog W = .ok (.string (txt P)) W ∧ (convert 27 9 (.slice B3 m3 d3)).run Try.prog W = .ok (.string (txt Q)) W) (by kernel_rfl) HSd.out (fun _ => ?_)
  change wpAnyH _ _ _ _ _ 9 (Array.replicate 9 false) _ _
  refine takeH (i := 0) 38 (.slice A3 n3 c3) rfl rfl (by kernel_rfl) (by kernel_rfl) (by kernel_rfl) (fun _ _ _ h => h) (.inl ⟨by rfl, fun W hW => by go_simp⟩) HSd.out ?_
  simp only [Act.put, List.setIfInBounds_toArray, List.set_cons_zero, List.set_cons_succ]
  refine takeH (i := 1) 39 (.string (txt P)) rfl rfl (by kernel_rfl) (by kernel_rfl) (by kernel_rfl) (fun _ _ _ h => h) (.inl ⟨by rfl, fun W hW => by (obtain ⟨_, _, hc, _⟩ := hW; go_simp)⟩) HSd.out ?_
  simp only [Act.put, List.setIfInBounds_toArray, List.set_cons_zero, List.set_cons_succ]
  refine takeH (i := 2) 40 (.slice B3 m3 d3) rfl rfl (by kernel_rfl) (by kernel_rfl) (by kernel_rfl) (fun _ _ _ h => h) (.inl ⟨by rfl, fun W hW => by go_simp⟩) HSd.out ?_
  simp only [Act.put, List.setIfInBounds_toArray, List.set_cons_zero, List.set_cons_succ]
  refine takeH (i := 3) 41 (.string (txt Q)) rfl rfl (by kernel_rfl) (by kernel_rfl) (by kernel_rfl) (fun _ _ _ h => h) (.inl ⟨by rfl, fun W hW => by (obtain ⟨_, _, _, hc⟩ := hW; go_simp)⟩) HSd.out ?_
  simp only [Act.put, List.setIfInBounds_toArray, List.set_cons_zero, List.set_cons_succ]
  refine takeH (i := 4) 42 (.bool z) rfl rfl (by kernel_rfl) (by kernel_rfl) (by kernel_rfl) (fun _ _ _ h => h) (.inl ⟨by rfl, fun W hW => by (have hst := HST.out; go_simp)⟩) HSd.out ?_
  simp only [Act.put, List.setIfInBounds_toArray, List.set_cons_zero, List.set_cons_succ]
  refine takeH (i := 5) 43 (.agg (mc s).toArray) rfl rfl (by kernel_rfl) (by kernel_rfl) (by kernel_rfl) (fun _ _ _ h => h) (.inl ⟨by rfl, fun W hW => by (exact run_load_part 25 (.tmp 4) rfl p 0 rfl _ Try.underlying25 rfl (mc s) 25 _ hW.1 size_Mk (fun j u hu => by rw [Nat.zero_add]; exact hu))⟩) HSd.out ?_
  simp only [Act.put, List.setIfInBounds_toArray, List.set_cons_zero, List.set_cons_succ]
  refine takeH (i := 6) 44 (.agg (mc t).toArray) rfl rfl (by kernel_rfl) (by kernel_rfl) (by kernel_rfl) (fun _ _ _ h => h) (.inl ⟨by rfl, fun W hW => by (exact run_load_part 25 (.tmp 5) rfl q 0 rfl _ Try.underlying25 rfl (mc t) 25 _ hW.2.1 size_Mk (fun j u hu => by rw [Nat.zero_add]; exact hu))⟩) HSd.out ?_
  simp only [Act.put, List.setIfInBounds_toArray, List.set_cons_zero, List.set_cons_succ]
  refine takeH (i := 7) 45 (.bool z) rfl rfl (by kernel_rfl) (by kernel_rfl) (by kernel_rfl) (fun _ _ _ h => h) (.inl ⟨by rfl, fun W hW => by (have heq := HEQ.out; go_simp)⟩) HSd.out ?_
  simp only [Act.put, List.setIfInBounds_toArray, List.set_cons_zero, List.set_cons_succ]
  refine takeH (i := 8) 46 (.bool false) rfl rfl (by kernel_rfl) (by kernel_rfl) (by kernel_rfl) (fun _ _ _ h => h) (.inl ⟨by rfl, fun W hW => by go_simp⟩) HSd.out ?_
  simp only [Act.put, List.setIfInBounds_toArray, List.set_cons_zero, List.set_cons_succ]
  refine wpAnyH_done (by kernel_rfl) ?_ _
  have HA4 : Hid (Bw w3.drew p (mc s) 25) := HA3.out
  have HW4 := Lib.hid HW3.out.drew
  have HO4 : Hid (w3.drew.ownsRow w1.heap.size 5 1 (.slice A3 n3 c3) n3 (bc P)) := HO3.out
  have HS4 : Hid (w1.heap.size ≤ w3.drew.heap.size) := HS3.out
  clear HSd HA3 HB3 HW3 HO3 HS3 HY3 HST HEQ
  generalize w3.drew = w4 at *
  have hnl : P.length = n3 := (BS.of_own HO4.out).1
  go_upto_region 10 with fail
  by_cases hzr : s = Mk.zero
  · have hd : ((n3 : Int) == 0) = true := by
      have := HLEN.out
      rw [if_pos hzr] at this
      simp
      omega
    have heq : ∀ W : World, (binOp .eql 25 (.agg (mc s).toArray) (.agg #[.bool false, .int .u32 0, .int .u32 0, .int .u64 0, .int .u64 0, .int .u64 0, .int .u64 0, .int .u32 0, .int .u32 0])).run Try.prog W = .ok (.bool true) W := fun W => by
      have := mEq s Mk.zero W
      rw [decide_eq_true hzr] at this
      exact this
    clear hzr hnl
    go_wp2_with (first
      | (refine wpList_load_part rfl 25 (.tmp 4) rfl _ 0 rfl _ Try.underlying25 rfl (mc s) 25 _ HA4.out size_Mk (fun j u hu => by rw [Nat.zero_add]; exact hu) ?_)
      | (refine Did.list rfl (did_build 25 #[] rfl (mc Mk.zero).toArray (by exact built_Mkz)) ?_))
    go_ret
    exact ⟨rfl, HW4.out⟩
  have hn52 : n3 = 52 := by
    have := HLEN.out
    rw [if_neg hzr] at this
    omega
  have hPE : P = Mk.enc s := HENC.out hzr
  have HCUT : Hid (∀ j, 0 < j → j < 52 → Mk.err (P.take j) = 10) := fun j h0 hj => by
    rw [hPE]
    exact Mk.err_cut s j HWD.out (by rw [Mk.enc_length]; exact hj) h0
  have HMORE : Hid (∀ b, Mk.err (P ++ [b]) = 12) := fun b => by
    rw [hPE]
    exact Mk.err_more s [b] HWD.out (by simp)
  clear hzr hPE HENC HLEN HPP
  subst hn52
  have hk : at_ % 52 < 52 := Nat.mod_lt _ (by decide)
  obtain ⟨k, hkk⟩ : ∃ k : Nat, at_ % 52 = k := ⟨_, rfl⟩
  have hk2 : (at_ : Int) % 52 = (k : Int) := by omega
  rw [hkk] at hk
  clear hkk
  have hk0 : (k : Int) ≤ (c3 : Int) := by have := HCP.out; omega
  go_wp2_with fail
  refine (getM_any (P.take k) A3 k c3 w4 ((BS.of_own HO4.out).take (by omega)) (by omega)).mono ?_
  rintro e w5 ⟨rfl, hbg⟩
  have HK : Hid ((k = 0 → Mk.err (P.take k) = 0) ∧ (0 < k → Mk.err (P.take k) = 10)) := ⟨fun h => by rw [h]; exact Mk.err_nil, fun h => HCUT.out k h hk⟩
  generalize Mk.err (P.take k) = er at *
  generalize Mk.got (P.take k) = gx at *
  have HW5 := Lib.hid (HW4.out.trans (hbg.mono HW4.out.size))
  have HO5 : Hid (w5.ownsRow w1.heap.size 5 1 (.slice A3 52 c3) 52 (bc P)) := HO4.out.kept (below_grown hbg) (Classical.em _)
  have HS5 : Hid (w1.heap.size ≤ w5.heap.size) := Nat.le_trans HS4.out hbg.size
  clear hbg HW4 HO4 HS4 HCUT HA4 hk0
  have HKK := Lib.hid hk
  have HK2 := Lib.hid hk2
  clear hk hk2
  go_upto_region 14 with (first
    | (refine wpList_alloc_any rfl 25 rfl _ zero_Mk ?_; intro w6 hb6 hs6 hw6)
    | (refine wpList_store_part rfl 25 (.tmp 15) (.tmp 63) rfl w5.heap.size 0 (mc gx) rfl rfl 25 _ hb6 size_Mk (by simp [mc]) (mc_one _) ?_
       intro w7 hb7 hs7 hk7))
  have hbw : Below w5.heap.size w5 w7 := hw6.trans (hk7.below2 (fun k hk => by omega))
  have HW7 := Lib.hid (HW5.out.trans (hbw.mono HW5.out.size))
  have HO7 : Hid (w7.ownsRow w1.heap.size 5 1 (.slice A3 52 c3) 52 (bc P)) := HO5.out.kept (below_grown hbw) (Classical.em _)
  have HS7 : Hid (w1.heap.size ≤ w7.heap.size) := Nat.le_trans HS5.out hbw.size
  clear hb6 hs6 hw6 hb7 hs7 hk7 hbw HW5 HO5 HS5
  have hal : Below w7.heap.size w7 (w7.alloc (.cells #[.int .u8 xi] 5)) := (Below.refl _ _).alloc (Nat.le_refl _) _
  have HWa := Lib.hid (HW7.out.trans (hal.mono HW7.out.size))
  have HOa : Hid ((w7.alloc (.cells #[.int .u8 xi] 5)).ownsRow w1.heap.size 5 1 (.slice A3 52 c3) 52 (bc P)) := HO7.out.kept (below_grown hal) (Classical.em _)
  have HXa : Hid (BS (w7.alloc (.cells #[.int .u8 xi] 5)) (some ⟨w7.heap.size, 0, none⟩) 1 [xb]) := by rw [← HXI.out]; exact BS.of_block (l := [xb]) (heap_alloc_new w7 (.cells #[.int .u8 (xb.toNat : Int)] 5))
  have HSa : Hid (w1.heap.size ≤ (w7.alloc (.cells #[.int .u8 xi] 5)).heap.size) := Nat.le_trans HS7.out hal.size
  clear hal HW7 HO7
  go_wp2_with (at_builtin
               refine wpList_append_bytes _ rfl _ _ 27 rfl w1.heap.size 5 i0 Try.underlying27 HI0.out HZ0.out HZ1.out HZ2.out A3 52 c3 P rfl HOa.out (some ⟨w7.heap.size, 0, none⟩) 1 1 [xb] rfl HXa.out (by omega) HSa.out ?_
               intro A8 c8 w8 ho8 hg8 _
               have HB8 := Lib.hid (BS.of_own ho8)
               have HW8 : Hid (Below w.heap.size w w8) := own_grow HOa.out hg8 HWa.out HSZ.out HWa.out.size
               clear ho8 hg8)
  refine (getM_any (P ++ [xb]) A8 (52 + 1) c8 w8 HB8.out (by omega)).mono ?_
  rintro e w9 ⟨rfl, hbg⟩
  rw [HMORE.out xb]
  have HW9 := Lib.hid (HW8.out.trans (hbg.mono HW8.out.size))
  clear hbg HW8 HB8 HMORE HOa HXa HSa HWa HS7 HSZ
  generalize Mk.got (P ++ [xb]) = gy at *
  go_upto_region 15 with (first
    | (refine wpList_alloc_any rfl 25 rfl _ zero_Mk ?_; intro wa hba hsa hwa)
    | (refine wpList_store_part rfl 25 (.tmp 17) (.tmp 71) rfl w9.heap.size 0 (mc gy) rfl rfl 25 _ hba size_Mk (by simp [mc]) (mc_one _) ?_
       intro wb hbb hsb hkb))
  have hbw : Below w9.heap.size w9 wb := hwa.trans (hkb.below2 (fun k hk => by omega))
  have HWb := Lib.hid (HW9.out.trans (hbw.mono HW9.out.size))
  clear hba hsa hwa hbb hsb hkb hbw HW9
  by_cases hk0 : k = 0
  · obtain rfl := HK.out.1 hk0
    have hk1 : (at_ : Int) % 52 = 0 := by have := HK2.out; omega
    clear hk0
    go_wp2_with fail
    go_ret
    exact ⟨rfl, HWb.out⟩
  · obtain rfl := HK.out.2 (by omega)
    have hk1 : ((at_ : Int) % 52 == 0) = false := by have := HK2.out; simp; omega
    clear hk0
    go_wp2_with fail
    go_ret
    exact ⟨rfl, HWb.out⟩
end Go.Proofs.Ytjionpkflpnejaa
