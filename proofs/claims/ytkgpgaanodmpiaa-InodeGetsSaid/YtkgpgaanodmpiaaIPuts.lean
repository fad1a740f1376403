/-
  InodePuts walked (layer 7).
-/
import Derived.Test.YtkgpgaanodmpiaaIRPut
import Derived.Test.YtkgpgaanodmpiaaISame
namespace Go.Proofs.Ytkgpgaanodmpiaa
open Go.RowKit

/-- While InodePuts goes: its inode lies in block b; the bytes that were put. -/
structure GP (w : World) (b : Nat) (cs : Array Value) (A : Option Addr) (n : Nat) (xs : List Nat) (W : World) : Prop where
  nod : W.heap[b]? = some (.cells cs 26 (0, 0))
  bel : Below w.heap.size w W
  ns : NS .u32 W A n xs
theorem GP.lt {w W : World} {b n : Nat} {cs : Array Value} {A : Option Addr} {xs : List Nat} (h : GP w b cs A n xs W) : b < W.heap.size := by
  have h2 := h.nod
  rcases Nat.lt_or_ge b W.heap.size with h | h
  · exact h
  · rw [Array.getElem?_eq_none h] at h2; cases h2
theorem GP.below {w W W' : World} {b n : Nat} {cs : Array Value} {A : Option Addr} {xs : List Nat} (h : GP w b cs A n xs W) (hb : Below W.heap.size W W') : GP w b cs A n xs W' :=
  ⟨(hb.block b h.lt).trans h.nod, h.bel.trans (hb.mono h.bel.size), h.ns.below hb⟩
theorem GP.drew {w W : World} {b n : Nat} {cs : Array Value} {A : Option Addr} {xs : List Nat} (h : GP w b cs A n xs W) : GP w b cs A n xs W.drew := ⟨h.nod, h.bel.drew, h.ns⟩
/-- A region under one condition goes under a weaker one. -/
theorem weakenH {P : Program} {md : Region.Mode} {ops : Array Oper} {Q : Exit → Act → World → Prop} {S S' : World → Prop} (hS : ∀ W, S' W → S W) : ∀ (fuel : Nat) (listed : Array Bool) (a : Act) (w : World), wpAnyH P md ops Q S' fuel listed a w → wpAnyH P md ops Q S fuel listed a w
  | 0, _, _, _, h => h
  | fuel + 1, _, _, _, h => ⟨h.1, fun i hi => wpOp_mono (fun a' w' h' => ⟨hS _ h'.1, weakenH hS fuel _ a' w' h'.2⟩) (h.2 i hi)⟩
/-- The cells of an inode in block b, and a text of bytes: what the last statements read. -/
def SB (b : Nat) (k g li m s c o v : Nat) (A : Option Addr) (n cp : Nat) (W : World) : Prop :=
  W.cell? ⟨b, 0, none⟩ = some (.int .u32 (k : Int)) ∧ W.cell? ⟨b, 1, none⟩ = some (.int .u32 (g : Int)) ∧ W.cell? ⟨b, 2, none⟩ = some (.int .u32 (li : Int)) ∧ W.cell? ⟨b, 3, none⟩ = some (.int .u32 (m : Int)) ∧
    W.cell? ⟨b, 4, none⟩ = some (.int .u32 (s : Int)) ∧ W.cell? ⟨b, 5, none⟩ = some (.int .u64 (c : Int)) ∧ W.cell? ⟨b, 6, none⟩ = some (.int .u64 (o : Int)) ∧ W.cell? ⟨b, 7, none⟩ = some (.int .u64 (v : Int)) ∧
    W.cell? ⟨b, 8, none⟩ = some (.slice A n cp)
theorem GP.sb {w W : World} {b k g li m s c o v n cp : Nat} {A : Option Addr} {xs : List Nat} (h : GP w b #[.int .u32 (k : Int), .int .u32 (g : Int), .int .u32 (li : Int), .int .u32 (m : Int), .int .u32 (s : Int), .int .u64 (c : Int), .int .u64 (o : Int), .int .u64 (v : Int), .slice A n cp] A n xs W) : SB b k g li m s c o v A n cp W := I_cells h.nod

set_option maxRecDepth 100000 in
set_option maxHeartbeats 4000000 in
theorem puts_walk (k g li m s c o v : Nat) (A : Option Addr) (n cp : Nat) (xs : List Nat) (sz : Int) (w : World) (hw : (Nd.mk k g li m s c o v xs).Wide) (hx : NS .u32 w A n xs) (hs0 : -9223372036854775808 ≤ sz) (hs1 : sz ≤ 9223372036854775807) :
    Calls Try.prog 3 #[(.agg #[.int .u32 (k : Int), .int .u32 (g : Int), .int .u32 (li : Int), .int .u32 (m : Int), .int .u32 (s : Int), .int .u64 (c : Int), .int .u64 (o : Int), .int .u64 (v : Int), .slice A n cp]), .int .i64 sz] w fun e w' => e = .returned (.bool true) ∧ Below w.heap.size w w' := by
  have HX := Lib.hid hx
  have Hn := Lib.hid hx.1
  have HW := Lib.hid hw
  have HA : Hid (Below w.heap.size w (w.alloc (.cells #[.int .u32 (k : Int), .int .u32 (g : Int), .int .u32 (li : Int), .int .u32 (m : Int), .int .u32 (s : Int), .int .u64 (c : Int), .int .u64 (o : Int), .int .u64 (v : Int), .slice A n cp] 26))) := (Below.refl _ _).alloc (Nat.le_refl _) _
  have HG0 : Hid (GP w w.heap.size #[.int .u32 (k : Int), .int .u32 (g : Int), .int .u32 (li : Int), .int .u32 (m : Int), .int .u32 (s : Int), .int .u64 (c : Int), .int .u64 (o : Int), .int .u64 (v : Int), .slice A n cp] A n xs (w.alloc (.cells #[.int .u32 (k : Int), .int .u32 (g : Int), .int .u32 (li : Int), .int .u32 (m : Int), .int .u32 (s : Int), .int .u64 (c : Int), .int .u64 (o : Int), .int .u64 (v : Int), .slice A n cp] 26))) := ⟨heap_alloc_new w _, HA.out, HX.out.below HA.out⟩
  clear hx hw HA
  go_enter Try.func3, Try.ntmps3
  go_wp2_with fail
  refine (awake_any _).mono ?_
  rintro e w1 ⟨rfl, hb1⟩
  have HG1 := Lib.hid (HG0.out.below hb1)
  clear hb1 HG0
  generalize hbb : w.heap.size = b at *
  have HBB := Lib.hid hbb
  clear hbb
  obtain ⟨c0, c1, c2, c3, c4, c5, c6, c7, c8⟩ := I_cells HG1.out.nod
  by_cases h20 : 20 < n
  · have hd : decide ((20 : Int) < (n : Int)) = true := by simp; omega
    go_wp2
    go_ret
    exact ⟨rfl, HG1.out.bel⟩
  have hd : decide ((20 : Int) < (n : Int)) = false := by simp; omega
  by_cases hm : 1000000 < sz
  · have hd2 : decide ((1000000 : Int) < sz) = true := by simpa using hm
    go_wp2
    go_ret
    exact ⟨rfl, HG1.out.bel⟩
  have hd2 : decide ((1000000 : Int) < sz) = false := by simpa using hm
  go_wp2_with fail
  refine (put_any k g li m s c o v A n cp xs w1 HW.out HG1.out.ns (by omega)).mono ?_
  rintro e w2 ⟨A2, n2, cp2, rfl, hbs2, hb2⟩
  have HG2 := Lib.hid (HG1.out.below hb2)
  have HB2 := Lib.hid hbs2
  clear hb2 hbs2 HG1 c0 c1 c2 c3 c4 c5 c6 c7 c8 hd hd2
  obtain ⟨c0, c1, c2, c3, c4, c5, c6, c7, c8⟩ := I_cells HG2.out.nod
  go_wp2_with fail
  refine (inodeOf_any k g li m s c o v A n cp w2).mono ?_
  rintro e w3 ⟨rfl, hb3⟩
  have HG3 := Lib.hid (HG2.out.below hb3)
  have HB3 := Lib.hid (HB2.out.below hb3)
  clear hb3 HG2 HB2 c0 c1 c2 c3 c4 c5 c6 c7 c8
  go_wp2_with fail
  refine (refPut_any k g li m s c o v A n cp xs w3 HW.out HG3.out.ns (by omega)).mono ?_
  rintro e w4 ⟨rfl, hb4⟩
  have HG4 := Lib.hid (HG3.out.below hb4)
  have HB4 := Lib.hid (HB3.out.below hb4)
  clear hb4 HG3 HB3
  go_upto_region 8 with (fail)
  have HM : Hid (sz ≤ 1000000) := by show _ ≤ _; omega
  obtain ⟨z, hz⟩ : ∃ z, (Nd.mk k g li m s c o v xs).chk = z := ⟨_, rfl⟩
  have HZ := Lib.hid hz
  rw [hz]
  clear hz
  have HP80 := Lib.hid (Nd.put_len (Nd.mk k g li m s c o v xs))
  obtain ⟨pt, hpt⟩ : ∃ pt, (Nd.mk k g li m s c o v xs).put = pt := ⟨_, rfl⟩
  have HPT := Lib.hid hpt
  rw [hpt] at HP80 HB4 ⊢
  clear hpt
  have HC : Hid ((convert 28 9 (.slice A2 n2 cp2)).run Try.prog w4.drew = .ok (.string (txt pt)) w4.drew) := run_convert_bs _ _ _ _ _ HB4.out
  have HS : Hid ((fun W : World => SB b k g li m s c o v A n cp W ∧ (convert 28 9 (.slice A2 n2 cp2)).run Try.prog W = .ok (.string (txt pt)) W) w4.drew) := ⟨HG4.out.drew.sb, HC.out⟩
  refine wp_region_held_drew (S := fun W => SB b k g li m s c o v A n cp W ∧ (convert 28 9 (.slice A2 n2 cp2)).run Try.prog W = .ok (.string (txt pt)) W) (by kernel_rfl) HS.out (fun _ => ?_)
  change wpAnyH _ _ _ _ _ 24 (Array.replicate 24 false) _ _
  refine takeH (i := 0) 34 (.agg #[.int .u32 (k : Int), .int .u32 (g : Int), .int .u32 (li : Int), .int .u32 (m : Int), .int .u32 (s : Int), .int .u64 (c : Int), .int .u64 (o : Int), .int .u64 (v : Int), .slice A n cp]) rfl rfl (by kernel_rfl) (by kernel_rfl) (by kernel_rfl) (fun _ _ _ h => h) (.inl ⟨by rfl, fun W hW => by (obtain ⟨⟨h0, h1, h2, h3, h4, h5, h6, h7, h8⟩, hc⟩ := hW; go_simp)⟩) HS.out ?_
  simp only [Act.put, List.setIfInBounds_toArray, List.set_cons_zero, List.set_cons_succ]
  refine takeH (i := 2) 36 (.agg #[.int .u32 (k : Int), .int .u32 (g : Int), .int .u32 (li : Int), .int .u32 (m : Int), .int .u32 (s : Int), .int .u64 (c : Int), .int .u64 (o : Int), .int .u64 (v : Int), .slice A n cp]) rfl rfl (by kernel_rfl) (by kernel_rfl) (by kernel_rfl) (fun _ _ _ h => h) (.inl ⟨by rfl, fun W hW => by (obtain ⟨⟨h0, h1, h2, h3, h4, h5, h6, h7, h8⟩, hc⟩ := hW; go_simp)⟩) HS.out ?_
  simp only [Act.put, List.setIfInBounds_toArray, List.set_cons_zero, List.set_cons_succ]
  refine wpAnyH_ready (rs := [1]) (by kernel_rfl) (by simp) ?_
  refine AllReadyH.cons rfl (fun K hK => ?_) AllReadyH.nil
  go_simp
  refine (check_any k g li m s c o v A n cp xs w4.drew HW.out HG4.out.drew.ns (by omega)).mono ?_
  rintro e w5 ⟨rfl, hb5⟩
  have HG5 := Lib.hid (HG4.out.drew.below hb5)
  have HB5 := Lib.hid ((show BS w4.drew A2 n2 pt from HB4.out).below hb5)
  have HS5 : Hid ((fun W : World => SB b k g li m s c o v A n cp W ∧ (convert 28 9 (.slice A2 n2 cp2)).run Try.prog W = .ok (.string (txt pt)) W) w5) := ⟨HG5.out.sb, run_convert_bs _ _ _ _ _ HB5.out⟩
  refine hK.out _ _ HS5.out fun _ => ?_
  clear hK K hb5
  rw [HZ.out]
  refine wpAnyH_ready (rs := [3]) (by kernel_rfl) (by simp) ?_
  refine AllReadyH.cons rfl (fun K hK => ?_) AllReadyH.nil
  go_simp
  refine (inodeOf_any k g li m s c o v A n cp w5).mono ?_
  rintro e w6 ⟨rfl, hb6⟩
  have HG6 := Lib.hid (HG5.out.below hb6)
  have HB6 := Lib.hid (HB5.out.below hb6)
  have HS6 : Hid ((fun W : World => SB b k g li m s c o v A n cp W ∧ (convert 28 9 (.slice A2 n2 cp2)).run Try.prog W = .ok (.string (txt pt)) W) w6) := ⟨HG6.out.sb, run_convert_bs _ _ _ _ _ HB6.out⟩
  refine hK.out _ _ HS6.out fun _ => ?_
  clear hK K hb6
  refine wpAnyH_ready (rs := [4]) (by kernel_rfl) (by simp) ?_
  refine AllReadyH.cons rfl (fun K hK => ?_) AllReadyH.nil
  go_simp
  refine (refCheck_any k g li m s c o v A n cp xs w6 HW.out HG6.out.ns (by omega)).mono ?_
  rintro e w7 ⟨rfl, hb7⟩
  have HG7 := Lib.hid (HG6.out.below hb7)
  have HB7 := Lib.hid (HB6.out.below hb7)
  have HS7 : Hid ((fun W : World => SB b k g li m s c o v A n cp W ∧ (convert 28 9 (.slice A2 n2 cp2)).run Try.prog W = .ok (.string (txt pt)) W) w7) := ⟨HG7.out.sb, run_convert_bs _ _ _ _ _ HB7.out⟩
  refine hK.out _ _ HS7.out fun _ => ?_
  clear hK K hb7
  rw [HZ.out]
  refine takeH (i := 5) 39 (.bool false) rfl rfl (by kernel_rfl) (by kernel_rfl) (by kernel_rfl) (fun _ _ _ h => h) (.inl ⟨by rfl, fun W hW => by go_simp⟩) HS7.out ?_
  simp only [Act.put, List.setIfInBounds_toArray, List.set_cons_zero, List.set_cons_succ]
  refine takeH (i := 6) 40 (.bool false) rfl rfl (by kernel_rfl) (by kernel_rfl) (by kernel_rfl) (fun _ _ _ h => h) (.inl ⟨by rfl, fun W hW => by go_simp⟩) HS7.out ?_
  simp only [Act.put, List.setIfInBounds_toArray, List.set_cons_zero, List.set_cons_succ]
  refine takeH (i := 7) 41 (.slice A2 n2 cp2) rfl rfl (by kernel_rfl) (by kernel_rfl) (by kernel_rfl) (fun _ _ _ h => h) (.inl ⟨by rfl, fun W hW => by go_simp⟩) HS7.out ?_
  simp only [Act.put, List.setIfInBounds_toArray, List.set_cons_zero, List.set_cons_succ]
  refine takeH (i := 8) 42 (.string (txt pt)) rfl rfl (by kernel_rfl) (by kernel_rfl) (by kernel_rfl) (fun _ _ _ h => h) (.inl ⟨by rfl, fun W hW => by (obtain ⟨_, hc⟩ := hW; go_simp)⟩) HS7.out ?_
  simp only [Act.put, List.setIfInBounds_toArray, List.set_cons_zero, List.set_cons_succ]
  refine takeH (i := 9) 43 (.string (txt pt)) rfl rfl (by kernel_rfl) (by kernel_rfl) (by kernel_rfl) (fun _ _ _ h => h) (.inl ⟨by rfl, fun W hW => by go_simp⟩) HS7.out ?_
  simp only [Act.put, List.setIfInBounds_toArray, List.set_cons_zero, List.set_cons_succ]
  refine takeH (i := 10) 44 (.bool false) rfl rfl (by kernel_rfl) (by kernel_rfl) (by kernel_rfl) (fun _ _ _ h => h) (.inl ⟨by rfl, fun W hW => by go_simp⟩) HS7.out ?_
  simp only [Act.put, List.setIfInBounds_toArray, List.set_cons_zero, List.set_cons_succ]
  refine takeH (i := 11) 45 (.bool false) rfl rfl (by kernel_rfl) (by kernel_rfl) (by kernel_rfl) (fun _ _ _ h => h) (.inl ⟨by rfl, fun W hW => by go_simp⟩) HS7.out ?_
  simp only [Act.put, List.setIfInBounds_toArray, List.set_cons_zero, List.set_cons_succ]
  refine takeH (i := 12) 46 (.bool false) rfl rfl (by kernel_rfl) (by kernel_rfl) (by kernel_rfl) (fun _ _ _ h => h) (.inl ⟨by rfl, fun W hW => by go_simp⟩) HS7.out ?_
  simp only [Act.put, List.setIfInBounds_toArray, List.set_cons_zero, List.set_cons_succ]
  refine takeH (i := 13) 47 (.int .i64 z) rfl rfl (by kernel_rfl) (by kernel_rfl) (by kernel_rfl) (fun _ _ _ h => h) (.inl ⟨by rfl, fun W hW => by go_simp⟩) HS7.out ?_
  simp only [Act.put, List.setIfInBounds_toArray, List.set_cons_zero, List.set_cons_succ]
  refine takeH (i := 14) 48 (.int .i64 z) rfl rfl (by kernel_rfl) (by kernel_rfl) (by kernel_rfl) (fun _ _ _ h => h) (.inl ⟨by rfl, fun W hW => by go_simp⟩) HS7.out ?_
  simp only [Act.put, List.setIfInBounds_toArray, List.set_cons_zero, List.set_cons_succ]
  refine takeH (i := 15) 49 (.bool false) rfl rfl (by kernel_rfl) (by kernel_rfl) (by kernel_rfl) (fun _ _ _ h => h) (.inl ⟨by rfl, fun W hW => by go_simp⟩) HS7.out ?_
  simp only [Act.put, List.setIfInBounds_toArray, List.set_cons_zero, List.set_cons_succ]
  refine takeH (i := 16) 50 (.bool false) rfl rfl (by kernel_rfl) (by kernel_rfl) (by kernel_rfl) (fun _ _ _ h => h) (.inl ⟨by rfl, fun W hW => by go_simp⟩) HS7.out ?_
  simp only [Act.put, List.setIfInBounds_toArray, List.set_cons_zero, List.set_cons_succ]
  refine takeH (i := 17) 51 (.bool false) rfl rfl (by kernel_rfl) (by kernel_rfl) (by kernel_rfl) (fun _ _ _ h => h) (.inl ⟨by rfl, fun W hW => by go_simp⟩) HS7.out ?_
  simp only [Act.put, List.setIfInBounds_toArray, List.set_cons_zero, List.set_cons_succ]
  refine takeH (i := 18) 52 (.int .i64 sz) rfl rfl (by kernel_rfl) (by kernel_rfl) (by kernel_rfl) (fun _ _ _ h => h) (.inl ⟨by rfl, fun W hW => by go_simp⟩) HS7.out ?_
  simp only [Act.put, List.setIfInBounds_toArray, List.set_cons_zero, List.set_cons_succ]
  refine takeH (i := 20) 54 (.int .i64 sz) rfl rfl (by kernel_rfl) (by kernel_rfl) (by kernel_rfl) (fun _ _ _ h => h) (.inl ⟨by rfl, fun W hW => by go_simp⟩) HS7.out ?_
  simp only [Act.put, List.setIfInBounds_toArray, List.set_cons_zero, List.set_cons_succ]
  refine wpAnyH_ready (rs := [19]) (by kernel_rfl) (by simp) ?_
  refine AllReadyH.cons rfl (fun K hK => ?_) AllReadyH.nil
  go_simp
  refine (need_any sz w7 hs0 hs1).mono ?_
  rintro e w8 ⟨rfl, rfl⟩
  refine hK.out _ _ HS7.out fun _ => ?_
  clear hK K
  refine wpAnyH_ready (rs := [21]) (by kernel_rfl) (by simp) ?_
  refine AllReadyH.cons rfl (fun K hK => ?_) AllReadyH.nil
  go_simp
  refine (refNeed_any sz w7 hs0 HM.out).mono ?_
  rintro e w8 ⟨rfl, rfl⟩
  refine hK.out _ _ HS7.out fun _ => ?_
  clear hK K
  refine takeH (i := 22) 56 (.bool false) rfl rfl (by kernel_rfl) (by kernel_rfl) (by kernel_rfl) (fun _ _ _ h => h) (.inl ⟨by rfl, fun W hW => by go_simp⟩) HS7.out ?_
  simp only [Act.put, List.setIfInBounds_toArray, List.set_cons_zero, List.set_cons_succ]
  refine takeH (i := 23) 57 (.bool false) rfl rfl (by kernel_rfl) (by kernel_rfl) (by kernel_rfl) (fun _ _ _ h => h) (.inl ⟨by rfl, fun W hW => by go_simp⟩) HS7.out ?_
  simp only [Act.put, List.setIfInBounds_toArray, List.set_cons_zero, List.set_cons_succ]
  refine wpAnyH_done (by kernel_rfl) ?_ _
  clear HS HS5 HS6 HS7 HG4 HG5 HG6 HB4 HB5 HB6 HC
  by_cases hok : (Nd.mk k g li m s c o v xs).okB = true
  rotate_left
  · have hz : z = 1 := by rw [← HZ.out]; exact if_neg hok
    subst hz
    go_wp2
    go_ret
    exact ⟨rfl, HG7.out.bel⟩
  have hz : z = 0 := by rw [← HZ.out]; exact if_pos hok
  subst hz
  have HE := Lib.hid (Nd.got_put _ HW.out hok)
  rw [HPT.out] at HE
  have hn2 : n2 ≤ 80 := by have h1 := HB7.out.1; have h2 := HP80.out; omega
  clear hok
  go_wp2_with fail
  refine (get_any A2 n2 cp2 pt w7 HB7.out (by omega)).mono ?_
  rintro e w8 hgp
  unfold GetP at hgp
  rw [HE.out.1, HE.out.2] at hgp
  obtain ⟨B8, cp8, rfl, hns8, hb8⟩ := hgp
  have HG8 := Lib.hid (HG7.out.below hb8)
  have HN8 : Hid (NS .u32 w8 B8 xs.length xs) := hns8
  clear hns8 hb8 HG7 HB7 HE
  go_upto_region 13 with (first
    | (refine wpList_alloc_at rfl 26 rfl _ zero_I w8.heap.size rfl ?_
       intro w9 hb9 hw9)
    | (refine wpList_store_any rfl 26 (.tmp 10) (.tmp 63) rfl w8.heap.size #[.int .u32 (k : Int), .int .u32 (g : Int), .int .u32 (li : Int), .int .u32 (m : Int), .int .u32 (s : Int), .int .u64 (c : Int), .int .u64 (o : Int), .int .u64 (v : Int), .slice B8 xs.length cp8] rfl rfl 26 _ hb9 size_I rfl (by simp [Value.oneCell']) ?_
       intro wa hba hsa hwa))
  have hka : Below w8.heap.size w8 wa := hw9.trans (Keep.below (hwa.mono fun k hk => by omega))
  have HGa := Lib.hid (HG8.out.below hka)
  have HIa : Hid (GP w w8.heap.size #[.int .u32 (k : Int), .int .u32 (g : Int), .int .u32 (li : Int), .int .u32 (m : Int), .int .u32 (s : Int), .int .u64 (c : Int), .int .u64 (o : Int), .int .u64 (v : Int), .slice B8 xs.length cp8] B8 xs.length xs wa) := ⟨hba, HGa.out.bel, HN8.out.below hka⟩
  clear hb9 hw9 hba hsa hwa hka HG8 HN8
  generalize w8.heap.size = b2 at *
  have d96 : decide ((n2 : Int) ≤ 96) = true := by simp; omega
  have HS : Hid ((fun W : World => SB b k g li m s c o v A n cp W ∧ SB b2 k g li m s c o v B8 xs.length cp8 W) wa.drew) := ⟨HGa.out.drew.sb, HIa.out.drew.sb⟩
  refine wp_region_held_drew (S := fun W => SB b k g li m s c o v A n cp W ∧ SB b2 k g li m s c o v B8 xs.length cp8 W) (by kernel_rfl) HS.out (fun _ => ?_)
  change wpAnyH _ _ _ _ _ 15 (Array.replicate 15 false) _ _
  refine takeH (i := 0) 65 (.int .i64 0) rfl rfl (by kernel_rfl) (by kernel_rfl) (by kernel_rfl) (fun _ _ _ h => h) (.inl ⟨by rfl, fun W hW => by go_simp⟩) HS.out ?_
  simp only [Act.put, List.setIfInBounds_toArray, List.set_cons_zero, List.set_cons_succ]
  refine takeH (i := 1) 66 (.bool true) rfl rfl (by kernel_rfl) (by kernel_rfl) (by kernel_rfl) (fun _ _ _ h => h) (.inl ⟨by rfl, fun W hW => by go_simp⟩) HS.out ?_
  simp only [Act.put, List.setIfInBounds_toArray, List.set_cons_zero, List.set_cons_succ]
  refine takeH (i := 2) 67 (.bool true) rfl rfl (by kernel_rfl) (by kernel_rfl) (by kernel_rfl) (fun _ _ _ h => h) (.inl ⟨by rfl, fun W hW => by go_simp⟩) HS.out ?_
  simp only [Act.put, List.setIfInBounds_toArray, List.set_cons_zero, List.set_cons_succ]
  refine takeH (i := 3) 68 (.agg #[.int .u32 (k : Int), .int .u32 (g : Int), .int .u32 (li : Int), .int .u32 (m : Int), .int .u32 (s : Int), .int .u64 (c : Int), .int .u64 (o : Int), .int .u64 (v : Int), .slice B8 xs.length cp8]) rfl rfl (by kernel_rfl) (by kernel_rfl) (by kernel_rfl) (fun _ _ _ h => h) (.inl ⟨by rfl, fun W hW => by (obtain ⟨_, h0, h1, h2, h3, h4, h5, h6, h7, h8⟩ := hW; go_simp)⟩) HS.out ?_
  simp only [Act.put, List.setIfInBounds_toArray, List.set_cons_zero, List.set_cons_succ]
  refine takeH (i := 5) 70 (.agg #[.int .u32 (k : Int), .int .u32 (g : Int), .int .u32 (li : Int), .int .u32 (m : Int), .int .u32 (s : Int), .int .u64 (c : Int), .int .u64 (o : Int), .int .u64 (v : Int), .slice A n cp]) rfl rfl (by kernel_rfl) (by kernel_rfl) (by kernel_rfl) (fun _ _ _ h => h) (.inl ⟨by rfl, fun W hW => by (obtain ⟨⟨h0, h1, h2, h3, h4, h5, h6, h7, h8⟩, _⟩ := hW; go_simp)⟩) HS.out ?_
  simp only [Act.put, List.setIfInBounds_toArray, List.set_cons_zero, List.set_cons_succ]
  refine wpAnyH_ready (rs := [4]) (by kernel_rfl) (by simp) ?_
  refine AllReadyH.cons rfl (fun K hK => ?_) AllReadyH.nil
  go_simp
  refine (inodeOf_any k g li m s c o v B8 xs.length cp8 wa.drew).mono ?_
  rintro e wb ⟨rfl, hbb⟩
  have HGb := Lib.hid (HGa.out.drew.below hbb)
  have HIb := Lib.hid (HIa.out.drew.below hbb)
  refine hK.out _ _ ⟨HGb.out.sb, HIb.out.sb⟩ fun _ => ?_
  clear hK K hbb
  refine wpAnyH_ready (rs := [6]) (by kernel_rfl) (by simp) ?_
  refine AllReadyH.cons rfl (fun K hK => ?_) AllReadyH.nil
  go_simp
  refine (inodeOf_any k g li m s c o v A n cp wb).mono ?_
  rintro e wc ⟨rfl, hbc⟩
  have HGc := Lib.hid (HGb.out.below hbc)
  have HIc := Lib.hid (HIb.out.below hbc)
  refine hK.out _ _ ⟨HGc.out.sb, HIc.out.sb⟩ fun _ => ?_
  clear hK K hbc
  refine wpAnyH_ready (rs := [7]) (by kernel_rfl) (by simp) ?_
  refine AllReadyH.cons rfl (fun K hK => ?_) AllReadyH.nil
  go_simp
  refine (refSame_any k g li m s c o v B8 xs.length cp8 xs k g li m s c o v A n cp xs wc HIc.out.ns HGc.out.ns (by have := Hn.out; omega)).mono ?_
  rintro e wd ⟨rfl, hbd⟩
  have HGd := Lib.hid (HGc.out.below hbd)
  have HId := Lib.hid (HIc.out.below hbd)
  refine hK.out _ _ ⟨HGd.out.sb, HId.out.sb⟩ fun _ => ?_
  clear hK K hbd
  rw [decide_eq_true (p := Nd.mk k g li m s c o v xs = Nd.mk k g li m s c o v xs) rfl]
  have HSd : Hid ((fun W : World => SB b k g li m s c o v A n cp W ∧ SB b2 k g li m s c o v B8 xs.length cp8 W) wd) := ⟨HGd.out.sb, HId.out.sb⟩
  refine takeH (i := 8) 73 (.bool true) rfl rfl (by kernel_rfl) (by kernel_rfl) (by kernel_rfl) (fun _ _ _ h => h) (.inl ⟨by rfl, fun W hW => by go_simp⟩) HSd.out ?_
  simp only [Act.put, List.setIfInBounds_toArray, List.set_cons_zero, List.set_cons_succ]
  refine takeH (i := 9) 74 (.bool true) rfl rfl (by kernel_rfl) (by kernel_rfl) (by kernel_rfl) (fun _ _ _ h => h) (.inl ⟨by rfl, fun W hW => by go_simp⟩) HSd.out ?_
  simp only [Act.put, List.setIfInBounds_toArray, List.set_cons_zero, List.set_cons_succ]
  refine takeH (i := 10) 75 (.slice A2 n2 cp2) rfl rfl (by kernel_rfl) (by kernel_rfl) (by kernel_rfl) (fun _ _ _ h => h) (.inl ⟨by rfl, fun W hW => by go_simp⟩) HSd.out ?_
  simp only [Act.put, List.setIfInBounds_toArray, List.set_cons_zero, List.set_cons_succ]
  refine takeH (i := 11) 76 (.int .i64 (n2 : Int)) rfl rfl (by kernel_rfl) (by kernel_rfl) (by kernel_rfl) (fun _ _ _ h => h) (.inl ⟨by rfl, fun W hW => by go_simp⟩) HSd.out ?_
  simp only [Act.put, List.setIfInBounds_toArray, List.set_cons_zero, List.set_cons_succ]
  refine takeH (i := 12) 77 (.bool true) rfl rfl (by kernel_rfl) (by kernel_rfl) (by kernel_rfl) (fun _ _ _ h => h) (.inl ⟨by rfl, fun W hW => by go_simp⟩) HSd.out ?_
  simp only [Act.put, List.setIfInBounds_toArray, List.set_cons_zero, List.set_cons_succ]
  refine takeH (i := 13) 78 (.bool true) rfl rfl (by kernel_rfl) (by kernel_rfl) (by kernel_rfl) (fun _ _ _ h => h) (.inl ⟨by rfl, fun W hW => by go_simp⟩) HSd.out ?_
  simp only [Act.put, List.setIfInBounds_toArray, List.set_cons_zero, List.set_cons_succ]
  refine takeH (i := 14) 4 (.bool true) rfl rfl (by kernel_rfl) (by kernel_rfl) (by kernel_rfl) (fun _ _ _ h => h) (.inl ⟨by rfl, fun W hW => by go_simp⟩) HSd.out ?_
  simp only [Act.put, List.setIfInBounds_toArray, List.set_cons_zero, List.set_cons_succ]
  refine wpAnyH_done (by kernel_rfl) ?_ _
  go_wp2
  go_ret
  exact ⟨rfl, HGd.out.bel⟩
end Go.Proofs.Ytkgpgaanodmpiaa
