/-
  InodeGets walked (layer 7).
-/
import Derived.Test.YtkgpgaanodmpiaaIPuts
import Derived.Test.YtkgpgaanodmpiaaIRGet
namespace Go.Proofs.Ytkgpgaanodmpiaa
open Go.RowKit

/-- An inode of the document in block b, in a later world. -/
structure GD (w : World) (b : Nat) (cs : Array Value) (A : Option Addr) (n : Nat) (xs : List Nat) (W : World) : Prop where
  nod : W.heap[b]? = some (.cells cs 34 (0, 0))
  bel : Below w.heap.size w W
  ns : NS .u32 W A n xs
theorem GD.below {w W W' : World} {b n : Nat} {cs : Array Value} {A : Option Addr} {xs : List Nat} (h : GD w b cs A n xs W) (hb : Below W.heap.size W W') : GD w b cs A n xs W' := by
  refine ⟨(hb.block b ?_).trans h.nod, h.bel.trans (hb.mono h.bel.size), h.ns.below hb⟩
  have h2 := h.nod
  rcases Nat.lt_or_ge b W.heap.size with h | h
  · exact h
  · rw [Array.getElem?_eq_none h] at h2; cases h2
theorem GD.drew {w W : World} {b n : Nat} {cs : Array Value} {A : Option Addr} {xs : List Nat} (h : GD w b cs A n xs W) : GD w b cs A n xs W.drew := ⟨h.nod, h.bel.drew, h.ns⟩
theorem GD.sb {w W : World} {b k g li m s c o v n cp : Nat} {A : Option Addr} {xs : List Nat} (h : GD w b #[.int .u32 (k : Int), .int .u32 (g : Int), .int .u32 (li : Int), .int .u32 (m : Int), .int .u32 (s : Int), .int .u64 (c : Int), .int .u64 (o : Int), .int .u64 (v : Int), .slice A n cp] A n xs W) : SB b k g li m s c o v A n cp W := N_cells h.nod

set_option maxRecDepth 100000 in
set_option maxHeartbeats 4000000 in
theorem gets_walk (A : Option Addr) (n cp : Nat) (l : List UInt8) (w : World) (h : BS w A n l) :
    Calls Try.prog 4 #[.slice A n cp] w fun e w' => e = .returned (.bool true) ∧ Below w.heap.size w w' := by
  have HL := Lib.hid h
  clear h
  by_cases hn : 150 < n
  · have hd : decide ((150 : Int) < (n : Int)) = true := by simp; omega
    go_enter Try.func4, Try.ntmps4
    go_wp2_with fail
    refine (awake_any w).mono ?_
    rintro e w1 ⟨rfl, hb1⟩
    have HW1 := Lib.hid hb1
    clear hb1
    go_wp2
    go_ret
    exact ⟨rfl, HW1.out⟩
  have hd : decide ((150 : Int) < (n : Int)) = false := by simp; omega
  go_enter Try.func4, Try.ntmps4
  go_wp2_with fail
  refine (awake_any w).mono ?_
  rintro e w1 ⟨rfl, hb1⟩
  have HW1 := Lib.hid hb1
  have HL1 := Lib.hid (HL.out.below hb1)
  clear hb1
  go_wp2_with fail
  refine (get_any A n cp l w1 HL1.out (by omega)).mono ?_
  rintro e w2 hgp
  unfold GetP at hgp
  have HWD := Lib.hid (Nd.wide_got l)
  have HBK := Lib.hid (Nd.got_back l)
  have HBL8 : Hid ((Nd.got l).bl.length ≤ 1000000) := by
    show _ ≤ _
    by_cases he : Nd.err l = 0
    · have := Nd.okB_len _ (Nd.got_back l he).1
      omega
    · have : Nd.got l = Nd.zero := by unfold Nd.got; rw [if_neg (fun h => he h.2)]
      rw [this]
      decide
  have HRG := fun W => Lib.hid (refGet_any l W)
  unfold GetP at HRG
  generalize Nd.err l = z at *
  generalize Nd.got l = X at *
  obtain ⟨k, g, li, m, s, c, o, v, xs⟩ := X
  obtain ⟨B2, c2, rfl, hns2, hb2⟩ := hgp
  have HW2 : Hid (Below w.heap.size w w2) := HW1.out.trans (hb2.mono HW1.out.size)
  have HL2 := Lib.hid (HL1.out.below hb2)
  have HN2 : Hid (NS .u32 w2 B2 xs.length xs) := hns2
  clear hb2 hns2 HL1 HW1 hd
  go_upto_region 7 with (first
    | (refine wpList_alloc_at rfl 26 rfl _ zero_I w2.heap.size rfl ?_
       intro w3 hb3 hw3)
    | (refine wpList_store_any rfl 26 (.tmp 4) (.tmp 19) rfl w2.heap.size #[.int .u32 (k : Int), .int .u32 (g : Int), .int .u32 (li : Int), .int .u32 (m : Int), .int .u32 (s : Int), .int .u64 (c : Int), .int .u64 (o : Int), .int .u64 (v : Int), .slice B2 xs.length c2] rfl rfl 26 _ hb3 size_I rfl (by simp [Value.oneCell']) ?_
       intro w4 hb4 hs4 hw4))
  have hk4 : Below w2.heap.size w2 w4 := hw3.trans (Keep.below (hw4.mono fun k hk => by omega))
  have HG4 : Hid (GP w w2.heap.size #[.int .u32 (k : Int), .int .u32 (g : Int), .int .u32 (li : Int), .int .u32 (m : Int), .int .u32 (s : Int), .int .u64 (c : Int), .int .u64 (o : Int), .int .u64 (v : Int), .slice B2 xs.length c2] B2 xs.length xs w4) := ⟨hb4, HW2.out.trans (hk4.mono HW2.out.size), HN2.out.below hk4⟩
  have HL4 := Lib.hid (HL2.out.below hk4)
  clear hk4 hb3 hw3 hb4 hs4 hw4 HL2 HN2 HW2
  generalize w2.heap.size = b at *
  try go_frame
  have hcv := run_convert_bs w4 A n cp l HL4.out
  go_wp2_with fail
  refine ((HRG w4).out).mono ?_
  rintro e w5 ⟨B5, c5, rfl, hns5, hb5⟩
  have HG5 := Lib.hid (HG4.out.below hb5)
  have HL5 := Lib.hid (HL4.out.below hb5)
  have HN5 : Hid (NS .u32 w5 B5 xs.length xs) := hns5
  clear hb5 hns5 HG4 HL4 HRG hcv
  go_upto_region 8 with (first
    | (refine wpList_alloc_at rfl 34 rfl _ zero_N w5.heap.size rfl ?_
       intro w6 hb6 hw6)
    | (refine wpList_store_any rfl 34 (.tmp 6) (.tmp 25) rfl w5.heap.size #[.int .u32 (k : Int), .int .u32 (g : Int), .int .u32 (li : Int), .int .u32 (m : Int), .int .u32 (s : Int), .int .u64 (c : Int), .int .u64 (o : Int), .int .u64 (v : Int), .slice B5 xs.length c5] rfl rfl 34 _ hb6 size_N rfl (by simp [Value.oneCell']) ?_
       intro w7 hb7 hs7 hw7))
  have hk7 : Below w5.heap.size w5 w7 := hw6.trans (Keep.below (hw7.mono fun k hk => by omega))
  have HG7 := Lib.hid (HG5.out.below hk7)
  have HD7 : Hid (GD w w5.heap.size #[.int .u32 (k : Int), .int .u32 (g : Int), .int .u32 (li : Int), .int .u32 (m : Int), .int .u32 (s : Int), .int .u64 (c : Int), .int .u64 (o : Int), .int .u64 (v : Int), .slice B5 xs.length c5] B5 xs.length xs w7) := ⟨hb7, HG7.out.bel, HN5.out.below hk7⟩
  have HL7 := Lib.hid (HL5.out.below hk7)
  clear hk7 hb6 hw6 hb7 hs7 hw7 HG5 HL5 HN5
  generalize w5.heap.size = b5 at *
  have HS : Hid ((fun W : World => SB b k g li m s c o v B2 xs.length c2 W ∧ SB b5 k g li m s c o v B5 xs.length c5 W) w7.drew) := ⟨HG7.out.drew.sb, HD7.out.drew.sb⟩
  refine wp_region_held_drew (S := fun W => SB b k g li m s c o v B2 xs.length c2 W ∧ SB b5 k g li m s c o v B5 xs.length c5 W) (by kernel_rfl) HS.out (fun _ => ?_)
  change wpAnyH _ _ _ _ _ 10 (Array.replicate 10 false) _ _
  refine takeH (i := 0) 27 (.int .i64 z) rfl rfl (by kernel_rfl) (by kernel_rfl) (by kernel_rfl) (fun _ _ _ h => h) (.inl ⟨by rfl, fun W hW => by go_simp⟩) HS.out ?_
  simp only [Act.put, List.setIfInBounds_toArray, List.set_cons_zero, List.set_cons_succ]
  refine takeH (i := 1) 28 (.int .i64 z) rfl rfl (by kernel_rfl) (by kernel_rfl) (by kernel_rfl) (fun _ _ _ h => h) (.inl ⟨by rfl, fun W hW => by go_simp⟩) HS.out ?_
  simp only [Act.put, List.setIfInBounds_toArray, List.set_cons_zero, List.set_cons_succ]
  refine takeH (i := 2) 29 (.bool false) rfl rfl (by kernel_rfl) (by kernel_rfl) (by kernel_rfl) (fun _ _ _ h => h) (.inl ⟨by rfl, fun W hW => by go_simp⟩) HS.out ?_
  simp only [Act.put, List.setIfInBounds_toArray, List.set_cons_zero, List.set_cons_succ]
  refine takeH (i := 3) 30 (.bool false) rfl rfl (by kernel_rfl) (by kernel_rfl) (by kernel_rfl) (fun _ _ _ h => h) (.inl ⟨by rfl, fun W hW => by go_simp⟩) HS.out ?_
  simp only [Act.put, List.setIfInBounds_toArray, List.set_cons_zero, List.set_cons_succ]
  refine takeH (i := 4) 31 (.agg #[.int .u32 (k : Int), .int .u32 (g : Int), .int .u32 (li : Int), .int .u32 (m : Int), .int .u32 (s : Int), .int .u64 (c : Int), .int .u64 (o : Int), .int .u64 (v : Int), .slice B2 xs.length c2]) rfl rfl (by kernel_rfl) (by kernel_rfl) (by kernel_rfl) (fun _ _ _ h => h) (.inl ⟨by rfl, fun W hW => by (obtain ⟨⟨h0, h1, h2, h3, h4, h5, h6, h7, h8⟩, _⟩ := hW; go_simp)⟩) HS.out ?_
  simp only [Act.put, List.setIfInBounds_toArray, List.set_cons_zero, List.set_cons_succ]
  refine takeH (i := 6) 33 (.agg #[.int .u32 (k : Int), .int .u32 (g : Int), .int .u32 (li : Int), .int .u32 (m : Int), .int .u32 (s : Int), .int .u64 (c : Int), .int .u64 (o : Int), .int .u64 (v : Int), .slice B5 xs.length c5]) rfl rfl (by kernel_rfl) (by kernel_rfl) (by kernel_rfl) (fun _ _ _ h => h) (.inl ⟨by rfl, fun W hW => by (obtain ⟨_, h0, h1, h2, h3, h4, h5, h6, h7, h8⟩ := hW; go_simp)⟩) HS.out ?_
  simp only [Act.put, List.setIfInBounds_toArray, List.set_cons_zero, List.set_cons_succ]
  refine wpAnyH_ready (rs := [5]) (by kernel_rfl) (by simp) ?_
  refine AllReadyH.cons rfl (fun K hK => ?_) AllReadyH.nil
  go_simp
  refine (inodeOf_any k g li m s c o v B2 xs.length c2 w7.drew).mono ?_
  rintro e w8 ⟨rfl, hb8⟩
  have HG8 := Lib.hid (HG7.out.drew.below hb8)
  have HD8 := Lib.hid (HD7.out.drew.below hb8)
  have HL8 : Hid (BS w8 A n l) := (show BS w7.drew A n l from HL7.out).below hb8
  refine hK.out _ _ ⟨HG8.out.sb, HD8.out.sb⟩ fun _ => ?_
  clear hK K hb8
  refine wpAnyH_ready (rs := [7]) (by kernel_rfl) (by simp) ?_
  refine AllReadyH.cons rfl (fun K1 hK => ?_) AllReadyH.nil
  go_simp
  refine (refSame_any k g li m s c o v B2 xs.length c2 xs k g li m s c o v B5 xs.length c5 xs w8 HG8.out.ns HD8.out.ns HBL8.out).mono ?_
  rintro e w9 ⟨rfl, hb9⟩
  rw [decide_eq_true (p := Nd.mk k g li m s c o v xs = Nd.mk k g li m s c o v xs) rfl]
  have HG9 := Lib.hid (HG8.out.below hb9)
  have HD9 := Lib.hid (HD8.out.below hb9)
  have HL9 := Lib.hid (HL8.out.below hb9)
  have HS9 : Hid ((fun W : World => SB b k g li m s c o v B2 xs.length c2 W ∧ SB b5 k g li m s c o v B5 xs.length c5 W) w9) := ⟨HG9.out.sb, HD9.out.sb⟩
  refine hK.out _ _ HS9.out fun _ => ?_
  clear hK K1 hb9
  refine takeH (i := 8) 35 (.bool false) rfl rfl (by kernel_rfl) (by kernel_rfl) (by kernel_rfl) (fun _ _ _ h => h) (.inl ⟨by rfl, fun W hW => by go_simp⟩) HS9.out ?_
  simp only [Act.put, List.setIfInBounds_toArray, List.set_cons_zero, List.set_cons_succ]
  refine takeH (i := 9) 36 (.bool false) rfl rfl (by kernel_rfl) (by kernel_rfl) (by kernel_rfl) (fun _ _ _ h => h) (.inl ⟨by rfl, fun W hW => by go_simp⟩) HS9.out ?_
  simp only [Act.put, List.setIfInBounds_toArray, List.set_cons_zero, List.set_cons_succ]
  refine wpAnyH_done (by kernel_rfl) ?_ _
  clear HS HS9 HG7 HG8 HD7 HD8 HD9 HL7 HL8
  by_cases hz : z = 0
  rotate_left
  · have hd : (z != 0) = true := by simpa using hz
    clear hz
    go_wp2
    go_ret
    exact ⟨rfl, HG9.out.bel⟩
  subst hz
  obtain ⟨hok, hput⟩ := HBK.out rfl
  have HPUT := Lib.hid hput
  have hchk : (Nd.mk k g li m s c o v xs).chk = 0 := if_pos hok
  clear hok hput
  go_wp2_with (first
    | (refine wpList_load_row rfl 26 (.tmp 4) rfl _ rfl 26 #[.int .u32 (k : Int), .int .u32 (g : Int), .int .u32 (li : Int), .int .u32 (m : Int), .int .u32 (s : Int), .int .u64 (c : Int), .int .u64 (o : Int), .int .u64 (v : Int), .slice B2 xs.length c2] (0, 0) _ HG9.out.nod Try.underlying26 rfl size_I ?_))
  refine (put_any k g li m s c o v B2 xs.length c2 xs w9 HWD.out HG9.out.ns HBL8.out).mono ?_
  rintro e wa ⟨Aa, na, cpa, rfl, hbsa, hba⟩
  rw [hchk]
  have HBa : Hid (BS wa Aa na l) := by
    have := hbsa
    rw [HPUT.out] at this
    exact this
  have HLa := Lib.hid (HL9.out.below hba)
  have HWa : Hid (Below w.heap.size w wa) := HG9.out.bel.trans (hba.mono HG9.out.bel.size)
  clear hbsa hba hchk
  have q1 := run_convert_bs wa Aa na cpa l HBa.out
  have q2 := run_convert_bs wa A n cp l HLa.out
  have q3 : ((txt l).toList == (txt l).toList) = true := beq_self_eq_true _
  go_wp2
  go_ret
  exact ⟨rfl, HWa.out⟩
end Go.Proofs.Ytkgpgaanodmpiaa
