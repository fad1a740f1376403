/-
  DirDoes walked (layer 8).
-/
import Derived.Test.YtcbmdcgaedkfnaaERef4
import Derived.Test.YtcbmdcgaedkfnaaESame
namespace Go.Proofs.Ytcbmdcgaedkfnaa
open Go.RowKit Go.Shelf

/-- What DirDoes knows: the box of the entry, the entries, the reference's, the bytes. -/
structure DW (w : World) (x : En) (A : Option Addr) (n : Nat) (es : List En) (A2 : Option Addr) (A3 : Option Addr) (n3 c3 : Nat) (P : List UInt8) (W : World) : Prop where
  bel : Below w.heap.size w W
  eb : EB W w.heap.size 41 x
  row : ES W A n es
  ref : ES W A2 n es
  bs : BS W A3 n3 P
def SD (w : World) (x : En) (A3 : Option Addr) (n3 c3 : Nat) (P : List UInt8) (W : World) : Prop := (convert 22 9 (.slice A3 n3 c3)).run Try.prog W = .ok (.string (txt P)) W ∧ W.cell? ⟨w.heap.size, 3, none⟩ = some (.string (txt x.nm))
section
variable {w W W' : World} {x : En} {A A2 A3 : Option Addr} {n n3 c3 : Nat} {es : List En} {P : List UInt8}
theorem DW.below (h : DW w x A n es A2 A3 n3 c3 P W) (hb : Below W.heap.size W W') : DW w x A n es A2 A3 n3 c3 P W' := ⟨h.bel.trans (hb.mono h.bel.size), h.eb.below' hb, h.row.below hb, h.ref.below hb, h.bs.below hb⟩
theorem DW.drew (h : DW w x A n es A2 A3 n3 c3 P W) : DW w x A n es A2 A3 n3 c3 P W.drew := ⟨⟨h.bel.os, h.bel.tape, h.bel.output, h.bel.size, h.bel.block⟩, h.eb, h.row.drew, h.ref.drew, h.bs.drew⟩
theorem DW.sd (h : DW w x A n es A2 A3 n3 c3 P W) : SD w x A3 n3 c3 P W := ⟨run_convert_bs W A3 n3 c3 P h.bs, h.eb.c3⟩
end

set_option maxRecDepth 100000 in
set_option maxHeartbeats 16000000 in
theorem does_walk (A : Option Addr) (n c : Nat) (es : List En) (x : En) (ck : Nat) (most : Int) (w : World) (h : ES w A n es) (hwd : ∀ e ∈ es, e.Wide) (hnm : ∀ e ∈ es, e.nm.length ≤ maxLen) (hc : n ≤ c) (hcm : c ≤ 9223372036854775807)
    (hx : x.Wide) (hxn : x.nm.length ≤ maxLen) :
    Calls Try.prog 4 #[.slice A n c, .agg (ec x).toArray, .int .u64 (ck : Int), .int .i64 most] w fun e w' => e = .returned (.bool true) ∧ Below w.heap.size w w' := by
  have HN : Hid (es.length = n) := h.1
  have HA : Hid (Below w.heap.size w (w.alloc (.cells (ec x).toArray 41))) := (Below.refl _ _).alloc (Nat.le_refl _) _
  have HE : Hid (EB (w.alloc (.cells (ec x).toArray 41)) w.heap.size 41 x) := EB.new _ _ _
  have HS := Lib.hid (h.below HA.out)
  have HWD := Lib.hid hwd
  have HNM := Lib.hid hnm
  have HC := Lib.hid hc
  have HCM := Lib.hid hcm
  have HX := Lib.hid hx
  have HXN := Lib.hid hxn
  clear h hwd hnm hc hcm hx hxn
  go_enter Try.func4, Try.ntmps4
  go_wp2_with fail
  refine (awake_any _).mono ?_
  rintro en w1 ⟨rfl, hb1⟩
  have HW1 := Lib.hid (HA.out.trans (hb1.mono HA.out.size))
  have HE1 := Lib.hid (HE.out.below' hb1)
  have HS1 := Lib.hid (HS.out.below hb1)
  clear hb1 HA HE HS
  go_wp2_with fail
  refine (short_any A n c es w1 HS1.out HNM.out (by have := HC.out; have := HCM.out; omega)).mono ?_
  rintro en w2 ⟨rfl, rfl⟩
  cases hsh : shortB es
  · go_wp2_with fail
    go_ret
    exact ⟨rfl, HW1.out⟩
  have hz := txt_size x.nm
  have c3 := HE1.out.c3
  by_cases h40 : 40 < x.nm.length
  · have h40' : (40 : Int) < (x.nm.length : Int) := by omega
    go_wp2_with fail
    go_ret
    exact ⟨rfl, HW1.out⟩
  have h40' : ¬ (40 : Int) < (x.nm.length : Int) := by omega
  have HN24 : Hid (n ≤ 24) := by
    show _ ≤ _
    unfold shortB at hsh
    rw [Bool.and_eq_true, decide_eq_true_eq, HN.out] at hsh
    exact hsh.2
  clear hsh h40
  go_wp2_with fail
  refine (of_any2 A n c es w2 HS1.out (by have := HN24.out; omega)).mono ?_
  rintro en w3 ⟨A2, c2, rfl, hes3, hc3, hb3⟩
  have HR3 := Lib.hid hes3
  have HC2 := Lib.hid hc3
  have HE3 := Lib.hid (HE1.out.below' hb3)
  have HS3 := Lib.hid (HS1.out.below hb3)
  have HW3 := Lib.hid (HW1.out.trans (hb3.mono HW1.out.size))
  clear hes3 hc3 hb3 HE1 HS1 HW1 c3 h40' hz
  have HLEN : Hid (okB es = true → (encs es).length ≤ 80000000) := fun hk => by
    have h1 := put_len hk (n := 24) (by rw [HN.out]; exact HN24.out)
    rw [show putE es = encs es from if_pos hk] at h1
    omega
  go_wp2_with fail
  refine (put_any A n c es w3 HS3.out HWD.out (by have := HN24.out; omega) HLEN.out).mono ?_
  rintro en w4 ⟨A3, n3, c3, rfl, hbs4, hb4⟩
  have HB4 := Lib.hid hbs4
  have HR4 := Lib.hid (HR3.out.below hb4)
  have HE4 := Lib.hid (HE3.out.below' hb4)
  have HS4 := Lib.hid (HS3.out.below hb4)
  have HW4 := Lib.hid (HW3.out.trans (hb4.mono HW3.out.size))
  clear hbs4 hb4 HR3 HE3 HS3 HW3
  go_wp2_with fail
  refine (refPut_any A2 n c2 es w4 HR4.out HWD.out (by have := HN24.out; omega) HLEN.out).mono ?_
  rintro en w5 ⟨rfl, hb5⟩
  have D5 : Hid (DW w x A n es A2 A3 n3 c3 (putE es) w5) := ⟨HW4.out.trans (hb5.mono HW4.out.size), HE4.out.below' hb5, HS4.out.below hb5, HR4.out.below hb5, HB4.out.below hb5⟩
  clear hb5 HB4 HR4 HE4 HS4 HW4
  go_upto_region 10 with (fail)
  have D0 : Hid (DW w x A n es A2 A3 n3 c3 (putE es) w5.drew) := D5.out.drew
  have S0 := Lib.hid D0.out.sd
  refine wp_region_held_drew (S := SD w x A3 n3 c3 (putE es)) (by kernel_rfl) S0.out (fun _ => ?_)
  change wpAnyH _ _ _ _ _ 29 (Array.replicate 29 false) _ _
  refine takeH (i := 0) 45 (.slice A3 n3 c3) rfl rfl (by kernel_rfl) (by kernel_rfl) (by kernel_rfl) (fun _ _ _ h => h) (.inl ⟨by rfl, fun W hW => by go_simp⟩) S0.out ?_
  simp only [Act.put, List.setIfInBounds_toArray, List.set_cons_zero, List.set_cons_succ]
  refine takeH (i := 1) 46 (.string (txt (putE es))) rfl rfl (by kernel_rfl) (by kernel_rfl) (by kernel_rfl) (fun _ _ _ h => h) (.inl ⟨by rfl, fun W hW => by (obtain ⟨v, k3⟩ := hW; go_simp)⟩) S0.out ?_
  simp only [Act.put, List.setIfInBounds_toArray, List.set_cons_zero, List.set_cons_succ]
  refine takeH (i := 2) 47 (.string (txt (putE es))) rfl rfl (by kernel_rfl) (by kernel_rfl) (by kernel_rfl) (fun _ _ _ h => h) (.inl ⟨by rfl, fun W hW => by go_simp⟩) S0.out ?_
  simp only [Act.put, List.setIfInBounds_toArray, List.set_cons_zero, List.set_cons_succ]
  refine takeH (i := 3) 48 (.bool false) rfl rfl (by kernel_rfl) (by kernel_rfl) (by kernel_rfl) (fun _ _ _ h => h) (.inl ⟨by rfl, fun W hW => by go_simp⟩) S0.out ?_
  simp only [Act.put, List.setIfInBounds_toArray, List.set_cons_zero, List.set_cons_succ]
  refine takeH (i := 4) 49 (.bool false) rfl rfl (by kernel_rfl) (by kernel_rfl) (by kernel_rfl) (fun _ _ _ h => h) (.inl ⟨by rfl, fun W hW => by go_simp⟩) S0.out ?_
  simp only [Act.put, List.setIfInBounds_toArray, List.set_cons_zero, List.set_cons_succ]
  refine takeH (i := 5) 50 (.int .i64 (chkE es)) rfl rfl (by kernel_rfl) (by kernel_rfl) (by kernel_rfl) (fun _ _ _ h => h) (.inl ⟨by rfl, fun W hW => by go_simp⟩) S0.out ?_
  simp only [Act.put, List.setIfInBounds_toArray, List.set_cons_zero, List.set_cons_succ]
  refine takeH (i := 6) 51 (.int .i64 (chkE es)) rfl rfl (by kernel_rfl) (by kernel_rfl) (by kernel_rfl) (fun _ _ _ h => h) (.inl ⟨by rfl, fun W hW => by go_simp⟩) S0.out ?_
  simp only [Act.put, List.setIfInBounds_toArray, List.set_cons_zero, List.set_cons_succ]
  refine takeH (i := 7) 52 (.bool false) rfl rfl (by kernel_rfl) (by kernel_rfl) (by kernel_rfl) (fun _ _ _ h => h) (.inl ⟨by rfl, fun W hW => by go_simp⟩) S0.out ?_
  simp only [Act.put, List.setIfInBounds_toArray, List.set_cons_zero, List.set_cons_succ]
  refine takeH (i := 8) 53 (.bool false) rfl rfl (by kernel_rfl) (by kernel_rfl) (by kernel_rfl) (fun _ _ _ h => h) (.inl ⟨by rfl, fun W hW => by go_simp⟩) S0.out ?_
  simp only [Act.put, List.setIfInBounds_toArray, List.set_cons_zero, List.set_cons_succ]
  refine takeH (i := 9) 54 (.bool false) rfl rfl (by kernel_rfl) (by kernel_rfl) (by kernel_rfl) (fun _ _ _ h => h) (.inl ⟨by rfl, fun W hW => by go_simp⟩) S0.out ?_
  simp only [Act.put, List.setIfInBounds_toArray, List.set_cons_zero, List.set_cons_succ]
  refine takeH (i := 10) 55 (.pointer (some ⟨w.heap.size, 3, none⟩)) rfl rfl (by kernel_rfl) (by kernel_rfl) (by kernel_rfl) (fun _ _ _ h => h) (.inl ⟨by rfl, fun W hW => by go_simp⟩) S0.out ?_
  simp only [Act.put, List.setIfInBounds_toArray, List.set_cons_zero, List.set_cons_succ]
  refine takeH (i := 11) 56 (.string (txt x.nm)) rfl rfl (by kernel_rfl) (by kernel_rfl) (by kernel_rfl) (fun _ _ _ h => h) (.inl ⟨by rfl, fun W hW => by (obtain ⟨v, k3⟩ := hW; go_simp)⟩) S0.out ?_
  simp only [Act.put, List.setIfInBounds_toArray, List.set_cons_zero, List.set_cons_succ]
  refine takeH (i := 13) 58 (.pointer (some ⟨w.heap.size, 3, none⟩)) rfl rfl (by kernel_rfl) (by kernel_rfl) (by kernel_rfl) (fun _ _ _ h => h) (.inl ⟨by rfl, fun W hW => by go_simp⟩) S0.out ?_
  simp only [Act.put, List.setIfInBounds_toArray, List.set_cons_zero, List.set_cons_succ]
  refine takeH (i := 14) 59 (.string (txt x.nm)) rfl rfl (by kernel_rfl) (by kernel_rfl) (by kernel_rfl) (fun _ _ _ h => h) (.inl ⟨by rfl, fun W hW => by (obtain ⟨v, k3⟩ := hW; go_simp)⟩) S0.out ?_
  simp only [Act.put, List.setIfInBounds_toArray, List.set_cons_zero, List.set_cons_succ]
  refine wpAnyH_ready (rs := [12]) (by kernel_rfl) (by simp) ?_
  refine AllReadyH.cons rfl (fun K hK => ?_) AllReadyH.nil
  go_simp
  refine (name_any x.nm _).mono ?_
  rintro en wa1 ⟨rfl, hb1⟩
  have D1 := Lib.hid (D0.out.below hb1)
  have S1 := Lib.hid D1.out.sd
  refine hK.out _ _ S1.out fun _ => ?_
  clear hK K hb1
  refine wpAnyH_ready (rs := [15]) (by kernel_rfl) (by simp) ?_
  refine AllReadyH.cons rfl (fun K hK => ?_) AllReadyH.nil
  go_simp
  refine (refName_any x.nm _).mono ?_
  rintro en wa2 ⟨rfl, rfl⟩
  refine hK.out _ _ S1.out fun _ => ?_
  clear hK K
  refine takeH (i := 16) 61 (.bool false) rfl rfl (by kernel_rfl) (by kernel_rfl) (by kernel_rfl) (fun _ _ _ h => h) (.inl ⟨by rfl, fun W hW => by go_simp⟩) S1.out ?_
  simp only [Act.put, List.setIfInBounds_toArray, List.set_cons_zero, List.set_cons_succ]
  refine takeH (i := 17) 62 (.bool false) rfl rfl (by kernel_rfl) (by kernel_rfl) (by kernel_rfl) (fun _ _ _ h => h) (.inl ⟨by rfl, fun W hW => by go_simp⟩) S1.out ?_
  simp only [Act.put, List.setIfInBounds_toArray, List.set_cons_zero, List.set_cons_succ]
  refine takeH (i := 18) 63 (.bool false) rfl rfl (by kernel_rfl) (by kernel_rfl) (by kernel_rfl) (fun _ _ _ h => h) (.inl ⟨by rfl, fun W hW => by go_simp⟩) S1.out ?_
  simp only [Act.put, List.setIfInBounds_toArray, List.set_cons_zero, List.set_cons_succ]
  refine takeH (i := 19) 64 (.slice A n c) rfl rfl (by kernel_rfl) (by kernel_rfl) (by kernel_rfl) (fun _ _ _ h => h) (.inl ⟨by rfl, fun W hW => by go_simp⟩) S1.out ?_
  simp only [Act.put, List.setIfInBounds_toArray, List.set_cons_zero, List.set_cons_succ]
  refine takeH (i := 20) 65 (.pointer (some ⟨w.heap.size, 3, none⟩)) rfl rfl (by kernel_rfl) (by kernel_rfl) (by kernel_rfl) (fun _ _ _ h => h) (.inl ⟨by rfl, fun W hW => by go_simp⟩) S1.out ?_
  simp only [Act.put, List.setIfInBounds_toArray, List.set_cons_zero, List.set_cons_succ]
  refine takeH (i := 21) 66 (.string (txt x.nm)) rfl rfl (by kernel_rfl) (by kernel_rfl) (by kernel_rfl) (fun _ _ _ h => h) (.inl ⟨by rfl, fun W hW => by (obtain ⟨v, k3⟩ := hW; go_simp)⟩) S1.out ?_
  simp only [Act.put, List.setIfInBounds_toArray, List.set_cons_zero, List.set_cons_succ]
  refine takeH (i := 23) 68 (.slice A2 n c2) rfl rfl (by kernel_rfl) (by kernel_rfl) (by kernel_rfl) (fun _ _ _ h => h) (.inl ⟨by rfl, fun W hW => by go_simp⟩) S1.out ?_
  simp only [Act.put, List.setIfInBounds_toArray, List.set_cons_zero, List.set_cons_succ]
  refine takeH (i := 24) 69 (.pointer (some ⟨w.heap.size, 3, none⟩)) rfl rfl (by kernel_rfl) (by kernel_rfl) (by kernel_rfl) (fun _ _ _ h => h) (.inl ⟨by rfl, fun W hW => by go_simp⟩) S1.out ?_
  simp only [Act.put, List.setIfInBounds_toArray, List.set_cons_zero, List.set_cons_succ]
  refine takeH (i := 25) 70 (.string (txt x.nm)) rfl rfl (by kernel_rfl) (by kernel_rfl) (by kernel_rfl) (fun _ _ _ h => h) (.inl ⟨by rfl, fun W hW => by (obtain ⟨v, k3⟩ := hW; go_simp)⟩) S1.out ?_
  simp only [Act.put, List.setIfInBounds_toArray, List.set_cons_zero, List.set_cons_succ]
  refine wpAnyH_ready (rs := [22]) (by kernel_rfl) (by simp) ?_
  refine AllReadyH.cons rfl (fun K hK => ?_) AllReadyH.nil
  go_simp
  refine (find_any A n c es x.nm _ D1.out.row (by have := HN24.out; omega)).mono ?_
  rintro en wa3 ⟨rfl, hb3⟩
  have D3 := Lib.hid (D1.out.below hb3)
  have S3 := Lib.hid D3.out.sd
  refine hK.out _ _ S3.out fun _ => ?_
  clear hK K hb3
  refine wpAnyH_ready (rs := [26]) (by kernel_rfl) (by simp) ?_
  refine AllReadyH.cons rfl (fun K hK => ?_) AllReadyH.nil
  go_simp
  refine (refFind_any A2 n c2 es x.nm _ D3.out.ref (by have := HN24.out; omega)).mono ?_
  rintro en wa4 ⟨rfl, rfl⟩
  refine hK.out _ _ S3.out fun _ => ?_
  clear hK K
  refine takeH (i := 27) 72 (.bool false) rfl rfl (by kernel_rfl) (by kernel_rfl) (by kernel_rfl) (fun _ _ _ h => h) (.inl ⟨by rfl, fun W hW => by go_simp⟩) S3.out ?_
  simp only [Act.put, List.setIfInBounds_toArray, List.set_cons_zero, List.set_cons_succ]
  refine takeH (i := 28) 73 (.bool false) rfl rfl (by kernel_rfl) (by kernel_rfl) (by kernel_rfl) (fun _ _ _ h => h) (.inl ⟨by rfl, fun W hW => by go_simp⟩) S3.out ?_
  simp only [Act.put, List.setIfInBounds_toArray, List.set_cons_zero, List.set_cons_succ]
  refine wpAnyH_done (by kernel_rfl) ?_ _
  clear S0 S1 S3 D0 D1 D5
  have c0 := D3.out.eb.c0
  have c1 := D3.out.eb.c1
  have c2' := D3.out.eb.c2
  have c3' := D3.out.eb.c3
  go_wp2_with (first
    | (refine wpList_load_row rfl 41 (.tmp 5) rfl _ rfl 41 (ec x).toArray (0, 0) _ D3.out.eb Try.underlying41 rfl size_E ?_))
  refine (add_any A n c es x wa4 D3.out.row HWD.out HX.out (by have := HN24.out; omega)).mono ?_
  rintro en w6 ⟨A6, n6, c6, rfl, hes6, _, hb6⟩
  have HL6 : Hid (n6 ≤ 25) := by
    show _ ≤ _
    rw [← hes6.1]
    unfold addL
    split
    · rw [List.length_append, HN.out]; have := HN24.out; simp; omega
    · simp
  have D6 := Lib.hid (D3.out.below hb6)
  have HE6 := Lib.hid hes6
  clear hes6 hb6 D3 c0 c1 c2' c3'
  have c0 := D6.out.eb.c0
  have c1 := D6.out.eb.c1
  have c2' := D6.out.eb.c2
  have c3' := D6.out.eb.c3
  have HBF : Hid (Try.prog.built 50 [(0, .int .u64 (x.ck : Int)), (1, .agg #[.int .u32 (x.ino : Int), .int .u32 (x.gen : Int)]), (2, .string (txt x.nm))] = some (ec x).toArray) := built_F _ _ _ _
  go_wp2_with (first
    | (refine Did.list rfl (did_build 50 #[(0, .tmp 83), (1, .tmp 85), (2, .tmp 87)] rfl (ec x).toArray (by simpa [Act.eval] using HBF.out)) ?_))
  refine (refAdd_any A2 n c2 es x w6 D6.out.ref (by have := HN24.out; omega)).mono ?_
  rintro en w7 ⟨A7, n7, c7, rfl, hes7, _, hb7⟩
  have D7 := Lib.hid (D6.out.below hb7)
  have HE7 := Lib.hid (HE6.out.below hb7)
  have HR7 := Lib.hid hes7
  clear hes7 hb7 D6 HE6 c0 c1 c2' c3' HBF
  go_wp2_with fail
  refine (of_any A6 n6 c6 (addL es x) w7 HE7.out (by have := HL6.out; omega)).mono ?_
  rintro en w8 ⟨A8, c8, rfl, hes8, hb8⟩
  have D8 := Lib.hid (D7.out.below hb8)
  have HE8 := Lib.hid hes8
  have HR8 := Lib.hid (HR7.out.below hb8)
  clear hes8 hb8 D7 HE7 HR7
  go_wp2_with fail
  refine (same_any A8 A7 n6 n7 c8 c7 (addL es x) (addL es x) w8 HE8.out HR8.out (by have := HL6.out; omega)).mono ?_
  rintro en w9 ⟨rfl, hb9⟩
  rw [decide_eq_true (show addL es x = addL es x from rfl)]
  have D9 := Lib.hid (D8.out.below hb9)
  clear hb9 D8 HE8 HR8
  have c3' := D9.out.eb.c3
  go_wp2_with fail
  refine (remove_any A n c es x.nm w9 D9.out.row HC.out HCM.out (by have := HN24.out; omega)).mono ?_
  rintro en w10 ⟨A10, n10, c10, rfl, hes10, _, hb10⟩
  have HL10 : Hid (n10 ≤ 48) := by
    show _ ≤ _
    rw [← hes10.1]
    unfold remL
    split
    · simp
    · rw [List.length_append, List.length_take, List.length_drop, HN.out]; have := HN24.out; omega
  have D10 := Lib.hid (D9.out.below hb10)
  have HE10 := Lib.hid hes10
  clear hes10 hb10 D9 c3'
  have c3' := D10.out.eb.c3
  go_wp2_with fail
  refine (refRemove_any A2 n c2 es x.nm w10 D10.out.ref HC2.out.1 HC2.out.2 (by have := HN24.out; omega)).mono ?_
  rintro en w11 ⟨A11, n11, c11, rfl, hes11, _, hb11⟩
  have D11 := Lib.hid (D10.out.below hb11)
  have HE11 := Lib.hid (HE10.out.below hb11)
  have HR11 := Lib.hid hes11
  clear hes11 hb11 D10 HE10 c3'
  go_wp2_with fail
  refine (of_any A10 n10 c10 (remL es x.nm) w11 HE11.out (by have := HL10.out; omega)).mono ?_
  rintro en w12 ⟨A12, c12, rfl, hes12, hb12⟩
  have D12 := Lib.hid (D11.out.below hb12)
  have HE12 := Lib.hid hes12
  have HR12 := Lib.hid (HR11.out.below hb12)
  clear hes12 hb12 D11 HE11 HR11
  go_wp2_with fail
  refine (same_any A12 A11 n10 n11 c12 c11 (remL es x.nm) (remL es x.nm) w12 HE12.out HR12.out (by have := HL10.out; omega)).mono ?_
  rintro en w13 ⟨rfl, hb13⟩
  rw [decide_eq_true (show remL es x.nm = remL es x.nm from rfl)]
  have D13 := Lib.hid (D12.out.below hb13)
  clear hb13 D12 HE12 HR12
  go_wp2_with fail
  refine (after_any A n c es ck most w13 D13.out.row HC.out HCM.out (by have := HN24.out; omega)).mono ?_
  rintro en w14 ⟨A14, n14, c14, rfl, hes14, _, hb14⟩
  have HL14 : Hid (n14 ≤ 24) := by
    show _ ≤ _
    rw [← hes14.1]
    unfold aftL
    rw [List.length_take, List.length_drop, HN.out]
    have := HN24.out
    omega
  have D14 := Lib.hid (D13.out.below hb14)
  have HE14 := Lib.hid hes14
  clear hes14 hb14 D13
  go_wp2_with fail
  refine (refAfter_any A2 n c2 es ck most w14 D14.out.ref (by have := HN24.out; omega)).mono ?_
  rintro en w15 ⟨A15, n15, c15, rfl, hes15, _, hb15⟩
  have D15 := Lib.hid (D14.out.below hb15)
  have HE15 := Lib.hid (HE14.out.below hb15)
  have HR15 := Lib.hid hes15
  clear hes15 hb15 D14 HE14
  have hbb : (aftB es ck most == aftB es ck most) = true := beq_self_eq_true _
  generalize aftB es ck most = ab at *
  go_wp2_with fail
  refine (of_any A14 n14 c14 (aftL es ck most) w15 HE15.out (by have := HL14.out; omega)).mono ?_
  rintro en w16 ⟨A16, c16, rfl, hes16, hb16⟩
  have D16 := Lib.hid (D15.out.below hb16)
  have HE16 := Lib.hid hes16
  have HR16 := Lib.hid (HR15.out.below hb16)
  clear hes16 hb16 D15 HE15 HR15
  go_wp2_with fail
  refine (same_any A16 A15 n14 n15 c16 c15 (aftL es ck most) (aftL es ck most) w16 HE16.out HR16.out (by have := HL14.out; omega)).mono ?_
  rintro en w17 ⟨rfl, hb17⟩
  rw [decide_eq_true (show aftL es ck most = aftL es ck most from rfl)]
  have D17 := Lib.hid (D16.out.below hb17)
  clear hb17 D16 HE16 HR16
  go_wp2_with fail
  go_ret
  exact ⟨rfl, D17.out.bel⟩
end Go.Proofs.Ytcbmdcgaedkfnaa
