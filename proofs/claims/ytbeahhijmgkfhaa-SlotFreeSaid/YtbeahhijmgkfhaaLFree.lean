/-
  The walk of the statement on a free one (layer 11).
-/
import Derived.Test.YtbeahhijmgkfhaaLIn
import Derived.Test.YtbeahhijmgkfhaaLPk
namespace Go.Proofs.Ytbeahhijmgkfhaa
open Go.RowKit Go.Shelf

theorem built_Slf (a b c : Int) : Try.prog.built 26 [(0, .int .u32 a), (1, .int .u32 1), (3, .int .u32 c), (2, .int .u32 b)] = some #[.int .u32 a, .int .u32 1, .int .u32 b, .int .u32 c, .int .u32 0, .int .u64 0, .int .u64 0, .int .u64 0, .slice none 0 0] := by kernel_rfl

set_option maxRecDepth 100000 in
set_option maxHeartbeats 4000000 in
theorem free_walk (w : World) (hp : Pk) (v1 : Value) (s : Vl.Th) (A : Option Addr) (n cp : Nat) (h1 : SI w v1 s A n cp) :
    Calls Try.prog 7 #[v1] w fun e w' => e = .returned (.bool true) ∧ Below w.heap.size w w' := by
  obtain ⟨rfl, hx, hw, hfew⟩ := h1
  have HPK := Lib.hid hp
  have HX := Lib.hid hx
  have HNX := Lib.hid hx.1
  have HWX := Lib.hid hw
  clear hp hx hw hfew
  go_enter Try.func7, Try.ntmps7
  go_upto_region 1 with fail
  have HB0 : Hid (Bw (w.alloc (.cells (sc s (.slice A n cp)).toArray 26)) w.heap.size (sc s (.slice A n cp)) 26) := heap_alloc_new w _
  have HW0 : Hid (Below w.heap.size w (w.alloc (.cells (sc s (.slice A n cp)).toArray 26))) := (Below.refl _ w).alloc (Nat.le_refl _) _
  generalize w.alloc (.cells (sc s (.slice A n cp)).toArray 26) = w0 at *
  go_wp2_with fail
  refine (HPK.out.awake _).mono ?_
  rintro e w1 ⟨rfl, hb1⟩
  have HB1 := Lib.hid (HB0.out.below hb1)
  have HW1 := Lib.hid (HW0.out.trans (hb1.mono HW0.out.size))
  clear hb1 HB0 HW0
  have e8 := HB1.out.cell 8 _ rfl
  by_cases g2 : n > 800
  · have hf : decide ((800 : Int) < (n : Int)) = true := by simp; omega
    go_wp2_with fail
    go_ret
    exact ⟨rfl, HW1.out⟩
  have hf : decide ((800 : Int) < (n : Int)) = false := by simp; omega
  have e0 := HB1.out.cell 0 _ rfl
  obtain ⟨i, hi, hin⟩ : ∃ i : Nat, (s.ino : Int) % 24 = (i : Int) ∧ i < 24 := ⟨s.ino % 24, by omega, Nat.mod_lt _ (by omega)⟩
  have HIN := Lib.hid hin
  have HPL : Hid (w.heap.size ≤ w.heap.size) := Nat.le_refl _
  go_upto_region 8 with (first
    | (refine wpList_store_cell rfl 22 (.tmp 16) (.tmp 15) rfl w.heap.size 0 (.int .u32 ((s.ino : Int) % 24)) rfl rfl 26 _ HB1.out (by kernel_rfl) rfl (by simp [sc]) rfl ?_
       intro w2 hb2 hs2 hk2
       rw [hi] at hb2)
    | (refine wpList_store_cell rfl 22 (.tmp 17) (.const (.int .u32 0)) rfl w.heap.size 1 (.int .u32 0) rfl rfl 26 _ hb2 (by kernel_rfl) rfl (by simp [sc]) rfl ?_
       intro w3 hb3 hs3 hk3))
  have HB3 : Hid (Bw w3 w.heap.size (sc ⟨i, 0, s.gen, s.links, s.mode, s.change, s.cookie, s.verf, s.dt⟩ (.slice A n cp)) 26) := hb3
  have HW3 : Hid (Below w.heap.size w w3) := (HW1.out.trans (hk2.below2 (fun k hk => by omega))).trans (hk3.below2 (fun k hk => by omega))
  clear e0 e8 hf hi hin hb2 hs2 hk2 hb3 hs3 hk3 HB1 HW1
  obtain ⟨z, hz⟩ : ∃ z, Sl.okS (⟨i, 0, s.gen, s.links, s.mode, s.change, s.cookie, s.verf, s.dt⟩ : Vl.Th) = z := ⟨_, rfl⟩
  have HZ := Lib.hid hz
  have HIFF : Hid (z = true ↔ s.links = 0 ∧ s.mode = 0 ∧ s.cookie = 0 ∧ s.verf = 0 ∧ n = 0) := by
    show _ ↔ _
    rw [← hz, Sl.free_iff (⟨i, 0, s.gen, s.links, s.mode, s.change, s.cookie, s.verf, s.dt⟩ : Vl.Th) rfl, ← HNX.out, List.length_eq_zero_iff]
    exact ⟨fun h => h.2, fun h => ⟨by have := HIN.out; show i ≤ 23; omega, h⟩⟩
  clear hz
  have c3 := HB3.out.cell 3 _ rfl
  have c4 := HB3.out.cell 4 _ rfl
  have c6 := HB3.out.cell 6 _ rfl
  have c7 := HB3.out.cell 7 _ rfl
  have c8 := HB3.out.cell 8 _ rfl
  simp only [Act.put]
  go_cut [4] (fun s4 W => s4 = .bool z ∧ w3 = W)
  case first =>
    by_cases h0 : s.links = 0
    · have e0 : ((s.links : Int) == 0) = true := by simp; omega
      by_cases h1 : s.mode = 0
      · have e1 : ((s.mode : Int) == 0) = true := by simp; omega
        by_cases h2 : s.cookie = 0
        · have e2 : ((s.cookie : Int) == 0) = true := by simp; omega
          by_cases h3 : s.verf = 0
          · have e3 : ((s.verf : Int) == 0) = true := by simp; omega
            by_cases h4 : n = 0
            · have e4 : ((n : Int) == 0) = true := by simp; omega
              have hz : Hid (z = true) := HIFF.out.2 ⟨h0, h1, h2, h3, h4⟩
              clear h0 h1 h2 h3 h4
              go_wp2_with fail
              go_meet
              case rel => exact ⟨by rw [hz.out], rfl⟩
            · have e4 : ((n : Int) == 0) = false := by simp; omega
              have hz : Hid (z = false) := by show _ = _; cases z; rfl; exact absurd (HIFF.out.1 rfl).2.2.2.2 h4
              clear h0
              clear h1
              clear h2
              clear h3
              clear h4
              go_wp2_with fail
              go_meet
              case rel => exact ⟨by rw [hz.out], rfl⟩
          · have e3 : ((s.verf : Int) == 0) = false := by simp; omega
            have hz : Hid (z = false) := by show _ = _; cases z; rfl; exact absurd (HIFF.out.1 rfl).2.2.2.1 h3
            clear h0
            clear h1
            clear h2
            clear h3
            go_wp2_with fail
            go_meet
            case rel => exact ⟨by rw [hz.out], rfl⟩
        · have e2 : ((s.cookie : Int) == 0) = false := by simp; omega
          have hz : Hid (z = false) := by show _ = _; cases z; rfl; exact absurd (HIFF.out.1 rfl).2.2.1 h2
          clear h0
          clear h1
          clear h2
          go_wp2_with fail
          go_meet
          case rel => exact ⟨by rw [hz.out], rfl⟩
      · have e1 : ((s.mode : Int) == 0) = false := by simp; omega
        have hz : Hid (z = false) := by show _ = _; cases z; rfl; exact absurd (HIFF.out.1 rfl).2.1 h1
        clear h0
        clear h1
        go_wp2_with fail
        go_meet
        case rel => exact ⟨by rw [hz.out], rfl⟩
    · have e0 : ((s.links : Int) == 0) = false := by simp; omega
      have hz : Hid (z = false) := by show _ = _; cases z; rfl; exact absurd (HIFF.out.1 rfl).1 h0
      clear h0
      go_wp2_with fail
      go_meet
      case rel => exact ⟨by rw [hz.out], rfl⟩
  obtain ⟨rfl, rfl⟩ := hcut
  have c0 := HB3.out.cell 0 _ rfl
  have c2 := HB3.out.cell 2 _ rfl
  go_upto_region 10 with (first
    | (refine Did.list rfl (did_build 26 #[(0, .tmp 43), (1, .const (.int .u32 1)), (3, .tmp 45), (2, .tmp 47)] rfl (sc ⟨i, 1, s.gen, s.links, 0, 0, 0, 0, []⟩ (.slice none 0 0)).toArray (by exact built_Slf _ _ _)) ?_)
    | (refine wpList_alloc_any rfl 26 rfl _ zero_Sl ?_; intro w5 hb5 hs5 hw5)
    | (refine wpList_store_part rfl 26 (.tmp 5) (.tmp 48) rfl w3.heap.size 0 (sc ⟨i, 1, s.gen, s.links, 0, 0, 0, 0, []⟩ (.slice none 0 0)) rfl rfl 26 _ hb5 size_Sl (by simp [sc]) (sc_row _ _ _ _) ?_
       intro w6 hb6 hs6 hk6))
  have hbw : Below w3.heap.size w3 w6 := hw5.trans (hk6.below2 (fun k hk => by omega))
  have HB6 := Lib.hid (HB3.out.below hbw)
  have HW6 := Lib.hid (HW3.out.trans (hbw.mono HW3.out.size))
  have HF6 : Hid (Bw w6 w3.heap.size (sc ⟨i, 1, s.gen, s.links, 0, 0, 0, 0, []⟩ (.slice none 0 0)) 26) := hb6
  clear c0 c2 c3 c4 c6 c7 c8 hb5 hs5 hw5 hb6 hs6 hk6 hbw HB3 HW3
  generalize w3.heap.size = x at *
  obtain ⟨y, hy⟩ : ∃ y, decide ((0 : Int) < (s.links : Int)) = y := ⟨_, rfl⟩
  have hy2 : decide (0 < s.links) = y := by rw [← hy]; exact decide_eq_decide.2 (by omega)
  have HCB : Hid ((Sl.chkS (⟨i, 0, s.gen, s.links, s.mode, s.change, s.cookie, s.verf, s.dt⟩ : Vl.Th) == 0) = z) := by
    show _ = _
    unfold Sl.chkS
    rw [HZ.out]
    cases z <;> rfl
  have HCF : Hid ((Sl.chkS (⟨i, 1, s.gen, s.links, 0, 0, 0, 0, []⟩ : Vl.Th) == 0) = y) := by
    show _ = _
    have h1 : Sl.okS (⟨i, 1, s.gen, s.links, 0, 0, 0, 0, []⟩ : Vl.Th) = y := by
      rw [← hy, Bool.eq_iff_iff, Sl.used_iff (⟨i, 1, s.gen, s.links, 0, 0, 0, 0, []⟩ : Vl.Th) (show (1 : Nat) ≠ 0 by decide) (show (1 : Nat) ≠ 2 by decide)]
      have := HIN.out
      simp
      omega
    unfold Sl.chkS
    rw [h1]
    cases y <;> rfl
  have HFB : Hid (Fits (⟨i, 0, s.gen, s.links, s.mode, s.change, s.cookie, s.verf, s.dt⟩ : Vl.Th)) := ⟨by have := HIN.out; show i < _; omega, by show 0 < _; omega, ⟨HWX.out.wide.gen, HWX.out.wide.links, HWX.out.wide.mode, HWX.out.wide.change, HWX.out.wide.cookie, HWX.out.wide.verf⟩⟩
  have HFF : Hid (Fits (⟨i, 1, s.gen, s.links, 0, 0, 0, 0, []⟩ : Vl.Th)) := ⟨by have := HIN.out; show i < _; omega, by show 1 < _; omega, ⟨HWX.out.wide.gen, HWX.out.wide.links, by show 0 < _; omega, by show 0 < _; omega, by show 0 < _; omega, by show 0 < _; omega⟩⟩
  have HN9 : Hid (n ≤ 1000) := by show _ ≤ _; omega
  have HS : Hid ((fun W : World => Bw W w.heap.size (sc ⟨i, 0, s.gen, s.links, s.mode, s.change, s.cookie, s.verf, s.dt⟩ (.slice A n cp)) 26 ∧ Bw W x (sc ⟨i, 1, s.gen, s.links, 0, 0, 0, 0, []⟩ (.slice none 0 0)) 26) w6.drew) := ⟨HB6.out, HF6.out⟩
  have HG : Hid (Below w.heap.size w w6.drew) := HW6.out.drew
  clear HB6 HF6 HW6 HIFF
  refine wp_region_held_drew (S := fun W : World => Bw W w.heap.size (sc ⟨i, 0, s.gen, s.links, s.mode, s.change, s.cookie, s.verf, s.dt⟩ (.slice A n cp)) 26 ∧ Bw W x (sc ⟨i, 1, s.gen, s.links, 0, 0, 0, 0, []⟩ (.slice none 0 0)) 26) (by kernel_rfl) HS.out (fun _ => ?_)
  change wpAnyH _ _ _ _ _ 15 (Array.replicate 15 false) _ _
  refine takeH (i := 0) 49 (.agg (sc ⟨i, 0, s.gen, s.links, s.mode, s.change, s.cookie, s.verf, s.dt⟩ (.slice A n cp)).toArray) rfl rfl (by kernel_rfl) (by kernel_rfl) (by kernel_rfl) (fun _ _ _ h => h) (.inl ⟨by rfl, fun W hW => by (exact run_load_part 26 (.tmp 1) rfl w.heap.size 0 rfl _ Try.underlying26 rfl (sc ⟨i, 0, s.gen, s.links, s.mode, s.change, s.cookie, s.verf, s.dt⟩ (.slice A n cp)) 26 _ hW.1 size_Sl (fun j u hu => by rw [Nat.zero_add]; exact hu))⟩) HS.out ?_
  simp only [Act.put, List.setIfInBounds_toArray, List.set_cons_zero, List.set_cons_succ]
  refine takeH (i := 3) 52 (.bool z) rfl rfl (by kernel_rfl) (by kernel_rfl) (by kernel_rfl) (fun _ _ _ h => h) (.inl ⟨by rfl, fun W hW => by go_simp⟩) HS.out ?_
  simp only [Act.put, List.setIfInBounds_toArray, List.set_cons_zero, List.set_cons_succ]
  refine wpAnyH_ready (rs := [1]) (by kernel_rfl) (by simp) ?_
  refine AllReadyH.cons rfl (fun K hK => ?_) AllReadyH.nil
  go_simp
  refine (HPK.out.check (⟨i, 0, s.gen, s.links, s.mode, s.change, s.cookie, s.verf, s.dt⟩ : Vl.Th) A n cp _ HFB.out (HX.out.below HG.out) HN9.out).mono ?_
  rintro e y1 ⟨rfl, hb⟩
  have HG1 := Lib.hid (HG.out.trans (hb.mono HG.out.size))
  have HS1 : Hid ((fun W : World => Bw W w.heap.size (sc ⟨i, 0, s.gen, s.links, s.mode, s.change, s.cookie, s.verf, s.dt⟩ (.slice A n cp)) 26 ∧ Bw W x (sc ⟨i, 1, s.gen, s.links, 0, 0, 0, 0, []⟩ (.slice none 0 0)) 26) y1) := ⟨HS.out.1.below hb, HS.out.2.below hb⟩
  refine hK.out _ _ HS1.out fun _ => ?_
  clear hK K hb
  have hq1 := HCB.out
  generalize Sl.chkS (⟨i, 0, s.gen, s.links, s.mode, s.change, s.cookie, s.verf, s.dt⟩ : Vl.Th) = ce at *
  refine takeH (i := 2) 51 (.bool z) rfl rfl (by kernel_rfl) (by kernel_rfl) (by kernel_rfl) (fun _ _ _ h => h) (.inl ⟨by rfl, fun W hW => by go_simp⟩) HS1.out ?_
  simp only [Act.put, List.setIfInBounds_toArray, List.set_cons_zero, List.set_cons_succ]
  refine takeH (i := 4) 53 (.bool true) rfl rfl (by kernel_rfl) (by kernel_rfl) (by kernel_rfl) (fun _ _ _ h => h) (.inl ⟨by rfl, fun W hW => by go_simp⟩) HS1.out ?_
  simp only [Act.put, List.setIfInBounds_toArray, List.set_cons_zero, List.set_cons_succ]
  refine takeH (i := 5) 54 (.bool true) rfl rfl (by kernel_rfl) (by kernel_rfl) (by kernel_rfl) (fun _ _ _ h => h) (.inl ⟨by rfl, fun W hW => by go_simp⟩) HS1.out ?_
  simp only [Act.put, List.setIfInBounds_toArray, List.set_cons_zero, List.set_cons_succ]
  refine takeH (i := 6) 55 (.agg (sc ⟨i, 1, s.gen, s.links, 0, 0, 0, 0, []⟩ (.slice none 0 0)).toArray) rfl rfl (by kernel_rfl) (by kernel_rfl) (by kernel_rfl) (fun _ _ _ h => h) (.inl ⟨by rfl, fun W hW => by (exact run_load_part 26 (.tmp 5) rfl x 0 rfl _ Try.underlying26 rfl (sc ⟨i, 1, s.gen, s.links, 0, 0, 0, 0, []⟩ (.slice none 0 0)) 26 _ hW.2 size_Sl (fun j u hu => by rw [Nat.zero_add]; exact hu))⟩) HS1.out ?_
  simp only [Act.put, List.setIfInBounds_toArray, List.set_cons_zero, List.set_cons_succ]
  refine takeH (i := 9) 58 (.pointer (some ⟨w.heap.size, 3, none⟩)) rfl rfl (by kernel_rfl) (by kernel_rfl) (by kernel_rfl) (fun _ _ _ h => h) (.inl ⟨by rfl, fun W hW => by go_simp⟩) HS1.out ?_
  simp only [Act.put, List.setIfInBounds_toArray, List.set_cons_zero, List.set_cons_succ]
  refine takeH (i := 10) 59 (.int .u32 (s.links : Int)) rfl rfl (by kernel_rfl) (by kernel_rfl) (by kernel_rfl) (fun _ _ _ h => h) (.inl ⟨by rfl, fun W hW => by (have hz := hW.1.cell 3 _ rfl; go_simp)⟩) HS1.out ?_
  simp only [Act.put, List.setIfInBounds_toArray, List.set_cons_zero, List.set_cons_succ]
  refine takeH (i := 11) 60 (.bool y) rfl rfl (by kernel_rfl) (by kernel_rfl) (by kernel_rfl) (fun _ _ _ h => h) (.inl ⟨by rfl, fun W hW => by go_simp⟩) HS1.out ?_
  simp only [Act.put, List.setIfInBounds_toArray, List.set_cons_zero, List.set_cons_succ]
  refine wpAnyH_ready (rs := [7]) (by kernel_rfl) (by simp) ?_
  refine AllReadyH.cons rfl (fun K hK => ?_) AllReadyH.nil
  go_simp
  refine (HPK.out.check (⟨i, 1, s.gen, s.links, 0, 0, 0, 0, []⟩ : Vl.Th) none 0 0 _ HFF.out BS.nil (by omega)).mono ?_
  rintro e y2 ⟨rfl, hb⟩
  have HG2 := Lib.hid (HG1.out.trans (hb.mono HG1.out.size))
  have HS2 : Hid ((fun W : World => Bw W w.heap.size (sc ⟨i, 0, s.gen, s.links, s.mode, s.change, s.cookie, s.verf, s.dt⟩ (.slice A n cp)) 26 ∧ Bw W x (sc ⟨i, 1, s.gen, s.links, 0, 0, 0, 0, []⟩ (.slice none 0 0)) 26) y2) := ⟨HS1.out.1.below hb, HS1.out.2.below hb⟩
  refine hK.out _ _ HS2.out fun _ => ?_
  clear hK K hb
  have hq2 := HCF.out
  generalize Sl.chkS (⟨i, 1, s.gen, s.links, 0, 0, 0, 0, []⟩ : Vl.Th) = cf at *
  refine takeH (i := 8) 57 (.bool y) rfl rfl (by kernel_rfl) (by kernel_rfl) (by kernel_rfl) (fun _ _ _ h => h) (.inl ⟨by rfl, fun W hW => by go_simp⟩) HS2.out ?_
  simp only [Act.put, List.setIfInBounds_toArray, List.set_cons_zero, List.set_cons_succ]
  refine takeH (i := 12) 61 (.bool true) rfl rfl (by kernel_rfl) (by kernel_rfl) (by kernel_rfl) (fun _ _ _ h => h) (.inl ⟨by rfl, fun W hW => by go_simp⟩) HS2.out ?_
  simp only [Act.put, List.setIfInBounds_toArray, List.set_cons_zero, List.set_cons_succ]
  refine takeH (i := 13) 62 (.bool true) rfl rfl (by kernel_rfl) (by kernel_rfl) (by kernel_rfl) (fun _ _ _ h => h) (.inl ⟨by rfl, fun W hW => by go_simp⟩) HS2.out ?_
  simp only [Act.put, List.setIfInBounds_toArray, List.set_cons_zero, List.set_cons_succ]
  refine takeH (i := 14) 2 (.bool true) rfl rfl (by kernel_rfl) (by kernel_rfl) (by kernel_rfl) (fun _ _ _ h => h) (.inl ⟨by rfl, fun W hW => by go_simp⟩) HS2.out ?_
  simp only [Act.put, List.setIfInBounds_toArray, List.set_cons_zero, List.set_cons_succ]
  refine wpAnyH_done (by kernel_rfl) ?_ _
  go_wp2_with fail
  go_ret
  exact ⟨rfl, HG2.out⟩
end Go.Proofs.Ytbeahhijmgkfhaa
