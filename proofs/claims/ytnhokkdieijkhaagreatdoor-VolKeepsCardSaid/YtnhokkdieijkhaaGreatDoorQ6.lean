/-
  Contract of package inode's Check (layer 7).
  Contract of package inode's Put (layer 7).
  Contract of package inode's Get (layer 7).
  Contract of eachBlock (layer 12): the blocks of an inode that are blocks of data, one after another, handed to a function.
-/
import Derived.Test.YtnhokkdieijkhaaGreatDoorQ5
import Derived.Deep.RegionHeld
import Derived.Deep.DeepCutAuto
namespace Go.Proofs.YtnhokkdieijkhaaGreatDoor
open Go.RowKit

theorem size_I : (Tryz.prog.info? 85).map (·.size) = some 9 := by kernel_rfl
theorem load_I {w : World} {g : Nat} {k ge li m s c o v : Nat} {A : Option Addr} {n cp : Nat} (h : w.heap[g]? = some (.cells #[.int .u32 (k : Int), .int .u32 (ge : Int), .int .u32 (li : Int), .int .u32 (m : Int), .int .u32 (s : Int), .int .u64 (c : Int), .int .u64 (o : Int), .int .u64 (v : Int), .slice A n cp] 85 (0, 0))) :
    (loadVar 85 ⟨g, 0, none⟩).run Tryz.prog w = .ok (.agg #[.int .u32 (k : Int), .int .u32 (ge : Int), .int .u32 (li : Int), .int .u32 (m : Int), .int .u32 (s : Int), .int .u64 (c : Int), .int .u64 (o : Int), .int .u64 (v : Int), .slice A n cp]) w :=
  run_loadVar_row (P := Tryz.prog) w g 85 85 #[.int .u32 (k : Int), .int .u32 (ge : Int), .int .u32 (li : Int), .int .u32 (m : Int), .int .u32 (s : Int), .int .u64 (c : Int), .int .u64 (o : Int), .int .u64 (v : Int), .slice A n cp] (0, 0) _ h Tryz.underlying85 rfl size_I
theorem I_cells {w : World} {g : Nat} {k ge li m s c o v : Nat} {A : Option Addr} {n cp : Nat} (h : w.heap[g]? = some (.cells #[.int .u32 (k : Int), .int .u32 (ge : Int), .int .u32 (li : Int), .int .u32 (m : Int), .int .u32 (s : Int), .int .u64 (c : Int), .int .u64 (o : Int), .int .u64 (v : Int), .slice A n cp] 85 (0, 0))) :
    w.cell? ⟨g, 0, none⟩ = some (.int .u32 (k : Int)) ∧ w.cell? ⟨g, 1, none⟩ = some (.int .u32 (ge : Int)) ∧ w.cell? ⟨g, 2, none⟩ = some (.int .u32 (li : Int)) ∧ w.cell? ⟨g, 3, none⟩ = some (.int .u32 (m : Int)) ∧
    w.cell? ⟨g, 4, none⟩ = some (.int .u32 (s : Int)) ∧ w.cell? ⟨g, 5, none⟩ = some (.int .u64 (c : Int)) ∧ w.cell? ⟨g, 6, none⟩ = some (.int .u64 (o : Int)) ∧ w.cell? ⟨g, 7, none⟩ = some (.int .u64 (v : Int)) ∧
    w.cell? ⟨g, 8, none⟩ = some (.slice A n cp) :=
  ⟨cell_of_row w g 0 _ _ (0, 0) h, cell_of_row w g 1 _ _ (0, 0) h, cell_of_row w g 2 _ _ (0, 0) h, cell_of_row w g 3 _ _ (0, 0) h, cell_of_row w g 4 _ _ (0, 0) h, cell_of_row w g 5 _ _ (0, 0) h, cell_of_row w g 6 _ _ (0, 0) h, cell_of_row w g 7 _ _ (0, 0) h, cell_of_row w g 8 _ _ (0, 0) h⟩
theorem NS.len {k : IntKind} {w : World} {A : Option Addr} {n : Nat} {xs : List Nat} (h : NS k w A n xs) : xs.length = n := h.1
/-- What Check asks first, of the fields. -/
def fitB (k s n : Nat) (d : Bool) : Bool := decide (k ≤ 3) && decide (s ≤ 768) && n == need s && d
/-- .. and behind it. -/
def useB (k li m s o v n : Nat) : Bool := if k = 0 then unB k li m s o v n else decide (li ≠ 0)
theorem okB_parts (k g li m s c o v : Nat) (xs : List Nat) : (Nd.mk k g li m s c o v xs).okB = (fitB k s xs.length (decide xs.Nodup) && useB k li m s o v xs.length) := rfl
theorem chk_no (k g li m s c o v : Nat) (xs : List Nat) (h : fitB k s xs.length (decide xs.Nodup) = false) : (Nd.mk k g li m s c o v xs).chk = 1 := by
  unfold Nd.chk
  rw [okB_parts, h]
  rfl
theorem chk_use (k g li m s c o v : Nat) (xs : List Nat) (h : fitB k s xs.length (decide xs.Nodup) = true) : (Nd.mk k g li m s c o v xs).chk = if useB k li m s o v xs.length then 0 else 1 := by
  unfold Nd.chk
  rw [okB_parts, h]
  rfl

set_option maxRecDepth 100000 in
set_option maxHeartbeats 4000000 in
theorem check_any (k g li m s c o v : Nat) (A : Option Addr) (n cp : Nat) (xs : List Nat) (w : World) (hw : (Nd.mk k g li m s c o v xs).Wide) (hx : NS .u32 w A n xs) (hn : n ≤ 1000000) :
    Calls Tryz.prog 78 #[(.agg #[.int .u32 (k : Int), .int .u32 (g : Int), .int .u32 (li : Int), .int .u32 (m : Int), .int .u32 (s : Int), .int .u64 (c : Int), .int .u64 (o : Int), .int .u64 (v : Int), .slice A n cp])] w fun e w' => e = .returned (.int .i64 (Nd.mk k g li m s c o v xs).chk) ∧ Below w.heap.size w w' := by
  have HW := Lib.hid hw
  have HX := Lib.hid hx
  have Hn := Lib.hid hx.1
  clear hw hx
  obtain ⟨w0, hw0⟩ : ∃ w0, w0 = w.alloc (.cells #[.int .u32 (k : Int), .int .u32 (g : Int), .int .u32 (li : Int), .int .u32 (m : Int), .int .u32 (s : Int), .int .u64 (c : Int), .int .u64 (o : Int), .int .u64 (v : Int), .slice A n cp] 85) := ⟨_, rfl⟩
  have hb0 : Below w.heap.size w w0 := by rw [hw0]; exact (Below.refl _ _).alloc (Nat.le_refl _) _
  have hg0 : w0.heap[w.heap.size]? = some (.cells #[.int .u32 (k : Int), .int .u32 (g : Int), .int .u32 (li : Int), .int .u32 (m : Int), .int .u32 (s : Int), .int .u64 (c : Int), .int .u64 (o : Int), .int .u64 (v : Int), .slice A n cp] 85 (0, 0)) := by rw [hw0]; exact heap_alloc_new w _
  have HB0 := Lib.hid hb0
  have HG0 := Lib.hid hg0
  have H0 := Lib.hid hw0
  have HX0 := Lib.hid (HX.out.below hb0)
  clear hb0 hg0 hw0
  by_cases h1 : 3 < k
  · have HE : Hid ((Nd.mk k g li m s c o v xs).chk = 1) := chk_no _ _ _ _ _ _ _ _ _ (by unfold fitB; rw [decide_eq_false (by omega)]; rfl)
    have d1 : decide ((3 : Int) < (k : Int)) = true := by simp; omega
    go_enter Tryz.func78, Tryz.ntmps78
    go_upto_region 1 with (fail)
    rw [← H0.out]
    have HS : Hid ((fun W : World => W.cell? ⟨w.heap.size, 0, none⟩ = some (.int .u32 (k : Int)) ∧ W.cell? ⟨w.heap.size, 4, none⟩ = some (.int .u32 (s : Int)) ∧ W.cell? ⟨w.heap.size, 8, none⟩ = some (.slice A n cp)) w0.drew) :=
      ⟨cell_of_row w0 _ 0 _ _ (0, 0) HG0.out, cell_of_row w0 _ 4 _ _ (0, 0) HG0.out, cell_of_row w0 _ 8 _ _ (0, 0) HG0.out⟩
    refine wp_region_held_drew (S := fun W => W.cell? ⟨w.heap.size, 0, none⟩ = some (.int .u32 (k : Int)) ∧ W.cell? ⟨w.heap.size, 4, none⟩ = some (.int .u32 (s : Int)) ∧ W.cell? ⟨w.heap.size, 8, none⟩ = some (.slice A n cp)) (by kernel_rfl) HS.out (fun _ => ?_)
    change wpAnyH _ _ _ _ _ 24 (Array.replicate 24 false) _ _
    refine takeH (i := 0) 3 (.pointer (some ⟨w.heap.size, 0, none⟩)) rfl rfl (by kernel_rfl) (by kernel_rfl) (by kernel_rfl) (fun _ _ _ h => h) (.inl ⟨by rfl, fun W hW => by go_simp⟩) HS.out ?_
    simp only [Act.put, List.setIfInBounds_toArray, List.set_cons_zero, List.set_cons_succ]
    refine takeH (i := 1) 4 (.int .u32 (k : Int)) rfl rfl (by kernel_rfl) (by kernel_rfl) (by kernel_rfl) (fun _ _ _ h => h) (.inl ⟨by rfl, fun W hW => by (obtain ⟨h0, h4, h8⟩ := hW; go_simp)⟩) HS.out ?_
    simp only [Act.put, List.setIfInBounds_toArray, List.set_cons_zero, List.set_cons_succ]
    refine takeH (i := 2) 5 (.bool true) rfl rfl (by kernel_rfl) (by kernel_rfl) (by kernel_rfl) (fun _ _ _ h => h) (.inl ⟨by rfl, fun W hW => by go_simp⟩) HS.out ?_
    simp only [Act.put, List.setIfInBounds_toArray, List.set_cons_zero, List.set_cons_succ]
    refine takeH (i := 3) 6 (.bool true) rfl rfl (by kernel_rfl) (by kernel_rfl) (by kernel_rfl) (fun _ _ _ h => h) (.inl ⟨by rfl, fun W hW => by go_simp⟩) HS.out ?_
    simp only [Act.put, List.setIfInBounds_toArray, List.set_cons_zero, List.set_cons_succ]
    refine takeH (i := 4) 7 undef rfl rfl (by kernel_rfl) (by kernel_rfl) (by kernel_rfl) (fun _ _ _ h => h) (.inr ⟨by rfl, rfl⟩) HS.out ?_
    simp only [Act.put, List.setIfInBounds_toArray, List.set_cons_zero, List.set_cons_succ]
    refine takeH (i := 5) 8 undef rfl rfl (by kernel_rfl) (by kernel_rfl) (by kernel_rfl) (fun _ _ _ h => h) (.inr ⟨by rfl, rfl⟩) HS.out ?_
    simp only [Act.put, List.setIfInBounds_toArray, List.set_cons_zero, List.set_cons_succ]
    refine takeH (i := 6) 9 undef rfl rfl (by kernel_rfl) (by kernel_rfl) (by kernel_rfl) (fun _ _ _ h => h) (.inr ⟨by rfl, rfl⟩) HS.out ?_
    simp only [Act.put, List.setIfInBounds_toArray, List.set_cons_zero, List.set_cons_succ]
    refine takeH (i := 7) 10 (.bool true) rfl rfl (by kernel_rfl) (by kernel_rfl) (by kernel_rfl) (fun _ _ _ h => h) (.inl ⟨by rfl, fun W hW => by go_simp⟩) HS.out ?_
    simp only [Act.put, List.setIfInBounds_toArray, List.set_cons_zero, List.set_cons_succ]
    refine takeH (i := 8) 11 (.bool true) rfl rfl (by kernel_rfl) (by kernel_rfl) (by kernel_rfl) (fun _ _ _ h => h) (.inl ⟨by rfl, fun W hW => by go_simp⟩) HS.out ?_
    simp only [Act.put, List.setIfInBounds_toArray, List.set_cons_zero, List.set_cons_succ]
    refine takeH (i := 9) 12 undef rfl rfl (by kernel_rfl) (by kernel_rfl) (by kernel_rfl) (fun _ _ _ h => h) (.inr ⟨by rfl, rfl⟩) HS.out ?_
    simp only [Act.put, List.setIfInBounds_toArray, List.set_cons_zero, List.set_cons_succ]
    refine takeH (i := 10) 13 undef rfl rfl (by kernel_rfl) (by kernel_rfl) (by kernel_rfl) (fun _ _ _ h => h) (.inr ⟨by rfl, rfl⟩) HS.out ?_
    simp only [Act.put, List.setIfInBounds_toArray, List.set_cons_zero, List.set_cons_succ]
    refine takeH (i := 11) 14 undef rfl rfl (by kernel_rfl) (by kernel_rfl) (by kernel_rfl) (fun _ _ _ h => h) (.inr ⟨by rfl, rfl⟩) HS.out ?_
    simp only [Act.put, List.setIfInBounds_toArray, List.set_cons_zero, List.set_cons_succ]
    refine takeH (i := 12) 15 undef rfl rfl (by kernel_rfl) (by kernel_rfl) (by kernel_rfl) (fun _ _ _ h => h) (.inr ⟨by rfl, rfl⟩) HS.out ?_
    simp only [Act.put, List.setIfInBounds_toArray, List.set_cons_zero, List.set_cons_succ]
    refine takeH (i := 13) 16 undef rfl rfl (by kernel_rfl) (by kernel_rfl) (by kernel_rfl) (fun _ _ _ h => h) (.inr ⟨by rfl, rfl⟩) HS.out ?_
    simp only [Act.put, List.setIfInBounds_toArray, List.set_cons_zero, List.set_cons_succ]
    refine takeH (i := 14) 17 undef rfl rfl (by kernel_rfl) (by kernel_rfl) (by kernel_rfl) (fun _ _ _ h => h) (.inr ⟨by rfl, rfl⟩) HS.out ?_
    simp only [Act.put, List.setIfInBounds_toArray, List.set_cons_zero, List.set_cons_succ]
    refine takeH (i := 15) 18 undef rfl rfl (by kernel_rfl) (by kernel_rfl) (by kernel_rfl) (fun _ _ _ h => h) (.inr ⟨by rfl, rfl⟩) HS.out ?_
    simp only [Act.put, List.setIfInBounds_toArray, List.set_cons_zero, List.set_cons_succ]
    refine takeH (i := 16) 19 undef rfl rfl (by kernel_rfl) (by kernel_rfl) (by kernel_rfl) (fun _ _ _ h => h) (.inr ⟨by rfl, rfl⟩) HS.out ?_
    simp only [Act.put, List.setIfInBounds_toArray, List.set_cons_zero, List.set_cons_succ]
    refine takeH (i := 17) 20 (.bool true) rfl rfl (by kernel_rfl) (by kernel_rfl) (by kernel_rfl) (fun _ _ _ h => h) (.inl ⟨by rfl, fun W hW => by go_simp⟩) HS.out ?_
    simp only [Act.put, List.setIfInBounds_toArray, List.set_cons_zero, List.set_cons_succ]
    refine takeH (i := 18) 21 (.bool true) rfl rfl (by kernel_rfl) (by kernel_rfl) (by kernel_rfl) (fun _ _ _ h => h) (.inl ⟨by rfl, fun W hW => by go_simp⟩) HS.out ?_
    simp only [Act.put, List.setIfInBounds_toArray, List.set_cons_zero, List.set_cons_succ]
    refine takeH (i := 19) 22 undef rfl rfl (by kernel_rfl) (by kernel_rfl) (by kernel_rfl) (fun _ _ _ h => h) (.inr ⟨by rfl, rfl⟩) HS.out ?_
    simp only [Act.put, List.setIfInBounds_toArray, List.set_cons_zero, List.set_cons_succ]
    refine takeH (i := 20) 23 undef rfl rfl (by kernel_rfl) (by kernel_rfl) (by kernel_rfl) (fun _ _ _ h => h) (.inr ⟨by rfl, rfl⟩) HS.out ?_
    simp only [Act.put, List.setIfInBounds_toArray, List.set_cons_zero, List.set_cons_succ]
    refine takeH (i := 21) 24 undef rfl rfl (by kernel_rfl) (by kernel_rfl) (by kernel_rfl) (fun _ _ _ h => h) (.inr ⟨by rfl, rfl⟩) HS.out ?_
    simp only [Act.put, List.setIfInBounds_toArray, List.set_cons_zero, List.set_cons_succ]
    refine takeH (i := 22) 25 undef rfl rfl (by kernel_rfl) (by kernel_rfl) (by kernel_rfl) (fun _ _ _ h => h) (.inr ⟨by rfl, rfl⟩) HS.out ?_
    simp only [Act.put, List.setIfInBounds_toArray, List.set_cons_zero, List.set_cons_succ]
    refine takeH (i := 23) 26 (.bool true) rfl rfl (by kernel_rfl) (by kernel_rfl) (by kernel_rfl) (fun _ _ _ h => h) (.inl ⟨by rfl, fun W hW => by go_simp⟩) HS.out ?_
    simp only [Act.put, List.setIfInBounds_toArray, List.set_cons_zero, List.set_cons_succ]
    refine wpAnyH_done (by kernel_rfl) ?_ _
    go_wp2
    go_ret
    rw [HE.out]
    exact ⟨rfl, HB0.out.drew⟩
  have d1 : decide ((3 : Int) < (k : Int)) = false := by simp; omega
  by_cases h2 : 768 < s
  · have HE : Hid ((Nd.mk k g li m s c o v xs).chk = 1) := chk_no _ _ _ _ _ _ _ _ _ (by unfold fitB; rw [decide_eq_false (p := s ≤ 768) (by omega), Bool.and_false]; rfl)
    have d2 : decide ((768 : Int) < (s : Int)) = true := by simp; omega
    go_enter Tryz.func78, Tryz.ntmps78
    go_upto_region 1 with (fail)
    rw [← H0.out]
    have HS : Hid ((fun W : World => W.cell? ⟨w.heap.size, 0, none⟩ = some (.int .u32 (k : Int)) ∧ W.cell? ⟨w.heap.size, 4, none⟩ = some (.int .u32 (s : Int)) ∧ W.cell? ⟨w.heap.size, 8, none⟩ = some (.slice A n cp)) w0.drew) :=
      ⟨cell_of_row w0 _ 0 _ _ (0, 0) HG0.out, cell_of_row w0 _ 4 _ _ (0, 0) HG0.out, cell_of_row w0 _ 8 _ _ (0, 0) HG0.out⟩
    refine wp_region_held_drew (S := fun W => W.cell? ⟨w.heap.size, 0, none⟩ = some (.int .u32 (k : Int)) ∧ W.cell? ⟨w.heap.size, 4, none⟩ = some (.int .u32 (s : Int)) ∧ W.cell? ⟨w.heap.size, 8, none⟩ = some (.slice A n cp)) (by kernel_rfl) HS.out (fun _ => ?_)
    change wpAnyH _ _ _ _ _ 24 (Array.replicate 24 false) _ _
    refine takeH (i := 0) 3 (.pointer (some ⟨w.heap.size, 0, none⟩)) rfl rfl (by kernel_rfl) (by kernel_rfl) (by kernel_rfl) (fun _ _ _ h => h) (.inl ⟨by rfl, fun W hW => by go_simp⟩) HS.out ?_
    simp only [Act.put, List.setIfInBounds_toArray, List.set_cons_zero, List.set_cons_succ]
    refine takeH (i := 1) 4 (.int .u32 (k : Int)) rfl rfl (by kernel_rfl) (by kernel_rfl) (by kernel_rfl) (fun _ _ _ h => h) (.inl ⟨by rfl, fun W hW => by (obtain ⟨h0, h4, h8⟩ := hW; go_simp)⟩) HS.out ?_
    simp only [Act.put, List.setIfInBounds_toArray, List.set_cons_zero, List.set_cons_succ]
    refine takeH (i := 2) 5 (.bool false) rfl rfl (by kernel_rfl) (by kernel_rfl) (by kernel_rfl) (fun _ _ _ h => h) (.inl ⟨by rfl, fun W hW => by go_simp⟩) HS.out ?_
    simp only [Act.put, List.setIfInBounds_toArray, List.set_cons_zero, List.set_cons_succ]
    refine takeH (i := 3) 6 (.bool false) rfl rfl (by kernel_rfl) (by kernel_rfl) (by kernel_rfl) (fun _ _ _ h => h) (.inl ⟨by rfl, fun W hW => by go_simp⟩) HS.out ?_
    simp only [Act.put, List.setIfInBounds_toArray, List.set_cons_zero, List.set_cons_succ]
    refine takeH (i := 4) 7 (.pointer (some ⟨w.heap.size, 4, none⟩)) rfl rfl (by kernel_rfl) (by kernel_rfl) (by kernel_rfl) (fun _ _ _ h => h) (.inl ⟨by rfl, fun W hW => by go_simp⟩) HS.out ?_
    simp only [Act.put, List.setIfInBounds_toArray, List.set_cons_zero, List.set_cons_succ]
    refine takeH (i := 5) 8 (.int .u32 (s : Int)) rfl rfl (by kernel_rfl) (by kernel_rfl) (by kernel_rfl) (fun _ _ _ h => h) (.inl ⟨by rfl, fun W hW => by (obtain ⟨h0, h4, h8⟩ := hW; go_simp)⟩) HS.out ?_
    simp only [Act.put, List.setIfInBounds_toArray, List.set_cons_zero, List.set_cons_succ]
    refine takeH (i := 6) 9 (.bool true) rfl rfl (by kernel_rfl) (by kernel_rfl) (by kernel_rfl) (fun _ _ _ h => h) (.inl ⟨by rfl, fun W hW => by go_simp⟩) HS.out ?_
    simp only [Act.put, List.setIfInBounds_toArray, List.set_cons_zero, List.set_cons_succ]
    refine takeH (i := 7) 10 (.bool true) rfl rfl (by kernel_rfl) (by kernel_rfl) (by kernel_rfl) (fun _ _ _ h => h) (.inl ⟨by rfl, fun W hW => by go_simp⟩) HS.out ?_
    simp only [Act.put, List.setIfInBounds_toArray, List.set_cons_zero, List.set_cons_succ]
    refine takeH (i := 8) 11 (.bool true) rfl rfl (by kernel_rfl) (by kernel_rfl) (by kernel_rfl) (fun _ _ _ h => h) (.inl ⟨by rfl, fun W hW => by go_simp⟩) HS.out ?_
    simp only [Act.put, List.setIfInBounds_toArray, List.set_cons_zero, List.set_cons_succ]
    refine takeH (i := 9) 12 undef rfl rfl (by kernel_rfl) (by kernel_rfl) (by kernel_rfl) (fun _ _ _ h => h) (.inr ⟨by rfl, rfl⟩) HS.out ?_
    simp only [Act.put, List.setIfInBounds_toArray, List.set_cons_zero, List.set_cons_succ]
    refine takeH (i := 10) 13 undef rfl rfl (by kernel_rfl) (by kernel_rfl) (by kernel_rfl) (fun _ _ _ h => h) (.inr ⟨by rfl, rfl⟩) HS.out ?_
    simp only [Act.put, List.setIfInBounds_toArray, List.set_cons_zero, List.set_cons_succ]
    refine takeH (i := 11) 14 undef rfl rfl (by kernel_rfl) (by kernel_rfl) (by kernel_rfl) (fun _ _ _ h => h) (.inr ⟨by rfl, rfl⟩) HS.out ?_
    simp only [Act.put, List.setIfInBounds_toArray, List.set_cons_zero, List.set_cons_succ]
    refine takeH (i := 12) 15 undef rfl rfl (by kernel_rfl) (by kernel_rfl) (by kernel_rfl) (fun _ _ _ h => h) (.inr ⟨by rfl, rfl⟩) HS.out ?_
    simp only [Act.put, List.setIfInBounds_toArray, List.set_cons_zero, List.set_cons_succ]
    refine takeH (i := 13) 16 undef rfl rfl (by kernel_rfl) (by kernel_rfl) (by kernel_rfl) (fun _ _ _ h => h) (.inr ⟨by rfl, rfl⟩) HS.out ?_
    simp only [Act.put, List.setIfInBounds_toArray, List.set_cons_zero, List.set_cons_succ]
    refine takeH (i := 14) 17 undef rfl rfl (by kernel_rfl) (by kernel_rfl) (by kernel_rfl) (fun _ _ _ h => h) (.inr ⟨by rfl, rfl⟩) HS.out ?_
    simp only [Act.put, List.setIfInBounds_toArray, List.set_cons_zero, List.set_cons_succ]
    refine takeH (i := 15) 18 undef rfl rfl (by kernel_rfl) (by kernel_rfl) (by kernel_rfl) (fun _ _ _ h => h) (.inr ⟨by rfl, rfl⟩) HS.out ?_
    simp only [Act.put, List.setIfInBounds_toArray, List.set_cons_zero, List.set_cons_succ]
    refine takeH (i := 16) 19 undef rfl rfl (by kernel_rfl) (by kernel_rfl) (by kernel_rfl) (fun _ _ _ h => h) (.inr ⟨by rfl, rfl⟩) HS.out ?_
    simp only [Act.put, List.setIfInBounds_toArray, List.set_cons_zero, List.set_cons_succ]
    refine takeH (i := 17) 20 (.bool true) rfl rfl (by kernel_rfl) (by kernel_rfl) (by kernel_rfl) (fun _ _ _ h => h) (.inl ⟨by rfl, fun W hW => by go_simp⟩) HS.out ?_
    simp only [Act.put, List.setIfInBounds_toArray, List.set_cons_zero, List.set_cons_succ]
    refine takeH (i := 18) 21 (.bool true) rfl rfl (by kernel_rfl) (by kernel_rfl) (by kernel_rfl) (fun _ _ _ h => h) (.inl ⟨by rfl, fun W hW => by go_simp⟩) HS.out ?_
    simp only [Act.put, List.setIfInBounds_toArray, List.set_cons_zero, List.set_cons_succ]
    refine takeH (i := 19) 22 undef rfl rfl (by kernel_rfl) (by kernel_rfl) (by kernel_rfl) (fun _ _ _ h => h) (.inr ⟨by rfl, rfl⟩) HS.out ?_
    simp only [Act.put, List.setIfInBounds_toArray, List.set_cons_zero, List.set_cons_succ]
    refine takeH (i := 20) 23 undef rfl rfl (by kernel_rfl) (by kernel_rfl) (by kernel_rfl) (fun _ _ _ h => h) (.inr ⟨by rfl, rfl⟩) HS.out ?_
    simp only [Act.put, List.setIfInBounds_toArray, List.set_cons_zero, List.set_cons_succ]
    refine takeH (i := 21) 24 undef rfl rfl (by kernel_rfl) (by kernel_rfl) (by kernel_rfl) (fun _ _ _ h => h) (.inr ⟨by rfl, rfl⟩) HS.out ?_
    simp only [Act.put, List.setIfInBounds_toArray, List.set_cons_zero, List.set_cons_succ]
    refine takeH (i := 22) 25 undef rfl rfl (by kernel_rfl) (by kernel_rfl) (by kernel_rfl) (fun _ _ _ h => h) (.inr ⟨by rfl, rfl⟩) HS.out ?_
    simp only [Act.put, List.setIfInBounds_toArray, List.set_cons_zero, List.set_cons_succ]
    refine takeH (i := 23) 26 (.bool true) rfl rfl (by kernel_rfl) (by kernel_rfl) (by kernel_rfl) (fun _ _ _ h => h) (.inl ⟨by rfl, fun W hW => by go_simp⟩) HS.out ?_
    simp only [Act.put, List.setIfInBounds_toArray, List.set_cons_zero, List.set_cons_succ]
    refine wpAnyH_done (by kernel_rfl) ?_ _
    go_wp2
    go_ret
    rw [HE.out]
    exact ⟨rfl, HB0.out.drew⟩
  have d2 : decide ((768 : Int) < (s : Int)) = false := by simp; omega
  have ws : IntKind.i64.wrap (s : Int) = (s : Int) := IntWalk.i64_in _ (by omega)
  by_cases h3 : n = need s
  rotate_left
  · have HE : Hid ((Nd.mk k g li m s c o v xs).chk = 1) := chk_no _ _ _ _ _ _ _ _ _ (by unfold fitB; rw [Hn.out, show (n == need s) = false by simpa using h3, Bool.and_false]; rfl)
    have d3 : ((n : Int) != (need s : Int)) = true := by simp; omega
    clear h3
    go_enter Tryz.func78, Tryz.ntmps78
    go_upto_region 1 with (fail)
    rw [← H0.out]
    have HS : Hid ((fun W : World => W.cell? ⟨w.heap.size, 0, none⟩ = some (.int .u32 (k : Int)) ∧ W.cell? ⟨w.heap.size, 4, none⟩ = some (.int .u32 (s : Int)) ∧ W.cell? ⟨w.heap.size, 8, none⟩ = some (.slice A n cp)) w0.drew) :=
      ⟨cell_of_row w0 _ 0 _ _ (0, 0) HG0.out, cell_of_row w0 _ 4 _ _ (0, 0) HG0.out, cell_of_row w0 _ 8 _ _ (0, 0) HG0.out⟩
    refine wp_region_held_drew (S := fun W => W.cell? ⟨w.heap.size, 0, none⟩ = some (.int .u32 (k : Int)) ∧ W.cell? ⟨w.heap.size, 4, none⟩ = some (.int .u32 (s : Int)) ∧ W.cell? ⟨w.heap.size, 8, none⟩ = some (.slice A n cp)) (by kernel_rfl) HS.out (fun _ => ?_)
    change wpAnyH _ _ _ _ _ 24 (Array.replicate 24 false) _ _
    refine takeH (i := 0) 3 (.pointer (some ⟨w.heap.size, 0, none⟩)) rfl rfl (by kernel_rfl) (by kernel_rfl) (by kernel_rfl) (fun _ _ _ h => h) (.inl ⟨by rfl, fun W hW => by go_simp⟩) HS.out ?_
    simp only [Act.put, List.setIfInBounds_toArray, List.set_cons_zero, List.set_cons_succ]
    refine takeH (i := 1) 4 (.int .u32 (k : Int)) rfl rfl (by kernel_rfl) (by kernel_rfl) (by kernel_rfl) (fun _ _ _ h => h) (.inl ⟨by rfl, fun W hW => by (obtain ⟨h0, h4, h8⟩ := hW; go_simp)⟩) HS.out ?_
    simp only [Act.put, List.setIfInBounds_toArray, List.set_cons_zero, List.set_cons_succ]
    refine takeH (i := 2) 5 (.bool false) rfl rfl (by kernel_rfl) (by kernel_rfl) (by kernel_rfl) (fun _ _ _ h => h) (.inl ⟨by rfl, fun W hW => by go_simp⟩) HS.out ?_
    simp only [Act.put, List.setIfInBounds_toArray, List.set_cons_zero, List.set_cons_succ]
    refine takeH (i := 3) 6 (.bool false) rfl rfl (by kernel_rfl) (by kernel_rfl) (by kernel_rfl) (fun _ _ _ h => h) (.inl ⟨by rfl, fun W hW => by go_simp⟩) HS.out ?_
    simp only [Act.put, List.setIfInBounds_toArray, List.set_cons_zero, List.set_cons_succ]
    refine takeH (i := 4) 7 (.pointer (some ⟨w.heap.size, 4, none⟩)) rfl rfl (by kernel_rfl) (by kernel_rfl) (by kernel_rfl) (fun _ _ _ h => h) (.inl ⟨by rfl, fun W hW => by go_simp⟩) HS.out ?_
    simp only [Act.put, List.setIfInBounds_toArray, List.set_cons_zero, List.set_cons_succ]
    refine takeH (i := 5) 8 (.int .u32 (s : Int)) rfl rfl (by kernel_rfl) (by kernel_rfl) (by kernel_rfl) (fun _ _ _ h => h) (.inl ⟨by rfl, fun W hW => by (obtain ⟨h0, h4, h8⟩ := hW; go_simp)⟩) HS.out ?_
    simp only [Act.put, List.setIfInBounds_toArray, List.set_cons_zero, List.set_cons_succ]
    refine takeH (i := 6) 9 (.bool false) rfl rfl (by kernel_rfl) (by kernel_rfl) (by kernel_rfl) (fun _ _ _ h => h) (.inl ⟨by rfl, fun W hW => by go_simp⟩) HS.out ?_
    simp only [Act.put, List.setIfInBounds_toArray, List.set_cons_zero, List.set_cons_succ]
    refine takeH (i := 7) 10 (.bool false) rfl rfl (by kernel_rfl) (by kernel_rfl) (by kernel_rfl) (fun _ _ _ h => h) (.inl ⟨by rfl, fun W hW => by go_simp⟩) HS.out ?_
    simp only [Act.put, List.setIfInBounds_toArray, List.set_cons_zero, List.set_cons_succ]
    refine takeH (i := 8) 11 (.bool false) rfl rfl (by kernel_rfl) (by kernel_rfl) (by kernel_rfl) (fun _ _ _ h => h) (.inl ⟨by rfl, fun W hW => by go_simp⟩) HS.out ?_
    simp only [Act.put, List.setIfInBounds_toArray, List.set_cons_zero, List.set_cons_succ]
    refine takeH (i := 9) 12 (.pointer (some ⟨w.heap.size, 8, none⟩)) rfl rfl (by kernel_rfl) (by kernel_rfl) (by kernel_rfl) (fun _ _ _ h => h) (.inl ⟨by rfl, fun W hW => by go_simp⟩) HS.out ?_
    simp only [Act.put, List.setIfInBounds_toArray, List.set_cons_zero, List.set_cons_succ]
    refine takeH (i := 10) 13 (.slice A n cp) rfl rfl (by kernel_rfl) (by kernel_rfl) (by kernel_rfl) (fun _ _ _ h => h) (.inl ⟨by rfl, fun W hW => by (obtain ⟨h0, h4, h8⟩ := hW; go_simp)⟩) HS.out ?_
    simp only [Act.put, List.setIfInBounds_toArray, List.set_cons_zero, List.set_cons_succ]
    refine takeH (i := 11) 14 (.int .i64 (n : Int)) rfl rfl (by kernel_rfl) (by kernel_rfl) (by kernel_rfl) (fun _ _ _ h => h) (.inl ⟨by rfl, fun W hW => by go_simp⟩) HS.out ?_
    simp only [Act.put, List.setIfInBounds_toArray, List.set_cons_zero, List.set_cons_succ]
    refine takeH (i := 12) 15 (.pointer (some ⟨w.heap.size, 4, none⟩)) rfl rfl (by kernel_rfl) (by kernel_rfl) (by kernel_rfl) (fun _ _ _ h => h) (.inl ⟨by rfl, fun W hW => by go_simp⟩) HS.out ?_
    simp only [Act.put, List.setIfInBounds_toArray, List.set_cons_zero, List.set_cons_succ]
    refine takeH (i := 13) 16 (.int .u32 (s : Int)) rfl rfl (by kernel_rfl) (by kernel_rfl) (by kernel_rfl) (fun _ _ _ h => h) (.inl ⟨by rfl, fun W hW => by (obtain ⟨h0, h4, h8⟩ := hW; go_simp)⟩) HS.out ?_
    simp only [Act.put, List.setIfInBounds_toArray, List.set_cons_zero, List.set_cons_succ]
    refine takeH (i := 14) 17 (.int .i64 (s : Int)) rfl rfl (by kernel_rfl) (by kernel_rfl) (by kernel_rfl) (fun _ _ _ h => h) (.inl ⟨by rfl, fun W hW => by go_simp⟩) HS.out ?_
    simp only [Act.put, List.setIfInBounds_toArray, List.set_cons_zero, List.set_cons_succ]
    refine wpAnyH_ready (rs := [15]) (by kernel_rfl) (by simp) ?_
    refine AllReadyH.cons rfl (fun K hK => ?_) AllReadyH.nil
    go_simp
    refine (need_any (s : Int) w0.drew (by omega) (by omega)).mono ?_
    rintro e w1 ⟨rfl, rfl⟩
    rw [needI_nat]
    refine hK.out _ _ HS.out fun _ => ?_
    clear hK K
    refine takeH (i := 16) 19 (.bool true) rfl rfl (by kernel_rfl) (by kernel_rfl) (by kernel_rfl) (fun _ _ _ h => h) (.inl ⟨by rfl, fun W hW => by go_simp⟩) HS.out ?_
    simp only [Act.put, List.setIfInBounds_toArray, List.set_cons_zero, List.set_cons_succ]
    refine takeH (i := 17) 20 (.bool true) rfl rfl (by kernel_rfl) (by kernel_rfl) (by kernel_rfl) (fun _ _ _ h => h) (.inl ⟨by rfl, fun W hW => by go_simp⟩) HS.out ?_
    simp only [Act.put, List.setIfInBounds_toArray, List.set_cons_zero, List.set_cons_succ]
    refine takeH (i := 18) 21 (.bool true) rfl rfl (by kernel_rfl) (by kernel_rfl) (by kernel_rfl) (fun _ _ _ h => h) (.inl ⟨by rfl, fun W hW => by go_simp⟩) HS.out ?_
    simp only [Act.put, List.setIfInBounds_toArray, List.set_cons_zero, List.set_cons_succ]
    refine takeH (i := 19) 22 undef rfl rfl (by kernel_rfl) (by kernel_rfl) (by kernel_rfl) (fun _ _ _ h => h) (.inr ⟨by rfl, rfl⟩) HS.out ?_
    simp only [Act.put, List.setIfInBounds_toArray, List.set_cons_zero, List.set_cons_succ]
    refine takeH (i := 20) 23 undef rfl rfl (by kernel_rfl) (by kernel_rfl) (by kernel_rfl) (fun _ _ _ h => h) (.inr ⟨by rfl, rfl⟩) HS.out ?_
    simp only [Act.put, List.setIfInBounds_toArray, List.set_cons_zero, List.set_cons_succ]
    refine takeH (i := 21) 24 undef rfl rfl (by kernel_rfl) (by kernel_rfl) (by kernel_rfl) (fun _ _ _ h => h) (.inr ⟨by rfl, rfl⟩) HS.out ?_
    simp only [Act.put, List.setIfInBounds_toArray, List.set_cons_zero, List.set_cons_succ]
    refine takeH (i := 22) 25 undef rfl rfl (by kernel_rfl) (by kernel_rfl) (by kernel_rfl) (fun _ _ _ h => h) (.inr ⟨by rfl, rfl⟩) HS.out ?_
    simp only [Act.put, List.setIfInBounds_toArray, List.set_cons_zero, List.set_cons_succ]
    refine takeH (i := 23) 26 (.bool true) rfl rfl (by kernel_rfl) (by kernel_rfl) (by kernel_rfl) (fun _ _ _ h => h) (.inl ⟨by rfl, fun W hW => by go_simp⟩) HS.out ?_
    simp only [Act.put, List.setIfInBounds_toArray, List.set_cons_zero, List.set_cons_succ]
    refine wpAnyH_done (by kernel_rfl) ?_ _
    go_wp2
    go_ret
    rw [HE.out]
    exact ⟨rfl, HB0.out.drew⟩
  have d3 : ((n : Int) != (need s : Int)) = false := by simp; omega
  have HD := Lib.hid (distinct_any A n cp xs w0.drew (HX0.out) HW.out.b hn)
  have HF : Hid (fitB k s xs.length (decide xs.Nodup) = decide xs.Nodup) := by
    show _ = _
    unfold fitB
    rw [decide_eq_true (p := k ≤ 3) (by omega), decide_eq_true (p := s ≤ 768) (by omega), Hn.out, show (n == need s) = true by simpa using h3]
    rfl
  have HCN : Hid (decide xs.Nodup = false → (Nd.mk k g li m s c o v xs).chk = 1) := fun h => chk_no _ _ _ _ _ _ _ _ _ (by rw [HF.out, h])
  have HCY : Hid (decide xs.Nodup = true → (Nd.mk k g li m s c o v xs).chk = if useB k li m s o v n then 0 else 1) := fun h => by rw [chk_use _ _ _ _ _ _ _ _ _ (by rw [HF.out, h]), Hn.out]
  clear h3 HF
  generalize decide xs.Nodup = dup at *
  generalize (Nd.mk k g li m s c o v xs).chk = z at *
  go_enter Tryz.func78, Tryz.ntmps78
  go_upto_region 1 with (fail)
  rw [← H0.out]
  have HS : Hid ((fun W : World => W.cell? ⟨w.heap.size, 0, none⟩ = some (.int .u32 (k : Int)) ∧ W.cell? ⟨w.heap.size, 4, none⟩ = some (.int .u32 (s : Int)) ∧ W.cell? ⟨w.heap.size, 8, none⟩ = some (.slice A n cp)) w0.drew) :=
    ⟨cell_of_row w0 _ 0 _ _ (0, 0) HG0.out, cell_of_row w0 _ 4 _ _ (0, 0) HG0.out, cell_of_row w0 _ 8 _ _ (0, 0) HG0.out⟩
  refine wp_region_held_drew (S := fun W => W.cell? ⟨w.heap.size, 0, none⟩ = some (.int .u32 (k : Int)) ∧ W.cell? ⟨w.heap.size, 4, none⟩ = some (.int .u32 (s : Int)) ∧ W.cell? ⟨w.heap.size, 8, none⟩ = some (.slice A n cp)) (by kernel_rfl) HS.out (fun _ => ?_)
  change wpAnyH _ _ _ _ _ 24 (Array.replicate 24 false) _ _
  refine takeH (i := 0) 3 (.pointer (some ⟨w.heap.size, 0, none⟩)) rfl rfl (by kernel_rfl) (by kernel_rfl) (by kernel_rfl) (fun _ _ _ h => h) (.inl ⟨by rfl, fun W hW => by go_simp⟩) HS.out ?_
  simp only [Act.put, List.setIfInBounds_toArray, List.set_cons_zero, List.set_cons_succ]
  refine takeH (i := 1) 4 (.int .u32 (k : Int)) rfl rfl (by kernel_rfl) (by kernel_rfl) (by kernel_rfl) (fun _ _ _ h => h) (.inl ⟨by rfl, fun W hW => by (obtain ⟨h0, h4, h8⟩ := hW; go_simp)⟩) HS.out ?_
  simp only [Act.put, List.setIfInBounds_toArray, List.set_cons_zero, List.set_cons_succ]
  refine takeH (i := 2) 5 (.bool false) rfl rfl (by kernel_rfl) (by kernel_rfl) (by kernel_rfl) (fun _ _ _ h => h) (.inl ⟨by rfl, fun W hW => by go_simp⟩) HS.out ?_
  simp only [Act.put, List.setIfInBounds_toArray, List.set_cons_zero, List.set_cons_succ]
  refine takeH (i := 3) 6 (.bool false) rfl rfl (by kernel_rfl) (by kernel_rfl) (by kernel_rfl) (fun _ _ _ h => h) (.inl ⟨by rfl, fun W hW => by go_simp⟩) HS.out ?_
  simp only [Act.put, List.setIfInBounds_toArray, List.set_cons_zero, List.set_cons_succ]
  refine takeH (i := 4) 7 (.pointer (some ⟨w.heap.size, 4, none⟩)) rfl rfl (by kernel_rfl) (by kernel_rfl) (by kernel_rfl) (fun _ _ _ h => h) (.inl ⟨by rfl, fun W hW => by go_simp⟩) HS.out ?_
  simp only [Act.put, List.setIfInBounds_toArray, List.set_cons_zero, List.set_cons_succ]
  refine takeH (i := 5) 8 (.int .u32 (s : Int)) rfl rfl (by kernel_rfl) (by kernel_rfl) (by kernel_rfl) (fun _ _ _ h => h) (.inl ⟨by rfl, fun W hW => by (obtain ⟨h0, h4, h8⟩ := hW; go_simp)⟩) HS.out ?_
  simp only [Act.put, List.setIfInBounds_toArray, List.set_cons_zero, List.set_cons_succ]
  refine takeH (i := 6) 9 (.bool false) rfl rfl (by kernel_rfl) (by kernel_rfl) (by kernel_rfl) (fun _ _ _ h => h) (.inl ⟨by rfl, fun W hW => by go_simp⟩) HS.out ?_
  simp only [Act.put, List.setIfInBounds_toArray, List.set_cons_zero, List.set_cons_succ]
  refine takeH (i := 7) 10 (.bool false) rfl rfl (by kernel_rfl) (by kernel_rfl) (by kernel_rfl) (fun _ _ _ h => h) (.inl ⟨by rfl, fun W hW => by go_simp⟩) HS.out ?_
  simp only [Act.put, List.setIfInBounds_toArray, List.set_cons_zero, List.set_cons_succ]
  refine takeH (i := 8) 11 (.bool false) rfl rfl (by kernel_rfl) (by kernel_rfl) (by kernel_rfl) (fun _ _ _ h => h) (.inl ⟨by rfl, fun W hW => by go_simp⟩) HS.out ?_
  simp only [Act.put, List.setIfInBounds_toArray, List.set_cons_zero, List.set_cons_succ]
  refine takeH (i := 9) 12 (.pointer (some ⟨w.heap.size, 8, none⟩)) rfl rfl (by kernel_rfl) (by kernel_rfl) (by kernel_rfl) (fun _ _ _ h => h) (.inl ⟨by rfl, fun W hW => by go_simp⟩) HS.out ?_
  simp only [Act.put, List.setIfInBounds_toArray, List.set_cons_zero, List.set_cons_succ]
  refine takeH (i := 10) 13 (.slice A n cp) rfl rfl (by kernel_rfl) (by kernel_rfl) (by kernel_rfl) (fun _ _ _ h => h) (.inl ⟨by rfl, fun W hW => by (obtain ⟨h0, h4, h8⟩ := hW; go_simp)⟩) HS.out ?_
  simp only [Act.put, List.setIfInBounds_toArray, List.set_cons_zero, List.set_cons_succ]
  refine takeH (i := 11) 14 (.int .i64 (n : Int)) rfl rfl (by kernel_rfl) (by kernel_rfl) (by kernel_rfl) (fun _ _ _ h => h) (.inl ⟨by rfl, fun W hW => by go_simp⟩) HS.out ?_
  simp only [Act.put, List.setIfInBounds_toArray, List.set_cons_zero, List.set_cons_succ]
  refine takeH (i := 12) 15 (.pointer (some ⟨w.heap.size, 4, none⟩)) rfl rfl (by kernel_rfl) (by kernel_rfl) (by kernel_rfl) (fun _ _ _ h => h) (.inl ⟨by rfl, fun W hW => by go_simp⟩) HS.out ?_
  simp only [Act.put, List.setIfInBounds_toArray, List.set_cons_zero, List.set_cons_succ]
  refine takeH (i := 13) 16 (.int .u32 (s : Int)) rfl rfl (by kernel_rfl) (by kernel_rfl) (by kernel_rfl) (fun _ _ _ h => h) (.inl ⟨by rfl, fun W hW => by (obtain ⟨h0, h4, h8⟩ := hW; go_simp)⟩) HS.out ?_
  simp only [Act.put, List.setIfInBounds_toArray, List.set_cons_zero, List.set_cons_succ]
  refine takeH (i := 14) 17 (.int .i64 (s : Int)) rfl rfl (by kernel_rfl) (by kernel_rfl) (by kernel_rfl) (fun _ _ _ h => h) (.inl ⟨by rfl, fun W hW => by go_simp⟩) HS.out ?_
  simp only [Act.put, List.setIfInBounds_toArray, List.set_cons_zero, List.set_cons_succ]
  refine wpAnyH_ready (rs := [15]) (by kernel_rfl) (by simp) ?_
  refine AllReadyH.cons rfl (fun K hK => ?_) AllReadyH.nil
  go_simp
  refine (need_any (s : Int) w0.drew (by omega) (by omega)).mono ?_
  rintro e w1 ⟨rfl, rfl⟩
  rw [needI_nat]
  refine hK.out _ _ HS.out fun _ => ?_
  clear hK K
  refine takeH (i := 16) 19 (.bool false) rfl rfl (by kernel_rfl) (by kernel_rfl) (by kernel_rfl) (fun _ _ _ h => h) (.inl ⟨by rfl, fun W hW => by go_simp⟩) HS.out ?_
  simp only [Act.put, List.setIfInBounds_toArray, List.set_cons_zero, List.set_cons_succ]
  refine takeH (i := 17) 20 (.bool false) rfl rfl (by kernel_rfl) (by kernel_rfl) (by kernel_rfl) (fun _ _ _ h => h) (.inl ⟨by rfl, fun W hW => by go_simp⟩) HS.out ?_
  simp only [Act.put, List.setIfInBounds_toArray, List.set_cons_zero, List.set_cons_succ]
  refine takeH (i := 18) 21 (.bool false) rfl rfl (by kernel_rfl) (by kernel_rfl) (by kernel_rfl) (fun _ _ _ h => h) (.inl ⟨by rfl, fun W hW => by go_simp⟩) HS.out ?_
  simp only [Act.put, List.setIfInBounds_toArray, List.set_cons_zero, List.set_cons_succ]
  refine takeH (i := 19) 22 (.pointer (some ⟨w.heap.size, 8, none⟩)) rfl rfl (by kernel_rfl) (by kernel_rfl) (by kernel_rfl) (fun _ _ _ h => h) (.inl ⟨by rfl, fun W hW => by go_simp⟩) HS.out ?_
  simp only [Act.put, List.setIfInBounds_toArray, List.set_cons_zero, List.set_cons_succ]
  refine takeH (i := 20) 23 (.slice A n cp) rfl rfl (by kernel_rfl) (by kernel_rfl) (by kernel_rfl) (fun _ _ _ h => h) (.inl ⟨by rfl, fun W hW => by (obtain ⟨h0, h4, h8⟩ := hW; go_simp)⟩) HS.out ?_
  simp only [Act.put, List.setIfInBounds_toArray, List.set_cons_zero, List.set_cons_succ]
  refine wpAnyH_ready (rs := [21]) (by kernel_rfl) (by simp) ?_
  refine AllReadyH.cons rfl (fun K hK => ?_) AllReadyH.nil
  go_simp
  refine (HD.out).mono ?_
  rintro e w1 ⟨rfl, hb1⟩
  have HB1 := Lib.hid hb1
  have HG1 : Hid (w1.heap[w.heap.size]? = some (.cells #[.int .u32 (k : Int), .int .u32 (g : Int), .int .u32 (li : Int), .int .u32 (m : Int), .int .u32 (s : Int), .int .u64 (c : Int), .int .u64 (o : Int), .int .u64 (v : Int), .slice A n cp] 85 (0, 0))) := (hb1.block _ (by have := HG0.out; rcases Nat.lt_or_ge w.heap.size w0.heap.size with h | h; exact h; rw [Array.getElem?_eq_none h] at this; cases this)).trans HG0.out
  have HS1 : Hid (w1.cell? ⟨w.heap.size, 0, none⟩ = some (.int .u32 (k : Int)) ∧ w1.cell? ⟨w.heap.size, 4, none⟩ = some (.int .u32 (s : Int)) ∧ w1.cell? ⟨w.heap.size, 8, none⟩ = some (.slice A n cp)) :=
    ⟨cell_of_row w1 _ 0 _ _ (0, 0) HG1.out, cell_of_row w1 _ 4 _ _ (0, 0) HG1.out, cell_of_row w1 _ 8 _ _ (0, 0) HG1.out⟩
  refine hK.out _ _ HS1.out fun _ => ?_
  clear hK K hb1
  refine takeH (i := 22) 25 (.bool (!dup)) rfl rfl (by kernel_rfl) (by kernel_rfl) (by kernel_rfl) (fun _ _ _ h => h) (.inl ⟨by rfl, fun W hW => by go_simp⟩) HS1.out ?_
  simp only [Act.put, List.setIfInBounds_toArray, List.set_cons_zero, List.set_cons_succ]
  refine takeH (i := 23) 26 (.bool (!dup)) rfl rfl (by kernel_rfl) (by kernel_rfl) (by kernel_rfl) (fun _ _ _ h => h) (.inl ⟨by rfl, fun W hW => by go_simp⟩) HS1.out ?_
  simp only [Act.put, List.setIfInBounds_toArray, List.set_cons_zero, List.set_cons_succ]
  refine wpAnyH_done (by kernel_rfl) ?_ _
  have HB2 : Hid (Below w.heap.size w w1) := HB0.out.drew.trans (HB1.out.mono HB0.out.size)
  cases dup
  · go_wp2
    go_ret
    rw [HCN.out (by simp)]
    exact ⟨rfl, HB2.out⟩
  have HZ := Lib.hid (HCY.out (by simp))
  clear HCN HCY HS HS1 HD HX0 HX H0 HG0
  obtain ⟨c0, c1, c2, c3, c4, c5, c6, c7, c8⟩ := I_cells HG1.out
  by_cases hk : k = 0
  · have e0 : ((k : Int) == 0) = true := by rw [hk]; rfl
    have e0' : ((k : Int) != 0) = false := by rw [hk]; rfl
    have HU : Hid (useB k li m s o v n = unB k li m s o v n) := if_pos hk
    clear hk
    rw [HU.out] at HZ
    have HCU := fun W => Lib.hid (unusedI_any k g li m s c o v A n cp W HW.out.k HW.out.l HW.out.m HW.out.s HW.out.o HW.out.v)
    generalize unB k li m s o v n = u at *
    clear HW d1 d2 d3 ws
    go_wp2_with fail
    refine ((HCU _).out).mono ?_
    rintro e w2 ⟨rfl, hb2⟩
    have HB3 : Hid (Below w.heap.size w w2) := HB2.out.trans (hb2.mono HB2.out.size)
    have c0' : w2.cell? ⟨w.heap.size, 0, none⟩ = some (.int .u32 (k : Int)) := (hb2.cell (p := ⟨w.heap.size, 0, none⟩) (World.block_lt_of_cell? _ _ c0)).trans c0
    clear hb2
    cases u
    · go_wp2
      go_ret
      rw [HZ.out]
      exact ⟨rfl, HB3.out⟩
    · go_wp2
      go_ret
      rw [HZ.out]
      exact ⟨rfl, HB3.out⟩
  · have e0 : ((k : Int) == 0) = false := by simpa using hk
    have e0' : ((k : Int) != 0) = true := by simpa using hk
    have HU : Hid (useB k li m s o v n = decide (li ≠ 0)) := if_neg hk
    rw [HU.out] at HZ
    by_cases hl : li = 0
    · have e2 : ((li : Int) == 0) = true := by rw [hl]; rfl
      have HZ2 : Hid (z = 1) := by show _ = _; rw [HZ.out, hl]; rfl
      clear hl
      go_wp2
      go_ret
      rw [HZ2.out]
      exact ⟨rfl, HB2.out⟩
    · have e2 : ((li : Int) == 0) = false := by simpa using hl
      have HZ2 : Hid (z = 0) := by show _ = _; rw [HZ.out, decide_eq_true hl]; rfl
      clear hl
      go_wp2
      go_ret
      rw [HZ2.out]
      exact ⟨rfl, HB2.out⟩
end Go.Proofs.YtnhokkdieijkhaaGreatDoor

namespace Go.Proofs.YtnhokkdieijkhaaGreatDoor
open Go.RowKit

/-- What Put hands back. -/
def PutPI (x : Nd) (w : World) (e : Ending) (w' : World) : Prop := ∃ A n cp, e = .returned (.tuple #[.slice A n cp, .int .i64 x.chk]) ∧ BS w' A n x.put ∧ Below w.heap.size w w'
theorem ns_block {w : World} {g : Nat} {k : IntKind} {t : TypeId} (xs : List Nat) (h : w.heap[g]? = some (.cells (xs.map fun x : Nat => Value.int k (x : Int)).toArray t (0, 0))) : NS k w (some ⟨g, 0, none⟩) xs.length xs :=
  ⟨rfl, fun _ => ⟨g, 0, rfl, fun j hj => by
    rw [Nat.zero_add, cell_of_row w g j _ _ _ h]
    simp [hj]⟩⟩
theorem NS.keep {T : IntKind} {w w' : World} {A : Option Addr} {n : Nat} {xs : List Nat} (h : NS T w A n xs) (hb : ∀ p : Addr, p.block < w.heap.size → w'.cell? p = w.cell? p) : NS T w' A n xs :=
  ⟨h.1, fun hn => by
    obtain ⟨b, o, e, hc⟩ := h.2 hn
    exact ⟨b, o, e, fun j hj => (hb ⟨b, o + j, none⟩ (World.block_lt_of_cell? w _ (hc j hj))).trans (hc j hj)⟩⟩
theorem NS.lt_block {T : IntKind} {w : World} {A : Option Addr} {n : Nat} {xs : List Nat} (h : NS T w A n xs) (hn : 0 < n) (ad : Addr) (ha : A = some ad) : ad.block < w.heap.size := by
  obtain ⟨b, o, e, hc⟩ := h.2 hn
  rw [ha] at e
  injection e with e
  subst e
  exact World.block_lt_of_cell? w _ (hc 0 (by rw [h.1]; exact hn))

/-- While Put writes: the Writer, the boxed inode, and what came in. -/
structure PW (w : World) (p : Nat) (L : List UInt8) (cs : Array Value) (A : Option Addr) (n : Nat) (xs : List Nat) (W : World) : Prop where
  wr : Wr (· < w.heap.size + 1) W p L
  box : W.heap[w.heap.size]? = some (.cells cs 85 (0, 0))
  bel : Below w.heap.size w W
  ns : NS .u32 W A n xs
section
variable {w W W' : World} {p n : Nat} {L L' : List UInt8} {cs : Array Value} {A : Option Addr} {xs : List Nat}
theorem PW.size (h : PW w p L cs A n xs W) : w.heap.size + 1 ≤ W.heap.size := by
  have := h.box
  rcases Nat.lt_or_ge w.heap.size W.heap.size with h | h
  · omega
  · rw [Array.getElem?_eq_none h] at this; cases this
/-- Behind a call that wrote: K held at least what came in and the box. -/
theorem PW.step (h : PW w p L cs A n xs W) (h0 : NS .u32 w A n xs) (hb : Below (w.heap.size + 1) W W') (hw : Wr (· < w.heap.size + 1) W' p L') : PW w p L' cs A n xs W' :=
  ⟨hw, (hb.block _ (by omega)).trans h.box, h.bel.trans (hb.mono (Nat.le_succ _)), h0.below (h.bel.trans (hb.mono (Nat.le_succ _)))⟩
end
set_option maxRecDepth 100000 in
set_option maxHeartbeats 2000000 in
theorem putI_any (k g li m s c o v : Nat) (A : Option Addr) (n cp : Nat) (xs : List Nat) (w : World) (hw : (Nd.mk k g li m s c o v xs).Wide) (hx : NS .u32 w A n xs) (hn : n ≤ 1000000) :
    Calls Tryz.prog 94 #[(.agg #[.int .u32 (k : Int), .int .u32 (g : Int), .int .u32 (li : Int), .int .u32 (m : Int), .int .u32 (s : Int), .int .u64 (c : Int), .int .u64 (o : Int), .int .u64 (v : Int), .slice A n cp])] w (PutPI (Nd.mk k g li m s c o v xs) w) := by
  have HW := Lib.hid hw
  have HX := Lib.hid hx
  have Hn := Lib.hid hx.1
  clear hw hx
  have HA : Hid (Below w.heap.size w (w.alloc (.cells #[.int .u32 (k : Int), .int .u32 (g : Int), .int .u32 (li : Int), .int .u32 (m : Int), .int .u32 (s : Int), .int .u64 (c : Int), .int .u64 (o : Int), .int .u64 (v : Int), .slice A n cp] 85))) := (Below.refl _ _).alloc (Nat.le_refl _) _
  have HX0 : Hid (NS .u32 (w.alloc (.cells #[.int .u32 (k : Int), .int .u32 (g : Int), .int .u32 (li : Int), .int .u32 (m : Int), .int .u32 (s : Int), .int .u64 (c : Int), .int .u64 (o : Int), .int .u64 (v : Int), .slice A n cp] 85)) A n xs) := HX.out.below HA.out
  have HC := Lib.hid (check_any k g li m s c o v A n cp xs _ HW.out HX0.out hn)
  have HCB := fun W => Lib.hid (blank_any k g li m s c o v A n cp W HW.out.k HW.out.l HW.out.m HW.out.s HW.out.o HW.out.v)
  go_enter Tryz.func94, Tryz.ntmps94
  go_wp2_with fail
  refine (HC.out).mono ?_
  rintro e w1 ⟨rfl, hb1⟩
  have HB1 : Hid (Below w.heap.size w w1) := HA.out.trans (hb1.mono (by simp))
  have HG1 : Hid (w1.heap[w.heap.size]? = some (.cells #[.int .u32 (k : Int), .int .u32 (g : Int), .int .u32 (li : Int), .int .u32 (m : Int), .int .u32 (s : Int), .int .u64 (c : Int), .int .u64 (o : Int), .int .u64 (v : Int), .slice A n cp] 85 (0, 0))) := (hb1.block _ (by simp)).trans (heap_alloc_new w _)
  clear hb1 HC HX0 HA
  by_cases hok : (Nd.mk k g li m s c o v xs).okB = true
  rotate_left
  · have hz : (Nd.mk k g li m s c o v xs).chk = 1 := if_neg hok
    have HP : Hid ((Nd.mk k g li m s c o v xs).put = []) := if_neg (fun h => hok h.1)
    have HZ := Lib.hid hz
    rw [hz]
    clear hz hok
    go_wp2
    go_ret2
    unfold PutPI
    rw [HZ.out]
    refine ⟨none, 0, 0, rfl, ?_, HB1.out⟩
    rw [HP.out]
    exact BS.nil
  have hz : (Nd.mk k g li m s c o v xs).chk = 0 := if_pos hok
  have Hok := Lib.hid hok
  have HZ := Lib.hid hz
  rw [hz]
  clear hz hok
  obtain ⟨c0, c1, c2, c3, c4, c5, c6, c7, c8⟩ := I_cells HG1.out
  have HBL : Hid (blB k g li m s c o v n = (Nd.mk k g li m s c o v xs).blank) := by
    show _ = _
    rw [← Hn.out]
    rfl
  go_wp2_with fail
  refine ((HCB _).out).mono ?_
  rintro e w2 ⟨rfl, hb2⟩
  rw [HBL.out]
  clear HCB HBL c0 c1 c2 c3 c4 c5 c6 c7 c8
  have HB2 : Hid (Below w.heap.size w w2) := HB1.out.trans (hb2.mono HB1.out.size)
  have HG2 : Hid (w2.heap[w.heap.size]? = some (.cells #[.int .u32 (k : Int), .int .u32 (g : Int), .int .u32 (li : Int), .int .u32 (m : Int), .int .u32 (s : Int), .int .u64 (c : Int), .int .u64 (o : Int), .int .u64 (v : Int), .slice A n cp] 85 (0, 0))) := (hb2.block _ (by have := HG1.out; rcases Nat.lt_or_ge w.heap.size w1.heap.size with h | h; exact h; rw [Array.getElem?_eq_none h] at this; cases this)).trans HG1.out
  clear hb2 HG1 HB1
  by_cases hbl : (Nd.mk k g li m s c o v xs).blank = true
  · have HP : Hid ((Nd.mk k g li m s c o v xs).put = []) := if_neg (fun h => by rw [hbl] at h; cases h.2)
    rw [hbl]
    clear hbl
    go_wp2
    go_ret2
    unfold PutPI
    rw [HZ.out]
    refine ⟨none, 0, 0, rfl, ?_, HB2.out⟩
    rw [HP.out]
    exact BS.nil
  have hbl : (Nd.mk k g li m s c o v xs).blank = false := by simpa using hbl
  have HP : Hid ((Nd.mk k g li m s c o v xs).put = (Nd.mk k g li m s c o v xs).code) := if_pos ⟨Hok.out, hbl⟩
  rw [hbl]
  clear hbl
  have HN8 := Lib.hid (Nd.okB_len _ Hok.out)
  have hn8 : n ≤ 8 := by have h1 := HN8.out; have h2 := Hn.out; simp only at h1; omega
  have hgs : w.heap.size + 1 ≤ w2.heap.size := by
    have := HG2.out
    rcases Nat.lt_or_ge w.heap.size w2.heap.size with h | h
    · omega
    · rw [Array.getElem?_eq_none h] at this; cases this
  clear HN8 Hok
  go_wp2_with fail
  refine (newWriter_op w2).mono ?_
  rintro e w3 ⟨p, rfl, hwr, hb3⟩
  have H3 : Hid (PW w p [] #[.int .u32 (k : Int), .int .u32 (g : Int), .int .u32 (li : Int), .int .u32 (m : Int), .int .u32 (s : Int), .int .u64 (c : Int), .int .u64 (o : Int), .int .u64 (v : Int), .slice A n cp] A n xs w3) := ⟨hwr.less (fun k hk => Nat.lt_of_lt_of_le hk hgs), (hb3.block _ (by omega)).trans HG2.out, HB2.out.trans (hb3.mono (by omega)), HX.out.below (HB2.out.trans (hb3.mono (by omega)))⟩
  clear hwr hb3 HG2 HB2 hgs
  obtain ⟨c0, c1, c2, c3, c4, c5, c6, c7, c8⟩ := I_cells H3.out.box
  go_wp2_with fail
  refine (writeAll32 (fun j => j < w.heap.size + 1 ∨ j = w3.heap.size) _ p [] (some ⟨w3.heap.size, 0, none⟩) 5 5 [k, g, li, m, s] (H3.out.wr.add _) (ns_block [k, g, li, m, s] (heap_alloc_new w3 _)) (fun _ ad h => by injection h with h; subst h; exact .inr rfl) (by simp) (by omega)).mono ?_
  rintro e w4 ⟨rfl, hwr, hkp⟩
  have H4 := Lib.hid (H3.out.step HX.out (W' := w4) (((Below.refl _ _).alloc H3.out.size _).trans (hkp.below2 (fun k hk => .inl hk))) (hwr.less (fun k hk => .inl hk)))
  clear hwr hkp H3 c0 c1 c2 c3 c4 c5 c6 c7 c8
  obtain ⟨c0, c1, c2, c3, c4, c5, c6, c7, c8⟩ := I_cells H4.out.box
  go_wp2_with fail
  refine (writeAll64 (fun j => j < w.heap.size + 1 ∨ j = w4.heap.size) _ p _ (some ⟨w4.heap.size, 0, none⟩) 3 3 [c, o, v] (H4.out.wr.add _) (ns_block [c, o, v] (heap_alloc_new w4 _)) (fun _ ad h => by injection h with h; subst h; exact .inr rfl) (by simp [enc_length]) (by omega)).mono ?_
  rintro e w5 ⟨rfl, hwr, hkp⟩
  have H5 := Lib.hid (H4.out.step HX.out (W' := w5) (((Below.refl _ _).alloc H4.out.size _).trans (hkp.below2 (fun k hk => .inl hk))) (hwr.less (fun k hk => .inl hk)))
  clear hwr hkp H4 c0 c1 c2 c3 c4 c5 c6 c7 c8
  obtain ⟨c0, c1, c2, c3, c4, c5, c6, c7, c8⟩ := I_cells H5.out.box
  have wn : IntKind.u32.wrap (n : Int) = (n : Int) := by rw [IntKind.wrap_u32]; omega
  go_wp2_with fail
  refine (writeAll32 (fun j => j < w.heap.size + 1 ∨ j = w5.heap.size) _ p _ (some ⟨w5.heap.size, 0, none⟩) 1 1 [n] (H5.out.wr.add _) (ns_block [n] (heap_alloc_new w5 _)) (fun _ ad h => by injection h with h; subst h; exact .inr rfl) (by simp [enc_length]) (by omega)).mono ?_
  rintro e w6 ⟨rfl, hwr, hkp⟩
  have H6 := Lib.hid (H5.out.step HX.out (W' := w6) (((Below.refl _ _).alloc H5.out.size _).trans (hkp.below2 (fun k hk => .inl hk))) (hwr.less (fun k hk => .inl hk)))
  clear hwr hkp H5 c0 c1 c2 c3 c4 c5 c6 c7 c8
  obtain ⟨c0, c1, c2, c3, c4, c5, c6, c7, c8⟩ := I_cells H6.out.box
  go_wp2_with fail
  refine (writeAll32 (· < w.heap.size + 1) _ p _ A n cp xs H6.out.wr H6.out.ns (fun h ad e => Nat.lt_succ_of_lt (HX.out.lt_block h ad e)) (by simp [enc_length]) (by omega)).mono ?_
  rintro e w7 ⟨rfl, hwr, hkp⟩
  have H7 := Lib.hid (H6.out.step HX.out (W' := w7) (hkp.below2 (fun k hk => hk)) hwr)
  clear hwr hkp H6 c0 c1 c2 c3 c4 c5 c6 c7 c8
  have HL : Hid ([] ++ enc 4 [k, g, li, m, s] ++ enc 8 [c, o, v] ++ enc 4 [n] ++ enc 4 xs = (Nd.mk k g li m s c o v xs).code) := by
    show _ = _
    rw [← Hn.out]
    simp [Nd.code, Nd.enc1, Nd.enc2, enc]
  rw [HL.out] at H7
  have HLen : Hid ((Nd.mk k g li m s c o v xs).code.length ≤ 300000000) := by
    show _ ≤ _
    rw [Nd.code_length]
    have := Hn.out
    simp only
    omega
  go_wp2_with fail
  refine (out_any _ w7 p _ H7.out.wr HLen.out).mono ?_
  rintro e w8 ⟨A8, c8, rfl, hown⟩
  have HO := Lib.hid hown
  clear hown
  go_wp2
  go_ret2
  unfold PutPI
  rw [HZ.out]
  refine ⟨A8, _, c8, rfl, ?_, H7.out.bel.trans (HO.out.2.mono H7.out.bel.size)⟩
  rw [HP.out]
  exact HO.out.bs
end Go.Proofs.YtnhokkdieijkhaaGreatDoor

namespace Go.Proofs.YtnhokkdieijkhaaGreatDoor
open Go.RowKit

theorem info_u32 : (Tryz.prog.info? 28).map (fun i => (i.zero, i.size, i.bytes)) = some (some (.int .u32 0), 1, 4) := by kernel_rfl
/-- The cells of an inode. -/
def zI : List Value := [.int .u32 0, .int .u32 0, .int .u32 0, .int .u32 0, .int .u32 0, .int .u64 0, .int .u64 0, .int .u64 0, .slice none 0 0]
theorem zero_I : (Tryz.prog.info? 85).bind (·.zero) = some (.agg #[.int .u32 0, .int .u32 0, .int .u32 0, .int .u32 0, .int .u32 0, .int .u64 0, .int .u64 0, .int .u64 0, .slice none 0 0]) := by kernel_rfl
theorem built_I : Tryz.prog.built 85 [] = some #[.int .u32 0, .int .u32 0, .int .u32 0, .int .u32 0, .int .u32 0, .int .u64 0, .int .u64 0, .int .u64 0, .slice none 0 0] := by kernel_rfl
theorem results_I {t : TypeId} {fs : Array Field} {cs : Array Value} {fn : Func} {p q : Tmp} (h : fn.results = #[.cell p t, .tmp q]) (tmps : Array Value) (w : World) (g : Nat) (v : Value) (hg : w.heap[g]? = some (.cells cs t (0, 0))) (hi : (Tryz.prog.info? t).map (·.size) = some cs.size)
    (hp : tmps.getD p undef = .pointer (some ⟨g, 0, none⟩)) (hq : tmps.getD q undef = v) (hu : Tryz.prog.underlying t = some (.struct fs)) : (results fn tmps).run Tryz.prog w = .ok (.tuple #[.agg cs, v]) w := by
  have hp' : tmps[p]?.getD undef = .pointer (some ⟨g, 0, none⟩) := by simpa using hp
  have hq' : tmps[q]?.getD undef = v := by simpa using hq
  have hl := run_loadVar_row (P := Tryz.prog) w g t t cs (0, 0) _ hg hu rfl hi
  simp [results, h, hp', hq', asAddr, hl]
/-- What Get hands back. -/
def GetQ (x : Nd) (z : Int) (w : World) (e : Ending) (w' : World) : Prop :=
  ∃ B c, e = .returned (.tuple #[(.agg #[.int .u32 (x.kind : Int), .int .u32 (x.gen : Int), .int .u32 (x.links : Int), .int .u32 (x.mode : Int), .int .u32 (x.size : Int), .int .u64 (x.change : Int), .int .u64 (x.cookie : Int), .int .u64 (x.verf : Int), .slice B x.bl.length c]), .int .i64 z]) ∧ NS .u32 w' B x.bl.length x.bl ∧ Below w.heap.size w w'
def GetP (l : List UInt8) (w : World) (e : Ending) (w' : World) : Prop := GetQ (Nd.got l) (Nd.err l) w e w'
theorem NS.nil {k : IntKind} {w : World} : NS k w none 0 [] := ⟨rfl, fun h => absurd h (by omega)⟩
theorem GetP.no {l : List UInt8} {w w' : World} {z : Int} (hz : Nd.err l = z) (h0 : z ≠ 0 ∨ l = []) (hb : Below w.heap.size w w') : GetP l w (.returned (.tuple #[(.agg #[.int .u32 0, .int .u32 0, .int .u32 0, .int .u32 0, .int .u32 0, .int .u64 0, .int .u64 0, .int .u64 0, .slice none 0 0]), .int .i64 z])) w' := by
  have hg : Nd.got l = Nd.zero := by
    unfold Nd.got
    rw [if_neg]
    rintro ⟨h1, h2⟩
    rcases h0 with h0 | h0
    · exact h0 (hz.symm.trans h2)
    · exact h1 h0
  unfold GetP
  rw [hg, hz]
  exact ⟨none, 0, rfl, NS.nil, hb⟩
/-- While Get goes: its result lies in block r, the inode that is read in block g. -/
structure GI (w : World) (r g : Nat) (cs : List Value) (W : World) : Prop where
  res : Cs W r zI 85
  nod : Cs W g cs 85
  bel : Below w.heap.size w W
  lr : w.heap.size ≤ r
  lg : w.heap.size ≤ g
  ne : r ≠ g
section
variable {w W W' : World} {r g q : Nat} {cs cs' : List Value}
theorem GI.step (h : GI w r g cs W) (hb : Below W.heap.size W W') : GI w r g cs W' := ⟨h.res.below hb, h.nod.below hb, h.bel.trans (hb.mono h.bel.size), h.lr, h.lg, h.ne⟩
theorem GI.but (h : GI w r g cs W) (hb : But q g W W') (hq : w.heap.size ≤ q) (hqr : q ≠ r) (hn : Cs W' g cs' 85) : GI w r g cs' W' :=
  ⟨(hb.block r h.res.lt (fun e => hqr e.symm) h.ne).trans h.res, hn, h.bel.trans (hb.toBelow h.bel.size hq h.lg), h.lr, h.lg, h.ne⟩
theorem GI.one (h : GI w r g cs W) (hb : W.grownBy W' (some q)) (hq : w.heap.size ≤ q) (hqr : q ≠ r) (hqg : q ≠ g) : GI w r g cs W' :=
  h.but (But.one hb) hq hqr (h.nod.grown hb (fun e => hqg (by injection e)))
end
/-- The cells behind both runs of fields. -/
theorem cells_I (a b : List Nat) (ha : a.length = 5) (hb : b.length = 3) : updI (updI zI 0 (c32 a)) 5 (c64 b) =
    [.int .u32 (a.getD 0 0 : Int), .int .u32 (a.getD 1 0 : Int), .int .u32 (a.getD 2 0 : Int), .int .u32 (a.getD 3 0 : Int), .int .u32 (a.getD 4 0 : Int), .int .u64 (b.getD 0 0 : Int), .int .u64 (b.getD 1 0 : Int), .int .u64 (b.getD 2 0 : Int), .slice none 0 0] := by
  match a, ha with
  | [_, _, _, _, _], _ =>
    match b, hb with
    | [_, _, _], _ => rfl
theorem NS.of_own {w : World} {base : Nat} {A : Option Addr} {n c : Nat} {xs : List Nat} (h : w.ownsRow base 28 1 (.slice A n c) n (c32 xs)) : NS .u32 w A n xs := by
  have hl : xs.length = n := by have := h.1; unfold c32 at this; rw [List.length_map] at this; omega
  refine ⟨hl, fun hn => ?_⟩
  obtain ⟨g, cap, hv, _, hlt⟩ := h.form hn
  injection hv with hA _ _
  subst hA
  refine ⟨g, 0, rfl, fun j hj => ?_⟩
  have := h.cells (g := g) rfl j (.int .u32 (xs[j] : Int)) (by unfold c32; simp [hj])
  rwa [add_plain] at this
/-- A row of numbers is no block of another kind. -/
theorem own_ne {w : World} {base : Nat} {A : Option Addr} {n c : Nat} {xs : List Value} (h : w.ownsRow base 28 1 (.slice A n c) n xs) {g : Nat} {cs : Array Value} {t : TypeId} {fr : Nat × Nat} (hg : w.heap[g]? = some (.cells cs t fr)) (ht : t ≠ 28) :
    (Value.slice A n c).ownBlock ≠ some g := by
  intro he
  rcases h.2 with ⟨h1, _⟩ | ⟨g', cap', cur', h1, _, h2, _⟩
  · rw [h1] at he; cases he
  · rw [h1] at he
    have : g' = g := by simpa [Value.ownBlock] using he
    subst this
    rw [hg] at h2
    injection h2 with h2
    injection h2 with _ h2 _
    exact ht h2
/-- A change of one row of numbers, and of new blocks. -/
theorem Rd.row {w w' : World} {q : Nat} {l : List UInt8} {e : Int} (h : Rd w q l e) {base : Nat} {A : Option Addr} {n c : Nat} {xs : List Value} (ho : w.ownsRow base 28 1 (.slice A n c) n xs) (hg : w.grownBy w' (Value.slice A n c).ownBlock) : Rd w' q l e := by
  rcases ho.2 with ⟨h1, _⟩ | ⟨g', cap', cur', h1, _, h2, _⟩
  · rw [h1] at hg
    exact h.kept ⟨hg.os, hg.tape, hg.output, hg.size, fun k hk => hg.block k hk (by simp [Value.ownBlock])⟩
  · have hq : q ≠ g' := by
      rintro rfl
      obtain ⟨cs, h3⟩ := h.blk
      rw [h3] at h2
      injection h2 with h2
      injection h2 with _ h2 _
      exact absurd h2 (by decide)
    refine h.off h2 (by decide) hq (fun k hk hne => hg.block k hk ?_)
    rw [h1]
    simp [Value.ownBlock]
    exact hne

theorem GI.start {w w1 w2 : World} (h1 : w1.heap[w.heap.size]? = some (.cells (Value.agg #[.int .u32 0, .int .u32 0, .int .u32 0, .int .u32 0, .int .u32 0, .int .u64 0, .int .u64 0, .int .u64 0, .slice none 0 0]).cells 85 (0, 0))) (s1 : w1.heap.size = w.heap.size + 1) (b1 : Below w.heap.size w w1)
    (h2 : w2.heap[w1.heap.size]? = some (.cells (Value.agg #[.int .u32 0, .int .u32 0, .int .u32 0, .int .u32 0, .int .u32 0, .int .u64 0, .int .u64 0, .int .u64 0, .slice none 0 0]).cells 85 (0, 0))) (b2 : Below w1.heap.size w1 w2) : GI w w.heap.size w1.heap.size zI w2 :=
  ⟨(b2.block _ (by omega)).trans h1, h2, b1.trans (b2.mono (by omega)), Nat.le_refl _, by omega, by omega⟩

set_option maxRecDepth 100000 in
set_option maxHeartbeats 1000000 in
theorem getI_nil (A : Option Addr) (cp : Nat) (w : World) : Calls Tryz.prog 55 #[.slice A 0 cp] w (GetP [] w) := by
  go_enter Tryz.func55, Tryz.ntmps55
  go_upto_region 1 with (refine wpList_alloc_any rfl 85 rfl _ zero_I ?_; intro w1 hb1 hs1 hw1)
  go_upto_region 2 with (refine wpList_alloc_any rfl 85 rfl _ zero_I ?_; intro w2 hb2 hs2 hw2)
  have HG := Lib.hid (GI.start hb1 hs1 hw1 hb2 hw2)
  have hgs := Lib.hid hs1
  clear hb1 hs1 hw1 hb2 hs2 hw2
  go_wp2_with (first
    | (refine wpList_load_row rfl 85 (.tmp 4) rfl _ rfl 85 #[.int .u32 0, .int .u32 0, .int .u32 0, .int .u32 0, .int .u32 0, .int .u64 0, .int .u64 0, .int .u64 0, .slice none 0 0] (0, 0) _ HG.out.nod Tryz.underlying85 rfl size_I ?_)
    | (refine wpList_store_any rfl 85 (.tmp 2) (.tmp 11) rfl w.heap.size #[.int .u32 0, .int .u32 0, .int .u32 0, .int .u32 0, .int .u32 0, .int .u64 0, .int .u64 0, .int .u64 0, .slice none 0 0] rfl rfl 85 _ HG.out.res size_I rfl (by simp [Value.oneCell']) ?_
       intro w3 hb3 hs3 hw3
       have HB3 := Lib.hid hb3
       have HW3 : Hid (Below w.heap.size w w3) := HG.out.bel.trans (Keep.below (hw3.mono fun k hk => by omega))
       clear hb3 hs3 hw3))
  exact bodyPost_ret (results_I rfl _ w3 w.heap.size _ HB3.out size_I (by rfl) (by rfl) Tryz.underlying85) rfl (GetP.no (by rfl) (.inr rfl) HW3.out)

/-- The cells of an inode whose blocks are this slice. -/
def nI (x : Nd) (v : Value) : List Value := [.int .u32 (x.kind : Int), .int .u32 (x.gen : Int), .int .u32 (x.links : Int), .int .u32 (x.mode : Int), .int .u32 (x.size : Int), .int .u64 (x.change : Int), .int .u64 (x.cookie : Int), .int .u64 (x.verf : Int), v]
/-- While the blocks are read. -/
structure GL (w : World) (r g q : Nat) (x : Nd) (l : List UInt8) (k : Nat) (A : Option Addr) (c : Nat) (W : World) : Prop where
  gi : GI w r g (nI x (.slice A k c)) W
  rd : Rd W q (Nd.rds 4 k (Nd.pc l).1).1.1 (Nd.rds 4 k (Nd.pc l).1).1.2
  own : W.ownsRow w.heap.size 28 1 (.slice A k c) k (c32 (Nd.rds 4 k (Nd.pc l).1).2)
section
variable {w W W' W1 : World} {r g q : Nat} {x : Nd} {l : List UInt8} {k : Nat} {A A' : Option Addr} {c c' : Nat}
theorem GL.c8 (h : GL w r g q x l k A c W) : W.cell? ⟨g, 8, none⟩ = some (.slice A k c) := h.gi.nod.cell 8 _ rfl
theorem GL.f8 (h : GL w r g q x l k A c W) : W.frozen? ⟨g, 8, none⟩ = false := h.gi.nod.froz 8
end
theorem Rd.ne_I {w : World} {q g : Nat} {l : List UInt8} {e : Int} {cs : List Value} (h : Rd w q l e) (hg : Cs w g cs 85) : q ≠ g := by
  rintro rfl
  obtain ⟨cs', h3⟩ := h.blk
  unfold Cs at hg
  rw [h3] at hg
  injection hg with hg
  injection hg with _ hg _
  exact absurd hg (by decide)
theorem own_grown {w w' : World} {base n : Nat} {v : Value} {xs : List Value} {row : Option Nat} (h : w.ownsRow base 28 1 v n xs) (hg : w.grownBy w' row) (hr : ∀ g, v.ownBlock = some g → row ≠ some g) : w'.ownsRow base 28 1 v n xs := by
  refine ⟨h.1, ?_⟩
  rcases h.2 with h1 | ⟨g, cap, cur, h1, hb, h2, h3⟩
  · exact .inl h1
  · have hlt : g < w.heap.size := by
      rcases Nat.lt_or_ge g w.heap.size with hlt | hge
      · exact hlt
      · rw [Array.getElem?_eq_none hge] at h2; cases h2
    exact .inr ⟨g, cap, cur, h1, hb, (hg.block g hlt (fun e => hr g (by rw [h1]; rfl) e.symm)).trans h2, h3⟩
/-- One more block was read and appended. -/
theorem GL.next {w wr w1 w2 : World} {r g q : Nat} {x : Nd} {l : List UInt8} {k : Nat} {A : Option Addr} {c gg cap v : Nat} {o : Obj} (h : GL w r g q x l k A c wr) (hq : w.heap.size ≤ q)
    (hg1 : wr.grownBy w1 (some q)) (hr1 : Rd w1 q (rdN 4 (Nd.rds 4 k (Nd.pc l).1).1).1.1 (rdN 4 (Nd.rds 4 k (Nd.pc l).1).1).1.2)
    (hv : (rdN 4 (Nd.rds 4 k (Nd.pc l).1).1).2 = v)
    (ho : w2.ownsRow w.heap.size 28 1 (.slice (some ⟨gg, 0, none⟩) (k + 1) cap) (k + 1) (c32 (Nd.rds 4 k (Nd.pc l).1).2 ++ [.int .u32 (v : Int)]))
    (hg2 : (w1.alloc o).grownBy w2 (Value.slice A k c).ownBlock) :
    GL w r g q x l (k + 1) (some ⟨gg, 0, none⟩) cap (w2.setCell ⟨g, 8, none⟩ (.slice (some ⟨gg, 0, none⟩) (k + 1) cap)) := by
  have hqg : q ≠ g := h.rd.ne_I h.gi.nod
  have hqr : q ≠ r := h.rd.ne_I h.gi.res
  have i1 : GI w r g (nI x (.slice A k c)) w1 := h.gi.one hg1 hq hqr hqg
  have o1 : w1.ownsRow w.heap.size 28 1 (.slice A k c) k (c32 (Nd.rds 4 k (Nd.pc l).1).2) := own_grown h.own hg1 (fun gq hgq e => by
    injection e with e
    subst e
    obtain ⟨cs, hb⟩ := h.rd.blk
    exact own_ne h.own hb (by decide) hgq)
  have oA := o1.alloc o
  have iA := i1.step ((Below.refl _ _).alloc (Nat.le_refl _) o)
  have rA := hr1.kept ((Below.refl _ _).alloc (Nat.le_refl _) o)
  have r2 := rA.row oA hg2
  have nr : (Value.slice A k c).ownBlock ≠ some r := own_ne oA iA.res (by decide)
  have ng : (Value.slice A k c).ownBlock ≠ some g := own_ne oA iA.nod (by decide)
  have lo : ∀ j, (Value.slice A k c).ownBlock = some j → w.heap.size ≤ j := fun j hj => (oA.lt j hj).1
  have res2 : Cs w2 r zI 85 := iA.res.grown hg2 nr
  have nod2 : Cs w2 g (nI x (.slice A k c)) 85 := iA.nod.grown hg2 ng
  have bel2 : Below w.heap.size w w2 := iA.bel.trans ⟨hg2.os, hg2.tape, hg2.output, hg2.size, fun j hj => hg2.block j (Nat.lt_of_lt_of_le hj iA.bel.size) (fun e => by have := lo j e.symm; omega)⟩
  have hset : ∀ j, j ≠ g → (w2.setCell ⟨g, 8, none⟩ (.slice (some ⟨gg, 0, none⟩) (k + 1) cap)).heap[j]? = w2.heap[j]? := fun j hj => Below.heap_setCell w2 ⟨g, 8, none⟩ _ j hj
  have hgg : gg ≠ g := by
    rintro rfl
    exact own_ne ho nod2 (by decide) rfl
  refine ⟨⟨(hset r h.gi.ne).trans res2, nod2.set 8 _, ⟨bel2.os, bel2.tape, bel2.output, by simpa [World.setCell] using bel2.size, fun j hj => (hset j (by have := h.gi.lg; omega)).trans (bel2.block j hj)⟩, h.gi.lr, h.gi.lg, h.gi.ne⟩, ?_, ?_⟩
  · exact r2.off nod2 (by decide) hqg (fun j _ hj => hset j hj)
  · have e1 : c32 (Nd.rds 4 (k + 1) (Nd.pc l).1).2 = c32 (Nd.rds 4 k (Nd.pc l).1).2 ++ [.int .u32 (v : Int)] := by
      show c32 ((Nd.rds 4 k (Nd.pc l).1).2 ++ [(rdN 4 (Nd.rds 4 k (Nd.pc l).1).1).2]) = _
      rw [hv]
      unfold c32
      simp
    rw [e1]
    refine own_grown ho ⟨rfl, rfl, rfl, by simp [World.setCell], fun j _ hj => hset j (fun e => hj (by rw [e]))⟩ (row := some g) (fun j hj e => ?_)
    injection e with e
    subst e
    exact hgg (by simpa [Value.ownBlock] using hj)

/-- A slice of numbers, behind a change of a block that isn't its own. -/
theorem NS.off {T : IntKind} {w w' : World} {B : Option Addr} {n c r : Nat} {xs : List Nat} (h : NS T w B n xs) (hr : (Value.slice B n c).ownBlock ≠ some r) (hb : ∀ j, j < w.heap.size → j ≠ r → w'.heap[j]? = w.heap[j]?) : NS T w' B n xs :=
  ⟨h.1, fun hn => by
    obtain ⟨b, o, rfl, hc⟩ := h.2 hn
    refine ⟨b, o, rfl, fun j hj => ?_⟩
    rw [← hc j hj]
    refine World.cell?_of_block (hb b (World.block_lt_of_cell? w _ (hc j hj)) ?_)
    rintro rfl
    exact hr rfl⟩
set_option maxRecDepth 100000 in
set_option maxHeartbeats 4000000 in
theorem get_some (A : Option Addr) (n cp : Nat) (l : List UInt8) (w : World) (h : BS w A n l) (hn : n ≤ 1000000) (h0 : 0 < n) : Calls Tryz.prog 55 #[.slice A n cp] w (GetP l w) := by
  have HL := Lib.hid h
  have Hne : Hid (l ≠ []) := by
    show _ ≠ _
    rintro rfl
    have := h.1
    simp at this
    omega
  have hd : ((n : Int) == 0) = false := by simp; omega
  clear h
  obtain ⟨i0, hi0, hz0, hz1, hz2⟩ := info_parts info_u32
  go_enter Tryz.func55, Tryz.ntmps55
  go_upto_region 1 with (refine wpList_alloc_any rfl 85 rfl _ zero_I ?_; intro w1 hb1 hs1 hw1)
  go_upto_region 2 with (refine wpList_alloc_any rfl 85 rfl _ zero_I ?_; intro w2 hb2 hs2 hw2)
  have HG2 := Lib.hid (GI.start hb1 hs1 hw1 hb2 hw2)
  clear hb1 hs1 hw1 hb2 hs2 hw2
  generalize hr : w.heap.size = r at *
  generalize w1.heap.size = g at *
  have Hr := Lib.hid hr
  clear hr
  go_wp2_with fail
  refine (newReader_any A n cp l w2 (HL.out.below (by have := HG2.out.bel; exact this)) (by omega)).mono ?_
  rintro e w3 ⟨q, rfl, hrd, hb3, hq⟩
  have HG3 := Lib.hid (HG2.out.step hb3)
  have HR3 := Lib.hid hrd
  have Hq : Hid (w.heap.size ≤ q) := Nat.le_trans HG2.out.bel.size hq
  have hqg := hrd.ne_I HG3.out.nod
  have hqr := hrd.ne_I HG3.out.res
  clear hrd hb3 hq HG2 HL hd
  go_wp2_with fail
  refine (readAll32 (w3.alloc (.cells #[.pointer (some ⟨g, 0, none⟩), .pointer (some ⟨g, 1, none⟩), .pointer (some ⟨g, 2, none⟩), .pointer (some ⟨g, 3, none⟩), .pointer (some ⟨g, 4, none⟩)] 122)) q (l, 0) g 0 (zI) 85 w3.heap.size 5 5 (HR3.out.kept ((Below.refl _ _).alloc (Nat.le_refl _) _)) (HG3.out.nod.below ((Below.refl _ _).alloc (Nat.le_refl _) _)) (by decide) hqg (by decide) ?_ (by simp) (by have := HR3.out.lt; omega) (by have := HG3.out.nod.lt; omega) (by omega)).mono ?_
  · intro j hj
    have hj' : j = 0 ∨ j = 1 ∨ j = 2 ∨ j = 3 ∨ j = 4 := by omega
    rcases hj' with rfl | rfl | rfl | rfl | rfl <;> exact cell_of_row _ _ _ _ _ (0, 0) (heap_alloc_new w3 _)
  rintro e w4 ⟨rfl, hrd, hcs, hbut⟩
  have HG4 : Hid (GI w r g (updI zI 0 (c32 (Nd.pa l).2)) w4) := (HG3.out.step ((Below.refl _ _).alloc (Nat.le_refl _) _)).but hbut Hq.out hqr hcs
  have HR4 : Hid (Rd w4 q (Nd.pa l).1.1 (Nd.pa l).1.2) := hrd
  clear hrd hcs hbut HG3 HR3
  go_wp2_with fail
  refine (readAll64 (w4.alloc (.cells #[.pointer (some ⟨g, 5, none⟩), .pointer (some ⟨g, 6, none⟩), .pointer (some ⟨g, 7, none⟩)] 124)) q (Nd.pa l).1 g 5 (updI zI 0 (c32 (Nd.pa l).2)) 85 w4.heap.size 3 3 (HR4.out.kept ((Below.refl _ _).alloc (Nat.le_refl _) _)) (HG4.out.nod.below ((Below.refl _ _).alloc (Nat.le_refl _) _)) (by decide) hqg (by rw [upd_length _ _ _ (by unfold c32; rw [List.length_map, Nd.pa, Nd.rds_len]; decide)]; decide) ?_ (by simp) (by have := HR4.out.lt; omega) (by have := HG4.out.nod.lt; omega) (by omega)).mono ?_
  · intro j hj
    have hj' : j = 0 ∨ j = 1 ∨ j = 2 := by omega
    rcases hj' with rfl | rfl | rfl <;> exact cell_of_row _ _ _ _ _ (0, 0) (heap_alloc_new w4 _)
  rintro e w5 ⟨rfl, hrd, hcs, hbut⟩
  have HG5 : Hid (GI w r g (updI (updI zI 0 (c32 (Nd.pa l).2)) 5 (c64 (Nd.pb l).2)) w5) := (HG4.out.step ((Below.refl _ _).alloc (Nat.le_refl _) _)).but hbut Hq.out hqr hcs
  have HR5 : Hid (Rd w5 q (Nd.pb l).1.1 (Nd.pb l).1.2) := hrd
  clear hrd hcs hbut HG4 HR4
  rw [cells_I (Nd.pa l).2 (Nd.pb l).2 (Nd.rds_len 4 5 _) (Nd.rds_len 8 3 _)] at HG5
  go_wp2_with fail
  refine (u32r w5 q (Nd.pb l).1.1 (Nd.pb l).1.2 HR5.out).mono ?_
  rintro e w6 ⟨rfl, hrd, hgb⟩
  have HG6 : Hid (GI w r g (nI (Nd.raw l) (.slice none 0 0)) w6) := HG5.out.one hgb Hq.out hqr hqg
  have HR6 : Hid (Rd w6 q (Nd.pc l).1.1 (Nd.pc l).1.2) := hrd
  have HV : Hid ((rdN 4 ((Nd.pb l).1.1, (Nd.pb l).1.2)).2 = (Nd.pc l).2) := rfl
  rw [HV.out]
  clear hrd hgb HG5 HR5 HV
  have hx32 : (Nd.pc l).2 < 4294967296 := Nd.rdN_lt 4 _
  obtain ⟨x, hx⟩ : ∃ x, (Nd.pc l).2 = x := ⟨_, rfl⟩
  have Hx := Lib.hid hx
  rw [hx] at hx32 ⊢
  clear hx
  by_cases h8 : 8 < x
  · have HE : Hid (Nd.err l = 13) := by
      show _ = _
      unfold Nd.err
      rw [if_neg Hne.out, if_pos (by rw [Hx.out]; exact h8)]
    have hd : decide ((8 : Int) < (x : Int)) = true := by simp; omega
    clear h8
    go_wp2_with (first
      | (refine Did.list rfl (did_build 85 #[] rfl #[.int .u32 0, .int .u32 0, .int .u32 0, .int .u32 0, .int .u32 0, .int .u64 0, .int .u64 0, .int .u64 0, .slice none 0 0] built_I) ?_)
      | (refine wpList_store_any rfl 85 (.tmp 2) (.tmp 34) rfl r #[.int .u32 0, .int .u32 0, .int .u32 0, .int .u32 0, .int .u32 0, .int .u64 0, .int .u64 0, .int .u64 0, .slice none 0 0] rfl rfl 85 _ HG6.out.res size_I rfl (by simp [Value.oneCell']) ?_
         intro w7 hb7 hs7 hw7
         have HB7 := Lib.hid hb7
         have HW7 : Hid (Below w.heap.size w w7) := HG6.out.bel.trans (Keep.below (hw7.mono fun k hk => by have := HG6.out.lr; omega))
         clear hb7 hs7 hw7))
    exact bodyPost_ret (results_I rfl _ w7 r _ HB7.out size_I (by rfl) (by rfl) Tryz.underlying85) rfl (GetP.no HE.out (.inl (by decide)) HW7.out)
  have hd : decide ((8 : Int) < (x : Int)) = false := by simp; omega
  go_wp2_with fail
  clear hd
  go_loopw [36] (fun i wr => ∃ k : Nat, k ≤ x ∧ i = .int .u32 k ∧ Hid (∃ B c, GL w r g q (Nd.raw l) l k B c wr)) (fun i _ => x - (intOf i).toNat)
  case atStart => exact ⟨0, by omega, rfl, none, 0, HG6.out, HR6.out, World.ownsRow_nil _ _ _ _⟩
  case round =>
    obtain ⟨k, hk, rfl, HL⟩ := hrel
    obtain ⟨B, c, hgl⟩ := HL.out
    have H := Lib.hid hgl
    clear HL hgl
    by_cases hlt : k < x
    · have wk : IntKind.u32.wrap ((k : Int) + 1) = (k : Int) + 1 := by rw [IntKind.wrap_u32]; omega
      go_upto_region 12 with (fail)
      refine wp_region_held_drew (S := fun _ : World => True) (by kernel_rfl) trivial (fun _ => ?_)
      change wpAnyH _ _ _ _ _ 8 (Array.replicate 8 false) _ _
      have HS : Hid True := trivial
      have HC : Hid (wr.drew.cell? ⟨g, 8, none⟩ = some (.slice B k c)) := H.out.c8
      refine takeH (i := 0) 38 (.pointer (some ⟨g, 8, none⟩)) rfl rfl (by kernel_rfl) (by kernel_rfl) (by kernel_rfl) (fun _ _ _ h => h) (.inl ⟨by rfl, fun W hW => by go_simp⟩) HS.out ?_
      simp only [Act.put, List.setIfInBounds_toArray, List.set_cons_zero, List.set_cons_succ]
      refine takeH (i := 2) 40 (.pointer (some ⟨q, 0, none⟩)) rfl rfl (by kernel_rfl) (by kernel_rfl) (by kernel_rfl) (fun _ _ _ h => h) (.inl ⟨by rfl, fun W hW => by go_simp⟩) HS.out ?_
      simp only [Act.put, List.setIfInBounds_toArray, List.set_cons_zero, List.set_cons_succ]
      refine wpAnyH_ready (rs := [1, 3]) (by kernel_rfl) (by simp) ?_
      refine AllReadyH.cons rfl (fun K hK => ?_) (AllReadyH.cons rfl (fun K hK => ?_) AllReadyH.nil)
      · have hcl := HC.out
        go_simp
        clear hcl
        refine hK.out _ _ trivial fun _ => ?_
        clear hK K
        refine wpAnyH_ready (rs := [3]) (by kernel_rfl) (by simp) ?_
        refine AllReadyH.cons rfl (fun K hK => ?_) AllReadyH.nil
        go_simp
        refine (u32r wr.drew q _ _ H.out.rd).mono ?_
        rintro e w7 ⟨rfl, hrd, hgb⟩
        have hg1 : wr.grownBy w7 (some q) := ⟨hgb.os, hgb.tape, hgb.output, hgb.size, hgb.block⟩
        have HG1 := Lib.hid hg1
        have HR1 := Lib.hid hrd
        clear hgb hrd hg1
        obtain ⟨v, hv⟩ : ∃ v, (rdN 4 (Nd.rds 4 k (Nd.pc l).1).1).2 = v := ⟨_, rfl⟩
        have hv2 : (rdN 4 ((Nd.rds 4 k (Nd.pc l).1).1.1, (Nd.rds 4 k (Nd.pc l).1).1.2)).2 = v := hv
        rw [hv2]
        have HV := Lib.hid hv
        have I1 : Hid (GI w r g (nI (Nd.raw l) (.slice B k c)) w7) := H.out.gi.one HG1.out Hq.out hqr hqg
        have HS1 : Hid (w7.cell? ⟨g, 8, none⟩ = some (.slice B k c)) := I1.out.nod.cell 8 _ rfl
        have O1 : Hid (w7.ownsRow w.heap.size 28 1 (.slice B k c) k (c32 (Nd.rds 4 k (Nd.pc l).1).2)) := own_grown H.out.own HG1.out (fun gq hgq e => by
          injection e with e
          subst e
          obtain ⟨cs, hb⟩ := H.out.rd.blk
          exact own_ne H.out.own hb (by decide) hgq)
        have HS2 : Hid ((w7.alloc (.cells #[.int .u32 (v : Int)] 28)).cell? ⟨g, 8, none⟩ = some (.slice B k c)) := (World.cell?_alloc_lt w7 _ ⟨g, 8, none⟩ I1.out.nod.lt).trans HS1.out
        clear hv hv2
        refine hK.out _ _ trivial fun _ => ?_
        clear hK K
        refine wpAnyH_ready (rs := [4]) (by kernel_rfl) (by simp) ?_
        refine AllReadyH.cons rfl (fun K hK => ?_) AllReadyH.nil
        go_simp
        refine hK.out _ _ trivial fun _ => ?_
        clear hK K
        refine wpAnyH_ready (rs := [5]) (by kernel_rfl) (by simp) ?_
        refine AllReadyH.cons rfl (fun K hK => ?_) AllReadyH.nil
        refine step_append_lies _ (by rfl) _ _ _ (by rfl) w.heap.size 28 i0 _ 1 4 Tryz.underlying83 hi0 hz0 hz1 hz2 rfl (by omega) _ k _ (by rfl) (O1.out.alloc _)
          ⟨w7.heap.size, 0, none⟩ 1 1 [_] (by rfl) (by rfl) (World.news_of_block (cs := #[_]) (t := 28) (fr := (0, 0)) (heap_alloc_new w7 _)) (by simp [Value.oneCell'])
          (by omega) (by unfold maxLen; omega) (by omega) (by have := I1.out.bel.size; simp; omega) (w7.heap.size + 1) (by simp) ?_
        intro gg cap w8 hown hgrow hat hlt1
        have hng : (Value.slice B k c).ownBlock ≠ some g := own_ne (O1.out.alloc _) (I1.out.nod.below ((Below.refl _ _).alloc (Nat.le_refl _) (.cells #[.int .u32 (v : Int)] 28))) (by decide)
        have c8 : w8.cell? ⟨g, 8, none⟩ = some (.slice B k c) := (hgrow.cell_far ⟨g, 8, none⟩ (by have := I1.out.nod.lt; simp; omega) (fun e => hng e.symm)).trans HS2.out
        have f8 : w8.frozen? ⟨g, 8, none⟩ = false := (hgrow.frozen_far ⟨g, 8, none⟩ (by have := I1.out.nod.lt; simp; omega) (fun e => hng e.symm)).trans ((World.frozen?_alloc_past _ _ _ I1.out.nod.lt).trans (I1.out.nod.froz 8))
        have HN := Lib.hid (H.out.next Hq.out HG1.out HR1.out HV.out hown hgrow)
        refine hK.out _ _ trivial fun _ => ?_
        clear hK K hown hgrow hat hlt1 hng
        simp only [Act.put]
        refine wpAnyH_ready (rs := [6]) (by kernel_rfl) (by simp) ?_
        refine AllReadyH.cons rfl (fun K hK => ?_) AllReadyH.nil
        go_simp
        refine hK.out _ _ trivial fun _ => ?_
        clear hK K
        refine wpAnyH_ready (rs := [7]) (by kernel_rfl) (by simp) ?_
        refine AllReadyH.cons rfl (fun K hK => ?_) AllReadyH.nil
        go_simp
        refine hK.out _ _ trivial fun _ => ?_
        clear hK K c8 f8
        refine wpAnyH_done (by kernel_rfl) ?_ _
        go_wp2
        go_roundw
        case rel => exact ⟨k + 1, by omega, by go_num, ⟨_, _, HN.out⟩⟩
        case measure => simp [intOf]; omega
      · go_simp
        refine (u32r wr.drew q _ _ H.out.rd).mono ?_
        rintro e w7 ⟨rfl, hrd, hgb⟩
        have hg1 : wr.grownBy w7 (some q) := ⟨hgb.os, hgb.tape, hgb.output, hgb.size, hgb.block⟩
        have HG1 := Lib.hid hg1
        have HR1 := Lib.hid hrd
        clear hgb hrd hg1
        obtain ⟨v, hv⟩ : ∃ v, (rdN 4 (Nd.rds 4 k (Nd.pc l).1).1).2 = v := ⟨_, rfl⟩
        have hv2 : (rdN 4 ((Nd.rds 4 k (Nd.pc l).1).1.1, (Nd.rds 4 k (Nd.pc l).1).1.2)).2 = v := hv
        rw [hv2]
        have HV := Lib.hid hv
        have I1 : Hid (GI w r g (nI (Nd.raw l) (.slice B k c)) w7) := H.out.gi.one HG1.out Hq.out hqr hqg
        have HS1 : Hid (w7.cell? ⟨g, 8, none⟩ = some (.slice B k c)) := I1.out.nod.cell 8 _ rfl
        have O1 : Hid (w7.ownsRow w.heap.size 28 1 (.slice B k c) k (c32 (Nd.rds 4 k (Nd.pc l).1).2)) := own_grown H.out.own HG1.out (fun gq hgq e => by
          injection e with e
          subst e
          obtain ⟨cs, hb⟩ := H.out.rd.blk
          exact own_ne H.out.own hb (by decide) hgq)
        have HS2 : Hid ((w7.alloc (.cells #[.int .u32 (v : Int)] 28)).cell? ⟨g, 8, none⟩ = some (.slice B k c)) := (World.cell?_alloc_lt w7 _ ⟨g, 8, none⟩ I1.out.nod.lt).trans HS1.out
        clear hv hv2
        refine hK.out _ _ trivial fun _ => ?_
        clear hK K
        refine wpAnyH_ready (rs := [1, 4]) (by kernel_rfl) (by simp) ?_
        refine AllReadyH.cons rfl (fun K hK => ?_) (AllReadyH.cons rfl (fun K hK => ?_) AllReadyH.nil)
        · have hcl := HS1.out
          go_simp
          clear hcl
          refine hK.out _ _ trivial fun _ => ?_
          clear hK K
          refine wpAnyH_ready (rs := [4]) (by kernel_rfl) (by simp) ?_
          refine AllReadyH.cons rfl (fun K hK => ?_) AllReadyH.nil
          go_simp
          refine hK.out _ _ trivial fun _ => ?_
          clear hK K
          refine wpAnyH_ready (rs := [5]) (by kernel_rfl) (by simp) ?_
          refine AllReadyH.cons rfl (fun K hK => ?_) AllReadyH.nil
          refine step_append_lies _ (by rfl) _ _ _ (by rfl) w.heap.size 28 i0 _ 1 4 Tryz.underlying83 hi0 hz0 hz1 hz2 rfl (by omega) _ k _ (by rfl) (O1.out.alloc _)
            ⟨w7.heap.size, 0, none⟩ 1 1 [_] (by rfl) (by rfl) (World.news_of_block (cs := #[_]) (t := 28) (fr := (0, 0)) (heap_alloc_new w7 _)) (by simp [Value.oneCell'])
            (by omega) (by unfold maxLen; omega) (by omega) (by have := I1.out.bel.size; simp; omega) (w7.heap.size + 1) (by simp) ?_
          intro gg cap w8 hown hgrow hat hlt1
          have hng : (Value.slice B k c).ownBlock ≠ some g := own_ne (O1.out.alloc _) (I1.out.nod.below ((Below.refl _ _).alloc (Nat.le_refl _) (.cells #[.int .u32 (v : Int)] 28))) (by decide)
          have c8 : w8.cell? ⟨g, 8, none⟩ = some (.slice B k c) := (hgrow.cell_far ⟨g, 8, none⟩ (by have := I1.out.nod.lt; simp; omega) (fun e => hng e.symm)).trans HS2.out
          have f8 : w8.frozen? ⟨g, 8, none⟩ = false := (hgrow.frozen_far ⟨g, 8, none⟩ (by have := I1.out.nod.lt; simp; omega) (fun e => hng e.symm)).trans ((World.frozen?_alloc_past _ _ _ I1.out.nod.lt).trans (I1.out.nod.froz 8))
          have HN := Lib.hid (H.out.next Hq.out HG1.out HR1.out HV.out hown hgrow)
          refine hK.out _ _ trivial fun _ => ?_
          clear hK K hown hgrow hat hlt1 hng
          simp only [Act.put]
          refine wpAnyH_ready (rs := [6]) (by kernel_rfl) (by simp) ?_
          refine AllReadyH.cons rfl (fun K hK => ?_) AllReadyH.nil
          go_simp
          refine hK.out _ _ trivial fun _ => ?_
          clear hK K
          refine wpAnyH_ready (rs := [7]) (by kernel_rfl) (by simp) ?_
          refine AllReadyH.cons rfl (fun K hK => ?_) AllReadyH.nil
          go_simp
          refine hK.out _ _ trivial fun _ => ?_
          clear hK K c8 f8
          refine wpAnyH_done (by kernel_rfl) ?_ _
          go_wp2
          go_roundw
          case rel => exact ⟨k + 1, by omega, by go_num, ⟨_, _, HN.out⟩⟩
          case measure => simp [intOf]; omega
        · go_simp
          refine hK.out _ _ trivial fun _ => ?_
          clear hK K
          refine wpAnyH_ready (rs := [1]) (by kernel_rfl) (by simp) ?_
          refine AllReadyH.cons rfl (fun K hK => ?_) AllReadyH.nil
          have hcl := HS2.out
          go_simp
          clear hcl
          refine hK.out _ _ trivial fun _ => ?_
          clear hK K
          refine wpAnyH_ready (rs := [5]) (by kernel_rfl) (by simp) ?_
          refine AllReadyH.cons rfl (fun K hK => ?_) AllReadyH.nil
          refine step_append_lies _ (by rfl) _ _ _ (by rfl) w.heap.size 28 i0 _ 1 4 Tryz.underlying83 hi0 hz0 hz1 hz2 rfl (by omega) _ k _ (by rfl) (O1.out.alloc _)
            ⟨w7.heap.size, 0, none⟩ 1 1 [_] (by rfl) (by rfl) (World.news_of_block (cs := #[_]) (t := 28) (fr := (0, 0)) (heap_alloc_new w7 _)) (by simp [Value.oneCell'])
            (by omega) (by unfold maxLen; omega) (by omega) (by have := I1.out.bel.size; simp; omega) (w7.heap.size + 1) (by simp) ?_
          intro gg cap w8 hown hgrow hat hlt1
          have hng : (Value.slice B k c).ownBlock ≠ some g := own_ne (O1.out.alloc _) (I1.out.nod.below ((Below.refl _ _).alloc (Nat.le_refl _) (.cells #[.int .u32 (v : Int)] 28))) (by decide)
          have c8 : w8.cell? ⟨g, 8, none⟩ = some (.slice B k c) := (hgrow.cell_far ⟨g, 8, none⟩ (by have := I1.out.nod.lt; simp; omega) (fun e => hng e.symm)).trans HS2.out
          have f8 : w8.frozen? ⟨g, 8, none⟩ = false := (hgrow.frozen_far ⟨g, 8, none⟩ (by have := I1.out.nod.lt; simp; omega) (fun e => hng e.symm)).trans ((World.frozen?_alloc_past _ _ _ I1.out.nod.lt).trans (I1.out.nod.froz 8))
          have HN := Lib.hid (H.out.next Hq.out HG1.out HR1.out HV.out hown hgrow)
          refine hK.out _ _ trivial fun _ => ?_
          clear hK K hown hgrow hat hlt1 hng
          simp only [Act.put]
          refine wpAnyH_ready (rs := [6]) (by kernel_rfl) (by simp) ?_
          refine AllReadyH.cons rfl (fun K hK => ?_) AllReadyH.nil
          go_simp
          refine hK.out _ _ trivial fun _ => ?_
          clear hK K
          refine wpAnyH_ready (rs := [7]) (by kernel_rfl) (by simp) ?_
          refine AllReadyH.cons rfl (fun K hK => ?_) AllReadyH.nil
          go_simp
          refine hK.out _ _ trivial fun _ => ?_
          clear hK K c8 f8
          refine wpAnyH_done (by kernel_rfl) ?_ _
          go_wp2
          go_roundw
          case rel => exact ⟨k + 1, by omega, by go_num, ⟨_, _, HN.out⟩⟩
          case measure => simp [intOf]; omega
    · have hkx : k = x := by omega
      subst hkx
      have HD : Hid (Nd.rds 4 k (Nd.pc l).1 = Nd.pd l) := by show _ = _; unfold Nd.pd; rw [Hx.out]
      have HF : Hid (endOf (Nd.rds 4 k (Nd.pc l).1).1.1 (Nd.rds 4 k (Nd.pc l).1).1.2 = Nd.fin l) := by show _ = _; rw [HD.out]; rfl
      have HH := Lib.hid (show ¬ 8 < (Nd.pc l).2 by rw [Hx.out]; exact h8)
      have HW := Lib.hid (Nd.wide_raw l)
      have HB : Hid ((Nd.raw l).bl = (Nd.rds 4 k (Nd.pc l).1).2) := by show _ = _; rw [HD.out]; rfl
      have HN : Hid (NS .u32 wr B k (Nd.raw l).bl) := by show NS _ _ _ _ _; rw [HB.out]; exact NS.of_own H.out.own
      clear HD HB Hx
      go_wp2_with fail
      refine (end_any wr q _ _ H.out.rd).mono ?_
      rintro e w9 ⟨rfl, rfl⟩
      rw [HF.out]
      by_cases hf : Nd.fin l = 0
      rotate_left
      · have HE : Hid (Nd.err l = Nd.fin l) := by
          show _ = _
          unfold Nd.err
          rw [if_neg Hne.out, if_neg HH.out, if_pos hf]
        have HFN := Lib.hid hf
        have hd : (Nd.fin l != 0) = true := by simpa using hf
        clear hf HF
        generalize Nd.fin l = z at *
        go_wp2_with (first
          | (refine Did.list rfl (did_build 85 #[] rfl #[.int .u32 0, .int .u32 0, .int .u32 0, .int .u32 0, .int .u32 0, .int .u64 0, .int .u64 0, .int .u64 0, .slice none 0 0] built_I) ?_)
          | (refine wpList_store_any rfl 85 (.tmp 2) (.tmp 50) rfl r #[.int .u32 0, .int .u32 0, .int .u32 0, .int .u32 0, .int .u32 0, .int .u64 0, .int .u64 0, .int .u64 0, .slice none 0 0] rfl rfl 85 _ H.out.gi.res size_I rfl (by simp [Value.oneCell']) ?_
             intro w7 hb7 hs7 hw7
             have HB7 := Lib.hid hb7
             have HW7 : Hid (Below w.heap.size w w7) := H.out.gi.bel.trans (Keep.below (hw7.mono fun k hk => by have := H.out.gi.lr; omega))
             clear hb7 hs7 hw7))
        exact bodyPost_ret (results_I rfl _ w7 r _ HB7.out size_I (by rfl) (by rfl) Tryz.underlying85) rfl (GetP.no HE.out (.inl HFN.out) HW7.out)
      have HE : Hid (Nd.err l = if (Nd.raw l).okB = true ∧ (Nd.raw l).blank = false then 0 else 11) := by
        show _ = _
        unfold Nd.err
        rw [if_neg Hne.out, if_neg HH.out, if_neg (by rw [hf]; simp)]
      have HGot : Hid (Nd.err l = 0 → Nd.got l = Nd.raw l) := fun h => if_pos ⟨Hne.out, h⟩
      rw [hf]
      clear hf HF HH Hne
      have HI := Lib.hid H.out.gi
      have HO := Lib.hid H.out.own
      clear H
      generalize Nd.raw l = X at *
      obtain ⟨kk, ge, li, m, s, co, oo, vv, bl⟩ := X
      have hbl : bl.length = k := HN.out.1
      have hk8 : k ≤ 8 := by omega
      have hcells : wr.heap[g]? = some (.cells #[.int .u32 (kk : Int), .int .u32 (ge : Int), .int .u32 (li : Int), .int .u32 (m : Int), .int .u32 (s : Int), .int .u64 (co : Int), .int .u64 (oo : Int), .int .u64 (vv : Int), .slice B k c] 85 (0, 0)) := HI.out.nod
      have HCE := Lib.hid hcells
      clear hcells
      go_wp2_with (first
        | (refine wpList_load_row rfl 85 (.tmp 4) rfl _ rfl 85 #[.int .u32 (kk : Int), .int .u32 (ge : Int), .int .u32 (li : Int), .int .u32 (m : Int), .int .u32 (s : Int), .int .u64 (co : Int), .int .u64 (oo : Int), .int .u64 (vv : Int), .slice B k c] (0, 0) _ HCE.out Tryz.underlying85 rfl size_I ?_))
      refine (check_any kk ge li m s co oo vv B k c bl wr HW.out HN.out (by omega)).mono ?_
      rintro e w10 ⟨rfl, hb10⟩
      have HI10 := Lib.hid (HI.out.step hb10)
      have HN10 := Lib.hid (HN.out.below hb10)
      have HO10 : Hid (w10.ownsRow w.heap.size 28 1 (.slice B k c) k (c32 (Nd.rds 4 k (Nd.pc l).1).2)) := own_grown HO.out (row := none) ⟨hb10.os, hb10.tape, hb10.output, hb10.size, fun j hj _ => hb10.block j hj⟩ (fun _ _ e => by cases e)
      have HC10 : Hid (w10.heap[g]? = some (.cells #[.int .u32 (kk : Int), .int .u32 (ge : Int), .int .u32 (li : Int), .int .u32 (m : Int), .int .u32 (s : Int), .int .u64 (co : Int), .int .u64 (oo : Int), .int .u64 (vv : Int), .slice B k c] 85 (0, 0))) := HI10.out.nod
      clear hb10 HI HN HO HCE
      by_cases hok : (Nd.mk kk ge li m s co oo vv bl).okB = true
      rotate_left
      · have hz : (Nd.mk kk ge li m s co oo vv bl).chk = 1 := if_neg hok
        have HE2 : Hid (Nd.err l = 11) := by show _ = _; rw [HE.out, if_neg (fun h => hok h.1)]
        rw [hz]
        clear hz hok HE
        go_wp2_with (first
          | (refine Did.list rfl (did_build 85 #[] rfl #[.int .u32 0, .int .u32 0, .int .u32 0, .int .u32 0, .int .u32 0, .int .u64 0, .int .u64 0, .int .u64 0, .slice none 0 0] built_I) ?_)
          | (refine wpList_store_any rfl 85 (.tmp 2) (.tmp 59) rfl r #[.int .u32 0, .int .u32 0, .int .u32 0, .int .u32 0, .int .u32 0, .int .u64 0, .int .u64 0, .int .u64 0, .slice none 0 0] rfl rfl 85 _ HI10.out.res size_I rfl (by simp [Value.oneCell']) ?_
             intro w7 hb7 hs7 hw7
             have HB7 := Lib.hid hb7
             have HW7 : Hid (Below w.heap.size w w7) := HI10.out.bel.trans (Keep.below (hw7.mono fun k hk => by have := HI10.out.lr; omega))
             clear hb7 hs7 hw7))
        exact bodyPost_ret (results_I rfl _ w7 r _ HB7.out size_I (by rfl) (by rfl) Tryz.underlying85) rfl (GetP.no HE2.out (.inl (by decide)) HW7.out)
      have hz : (Nd.mk kk ge li m s co oo vv bl).chk = 0 := if_pos hok
      have HOK := Lib.hid hok
      rw [hz]
      clear hz hok
      obtain ⟨c0, c1, c2, c3, c4, c5, c6, c7, c8⟩ := I_cells HC10.out
      have HBL : Hid (blB kk ge li m s co oo vv k = (Nd.mk kk ge li m s co oo vv bl).blank) := by show _ = _; rw [← hbl]; rfl
      have HCB := fun W => Lib.hid (blank_any kk ge li m s co oo vv B k c W HW.out.k HW.out.l HW.out.m HW.out.s HW.out.o HW.out.v)
      go_wp2_with fail
      refine ((HCB _).out).mono ?_
      rintro e w11 ⟨rfl, hb11⟩
      rw [HBL.out]
      have HI11 := Lib.hid (HI10.out.step hb11)
      have HO11 : Hid (w11.ownsRow w.heap.size 28 1 (.slice B k c) k (c32 (Nd.rds 4 k (Nd.pc l).1).2)) := own_grown HO10.out (row := none) ⟨hb11.os, hb11.tape, hb11.output, hb11.size, fun j hj _ => hb11.block j hj⟩ (fun _ _ e => by cases e)
      have HN11 := Lib.hid (HN10.out.below hb11)
      have HC11 : Hid (w11.heap[g]? = some (.cells #[.int .u32 (kk : Int), .int .u32 (ge : Int), .int .u32 (li : Int), .int .u32 (m : Int), .int .u32 (s : Int), .int .u64 (co : Int), .int .u64 (oo : Int), .int .u64 (vv : Int), .slice B k c] 85 (0, 0))) := HI11.out.nod
      clear hb11 HCB HBL c0 c1 c2 c3 c4 c5 c6 c7 c8 HI10 HO10 HN10 HC10
      by_cases hbk : (Nd.mk kk ge li m s co oo vv bl).blank = true
      · have HE2 : Hid (Nd.err l = 11) := by show _ = _; rw [HE.out, if_neg (fun h => by rw [hbk] at h; cases h.2)]
        rw [hbk]
        clear hbk HE
        go_wp2_with (first
          | (refine Did.list rfl (did_build 85 #[] rfl #[.int .u32 0, .int .u32 0, .int .u32 0, .int .u32 0, .int .u32 0, .int .u64 0, .int .u64 0, .int .u64 0, .slice none 0 0] built_I) ?_)
          | (refine wpList_store_any rfl 85 (.tmp 2) (.tmp 59) rfl r #[.int .u32 0, .int .u32 0, .int .u32 0, .int .u32 0, .int .u32 0, .int .u64 0, .int .u64 0, .int .u64 0, .slice none 0 0] rfl rfl 85 _ HI11.out.res size_I rfl (by simp [Value.oneCell']) ?_
             intro w7 hb7 hs7 hw7
             have HB7 := Lib.hid hb7
             have HW7 : Hid (Below w.heap.size w w7) := HI11.out.bel.trans (Keep.below (hw7.mono fun k hk => by have := HI11.out.lr; omega))
             clear hb7 hs7 hw7))
        exact bodyPost_ret (results_I rfl _ w7 r _ HB7.out size_I (by rfl) (by rfl) Tryz.underlying85) rfl (GetP.no HE2.out (.inl (by decide)) HW7.out)
      have hbk : (Nd.mk kk ge li m s co oo vv bl).blank = false := by simpa using hbk
      have HE2 : Hid (Nd.err l = 0) := by show _ = _; rw [HE.out, if_pos ⟨HOK.out, hbk⟩]
      have HG := Lib.hid (HGot.out HE2.out)
      rw [hbk]
      clear hbk HE HGot
      go_wp2_with (first
        | (refine wpList_load_row rfl 85 (.tmp 4) rfl _ rfl 85 #[.int .u32 (kk : Int), .int .u32 (ge : Int), .int .u32 (li : Int), .int .u32 (m : Int), .int .u32 (s : Int), .int .u64 (co : Int), .int .u64 (oo : Int), .int .u64 (vv : Int), .slice B k c] (0, 0) _ HC11.out Tryz.underlying85 rfl size_I ?_)
        | (refine wpList_store_any rfl 85 (.tmp 2) (.tmp 60) rfl r #[.int .u32 (kk : Int), .int .u32 (ge : Int), .int .u32 (li : Int), .int .u32 (m : Int), .int .u32 (s : Int), .int .u64 (co : Int), .int .u64 (oo : Int), .int .u64 (vv : Int), .slice B k c] rfl rfl 85 _ HI11.out.res size_I rfl (by simp [Value.oneCell']) ?_
           intro w7 hb7 hs7 hw7
           have HB7 := Lib.hid hb7
           have HW7 : Hid (Below w.heap.size w w7) := HI11.out.bel.trans (Keep.below (hw7.mono fun k hk => by have := HI11.out.lr; omega))
           have HN7 : Hid (NS .u32 w7 B k bl) := HN11.out.off (own_ne HO11.out HI11.out.res (by decide)) (fun j _ hj => hw7.block j hj)
           clear hb7 hs7 hw7))
      refine bodyPost_ret (results_I rfl _ w7 r _ HB7.out size_I (by rfl) (by rfl) Tryz.underlying85) rfl ?_
      unfold GetP
      rw [HG.out, HE2.out]
      refine ⟨B, c, ?_, ?_, HW7.out⟩
      · rw [hbl]
        rfl
      · show NS .u32 w7 B bl.length bl
        rw [hbl]
        exact HN7.out
end Go.Proofs.YtnhokkdieijkhaaGreatDoor

namespace Go.Proofs.YtnhokkdieijkhaaGreatDoor
open Go.RowKit

theorem filter_take {f : Nat → Bool} {l : List Nat} {k : Nat} (hk : k < l.length) : (l.take (k + 1)).filter f = (l.take k).filter f ++ if f l[k] then [l[k]] else [] := by
  rw [List.take_succ_eq_append_getElem hk, List.filter_append]
  congr 1
  by_cases h : f l[k] = true <;> simp [h]
theorem all_take {f : Nat → Bool} {l : List Nat} {k : Nat} (hk : k < l.length) : (l.take (k + 1)).all f = ((l.take k).all f && f l[k]) := by
  rw [List.take_succ_eq_append_getElem hk, List.all_append]
  simp
/-- A function that is handed block after block: what is so behind the first ones, is so behind one more. -/
structure Each (F : Nat) (caps : Array Value) (p : Nat) (N : Nat) (A : Option Addr) (bl : List Nat) (J : List Nat → World → Prop) : Prop where
  eg : ∀ args V, (callFunc F args).run Tryz.prog V = .ok (.enter F args) V
  room : ∀ pre W, J pre W → Calls Tryz.prog 41 #[.pointer (some ⟨p, 0, none⟩)] W fun e w' => e = .returned (.int .i64 ((N - 35 : Nat) : Int)) ∧ w' = W
  nums : ∀ pre W, J pre W → NS .u32 W A bl.length bl
  step : ∀ pre W W', J pre W → Below W.heap.size W W' → J pre W'
  next : ∀ pre b W, J pre W → b < N - 35 → pre.length < (bl.filter fun b => decide (b < N - 35)).length → (∃ r, bl.filter (fun b => decide (b < N - 35)) = pre ++ b :: r) → Calls Tryz.prog F (#[.int .i64 (b : Int)] ++ caps) W fun e w' => e = .returned (.tuple #[]) ∧ J (pre ++ [b]) w'

set_option maxRecDepth 100000 in
set_option maxHeartbeats 2000000 in
theorem each_any (F : Nat) (caps : Array Value) (p N : Nat) (A : Option Addr) (x : Nd) (cp : Nat) (J : List Nat → World → Prop) (w : World) (h : Each F caps p N A x.bl J) (h0 : J [] w) (hN : 36 ≤ N) (hN2 : N ≤ 803) (hl : x.bl.length ≤ 1000) (hb : ∀ b ∈ x.bl, b < 4294967296) :
    Calls Tryz.prog 80 #[.pointer (some ⟨p, 0, none⟩), .agg #[.int .u32 (x.kind : Int), .int .u32 (x.gen : Int), .int .u32 (x.links : Int), .int .u32 (x.mode : Int), .int .u32 (x.size : Int), .int .u64 (x.change : Int), .int .u64 (x.cookie : Int), .int .u64 (x.verf : Int), .slice A x.bl.length cp], fnV F caps] w
      fun e w' => e = .returned (.bool (x.bl.all fun b => decide (b < N - 35))) ∧ J (x.bl.filter fun b => decide (b < N - 35)) w' := by
  have HE := Lib.hid h
  have HJ0 : Hid (J [] (w.alloc (.cells #[.int .u32 (x.kind : Int), .int .u32 (x.gen : Int), .int .u32 (x.links : Int), .int .u32 (x.mode : Int), .int .u32 (x.size : Int), .int .u64 (x.change : Int), .int .u64 (x.cookie : Int), .int .u64 (x.verf : Int), .slice A x.bl.length cp] 85))) := h.step _ _ _ h0 ((Below.refl _ _).alloc (Nat.le_refl _) _)
  have HB := Lib.hid hb
  have HN2 := Lib.hid hN2
  clear h h0 hb hN2
  generalize x.kind = x1 at *
  generalize x.gen = x2 at *
  generalize x.links = x3 at *
  generalize x.mode = x4 at *
  generalize x.size = x5 at *
  generalize x.change = x6 at *
  generalize x.cookie = x7 at *
  generalize x.verf = x8 at *
  generalize x.bl = bl at *
  obtain ⟨n, hn⟩ : ∃ n, bl.length = n := ⟨_, rfl⟩
  have HL : Hid (bl.length = n) := hn
  rw [hn] at HJ0 ⊢
  clear hn
  unfold fnV
  go_enter Tryz.func80, Tryz.ntmps80
  go_wp2_with fail
  go_loopw [7, 13] (fun s7 s13 wr => ∃ k : Nat, k ≤ n ∧ s13 = .int .i64 k ∧ s7 = .bool ((bl.take k).all fun b => decide (b < N - 35)) ∧ Hid (J ((bl.take k).filter fun b => decide (b < N - 35)) wr)) (fun _ i _ => n - (intOf i).toNat)
  case atStart => exact ⟨0, by omega, rfl, rfl, HJ0⟩
  case round =>
    obtain ⟨k, hk, rfl, rfl, HJ⟩ := hrel
    by_cases hlt : k < n
    · have hlt' : k < bl.length := by rw [HL.out]; exact hlt
      obtain ⟨bb, o, rfl, hj, hcell⟩ := (HE.out.nums _ _ HJ.out).at (by rw [HL.out]; exact hlt)
      have HF := Lib.hid (filter_take (f := fun b => decide (b < N - 35)) hj)
      have HA := Lib.hid (all_take (f := fun b => decide (b < N - 35)) hj)
      have hbk := HB.out _ (List.getElem_mem hj)
      have HPF : Hid (bl.filter (fun b => decide (b < N - 35)) = ((bl.take k).filter fun b => decide (b < N - 35)) ++ (bl.drop k).filter fun b => decide (b < N - 35)) := by
        show _ = _
        rw [← List.filter_append, List.take_append_drop]
      have HD := Lib.hid (List.drop_eq_getElem_cons hj)
      generalize bl[k] = b at *
      by_cases hin : b < N - 35
      · have hd : decide (((N - 35 : Nat) : Int) ≤ (b : Int)) = false := by simp; omega
        rw [show decide (b < N - 35) = true by simpa using hin, if_pos rfl] at HF
        rw [show decide (b < N - 35) = true by simpa using hin, Bool.and_true] at HA
        rw [HD.out, List.filter_cons_of_pos (by simpa using hin)] at HPF
        have HPL : Hid (((bl.take k).filter fun b => decide (b < N - 35)).length < (bl.filter fun b => decide (b < N - 35)).length) := by
          show _ < _
          rw [HPF.out]
          simp
        have hw2 : ((N - 35 : Nat) : Int) % 4294967296 = ((N - 35 : Nat) : Int) := Int.emod_eq_of_lt (by omega) (by have := HN2.out; omega)
        have HC := Lib.hid (HE.out.next _ b _ HJ.out hin HPL.out ⟨_, HPF.out⟩)
        go_wp2_with fail
        refine (HE.out.room _ _ HJ.out).mono ?_
        rintro e w1 ⟨rfl, rfl⟩
        have eg := HE.out.eg
        go_wp2_with (go_at_fn F; refine HC.out.mono ?_; rintro e w2 ⟨rfl, hJ2⟩)
        go_roundw
        case rel => exact ⟨k + 1, by omega, by go_num, by rw [HA.out], by rw [HF.out]; exact hJ2⟩
        case measure => simp [intOf]; omega
      · have hd : decide (((N - 35 : Nat) : Int) ≤ (b : Int)) = true := by simp; omega
        rw [show decide (b < N - 35) = false by simpa using hin] at HF HA
        have HF2 : Hid ((bl.take (k + 1)).filter (fun b => decide (b < N - 35)) = (bl.take k).filter fun b => decide (b < N - 35)) := by show _ = _; rw [HF.out]; simp
        have HA2 : Hid ((bl.take (k + 1)).all (fun b => decide (b < N - 35)) = false) := by show _ = _; rw [HA.out]; simp
        have hw2 : ((N - 35 : Nat) : Int) % 4294967296 = ((N - 35 : Nat) : Int) := Int.emod_eq_of_lt (by omega) (by have := HN2.out; omega)
        go_wp2_with fail
        refine (HE.out.room _ _ HJ.out).mono ?_
        rintro e w1 ⟨rfl, rfl⟩
        go_wp2
        go_roundw
        case rel => exact ⟨k + 1, by omega, by go_num, by rw [HA2.out], by rw [HF2.out]; exact HJ⟩
        case measure => simp [intOf]; omega
    · obtain rfl : k = n := by omega
      have HT : Hid (bl.take k = bl) := by show _ = _; rw [← HL.out]; exact List.take_length
      rw [HT.out] at HJ
      rw [HT.out]
      go_wp2
      go_ret
      exact ⟨rfl, HJ.out⟩
end Go.Proofs.YtnhokkdieijkhaaGreatDoor
