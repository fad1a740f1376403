/-
  Contract of package inode's Check (layer 7).
-/
import Derived.Test.YtkgpgaanodmpiaaIRead
import Derived.Deep.RegionHeld
import Derived.Deep.DeepCutAuto
namespace Go.Proofs.Ytkgpgaanodmpiaa
open Go.RowKit

/-- An operation of a region that draws its order, taken first. -/
theorem takeH {P : Program} {md : Region.Mode} {ops : Array Oper} {S : World → Prop} {Q : Exit → Act → World → Prop} {i : Nat} {oi : Oper} (dst : Tmp) (v : Value) {fuel : Nat} {listed : Array Bool} {a : Act} {w : World} (hi : ops[i]? = some oi) (hd : oi.dst = some dst)
    (hs : Region.noSelect ops = true) (hf : Region.free md ops listed i = true) (hr : (Region.ready md ops listed).contains i = true) (hQ : ∀ c a w, Q (.panic c) (a.put (some dst) v) w → Q (.panic c) a w) (hy : YieldsIf P ops S oi v a) (hS : S w)
    (h : wpAnyH P md ops Q S fuel (listed.setIfInBounds i true) (a.put (some dst) v) w) : wpAnyH P md ops Q S (fuel + 1) listed a w := by
  rw [← hd] at hQ h
  exact wpAnyH_take hi hs hf hr hQ hy hS h
theorem size_I : (Try.prog.info? 26).map (·.size) = some 9 := by kernel_rfl
theorem load_I {w : World} {g : Nat} {k ge li m s c o v : Nat} {A : Option Addr} {n cp : Nat} (h : w.heap[g]? = some (.cells #[.int .u32 (k : Int), .int .u32 (ge : Int), .int .u32 (li : Int), .int .u32 (m : Int), .int .u32 (s : Int), .int .u64 (c : Int), .int .u64 (o : Int), .int .u64 (v : Int), .slice A n cp] 26 (0, 0))) :
    (loadVar 26 ⟨g, 0, none⟩).run Try.prog w = .ok (.agg #[.int .u32 (k : Int), .int .u32 (ge : Int), .int .u32 (li : Int), .int .u32 (m : Int), .int .u32 (s : Int), .int .u64 (c : Int), .int .u64 (o : Int), .int .u64 (v : Int), .slice A n cp]) w :=
  run_loadVar_row (P := Try.prog) w g 26 26 #[.int .u32 (k : Int), .int .u32 (ge : Int), .int .u32 (li : Int), .int .u32 (m : Int), .int .u32 (s : Int), .int .u64 (c : Int), .int .u64 (o : Int), .int .u64 (v : Int), .slice A n cp] (0, 0) _ h Try.underlying26 rfl size_I
theorem I_cells {w : World} {g : Nat} {k ge li m s c o v : Nat} {A : Option Addr} {n cp : Nat} (h : w.heap[g]? = some (.cells #[.int .u32 (k : Int), .int .u32 (ge : Int), .int .u32 (li : Int), .int .u32 (m : Int), .int .u32 (s : Int), .int .u64 (c : Int), .int .u64 (o : Int), .int .u64 (v : Int), .slice A n cp] 26 (0, 0))) :
    w.cell? ⟨g, 0, none⟩ = some (.int .u32 (k : Int)) ∧ w.cell? ⟨g, 1, none⟩ = some (.int .u32 (ge : Int)) ∧ w.cell? ⟨g, 2, none⟩ = some (.int .u32 (li : Int)) ∧ w.cell? ⟨g, 3, none⟩ = some (.int .u32 (m : Int)) ∧
    w.cell? ⟨g, 4, none⟩ = some (.int .u32 (s : Int)) ∧ w.cell? ⟨g, 5, none⟩ = some (.int .u64 (c : Int)) ∧ w.cell? ⟨g, 6, none⟩ = some (.int .u64 (o : Int)) ∧ w.cell? ⟨g, 7, none⟩ = some (.int .u64 (v : Int)) ∧
    w.cell? ⟨g, 8, none⟩ = some (.slice A n cp) :=
  ⟨cell_of_row w g 0 _ _ (0, 0) h, cell_of_row w g 1 _ _ (0, 0) h, cell_of_row w g 2 _ _ (0, 0) h, cell_of_row w g 3 _ _ (0, 0) h, cell_of_row w g 4 _ _ (0, 0) h, cell_of_row w g 5 _ _ (0, 0) h, cell_of_row w g 6 _ _ (0, 0) h, cell_of_row w g 7 _ _ (0, 0) h, cell_of_row w g 8 _ _ (0, 0) h⟩
theorem NS.len {k : IntKind} {w : World} {A : Option Addr} {n : Nat} {xs : List Nat} (h : NS k w A n xs) : xs.length = n := h.1
/-- What Check asks first, of the fields. -/
def fitB (k s n : Nat) (d : Bool) : Bool := decide (k ≤ 3) && decide (s ≤ 768) && n == need s && d
/-- .. and behind it. -/
def useB (k li m s o v n : Nat) : Bool := if k = 0 then unB k li m s o v n else decide (li ≠ 0)
theorem okB_parts (k g li m s c o v : Nat) (xs : List Nat) : (Nd.mk k g li m s c o v xs).okB = (fitB k s xs.length (decide xs.Nodup) && useB k li m s o v xs.length) := rfl
theorem chk_no (k g li m s c o v : Nat) (xs : List Nat) (h : fitB k s xs.length (decide xs.Nodup) = false) : (Nd.mk k g li m s c o v xs).chk = 1 := by
  unfold Nd.chk
  rw [okB_parts, h]
  rfl
theorem chk_use (k g li m s c o v : Nat) (xs : List Nat) (h : fitB k s xs.length (decide xs.Nodup) = true) : (Nd.mk k g li m s c o v xs).chk = if useB k li m s o v xs.length then 0 else 1 := by
  unfold Nd.chk
  rw [okB_parts, h]
  rfl

set_option maxRecDepth 100000 in
set_option maxHeartbeats 4000000 in
theorem check_any (k g li m s c o v : Nat) (A : Option Addr) (n cp : Nat) (xs : List Nat) (w : World) (hw : (Nd.mk k g li m s c o v xs).Wide) (hx : NS .u32 w A n xs) (hn : n ≤ 1000000) :
    Calls Try.prog 13 #[(.agg #[.int .u32 (k : Int), .int .u32 (g : Int), .int .u32 (li : Int), .int .u32 (m : Int), .int .u32 (s : Int), .int .u64 (c : Int), .int .u64 (o : Int), .int .u64 (v : Int), .slice A n cp])] w fun e w' => e = .returned (.int .i64 (Nd.mk k g li m s c o v xs).chk) ∧ Below w.heap.size w w' := by
  have HW := Lib.hid hw
  have HX := Lib.hid hx
  have Hn := Lib.hid hx.1
  clear hw hx
  obtain ⟨w0, hw0⟩ : ∃ w0, w0 = w.alloc (.cells #[.int .u32 (k : Int), .int .u32 (g : Int), .int .u32 (li : Int), .int .u32 (m : Int), .int .u32 (s : Int), .int .u64 (c : Int), .int .u64 (o : Int), .int .u64 (v : Int), .slice A n cp] 26) := ⟨_, rfl⟩
  have hb0 : Below w.heap.size w w0 := by rw [hw0]; exact (Below.refl _ _).alloc (Nat.le_refl _) _
  have hg0 : w0.heap[w.heap.size]? = some (.cells #[.int .u32 (k : Int), .int .u32 (g : Int), .int .u32 (li : Int), .int .u32 (m : Int), .int .u32 (s : Int), .int .u64 (c : Int), .int .u64 (o : Int), .int .u64 (v : Int), .slice A n cp] 26 (0, 0)) := by rw [hw0]; exact heap_alloc_new w _
  have HB0 := Lib.hid hb0
  have HG0 := Lib.hid hg0
  have H0 := Lib.hid hw0
  have HX0 := Lib.hid (HX.out.below hb0)
  clear hb0 hg0 hw0
  by_cases h1 : 3 < k
  · have HE : Hid ((Nd.mk k g li m s c o v xs).chk = 1) := chk_no _ _ _ _ _ _ _ _ _ (by unfold fitB; rw [decide_eq_false (by omega)]; rfl)
    have d1 : decide ((3 : Int) < (k : Int)) = true := by simp; omega
    go_enter Try.func13, Try.ntmps13
    go_upto_region 1 with (fail)
    rw [← H0.out]
    have HS : Hid ((fun W : World => W.cell? ⟨w.heap.size, 0, none⟩ = some (.int .u32 (k : Int)) ∧ W.cell? ⟨w.heap.size, 4, none⟩ = some (.int .u32 (s : Int)) ∧ W.cell? ⟨w.heap.size, 8, none⟩ = some (.slice A n cp)) w0.drew) :=
      ⟨cell_of_row w0 _ 0 _ _ (0, 0) HG0.out, cell_of_row w0 _ 4 _ _ (0, 0) HG0.out, cell_of_row w0 _ 8 _ _ (0, 0) HG0.out⟩
    refine wp_region_held_drew (S := fun W => W.cell? ⟨w.heap.size, 0, none⟩ = some (.int .u32 (k : Int)) ∧ W.cell? ⟨w.heap.size, 4, none⟩ = some (.int .u32 (s : Int)) ∧ W.cell? ⟨w.heap.size, 8, none⟩ = some (.slice A n cp)) (by kernel_rfl) HS.out (fun _ => ?_)
    change wpAnyH _ _ _ _ _ 24 (Array.replicate 24 false) _ _
    refine takeH (i := 0) 3 (.pointer (some ⟨w.heap.size, 0, none⟩)) rfl rfl (by kernel_rfl) (by kernel_rfl) (by kernel_rfl) (fun _ _ _ h => h) (.inl ⟨by rfl, fun W hW => by go_simp⟩) HS.out ?_
    simp only [Act.put, List.setIfInBounds_toArray, List.set_cons_zero, List.set_cons_succ]
    refine takeH (i := 1) 4 (.int .u32 (k : Int)) rfl rfl (by kernel_rfl) (by kernel_rfl) (by kernel_rfl) (fun _ _ _ h => h) (.inl ⟨by rfl, fun W hW => by (obtain ⟨h0, h4, h8⟩ := hW; go_simp)⟩) HS.out ?_
    simp only [Act.put, List.setIfInBounds_toArray, List.set_cons_zero, List.set_cons_succ]
    refine takeH (i := 2) 5 (.bool true) rfl rfl (by kernel_rfl) (by kernel_rfl) (by kernel_rfl) (fun _ _ _ h => h) (.inl ⟨by rfl, fun W hW => by go_simp⟩) HS.out ?_
    simp only [Act.put, List.setIfInBounds_toArray, List.set_cons_zero, List.set_cons_succ]
    refine takeH (i := 3) 6 (.bool true) rfl rfl (by kernel_rfl) (by kernel_rfl) (by kernel_rfl) (fun _ _ _ h => h) (.inl ⟨by rfl, fun W hW => by go_simp⟩) HS.out ?_
    simp only [Act.put, List.setIfInBounds_toArray, List.set_cons_zero, List.set_cons_succ]
    refine takeH (i := 4) 7 undef rfl rfl (by kernel_rfl) (by kernel_rfl) (by kernel_rfl) (fun _ _ _ h => h) (.inr ⟨by rfl, rfl⟩) HS.out ?_
    simp only [Act.put, List.setIfInBounds_toArray, List.set_cons_zero, List.set_cons_succ]
    refine takeH (i := 5) 8 undef rfl rfl (by kernel_rfl) (by kernel_rfl) (by kernel_rfl) (fun _ _ _ h => h) (.inr ⟨by rfl, rfl⟩) HS.out ?_
    simp only [Act.put, List.setIfInBounds_toArray, List.set_cons_zero, List.set_cons_succ]
    refine takeH (i := 6) 9 undef rfl rfl (by kernel_rfl) (by kernel_rfl) (by kernel_rfl) (fun _ _ _ h => h) (.inr ⟨by rfl, rfl⟩) HS.out ?_
    simp only [Act.put, List.setIfInBounds_toArray, List.set_cons_zero, List.set_cons_succ]
    refine takeH (i := 7) 10 (.bool true) rfl rfl (by kernel_rfl) (by kernel_rfl) (by kernel_rfl) (fun _ _ _ h => h) (.inl ⟨by rfl, fun W hW => by go_simp⟩) HS.out ?_
    simp only [Act.put, List.setIfInBounds_toArray, List.set_cons_zero, List.set_cons_succ]
    refine takeH (i := 8) 11 (.bool true) rfl rfl (by kernel_rfl) (by kernel_rfl) (by kernel_rfl) (fun _ _ _ h => h) (.inl ⟨by rfl, fun W hW => by go_simp⟩) HS.out ?_
    simp only [Act.put, List.setIfInBounds_toArray, List.set_cons_zero, List.set_cons_succ]
    refine takeH (i := 9) 12 undef rfl rfl (by kernel_rfl) (by kernel_rfl) (by kernel_rfl) (fun _ _ _ h => h) (.inr ⟨by rfl, rfl⟩) HS.out ?_
    simp only [Act.put, List.setIfInBounds_toArray, List.set_cons_zero, List.set_cons_succ]
    refine takeH (i := 10) 13 undef rfl rfl (by kernel_rfl) (by kernel_rfl) (by kernel_rfl) (fun _ _ _ h => h) (.inr ⟨by rfl, rfl⟩) HS.out ?_
    simp only [Act.put, List.setIfInBounds_toArray, List.set_cons_zero, List.set_cons_succ]
    refine takeH (i := 11) 14 undef rfl rfl (by kernel_rfl) (by kernel_rfl) (by kernel_rfl) (fun _ _ _ h => h) (.inr ⟨by rfl, rfl⟩) HS.out ?_
    simp only [Act.put, List.setIfInBounds_toArray, List.set_cons_zero, List.set_cons_succ]
    refine takeH (i := 12) 15 undef rfl rfl (by kernel_rfl) (by kernel_rfl) (by kernel_rfl) (fun _ _ _ h => h) (.inr ⟨by rfl, rfl⟩) HS.out ?_
    simp only [Act.put, List.setIfInBounds_toArray, List.set_cons_zero, List.set_cons_succ]
    refine takeH (i := 13) 16 undef rfl rfl (by kernel_rfl) (by kernel_rfl) (by kernel_rfl) (fun _ _ _ h => h) (.inr ⟨by rfl, rfl⟩) HS.out ?_
    simp only [Act.put, List.setIfInBounds_toArray, List.set_cons_zero, List.set_cons_succ]
    refine takeH (i := 14) 17 undef rfl rfl (by kernel_rfl) (by kernel_rfl) (by kernel_rfl) (fun _ _ _ h => h) (.inr ⟨by rfl, rfl⟩) HS.out ?_
    simp only [Act.put, List.setIfInBounds_toArray, List.set_cons_zero, List.set_cons_succ]
    refine takeH (i := 15) 18 undef rfl rfl (by kernel_rfl) (by kernel_rfl) (by kernel_rfl) (fun _ _ _ h => h) (.inr ⟨by rfl, rfl⟩) HS.out ?_
    simp only [Act.put, List.setIfInBounds_toArray, List.set_cons_zero, List.set_cons_succ]
    refine takeH (i := 16) 19 undef rfl rfl (by kernel_rfl) (by kernel_rfl) (by kernel_rfl) (fun _ _ _ h => h) (.inr ⟨by rfl, rfl⟩) HS.out ?_
    simp only [Act.put, List.setIfInBounds_toArray, List.set_cons_zero, List.set_cons_succ]
    refine takeH (i := 17) 20 (.bool true) rfl rfl (by kernel_rfl) (by kernel_rfl) (by kernel_rfl) (fun _ _ _ h => h) (.inl ⟨by rfl, fun W hW => by go_simp⟩) HS.out ?_
    simp only [Act.put, List.setIfInBounds_toArray, List.set_cons_zero, List.set_cons_succ]
    refine takeH (i := 18) 21 (.bool true) rfl rfl (by kernel_rfl) (by kernel_rfl) (by kernel_rfl) (fun _ _ _ h => h) (.inl ⟨by rfl, fun W hW => by go_simp⟩) HS.out ?_
    simp only [Act.put, List.setIfInBounds_toArray, List.set_cons_zero, List.set_cons_succ]
    refine takeH (i := 19) 22 undef rfl rfl (by kernel_rfl) (by kernel_rfl) (by kernel_rfl) (fun _ _ _ h => h) (.inr ⟨by rfl, rfl⟩) HS.out ?_
    simp only [Act.put, List.setIfInBounds_toArray, List.set_cons_zero, List.set_cons_succ]
    refine takeH (i := 20) 23 undef rfl rfl (by kernel_rfl) (by kernel_rfl) (by kernel_rfl) (fun _ _ _ h => h) (.inr ⟨by rfl, rfl⟩) HS.out ?_
    simp only [Act.put, List.setIfInBounds_toArray, List.set_cons_zero, List.set_cons_succ]
    refine takeH (i := 21) 24 undef rfl rfl (by kernel_rfl) (by kernel_rfl) (by kernel_rfl) (fun _ _ _ h => h) (.inr ⟨by rfl, rfl⟩) HS.out ?_
    simp only [Act.put, List.setIfInBounds_toArray, List.set_cons_zero, List.set_cons_succ]
    refine takeH (i := 22) 25 undef rfl rfl (by kernel_rfl) (by kernel_rfl) (by kernel_rfl) (fun _ _ _ h => h) (.inr ⟨by rfl, rfl⟩) HS.out ?_
    simp only [Act.put, List.setIfInBounds_toArray, List.set_cons_zero, List.set_cons_succ]
    refine takeH (i := 23) 26 (.bool true) rfl rfl (by kernel_rfl) (by kernel_rfl) (by kernel_rfl) (fun _ _ _ h => h) (.inl ⟨by rfl, fun W hW => by go_simp⟩) HS.out ?_
    simp only [Act.put, List.setIfInBounds_toArray, List.set_cons_zero, List.set_cons_succ]
    refine wpAnyH_done (by kernel_rfl) ?_ _
    go_wp2
    go_ret
    rw [HE.out]
    exact ⟨rfl, HB0.out.drew⟩
  have d1 : decide ((3 : Int) < (k : Int)) = false := by simp; omega
  by_cases h2 : 768 < s
  · have HE : Hid ((Nd.mk k g li m s c o v xs).chk = 1) := chk_no _ _ _ _ _ _ _ _ _ (by unfold fitB; rw [decide_eq_false (p := s ≤ 768) (by omega), Bool.and_false]; rfl)
    have d2 : decide ((768 : Int) < (s : Int)) = true := by simp; omega
    go_enter Try.func13, Try.ntmps13
    go_upto_region 1 with (fail)
    rw [← H0.out]
    have HS : Hid ((fun W : World => W.cell? ⟨w.heap.size, 0, none⟩ = some (.int .u32 (k : Int)) ∧ W.cell? ⟨w.heap.size, 4, none⟩ = some (.int .u32 (s : Int)) ∧ W.cell? ⟨w.heap.size, 8, none⟩ = some (.slice A n cp)) w0.drew) :=
      ⟨cell_of_row w0 _ 0 _ _ (0, 0) HG0.out, cell_of_row w0 _ 4 _ _ (0, 0) HG0.out, cell_of_row w0 _ 8 _ _ (0, 0) HG0.out⟩
    refine wp_region_held_drew (S := fun W => W.cell? ⟨w.heap.size, 0, none⟩ = some (.int .u32 (k : Int)) ∧ W.cell? ⟨w.heap.size, 4, none⟩ = some (.int .u32 (s : Int)) ∧ W.cell? ⟨w.heap.size, 8, none⟩ = some (.slice A n cp)) (by kernel_rfl) HS.out (fun _ => ?_)
    change wpAnyH _ _ _ _ _ 24 (Array.replicate 24 false) _ _
    refine takeH (i := 0) 3 (.pointer (some ⟨w.heap.size, 0, none⟩)) rfl rfl (by kernel_rfl) (by kernel_rfl) (by kernel_rfl) (fun _ _ _ h => h) (.inl ⟨by rfl, fun W hW => by go_simp⟩) HS.out ?_
    simp only [Act.put, List.setIfInBounds_toArray, List.set_cons_zero, List.set_cons_succ]
    refine takeH (i := 1) 4 (.int .u32 (k : Int)) rfl rfl (by kernel_rfl) (by kernel_rfl) (by kernel_rfl) (fun _ _ _ h => h) (.inl ⟨by rfl, fun W hW => by (obtain ⟨h0, h4, h8⟩ := hW; go_simp)⟩) HS.out ?_
    simp only [Act.put, List.setIfInBounds_toArray, List.set_cons_zero, List.set_cons_succ]
    refine takeH (i := 2) 5 (.bool false) rfl rfl (by kernel_rfl) (by kernel_rfl) (by kernel_rfl) (fun _ _ _ h => h) (.inl ⟨by rfl, fun W hW => by go_simp⟩) HS.out ?_
    simp only [Act.put, List.setIfInBounds_toArray, List.set_cons_zero, List.set_cons_succ]
    refine takeH (i := 3) 6 (.bool false) rfl rfl (by kernel_rfl) (by kernel_rfl) (by kernel_rfl) (fun _ _ _ h => h) (.inl ⟨by rfl, fun W hW => by go_simp⟩) HS.out ?_
    simp only [Act.put, List.setIfInBounds_toArray, List.set_cons_zero, List.set_cons_succ]
    refine takeH (i := 4) 7 (.pointer (some ⟨w.heap.size, 4, none⟩)) rfl rfl (by kernel_rfl) (by kernel_rfl) (by kernel_rfl) (fun _ _ _ h => h) (.inl ⟨by rfl, fun W hW => by go_simp⟩) HS.out ?_
    simp only [Act.put, List.setIfInBounds_toArray, List.set_cons_zero, List.set_cons_succ]
    refine takeH (i := 5) 8 (.int .u32 (s : Int)) rfl rfl (by kernel_rfl) (by kernel_rfl) (by kernel_rfl) (fun _ _ _ h => h) (.inl ⟨by rfl, fun W hW => by (obtain ⟨h0, h4, h8⟩ := hW; go_simp)⟩) HS.out ?_
    simp only [Act.put, List.setIfInBounds_toArray, List.set_cons_zero, List.set_cons_succ]
    refine takeH (i := 6) 9 (.bool true) rfl rfl (by kernel_rfl) (by kernel_rfl) (by kernel_rfl) (fun _ _ _ h => h) (.inl ⟨by rfl, fun W hW => by go_simp⟩) HS.out ?_
    simp only [Act.put, List.setIfInBounds_toArray, List.set_cons_zero, List.set_cons_succ]
    refine takeH (i := 7) 10 (.bool true) rfl rfl (by kernel_rfl) (by kernel_rfl) (by kernel_rfl) (fun _ _ _ h => h) (.inl ⟨by rfl, fun W hW => by go_simp⟩) HS.out ?_
    simp only [Act.put, List.setIfInBounds_toArray, List.set_cons_zero, List.set_cons_succ]
    refine takeH (i := 8) 11 (.bool true) rfl rfl (by kernel_rfl) (by kernel_rfl) (by kernel_rfl) (fun _ _ _ h => h) (.inl ⟨by rfl, fun W hW => by go_simp⟩) HS.out ?_
    simp only [Act.put, List.setIfInBounds_toArray, List.set_cons_zero, List.set_cons_succ]
    refine takeH (i := 9) 12 undef rfl rfl (by kernel_rfl) (by kernel_rfl) (by kernel_rfl) (fun _ _ _ h => h) (.inr ⟨by rfl, rfl⟩) HS.out ?_
    simp only [Act.put, List.setIfInBounds_toArray, List.set_cons_zero, List.set_cons_succ]
    refine takeH (i := 10) 13 undef rfl rfl (by kernel_rfl) (by kernel_rfl) (by kernel_rfl) (fun _ _ _ h => h) (.inr ⟨by rfl, rfl⟩) HS.out ?_
    simp only [Act.put, List.setIfInBounds_toArray, List.set_cons_zero, List.set_cons_succ]
    refine takeH (i := 11) 14 undef rfl rfl (by kernel_rfl) (by kernel_rfl) (by kernel_rfl) (fun _ _ _ h => h) (.inr ⟨by rfl, rfl⟩) HS.out ?_
    simp only [Act.put, List.setIfInBounds_toArray, List.set_cons_zero, List.set_cons_succ]
    refine takeH (i := 12) 15 undef rfl rfl (by kernel_rfl) (by kernel_rfl) (by kernel_rfl) (fun _ _ _ h => h) (.inr ⟨by rfl, rfl⟩) HS.out ?_
    simp only [Act.put, List.setIfInBounds_toArray, List.set_cons_zero, List.set_cons_succ]
    refine takeH (i := 13) 16 undef rfl rfl (by kernel_rfl) (by kernel_rfl) (by kernel_rfl) (fun _ _ _ h => h) (.inr ⟨by rfl, rfl⟩) HS.out ?_
    simp only [Act.put, List.setIfInBounds_toArray, List.set_cons_zero, List.set_cons_succ]
    refine takeH (i := 14) 17 undef rfl rfl (by kernel_rfl) (by kernel_rfl) (by kernel_rfl) (fun _ _ _ h => h) (.inr ⟨by rfl, rfl⟩) HS.out ?_
    simp only [Act.put, List.setIfInBounds_toArray, List.set_cons_zero, List.set_cons_succ]
    refine takeH (i := 15) 18 undef rfl rfl (by kernel_rfl) (by kernel_rfl) (by kernel_rfl) (fun _ _ _ h => h) (.inr ⟨by rfl, rfl⟩) HS.out ?_
    simp only [Act.put, List.setIfInBounds_toArray, List.set_cons_zero, List.set_cons_succ]
    refine takeH (i := 16) 19 undef rfl rfl (by kernel_rfl) (by kernel_rfl) (by kernel_rfl) (fun _ _ _ h => h) (.inr ⟨by rfl, rfl⟩) HS.out ?_
    simp only [Act.put, List.setIfInBounds_toArray, List.set_cons_zero, List.set_cons_succ]
    refine takeH (i := 17) 20 (.bool true) rfl rfl (by kernel_rfl) (by kernel_rfl) (by kernel_rfl) (fun _ _ _ h => h) (.inl ⟨by rfl, fun W hW => by go_simp⟩) HS.out ?_
    simp only [Act.put, List.setIfInBounds_toArray, List.set_cons_zero, List.set_cons_succ]
    refine takeH (i := 18) 21 (.bool true) rfl rfl (by kernel_rfl) (by kernel_rfl) (by kernel_rfl) (fun _ _ _ h => h) (.inl ⟨by rfl, fun W hW => by go_simp⟩) HS.out ?_
    simp only [Act.put, List.setIfInBounds_toArray, List.set_cons_zero, List.set_cons_succ]
    refine takeH (i := 19) 22 undef rfl rfl (by kernel_rfl) (by kernel_rfl) (by kernel_rfl) (fun _ _ _ h => h) (.inr ⟨by rfl, rfl⟩) HS.out ?_
    simp only [Act.put, List.setIfInBounds_toArray, List.set_cons_zero, List.set_cons_succ]
    refine takeH (i := 20) 23 undef rfl rfl (by kernel_rfl) (by kernel_rfl) (by kernel_rfl) (fun _ _ _ h => h) (.inr ⟨by rfl, rfl⟩) HS.out ?_
    simp only [Act.put, List.setIfInBounds_toArray, List.set_cons_zero, List.set_cons_succ]
    refine takeH (i := 21) 24 undef rfl rfl (by kernel_rfl) (by kernel_rfl) (by kernel_rfl) (fun _ _ _ h => h) (.inr ⟨by rfl, rfl⟩) HS.out ?_
    simp only [Act.put, List.setIfInBounds_toArray, List.set_cons_zero, List.set_cons_succ]
    refine takeH (i := 22) 25 undef rfl rfl (by kernel_rfl) (by kernel_rfl) (by kernel_rfl) (fun _ _ _ h => h) (.inr ⟨by rfl, rfl⟩) HS.out ?_
    simp only [Act.put, List.setIfInBounds_toArray, List.set_cons_zero, List.set_cons_succ]
    refine takeH (i := 23) 26 (.bool true) rfl rfl (by kernel_rfl) (by kernel_rfl) (by kernel_rfl) (fun _ _ _ h => h) (.inl ⟨by rfl, fun W hW => by go_simp⟩) HS.out ?_
    simp only [Act.put, List.setIfInBounds_toArray, List.set_cons_zero, List.set_cons_succ]
    refine wpAnyH_done (by kernel_rfl) ?_ _
    go_wp2
    go_ret
    rw [HE.out]
    exact ⟨rfl, HB0.out.drew⟩
  have d2 : decide ((768 : Int) < (s : Int)) = false := by simp; omega
  have ws : IntKind.i64.wrap (s : Int) = (s : Int) := IntWalk.i64_in _ (by omega)
  by_cases h3 : n = need s
  rotate_left
  · have HE : Hid ((Nd.mk k g li m s c o v xs).chk = 1) := chk_no _ _ _ _ _ _ _ _ _ (by unfold fitB; rw [Hn.out, show (n == need s) = false by simpa using h3, Bool.and_false]; rfl)
    have d3 : ((n : Int) != (need s : Int)) = true := by simp; omega
    clear h3
    go_enter Try.func13, Try.ntmps13
    go_upto_region 1 with (fail)
    rw [← H0.out]
    have HS : Hid ((fun W : World => W.cell? ⟨w.heap.size, 0, none⟩ = some (.int .u32 (k : Int)) ∧ W.cell? ⟨w.heap.size, 4, none⟩ = some (.int .u32 (s : Int)) ∧ W.cell? ⟨w.heap.size, 8, none⟩ = some (.slice A n cp)) w0.drew) :=
      ⟨cell_of_row w0 _ 0 _ _ (0, 0) HG0.out, cell_of_row w0 _ 4 _ _ (0, 0) HG0.out, cell_of_row w0 _ 8 _ _ (0, 0) HG0.out⟩
    refine wp_region_held_drew (S := fun W => W.cell? ⟨w.heap.size, 0, none⟩ = some (.int .u32 (k : Int)) ∧ W.cell? ⟨w.heap.size, 4, none⟩ = some (.int .u32 (s : Int)) ∧ W.cell? ⟨w.heap.size, 8, none⟩ = some (.slice A n cp)) (by kernel_rfl) HS.out (fun _ => ?_)
    change wpAnyH _ _ _ _ _ 24 (Array.replicate 24 false) _ _
    refine takeH (i := 0) 3 (.pointer (some ⟨w.heap.size, 0, none⟩)) rfl rfl (by kernel_rfl) (by kernel_rfl) (by kernel_rfl) (fun _ _ _ h => h) (.inl ⟨by rfl, fun W hW => by go_simp⟩) HS.out ?_
    simp only [Act.put, List.setIfInBounds_toArray, List.set_cons_zero, List.set_cons_succ]
    refine takeH (i := 1) 4 (.int .u32 (k : Int)) rfl rfl (by kernel_rfl) (by kernel_rfl) (by kernel_rfl) (fun _ _ _ h => h) (.inl ⟨by rfl, fun W hW => by (obtain ⟨h0, h4, h8⟩ := hW; go_simp)⟩) HS.out ?_
    simp only [Act.put, List.setIfInBounds_toArray, List.set_cons_zero, List.set_cons_succ]
    refine takeH (i := 2) 5 (.bool false) rfl rfl (by kernel_rfl) (by kernel_rfl) (by kernel_rfl) (fun _ _ _ h => h) (.inl ⟨by rfl, fun W hW => by go_simp⟩) HS.out ?_
    simp only [Act.put, List.setIfInBounds_toArray, List.set_cons_zero, List.set_cons_succ]
    refine takeH (i := 3) 6 (.bool false) rfl rfl (by kernel_rfl) (by kernel_rfl) (by kernel_rfl) (fun _ _ _ h => h) (.inl ⟨by rfl, fun W hW => by go_simp⟩) HS.out ?_
    simp only [Act.put, List.setIfInBounds_toArray, List.set_cons_zero, List.set_cons_succ]
    refine takeH (i := 4) 7 (.pointer (some ⟨w.heap.size, 4, none⟩)) rfl rfl (by kernel_rfl) (by kernel_rfl) (by kernel_rfl) (fun _ _ _ h => h) (.inl ⟨by rfl, fun W hW => by go_simp⟩) HS.out ?_
    simp only [Act.put, List.setIfInBounds_toArray, List.set_cons_zero, List.set_cons_succ]
    refine takeH (i := 5) 8 (.int .u32 (s : Int)) rfl rfl (by kernel_rfl) (by kernel_rfl) (by kernel_rfl) (fun _ _ _ h => h) (.inl ⟨by rfl, fun W hW => by (obtain ⟨h0, h4, h8⟩ := hW; go_simp)⟩) HS.out ?_
    simp only [Act.put, List.setIfInBounds_toArray, List.set_cons_zero, List.set_cons_succ]
    refine takeH (i := 6) 9 (.bool false) rfl rfl (by kernel_rfl) (by kernel_rfl) (by kernel_rfl) (fun _ _ _ h => h) (.inl ⟨by rfl, fun W hW => by go_simp⟩) HS.out ?_
    simp only [Act.put, List.setIfInBounds_toArray, List.set_cons_zero, List.set_cons_succ]
    refine takeH (i := 7) 10 (.bool false) rfl rfl (by kernel_rfl) (by kernel_rfl) (by kernel_rfl) (fun _ _ _ h => h) (.inl ⟨by rfl, fun W hW => by go_simp⟩) HS.out ?_
    simp only [Act.put, List.setIfInBounds_toArray, List.set_cons_zero, List.set_cons_succ]
    refine takeH (i := 8) 11 (.bool false) rfl rfl (by kernel_rfl) (by kernel_rfl) (by kernel_rfl) (fun _ _ _ h => h) (.inl ⟨by rfl, fun W hW => by go_simp⟩) HS.out ?_
    simp only [Act.put, List.setIfInBounds_toArray, List.set_cons_zero, List.set_cons_succ]
    refine takeH (i := 9) 12 (.pointer (some ⟨w.heap.size, 8, none⟩)) rfl rfl (by kernel_rfl) (by kernel_rfl) (by kernel_rfl) (fun _ _ _ h => h) (.inl ⟨by rfl, fun W hW => by go_simp⟩) HS.out ?_
    simp only [Act.put, List.setIfInBounds_toArray, List.set_cons_zero, List.set_cons_succ]
    refine takeH (i := 10) 13 (.slice A n cp) rfl rfl (by kernel_rfl) (by kernel_rfl) (by kernel_rfl) (fun _ _ _ h => h) (.inl ⟨by rfl, fun W hW => by (obtain ⟨h0, h4, h8⟩ := hW; go_simp)⟩) HS.out ?_
    simp only [Act.put, List.setIfInBounds_toArray, List.set_cons_zero, List.set_cons_succ]
    refine takeH (i := 11) 14 (.int .i64 (n : Int)) rfl rfl (by kernel_rfl) (by kernel_rfl) (by kernel_rfl) (fun _ _ _ h => h) (.inl ⟨by rfl, fun W hW => by go_simp⟩) HS.out ?_
    simp only [Act.put, List.setIfInBounds_toArray, List.set_cons_zero, List.set_cons_succ]
    refine takeH (i := 12) 15 (.pointer (some ⟨w.heap.size, 4, none⟩)) rfl rfl (by kernel_rfl) (by kernel_rfl) (by kernel_rfl) (fun _ _ _ h => h) (.inl ⟨by rfl, fun W hW => by go_simp⟩) HS.out ?_
    simp only [Act.put, List.setIfInBounds_toArray, List.set_cons_zero, List.set_cons_succ]
    refine takeH (i := 13) 16 (.int .u32 (s : Int)) rfl rfl (by kernel_rfl) (by kernel_rfl) (by kernel_rfl) (fun _ _ _ h => h) (.inl ⟨by rfl, fun W hW => by (obtain ⟨h0, h4, h8⟩ := hW; go_simp)⟩) HS.out ?_
    simp only [Act.put, List.setIfInBounds_toArray, List.set_cons_zero, List.set_cons_succ]
    refine takeH (i := 14) 17 (.int .i64 (s : Int)) rfl rfl (by kernel_rfl) (by kernel_rfl) (by kernel_rfl) (fun _ _ _ h => h) (.inl ⟨by rfl, fun W hW => by go_simp⟩) HS.out ?_
    simp only [Act.put, List.setIfInBounds_toArray, List.set_cons_zero, List.set_cons_succ]
    refine wpAnyH_ready (rs := [15]) (by kernel_rfl) (by simp) ?_
    refine AllReadyH.cons rfl (fun K hK => ?_) AllReadyH.nil
    go_simp
    refine (need_any (s : Int) w0.drew (by omega) (by omega)).mono ?_
    rintro e w1 ⟨rfl, rfl⟩
    rw [needI_nat]
    refine hK.out _ _ HS.out fun _ => ?_
    clear hK K
    refine takeH (i := 16) 19 (.bool true) rfl rfl (by kernel_rfl) (by kernel_rfl) (by kernel_rfl) (fun _ _ _ h => h) (.inl ⟨by rfl, fun W hW => by go_simp⟩) HS.out ?_
    simp only [Act.put, List.setIfInBounds_toArray, List.set_cons_zero, List.set_cons_succ]
    refine takeH (i := 17) 20 (.bool true) rfl rfl (by kernel_rfl) (by kernel_rfl) (by kernel_rfl) (fun _ _ _ h => h) (.inl ⟨by rfl, fun W hW => by go_simp⟩) HS.out ?_
    simp only [Act.put, List.setIfInBounds_toArray, List.set_cons_zero, List.set_cons_succ]
    refine takeH (i := 18) 21 (.bool true) rfl rfl (by kernel_rfl) (by kernel_rfl) (by kernel_rfl) (fun _ _ _ h => h) (.inl ⟨by rfl, fun W hW => by go_simp⟩) HS.out ?_
    simp only [Act.put, List.setIfInBounds_toArray, List.set_cons_zero, List.set_cons_succ]
    refine takeH (i := 19) 22 undef rfl rfl (by kernel_rfl) (by kernel_rfl) (by kernel_rfl) (fun _ _ _ h => h) (.inr ⟨by rfl, rfl⟩) HS.out ?_
    simp only [Act.put, List.setIfInBounds_toArray, List.set_cons_zero, List.set_cons_succ]
    refine takeH (i := 20) 23 undef rfl rfl (by kernel_rfl) (by kernel_rfl) (by kernel_rfl) (fun _ _ _ h => h) (.inr ⟨by rfl, rfl⟩) HS.out ?_
    simp only [Act.put, List.setIfInBounds_toArray, List.set_cons_zero, List.set_cons_succ]
    refine takeH (i := 21) 24 undef rfl rfl (by kernel_rfl) (by kernel_rfl) (by kernel_rfl) (fun _ _ _ h => h) (.inr ⟨by rfl, rfl⟩) HS.out ?_
    simp only [Act.put, List.setIfInBounds_toArray, List.set_cons_zero, List.set_cons_succ]
    refine takeH (i := 22) 25 undef rfl rfl (by kernel_rfl) (by kernel_rfl) (by kernel_rfl) (fun _ _ _ h => h) (.inr ⟨by rfl, rfl⟩) HS.out ?_
    simp only [Act.put, List.setIfInBounds_toArray, List.set_cons_zero, List.set_cons_succ]
    refine takeH (i := 23) 26 (.bool true) rfl rfl (by kernel_rfl) (by kernel_rfl) (by kernel_rfl) (fun _ _ _ h => h) (.inl ⟨by rfl, fun W hW => by go_simp⟩) HS.out ?_
    simp only [Act.put, List.setIfInBounds_toArray, List.set_cons_zero, List.set_cons_succ]
    refine wpAnyH_done (by kernel_rfl) ?_ _
    go_wp2
    go_ret
    rw [HE.out]
    exact ⟨rfl, HB0.out.drew⟩
  have d3 : ((n : Int) != (need s : Int)) = false := by simp; omega
  have HD := Lib.hid (distinct_any A n cp xs w0.drew (HX0.out) HW.out.b hn)
  have HF : Hid (fitB k s xs.length (decide xs.Nodup) = decide xs.Nodup) := by
    show _ = _
    unfold fitB
    rw [decide_eq_true (p := k ≤ 3) (by omega), decide_eq_true (p := s ≤ 768) (by omega), Hn.out, show (n == need s) = true by simpa using h3]
    rfl
  have HCN : Hid (decide xs.Nodup = false → (Nd.mk k g li m s c o v xs).chk = 1) := fun h => chk_no _ _ _ _ _ _ _ _ _ (by rw [HF.out, h])
  have HCY : Hid (decide xs.Nodup = true → (Nd.mk k g li m s c o v xs).chk = if useB k li m s o v n then 0 else 1) := fun h => by rw [chk_use _ _ _ _ _ _ _ _ _ (by rw [HF.out, h]), Hn.out]
  clear h3 HF
  generalize decide xs.Nodup = dup at *
  generalize (Nd.mk k g li m s c o v xs).chk = z at *
  go_enter Try.func13, Try.ntmps13
  go_upto_region 1 with (fail)
  rw [← H0.out]
  have HS : Hid ((fun W : World => W.cell? ⟨w.heap.size, 0, none⟩ = some (.int .u32 (k : Int)) ∧ W.cell? ⟨w.heap.size, 4, none⟩ = some (.int .u32 (s : Int)) ∧ W.cell? ⟨w.heap.size, 8, none⟩ = some (.slice A n cp)) w0.drew) :=
    ⟨cell_of_row w0 _ 0 _ _ (0, 0) HG0.out, cell_of_row w0 _ 4 _ _ (0, 0) HG0.out, cell_of_row w0 _ 8 _ _ (0, 0) HG0.out⟩
  refine wp_region_held_drew (S := fun W => W.cell? ⟨w.heap.size, 0, none⟩ = some (.int .u32 (k : Int)) ∧ W.cell? ⟨w.heap.size, 4, none⟩ = some (.int .u32 (s : Int)) ∧ W.cell? ⟨w.heap.size, 8, none⟩ = some (.slice A n cp)) (by kernel_rfl) HS.out (fun _ => ?_)
  change wpAnyH _ _ _ _ _ 24 (Array.replicate 24 false) _ _
  refine takeH (i := 0) 3 (.pointer (some ⟨w.heap.size, 0, none⟩)) rfl rfl (by kernel_rfl) (by kernel_rfl) (by kernel_rfl) (fun _ _ _ h => h) (.inl ⟨by rfl, fun W hW => by go_simp⟩) HS.out ?_
  simp only [Act.put, List.setIfInBounds_toArray, List.set_cons_zero, List.set_cons_succ]
  refine takeH (i := 1) 4 (.int .u32 (k : Int)) rfl rfl (by kernel_rfl) (by kernel_rfl) (by kernel_rfl) (fun _ _ _ h => h) (.inl ⟨by rfl, fun W hW => by (obtain ⟨h0, h4, h8⟩ := hW; go_simp)⟩) HS.out ?_
  simp only [Act.put, List.setIfInBounds_toArray, List.set_cons_zero, List.set_cons_succ]
  refine takeH (i := 2) 5 (.bool false) rfl rfl (by kernel_rfl) (by kernel_rfl) (by kernel_rfl) (fun _ _ _ h => h) (.inl ⟨by rfl, fun W hW => by go_simp⟩) HS.out ?_
  simp only [Act.put, List.setIfInBounds_toArray, List.set_cons_zero, List.set_cons_succ]
  refine takeH (i := 3) 6 (.bool false) rfl rfl (by kernel_rfl) (by kernel_rfl) (by kernel_rfl) (fun _ _ _ h => h) (.inl ⟨by rfl, fun W hW => by go_simp⟩) HS.out ?_
  simp only [Act.put, List.setIfInBounds_toArray, List.set_cons_zero, List.set_cons_succ]
  refine takeH (i := 4) 7 (.pointer (some ⟨w.heap.size, 4, none⟩)) rfl rfl (by kernel_rfl) (by kernel_rfl) (by kernel_rfl) (fun _ _ _ h => h) (.inl ⟨by rfl, fun W hW => by go_simp⟩) HS.out ?_
  simp only [Act.put, List.setIfInBounds_toArray, List.set_cons_zero, List.set_cons_succ]
  refine takeH (i := 5) 8 (.int .u32 (s : Int)) rfl rfl (by kernel_rfl) (by kernel_rfl) (by kernel_rfl) (fun _ _ _ h => h) (.inl ⟨by rfl, fun W hW => by (obtain ⟨h0, h4, h8⟩ := hW; go_simp)⟩) HS.out ?_
  simp only [Act.put, List.setIfInBounds_toArray, List.set_cons_zero, List.set_cons_succ]
  refine takeH (i := 6) 9 (.bool false) rfl rfl (by kernel_rfl) (by kernel_rfl) (by kernel_rfl) (fun _ _ _ h => h) (.inl ⟨by rfl, fun W hW => by go_simp⟩) HS.out ?_
  simp only [Act.put, List.setIfInBounds_toArray, List.set_cons_zero, List.set_cons_succ]
  refine takeH (i := 7) 10 (.bool false) rfl rfl (by kernel_rfl) (by kernel_rfl) (by kernel_rfl) (fun _ _ _ h => h) (.inl ⟨by rfl, fun W hW => by go_simp⟩) HS.out ?_
  simp only [Act.put, List.setIfInBounds_toArray, List.set_cons_zero, List.set_cons_succ]
  refine takeH (i := 8) 11 (.bool false) rfl rfl (by kernel_rfl) (by kernel_rfl) (by kernel_rfl) (fun _ _ _ h => h) (.inl ⟨by rfl, fun W hW => by go_simp⟩) HS.out ?_
  simp only [Act.put, List.setIfInBounds_toArray, List.set_cons_zero, List.set_cons_succ]
  refine takeH (i := 9) 12 (.pointer (some ⟨w.heap.size, 8, none⟩)) rfl rfl (by kernel_rfl) (by kernel_rfl) (by kernel_rfl) (fun _ _ _ h => h) (.inl ⟨by rfl, fun W hW => by go_simp⟩) HS.out ?_
  simp only [Act.put, List.setIfInBounds_toArray, List.set_cons_zero, List.set_cons_succ]
  refine takeH (i := 10) 13 (.slice A n cp) rfl rfl (by kernel_rfl) (by kernel_rfl) (by kernel_rfl) (fun _ _ _ h => h) (.inl ⟨by rfl, fun W hW => by (obtain ⟨h0, h4, h8⟩ := hW; go_simp)⟩) HS.out ?_
  simp only [Act.put, List.setIfInBounds_toArray, List.set_cons_zero, List.set_cons_succ]
  refine takeH (i := 11) 14 (.int .i64 (n : Int)) rfl rfl (by kernel_rfl) (by kernel_rfl) (by kernel_rfl) (fun _ _ _ h => h) (.inl ⟨by rfl, fun W hW => by go_simp⟩) HS.out ?_
  simp only [Act.put, List.setIfInBounds_toArray, List.set_cons_zero, List.set_cons_succ]
  refine takeH (i := 12) 15 (.pointer (some ⟨w.heap.size, 4, none⟩)) rfl rfl (by kernel_rfl) (by kernel_rfl) (by kernel_rfl) (fun _ _ _ h => h) (.inl ⟨by rfl, fun W hW => by go_simp⟩) HS.out ?_
  simp only [Act.put, List.setIfInBounds_toArray, List.set_cons_zero, List.set_cons_succ]
  refine takeH (i := 13) 16 (.int .u32 (s : Int)) rfl rfl (by kernel_rfl) (by kernel_rfl) (by kernel_rfl) (fun _ _ _ h => h) (.inl ⟨by rfl, fun W hW => by (obtain ⟨h0, h4, h8⟩ := hW; go_simp)⟩) HS.out ?_
  simp only [Act.put, List.setIfInBounds_toArray, List.set_cons_zero, List.set_cons_succ]
  refine takeH (i := 14) 17 (.int .i64 (s : Int)) rfl rfl (by kernel_rfl) (by kernel_rfl) (by kernel_rfl) (fun _ _ _ h => h) (.inl ⟨by rfl, fun W hW => by go_simp⟩) HS.out ?_
  simp only [Act.put, List.setIfInBounds_toArray, List.set_cons_zero, List.set_cons_succ]
  refine wpAnyH_ready (rs := [15]) (by kernel_rfl) (by simp) ?_
  refine AllReadyH.cons rfl (fun K hK => ?_) AllReadyH.nil
  go_simp
  refine (need_any (s : Int) w0.drew (by omega) (by omega)).mono ?_
  rintro e w1 ⟨rfl, rfl⟩
  rw [needI_nat]
  refine hK.out _ _ HS.out fun _ => ?_
  clear hK K
  refine takeH (i := 16) 19 (.bool false) rfl rfl (by kernel_rfl) (by kernel_rfl) (by kernel_rfl) (fun _ _ _ h => h) (.inl ⟨by rfl, fun W hW => by go_simp⟩) HS.out ?_
  simp only [Act.put, List.setIfInBounds_toArray, List.set_cons_zero, List.set_cons_succ]
  refine takeH (i := 17) 20 (.bool false) rfl rfl (by kernel_rfl) (by kernel_rfl) (by kernel_rfl) (fun _ _ _ h => h) (.inl ⟨by rfl, fun W hW => by go_simp⟩) HS.out ?_
  simp only [Act.put, List.setIfInBounds_toArray, List.set_cons_zero, List.set_cons_succ]
  refine takeH (i := 18) 21 (.bool false) rfl rfl (by kernel_rfl) (by kernel_rfl) (by kernel_rfl) (fun _ _ _ h => h) (.inl ⟨by rfl, fun W hW => by go_simp⟩) HS.out ?_
  simp only [Act.put, List.setIfInBounds_toArray, List.set_cons_zero, List.set_cons_succ]
  refine takeH (i := 19) 22 (.pointer (some ⟨w.heap.size, 8, none⟩)) rfl rfl (by kernel_rfl) (by kernel_rfl) (by kernel_rfl) (fun _ _ _ h => h) (.inl ⟨by rfl, fun W hW => by go_simp⟩) HS.out ?_
  simp only [Act.put, List.setIfInBounds_toArray, List.set_cons_zero, List.set_cons_succ]
  refine takeH (i := 20) 23 (.slice A n cp) rfl rfl (by kernel_rfl) (by kernel_rfl) (by kernel_rfl) (fun _ _ _ h => h) (.inl ⟨by rfl, fun W hW => by (obtain ⟨h0, h4, h8⟩ := hW; go_simp)⟩) HS.out ?_
  simp only [Act.put, List.setIfInBounds_toArray, List.set_cons_zero, List.set_cons_succ]
  refine wpAnyH_ready (rs := [21]) (by kernel_rfl) (by simp) ?_
  refine AllReadyH.cons rfl (fun K hK => ?_) AllReadyH.nil
  go_simp
  refine (HD.out).mono ?_
  rintro e w1 ⟨rfl, hb1⟩
  have HB1 := Lib.hid hb1
  have HG1 : Hid (w1.heap[w.heap.size]? = some (.cells #[.int .u32 (k : Int), .int .u32 (g : Int), .int .u32 (li : Int), .int .u32 (m : Int), .int .u32 (s : Int), .int .u64 (c : Int), .int .u64 (o : Int), .int .u64 (v : Int), .slice A n cp] 26 (0, 0))) := (hb1.block _ (by have := HG0.out; rcases Nat.lt_or_ge w.heap.size w0.heap.size with h | h; exact h; rw [Array.getElem?_eq_none h] at this; cases this)).trans HG0.out
  have HS1 : Hid (w1.cell? ⟨w.heap.size, 0, none⟩ = some (.int .u32 (k : Int)) ∧ w1.cell? ⟨w.heap.size, 4, none⟩ = some (.int .u32 (s : Int)) ∧ w1.cell? ⟨w.heap.size, 8, none⟩ = some (.slice A n cp)) :=
    ⟨cell_of_row w1 _ 0 _ _ (0, 0) HG1.out, cell_of_row w1 _ 4 _ _ (0, 0) HG1.out, cell_of_row w1 _ 8 _ _ (0, 0) HG1.out⟩
  refine hK.out _ _ HS1.out fun _ => ?_
  clear hK K hb1
  refine takeH (i := 22) 25 (.bool (!dup)) rfl rfl (by kernel_rfl) (by kernel_rfl) (by kernel_rfl) (fun _ _ _ h => h) (.inl ⟨by rfl, fun W hW => by go_simp⟩) HS1.out ?_
  simp only [Act.put, List.setIfInBounds_toArray, List.set_cons_zero, List.set_cons_succ]
  refine takeH (i := 23) 26 (.bool (!dup)) rfl rfl (by kernel_rfl) (by kernel_rfl) (by kernel_rfl) (fun _ _ _ h => h) (.inl ⟨by rfl, fun W hW => by go_simp⟩) HS1.out ?_
  simp only [Act.put, List.setIfInBounds_toArray, List.set_cons_zero, List.set_cons_succ]
  refine wpAnyH_done (by kernel_rfl) ?_ _
  have HB2 : Hid (Below w.heap.size w w1) := HB0.out.drew.trans (HB1.out.mono HB0.out.size)
  cases dup
  · go_wp2
    go_ret
    rw [HCN.out (by simp)]
    exact ⟨rfl, HB2.out⟩
  have HZ := Lib.hid (HCY.out (by simp))
  clear HCN HCY HS HS1 HD HX0 HX H0 HG0
  obtain ⟨c0, c1, c2, c3, c4, c5, c6, c7, c8⟩ := I_cells HG1.out
  by_cases hk : k = 0
  · have e0 : ((k : Int) == 0) = true := by rw [hk]; rfl
    have e0' : ((k : Int) != 0) = false := by rw [hk]; rfl
    have HU : Hid (useB k li m s o v n = unB k li m s o v n) := if_pos hk
    clear hk
    rw [HU.out] at HZ
    have HCU := fun W => Lib.hid (unused_any k g li m s c o v A n cp W HW.out.k HW.out.l HW.out.m HW.out.s HW.out.o HW.out.v)
    generalize unB k li m s o v n = u at *
    clear HW d1 d2 d3 ws
    go_wp2_with fail
    refine ((HCU _).out).mono ?_
    rintro e w2 ⟨rfl, hb2⟩
    have HB3 : Hid (Below w.heap.size w w2) := HB2.out.trans (hb2.mono HB2.out.size)
    have c0' : w2.cell? ⟨w.heap.size, 0, none⟩ = some (.int .u32 (k : Int)) := (hb2.cell (p := ⟨w.heap.size, 0, none⟩) (World.block_lt_of_cell? _ _ c0)).trans c0
    clear hb2
    cases u
    · go_wp2
      go_ret
      rw [HZ.out]
      exact ⟨rfl, HB3.out⟩
    · go_wp2
      go_ret
      rw [HZ.out]
      exact ⟨rfl, HB3.out⟩
  · have e0 : ((k : Int) == 0) = false := by simpa using hk
    have e0' : ((k : Int) != 0) = true := by simpa using hk
    have HU : Hid (useB k li m s o v n = decide (li ≠ 0)) := if_neg hk
    rw [HU.out] at HZ
    by_cases hl : li = 0
    · have e2 : ((li : Int) == 0) = true := by rw [hl]; rfl
      have HZ2 : Hid (z = 1) := by show _ = _; rw [HZ.out, hl]; rfl
      clear hl
      go_wp2
      go_ret
      rw [HZ2.out]
      exact ⟨rfl, HB2.out⟩
    · have e2 : ((li : Int) == 0) = false := by simpa using hl
      have HZ2 : Hid (z = 0) := by show _ = _; rw [HZ.out, decide_eq_true hl]; rfl
      clear hl
      go_wp2
      go_ret
      rw [HZ2.out]
      exact ⟨rfl, HB2.out⟩
end Go.Proofs.Ytkgpgaanodmpiaa
