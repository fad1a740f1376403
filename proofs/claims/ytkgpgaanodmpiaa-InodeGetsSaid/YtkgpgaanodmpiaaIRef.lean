/-
  The document's answers for layer 7, small ones: Need, inodeOf, empty; its struct in memory.
-/
import Derived.Test.YtkgpgaanodmpiaaIAwake
namespace Go.Proofs.Ytkgpgaanodmpiaa
open Go.RowKit

theorem size_N : (Try.prog.info? 34).map (·.size) = some 9 := by kernel_rfl
theorem zero_N : (Try.prog.info? 34).bind (·.zero) = some (.agg #[.int .u32 0, .int .u32 0, .int .u32 0, .int .u32 0, .int .u32 0, .int .u64 0, .int .u64 0, .int .u64 0, .slice none 0 0]) := by kernel_rfl
theorem built_N : Try.prog.built 34 [] = some #[.int .u32 0, .int .u32 0, .int .u32 0, .int .u32 0, .int .u32 0, .int .u64 0, .int .u64 0, .int .u64 0, .slice none 0 0] := by kernel_rfl
theorem N_cells {w : World} {g : Nat} {k ge li m s c o v : Nat} {A : Option Addr} {n cp : Nat} (h : w.heap[g]? = some (.cells #[.int .u32 (k : Int), .int .u32 (ge : Int), .int .u32 (li : Int), .int .u32 (m : Int), .int .u32 (s : Int), .int .u64 (c : Int), .int .u64 (o : Int), .int .u64 (v : Int), .slice A n cp] 34 (0, 0))) :
    w.cell? ⟨g, 0, none⟩ = some (.int .u32 (k : Int)) ∧ w.cell? ⟨g, 1, none⟩ = some (.int .u32 (ge : Int)) ∧ w.cell? ⟨g, 2, none⟩ = some (.int .u32 (li : Int)) ∧ w.cell? ⟨g, 3, none⟩ = some (.int .u32 (m : Int)) ∧
    w.cell? ⟨g, 4, none⟩ = some (.int .u32 (s : Int)) ∧ w.cell? ⟨g, 5, none⟩ = some (.int .u64 (c : Int)) ∧ w.cell? ⟨g, 6, none⟩ = some (.int .u64 (o : Int)) ∧ w.cell? ⟨g, 7, none⟩ = some (.int .u64 (v : Int)) ∧
    w.cell? ⟨g, 8, none⟩ = some (.slice A n cp) :=
  ⟨cell_of_row w g 0 _ _ (0, 0) h, cell_of_row w g 1 _ _ (0, 0) h, cell_of_row w g 2 _ _ (0, 0) h, cell_of_row w g 3 _ _ (0, 0) h, cell_of_row w g 4 _ _ (0, 0) h, cell_of_row w g 5 _ _ (0, 0) h, cell_of_row w g 6 _ _ (0, 0) h, cell_of_row w g 7 _ _ (0, 0) h, cell_of_row w g 8 _ _ (0, 0) h⟩
theorem built_N9 (k g li m s c o v : Nat) (A : Option Addr) (n cp : Nat) : Try.prog.built 34 [(0, .int .u32 (k : Int)), (1, .int .u32 (g : Int)), (2, .int .u32 (li : Int)), (3, .int .u32 (m : Int)), (4, .int .u32 (s : Int)), (5, .int .u64 (c : Int)), (6, .int .u64 (o : Int)), (7, .int .u64 (v : Int)), (8, .slice A n cp)] = some #[.int .u32 (k : Int), .int .u32 (g : Int), .int .u32 (li : Int), .int .u32 (m : Int), .int .u32 (s : Int), .int .u64 (c : Int), .int .u64 (o : Int), .int .u64 (v : Int), .slice A n cp] := by kernel_rfl

set_option maxRecDepth 100000 in
set_option maxHeartbeats 1000000 in
theorem refNeed_any (x : Int) (w : World) (h0 : -9223372036854775808 ≤ x) (h1 : x ≤ 1000000) :
    Calls Try.prog 16 #[.int .i64 x] w fun e w' => e = .returned (.int .i64 (needI x : Int)) ∧ w = w' := by
  obtain ⟨m, hm⟩ : ∃ m, needI x = m := ⟨_, rfl⟩
  have hm1 : m ≤ 20000 := by unfold needI need at hm; split at hm <;> omega
  have HM : Hid (∀ k : Nat, k ≤ m → ((k : Int) * 96 < x ↔ k < m)) := by
    intro k hk
    unfold needI need at hm
    split at hm <;> omega
  rw [hm]
  clear hm h0 h1
  go_enter Try.func16, Try.ntmps16
  go_wp2
  go_loop [3] (fun i => ∃ k : Nat, k ≤ m ∧ i = .int .i64 k) (fun i => m - (intOf i).toNat)
  case atStart => exact ⟨0, by omega, rfl⟩
  case round =>
    obtain ⟨k, hk, rfl⟩ := hrel
    have v1 : IntKind.i64.wrap ((k : Int) * 96) = (k : Int) * 96 := IntWalk.i64_in _ (by omega)
    have v2 : IntKind.i64.wrap ((k : Int) + 1) = (k : Int) + 1 := IntWalk.i64_in _ (by omega)
    have d2 : decide ((k : Int) < 1000000) = true := decide_eq_true (by omega)
    have HK := Lib.hid hk
    by_cases hlt : k < m
    · have d1 : decide ((k : Int) * 96 < x) = true := decide_eq_true ((HM.out k hk).2 hlt)
      have HL := Lib.hid hlt
      clear hlt hk hm1
      go_wp2
      have hlt := HL.out
      go_round
      case rel => exact ⟨k + 1, by omega, by go_num⟩
      case measure => simp [intOf]; omega
    · have d1 : decide ((k : Int) * 96 < x) = false := decide_eq_false (fun h => hlt ((HM.out k hk).1 h))
      have : k = m := by omega
      subst this
      clear hlt hk hm1
      go_wp2
      go_ret
      exact ⟨rfl, rfl⟩

set_option maxRecDepth 100000 in
set_option maxHeartbeats 1000000 in
theorem inodeOf_any (k g li m s c o v : Nat) (A : Option Addr) (n cp : Nat) (w : World) :
    Calls Try.prog 12 #[(.agg #[.int .u32 (k : Int), .int .u32 (g : Int), .int .u32 (li : Int), .int .u32 (m : Int), .int .u32 (s : Int), .int .u64 (c : Int), .int .u64 (o : Int), .int .u64 (v : Int), .slice A n cp])] w fun e w' => e = .returned (.agg #[.int .u32 (k : Int), .int .u32 (g : Int), .int .u32 (li : Int), .int .u32 (m : Int), .int .u32 (s : Int), .int .u64 (c : Int), .int .u64 (o : Int), .int .u64 (v : Int), .slice A n cp]) ∧ Below w.heap.size w w' := by
  have hA : (w.alloc (.cells #[.int .u32 (k : Int), .int .u32 (g : Int), .int .u32 (li : Int), .int .u32 (m : Int), .int .u32 (s : Int), .int .u64 (c : Int), .int .u64 (o : Int), .int .u64 (v : Int), .slice A n cp] 26)).heap.size = w.heap.size + 1 := by simp
  go_enter Try.func12, Try.ntmps12
  go_upto_region 1 with (refine wpList_alloc_at rfl 34 rfl _ zero_N (w.heap.size + 1) hA ?_; intro w2 hb2 hw2)
  have hg2 : w2.heap[w.heap.size]? = some (.cells #[.int .u32 (k : Int), .int .u32 (g : Int), .int .u32 (li : Int), .int .u32 (m : Int), .int .u32 (s : Int), .int .u64 (c : Int), .int .u64 (o : Int), .int .u64 (v : Int), .slice A n cp] 26 (0, 0)) := (hw2.block _ (by omega)).trans (heap_alloc_new w _)
  have HB2 := Lib.hid hb2
  have HW2 : Hid (Below w.heap.size w w2) := ((Below.refl _ _).alloc (Nat.le_refl _) _).trans (hw2.mono (Nat.le_succ _))
  obtain ⟨c0, c1, c2, c3, c4, c5, c6, c7, c8⟩ := I_cells hg2
  clear hb2 hw2 hg2
  go_wp2_with (first
    | (refine wpList_store_any rfl 34 (.tmp 2) (.tmp 21) rfl (w.heap.size + 1) #[.int .u32 (k : Int), .int .u32 (g : Int), .int .u32 (li : Int), .int .u32 (m : Int), .int .u32 (s : Int), .int .u64 (c : Int), .int .u64 (o : Int), .int .u64 (v : Int), .slice A n cp] rfl rfl 34 _ HB2.out size_N rfl (by simp [Value.oneCell']) ?_
       intro w3 hb3 hs3 hw3
       have HB3 := Lib.hid hb3
       have HW3 : Hid (Below w.heap.size w w3) := HW2.out.trans (Keep.below (hw3.mono fun k hk => by omega))
       clear hb3 hs3 hw3))
  exact bodyPost_ret (v := (.agg #[.int .u32 (k : Int), .int .u32 (g : Int), .int .u32 (li : Int), .int .u32 (m : Int), .int .u32 (s : Int), .int .u64 (c : Int), .int .u64 (o : Int), .int .u64 (v : Int), .slice A n cp])) (results_cell_row rfl _ w3 (w.heap.size + 1) 34 _ _ _ (by rfl) HB3.out Try.underlying34 rfl size_N) rfl ⟨rfl, HW3.out⟩

set_option maxRecDepth 100000 in
set_option maxHeartbeats 1000000 in
theorem refEmpty_any (k g li m s c o v : Nat) (A : Option Addr) (n cp : Nat) (w : World) :
    Calls Try.prog 27 #[(.agg #[.int .u32 (k : Int), .int .u32 (g : Int), .int .u32 (li : Int), .int .u32 (m : Int), .int .u32 (s : Int), .int .u64 (c : Int), .int .u64 (o : Int), .int .u64 (v : Int), .slice A n cp])] w fun e w' => e = .returned (.bool (k == 0 && g == 0 && c == 0)) ∧ Below w.heap.size w w' := by
  have HR : Hid (Below w.heap.size w (w.alloc (.cells #[.int .u32 (k : Int), .int .u32 (g : Int), .int .u32 (li : Int), .int .u32 (m : Int), .int .u32 (s : Int), .int .u64 (c : Int), .int .u64 (o : Int), .int .u64 (v : Int), .slice A n cp] 34))) := (Below.refl _ _).alloc (Nat.le_refl _) _
  by_cases h1 : k = 0
  · have d1 : ((k : Int) == 0) = true := by rw [h1]; rfl
    by_cases h2 : g = 0
    · have d2 : ((g : Int) == 0) = true := by rw [h2]; rfl
      have HC : Hid (((c : Int) == 0) = (c == 0)) := by
        show _ = _
        cases c with
        | zero => rfl
        | succ c => simp; omega
      have HE : Hid ((k == 0 && g == 0 && c == 0) = ((c : Int) == 0)) := by show _ = _; rw [h1, h2, HC.out]; rfl
      clear h1 h2
      go_enter Try.func27, Try.ntmps27
      go_wp2
      go_ret
      rw [HE.out]
      exact ⟨rfl, HR.out⟩
    · have d2 : ((g : Int) == 0) = false := by simpa using h2
      have HE : Hid ((k == 0 && g == 0 && c == 0) = false) := by show _ = _; rw [show (g == 0) = false by simpa using h2]; simp
      clear h1 h2
      go_enter Try.func27, Try.ntmps27
      go_wp2
      go_ret
      rw [HE.out]
      exact ⟨rfl, HR.out⟩
  · have d1 : ((k : Int) == 0) = false := by simpa using h1
    have HE : Hid ((k == 0 && g == 0 && c == 0) = false) := by show _ = _; rw [show (k == 0) = false by simpa using h1]; simp
    clear h1
    go_enter Try.func27, Try.ntmps27
    go_wp2
    go_ret
    rw [HE.out]
    exact ⟨rfl, HR.out⟩
end Go.Proofs.Ytkgpgaanodmpiaa
