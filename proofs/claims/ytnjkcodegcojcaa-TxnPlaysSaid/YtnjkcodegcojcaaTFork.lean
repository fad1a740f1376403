/-
  Contracts of Fork, Take and New (layer 10).
-/
import Derived.Test.YtnjkcodegcojcaaTPut
import Derived.Deep.LoopGhost
namespace Go.Proofs.Ytnjkcodegcojcaa
open Go.RowKit

theorem PM.new (w : World) (S : Nat → Prop) : PM (w.alloc (.map #[] 0)) w.heap.size S (fun _ => none) := ⟨#[], 0, heap_alloc_new w _, by simp, fun i => trivial⟩
/-- A copy of a map. -/
theorem PM.copy {w : World} {m : Nat} {S : Nat → Prop} {p : Nat → Option (List UInt8)} (h : PM w m S p) : ∃ es clock, w.heap[m]? = some (.map es clock) ∧ PM (w.alloc (.map es clock)) w.heap.size S p := by
  obtain ⟨es, c, h1, h2, h3⟩ := h
  refine ⟨es, c, h1, es, c, heap_alloc_new w _, h2, fun i => (h3 i).imp fun x b hb => hb.keep fun k _ hk => ?_⟩
  exact Below.heap_alloc w _ k hk

section
variable {w : World} {p m q mq : Nat} {x y : Sl} {S : Nat → Prop} {X Y : TX}
/-- Behind Fork. -/
def ForkQ (w : World) (x : Sl) (S : Nat → Prop) (X : TX) (e : Ending) (w' : World) : Prop := ∃ p' m', e = .returned (.pointer (some ⟨p', 0, none⟩)) ∧ Tq w' p' m' x S X ∧ Below w.heap.size w w' ∧ w.heap.size ≤ p' ∧ w.heap.size ≤ m'
set_option maxHeartbeats 400000 in
theorem fork_nil (w : World) : Calls Try.prog 9 #[.pointer none] w fun e w' => e = .returned (.pointer none) ∧ w' = w := by
  go_enter Try.func9, Try.ntmps9
  go_wp2
  go_ret
  exact ⟨rfl, rfl⟩
set_option maxRecDepth 100000 in
set_option maxHeartbeats 1000000 in
theorem fork_any (h : Tq w p m x S X) (hS : ∀ k, w.heap.size ≤ k → S k) : Calls Try.prog 9 #[.pointer (some ⟨p, 0, none⟩)] w (ForkQ w x S X) := by
  have HT : Hid (Tq w.drew p m x S X) := h.drew
  obtain ⟨es, clock, hm, hP⟩ := HT.out.puts.copy
  have HM := Lib.hid hm
  have HB1 : Hid (Below w.heap.size w (w.drew.alloc (.map es clock))) := (Below.refl _ _).drew.alloc (Nat.le_refl _) _
  have HT1 : Hid (Tq (w.drew.alloc (.map es clock)) p m x S X) := HT.out.below ((Below.refl _ _).alloc (Nat.le_refl _) _)
  have HP := Lib.hid hP
  have HS1 := Lib.hid hS
  have HR := Lib.hid (HT1.out.rows)
  have HZ : Hid ((w.drew.alloc (.map es clock)).heap.size = w.heap.size + 1) := by show _ = _; rw [World.size_alloc]; rfl
  clear h hm hP hS
  go_enter Try.func9, Try.ntmps9
  go_wp2_with fail
  have HS : Hid ((fun W : World => W.cell? ⟨p, 0, none⟩ = some (.slice x.a x.n x.c) ∧ W.cell? ⟨p, 1, none⟩ = some (.map (some m))) w.drew) := ⟨HT.out.c0, HT.out.c1⟩
  refine wp_region_held_drew (S := fun W => W.cell? ⟨p, 0, none⟩ = some (.slice x.a x.n x.c) ∧ W.cell? ⟨p, 1, none⟩ = some (.map (some m))) (by kernel_rfl) HS.out (fun _ => ?_)
  change wpAnyH _ _ _ _ _ 12 (Array.replicate 12 false) _ _
  refine takeH (i := 0) 5 (.pointer (some ⟨p, 0, none⟩)) rfl rfl (by kernel_rfl) (by kernel_rfl) (by kernel_rfl) (fun _ _ _ h => h) (.inl ⟨by rfl, fun W hW => by go_simp⟩) HS.out ?_
  simp only [Act.put, List.setIfInBounds_toArray, List.set_cons_zero, List.set_cons_succ]
  refine takeH (i := 1) 6 (.pointer (some ⟨p, 0, none⟩)) rfl rfl (by kernel_rfl) (by kernel_rfl) (by kernel_rfl) (fun _ _ _ h => h) (.inl ⟨by rfl, fun W hW => by go_simp⟩) HS.out ?_
  simp only [Act.put, List.setIfInBounds_toArray, List.set_cons_zero, List.set_cons_succ]
  refine takeH (i := 2) 7 (.pointer (some ⟨p, 0, none⟩)) rfl rfl (by kernel_rfl) (by kernel_rfl) (by kernel_rfl) (fun _ _ _ h => h) (.inl ⟨by rfl, fun W hW => by go_simp⟩) HS.out ?_
  simp only [Act.put, List.setIfInBounds_toArray, List.set_cons_zero, List.set_cons_succ]
  refine takeH (i := 3) 8 (.slice x.a x.n x.c) rfl rfl (by kernel_rfl) (by kernel_rfl) (by kernel_rfl) (fun _ _ _ h => h) (.inl ⟨by rfl, fun W hW => by (have hz0 := hW.1; have hz1 := hW.2; go_simp)⟩) HS.out ?_
  simp only [Act.put, List.setIfInBounds_toArray, List.set_cons_zero, List.set_cons_succ]
  refine takeH (i := 4) 9 (.pointer (some ⟨p, 0, none⟩)) rfl rfl (by kernel_rfl) (by kernel_rfl) (by kernel_rfl) (fun _ _ _ h => h) (.inl ⟨by rfl, fun W hW => by go_simp⟩) HS.out ?_
  simp only [Act.put, List.setIfInBounds_toArray, List.set_cons_zero, List.set_cons_succ]
  refine takeH (i := 5) 10 (.pointer (some ⟨p, 0, none⟩)) rfl rfl (by kernel_rfl) (by kernel_rfl) (by kernel_rfl) (fun _ _ _ h => h) (.inl ⟨by rfl, fun W hW => by go_simp⟩) HS.out ?_
  simp only [Act.put, List.setIfInBounds_toArray, List.set_cons_zero, List.set_cons_succ]
  refine takeH (i := 6) 11 (.pointer (some ⟨p, 1, none⟩)) rfl rfl (by kernel_rfl) (by kernel_rfl) (by kernel_rfl) (fun _ _ _ h => h) (.inl ⟨by rfl, fun W hW => by go_simp⟩) HS.out ?_
  simp only [Act.put, List.setIfInBounds_toArray, List.set_cons_zero, List.set_cons_succ]
  refine takeH (i := 7) 12 (.map (some m)) rfl rfl (by kernel_rfl) (by kernel_rfl) (by kernel_rfl) (fun _ _ _ h => h) (.inl ⟨by rfl, fun W hW => by (have hz0 := hW.1; have hz1 := hW.2; go_simp)⟩) HS.out ?_
  simp only [Act.put, List.setIfInBounds_toArray, List.set_cons_zero, List.set_cons_succ]
  refine wpAnyH_ready (rs := [8]) (by kernel_rfl) (by simp) ?_
  refine AllReadyH.cons rfl (fun K hK => ?_) AllReadyH.nil
  go_simp
  refine (mclone_any m es clock w.drew HM.out).mono ?_
  rintro e w2 ⟨rfl, hw2⟩
  have HW2 := Lib.hid hw2
  clear hw2
  rw [show w.drew.heap.size = w.heap.size from rfl] at *
  have HS2 : Hid (w2.cell? ⟨p, 0, none⟩ = some (.slice x.a x.n x.c) ∧ w2.cell? ⟨p, 1, none⟩ = some (.map (some m))) := by
    show _ ∧ _
    rw [HW2.out]
    exact ⟨HT1.out.c0, HT1.out.c1⟩
  have HZ2 : Hid (w2.heap.size = w.heap.size + 1) := by show _ = _; rw [HW2.out]; exact HZ.out
  refine hK.out _ _ HS2.out fun _ => ?_
  clear hK K
  refine wpAnyH_ready (rs := [9]) (by kernel_rfl) (by simp) ?_
  refine AllReadyH.cons rfl (fun K hK => ?_) AllReadyH.nil
  go_simp
  refine hK.out _ _ HS2.out fun _ => ?_
  clear hK K
  refine wpAnyH_ready (rs := [10]) (by kernel_rfl) (by simp) ?_
  refine AllReadyH.cons rfl (fun K hK => ?_) AllReadyH.nil
  have HS3 : Hid ((w2.alloc (.cells #[.slice x.a x.n x.c, .map (some w.heap.size)] 57)).cell? ⟨p, 0, none⟩ = some (.slice x.a x.n x.c) ∧ (w2.alloc (.cells #[.slice x.a x.n x.c, .map (some w.heap.size)] 57)).cell? ⟨p, 1, none⟩ = some (.map (some m))) :=
    ⟨(World.cell?_alloc_lt _ _ ⟨p, 0, none⟩ (World.block_lt_of_cell? w2 _ HS2.out.1)).trans HS2.out.1, (World.cell?_alloc_lt _ _ ⟨p, 1, none⟩ (World.block_lt_of_cell? w2 _ HS2.out.2)).trans HS2.out.2⟩
  go_simp
  refine hK.out _ _ HS3.out fun _ => ?_
  clear hK K
  refine wpAnyH_ready (rs := [11]) (by kernel_rfl) (by simp) ?_
  refine AllReadyH.cons rfl (fun K hK => ?_) AllReadyH.nil
  go_simp
  refine hK.out _ _ HS3.out fun _ => ?_
  clear hK K
  refine wpAnyH_done (by kernel_rfl) ?_ _
  go_wp2
  go_ret
  refine ⟨w2.heap.size, w.heap.size, rfl, ?_, ?_, by rw [HZ2.out]; omega, Nat.le_refl _⟩
  · have hb : Below w2.heap.size w2 (w2.alloc (.cells #[.slice x.a x.n x.c, .map (some w.heap.size)] 57)) := (Below.refl _ _).alloc (Nat.le_refl _) _
    have hr : BR w2 S x X.l := by rw [HW2.out]; exact HR.out
    have hp : PM w2 w.heap.size S X.p := by rw [HW2.out]; exact HP.out
    refine ⟨heap_alloc_new w2 _, hr.imp (fun _ h => h) (fun g cs _ hg => hb.block g (Array.getElem?_eq_some_iff.1 hg).1) (fun _ _ hc => hc.keep fun k _ hk => hb.block k hk), hp.imp (hb.block _ (by rw [HZ2.out]; omega)) (fun _ _ hc => hc.keep fun k _ hk => hb.block k hk), HS1.out _ (by rw [HZ2.out]; omega), HS1.out _ (Nat.le_refl _)⟩
  · have hb : Below w.heap.size w w2 := by rw [HW2.out]; exact HB1.out
    exact hb.alloc (by rw [HZ2.out]; omega) _
end
end Go.Proofs.Ytnjkcodegcojcaa
