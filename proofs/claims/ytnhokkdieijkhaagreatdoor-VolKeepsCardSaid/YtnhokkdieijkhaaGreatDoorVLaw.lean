/-
  What the laws of layer 12 have in common: a save of one thing, of two.
-/
import Derived.Test.YtnhokkdieijkhaaGreatDoorQ11
namespace Go.Proofs.YtnhokkdieijkhaaGreatDoor
open Go.RowKit Go.Shelf

/-- What a save of one thing does. -/
theorem Vm.saveOne {w : World} {p n B c : Nat} {Sv : Nat → Vl.Th} (h : Vm w p n B Sv c) (s : Vl.Th) (A : Option Addr) (k d : Nat) (hok : Sl.okS s = true) (hf : Fits s) (hb : BS w A k s.dt) (hc : k ≤ d) (N t : Nat) (hN : n = 35 + N) (Sv' : Nat → Vl.Th) (hS : Sv' = Vl.upd Sv s.ino s) (ht : Vl.tot Sv' = t) (W : World) (hW : W = w.alloc (.cells (sc s (.slice A k d)).toArray 32)) :
    Calls Tryz.prog 13 #[.pointer (some ⟨p, 0, none⟩), .slice (some ⟨w.heap.size, 0, none⟩) 1 1] W fun e w' =>
      (t ≤ N ∧ e = .returned (.int .i64 0) ∧ Vm w' p n B Sv' c ∧ Ch (· = p) W w') ∨ (¬ t ≤ N ∧ e = .returned (.int .i64 66) ∧ Vm w' p n B Sv c ∧ Ch (· = p) W w') := by
  subst hW
  have h1 := h.below ((Below.refl _ _).alloc (Nat.le_refl _) (.cells (sc s (.slice A k d)).toArray 32))
  refine (h1.save _ 1 1 [s] (SS.one w s A k d hb hc) (fun x hx => ?_) (by omega)).mono ?_
  · obtain rfl := List.mem_singleton.1 hx
    have := (Vl.okB_facts hok).2.2
    exact ⟨hf, by omega⟩
  · rintro e w' ⟨rfl, hch, hv⟩
    have he := Vl.svE_one (n := n) (S := Sv) hok
    rw [← hS, ht, show n - 35 = N by omega] at he
    by_cases hle : t ≤ N
    · rw [if_pos hle] at he
      refine .inl ⟨hle, by rw [he], ?_, hch⟩
      have : Vl.svS Sl.dirB n [s] Sv = Vl.upd Sv s.ino s := by unfold Vl.svS; rw [if_pos he]; rfl
      rw [this, ← hS] at hv
      exact hv
    · rw [if_neg hle] at he
      refine .inr ⟨hle, by rw [he], ?_, hch⟩
      have : Vl.svS Sl.dirB n [s] Sv = Sv := by unfold Vl.svS; rw [if_neg (by rw [he]; decide)]
      rw [this] at hv
      exact hv
/-- A slice of two slots. -/
theorem SS.two (w : World) (s1 s2 : Vl.Th) (A1 : Option Addr) (n1 c1 : Nat) (A2 : Option Addr) (n2 c2 : Nat) (h1 : BS w A1 n1 s1.dt) (hc1 : n1 ≤ c1) (h2 : BS w A2 n2 s2.dt) (hc2 : n2 ≤ c2) :
    SS (w.alloc (.cells (sc s1 (.slice A1 n1 c1) ++ sc s2 (.slice A2 n2 c2)).toArray 32)) (some ⟨w.heap.size, 0, none⟩) 2 [s1, s2] := by
  refine ⟨rfl, fun _ => ⟨w.heap.size, 0, rfl, fun k hk => ?_⟩⟩
  match k, hk with
  | 0, _ =>
    refine ⟨⟨A1, n1, c1⟩, fun j u hu => ?_, h1.alloc _, hc1⟩
    rw [cell_of_row _ _ _ _ _ _ (heap_alloc_new w _)]
    have hj : j < 9 := by have := (List.getElem?_eq_some_iff.1 hu).1; rwa [sc_len] at this
    have e : (sc s1 (.slice A1 n1 c1) ++ sc s2 (.slice A2 n2 c2))[j]? = some u := by rw [List.getElem?_append_left (by rw [sc_len]; exact hj)]; exact hu
    simpa using e
  | 1, _ =>
    refine ⟨⟨A2, n2, c2⟩, fun j u hu => ?_, h2.alloc _, hc2⟩
    rw [cell_of_row _ _ _ _ _ _ (heap_alloc_new w _)]
    have e : (sc s1 (.slice A1 n1 c1) ++ sc s2 (.slice A2 n2 c2))[9 + j]? = some u := by rw [List.getElem?_append_right (by rw [sc_len]; omega), sc_len, show 9 + j - 9 = j by omega]; exact hu
    simpa using e
theorem Vm.saveTwo {w : World} {p n B c : Nat} {Sv : Nat → Vl.Th} (h : Vm w p n B Sv c) (s1 s2 : Vl.Th) (A1 : Option Addr) (k1 d1 : Nat) (A2 : Option Addr) (k2 d2 : Nat) (ok1 : Sl.okS s1 = true) (ok2 : Sl.okS s2 = true) (hf1 : Fits s1) (hf2 : Fits s2) (hne : s1.ino ≠ s2.ino) (hb1 : BS w A1 k1 s1.dt) (hc1 : k1 ≤ d1) (hb2 : BS w A2 k2 s2.dt) (hc2 : k2 ≤ d2)
    (N t : Nat) (hN : n = 35 + N) (Sv' : Nat → Vl.Th) (hS : Sv' = Vl.upd (Vl.upd Sv s1.ino s1) s2.ino s2) (ht : Vl.tot Sv' = t) (W : World) (hW : W = w.alloc (.cells (sc s1 (.slice A1 k1 d1) ++ sc s2 (.slice A2 k2 d2)).toArray 32)) :
    Calls Tryz.prog 13 #[.pointer (some ⟨p, 0, none⟩), .slice (some ⟨w.heap.size, 0, none⟩) 2 2] W fun e w' =>
      (t ≤ N ∧ e = .returned (.int .i64 0) ∧ Vm w' p n B Sv' c ∧ Ch (· = p) W w') ∨ (¬ t ≤ N ∧ e = .returned (.int .i64 66) ∧ Vm w' p n B Sv c ∧ Ch (· = p) W w') := by
  subst hW
  have h1 := h.below ((Below.refl _ _).alloc (Nat.le_refl _) (.cells (sc s1 (.slice A1 k1 d1) ++ sc s2 (.slice A2 k2 d2)).toArray 32))
  refine (h1.save _ 2 2 [s1, s2] (SS.two w s1 s2 A1 k1 d1 A2 k2 d2 hb1 hc1 hb2 hc2) (fun x hx => ?_) (by omega)).mono ?_
  · rcases List.mem_cons.1 hx with rfl | hx
    · have := (Vl.okB_facts ok1).2.2
      exact ⟨hf1, by omega⟩
    · obtain rfl := List.mem_singleton.1 hx
      have := (Vl.okB_facts ok2).2.2
      exact ⟨hf2, by omega⟩
  · rintro e w' ⟨rfl, hch, hv⟩
    have hm : Vl.mayB Sl.dirB [s1, s2] = true := by
      unfold Vl.mayB
      rw [List.all_cons, List.all_cons, show Vl.Th.okB Sl.dirB s1 = true from ok1, show Vl.Th.okB Sl.dirB s2 = true from ok2]
      simp [hne]
    have he : Vl.svE Sl.dirB n [s1, s2] Sv = if Vl.tot (Vl.setS [s1, s2] Sv) ≤ n - 35 then 0 else 66 := by
      unfold Vl.svE
      rw [if_pos hm]
    have hset : Vl.setS [s1, s2] Sv = Sv' := hS.symm
    rw [hset, ht, show n - 35 = N by omega] at he
    by_cases hle : t ≤ N
    · rw [if_pos hle] at he
      refine .inl ⟨hle, by rw [he], ?_, hch⟩
      have : Vl.svS Sl.dirB n [s1, s2] Sv = Sv' := by unfold Vl.svS; rw [if_pos he]; exact hset
      rw [this] at hv
      exact hv
    · rw [if_neg hle] at he
      refine .inr ⟨hle, by rw [he], ?_, hch⟩
      have : Vl.svS Sl.dirB n [s1, s2] Sv = Sv := by unfold Vl.svS; rw [if_neg (by rw [he]; decide)]
      rw [this] at hv
      exact hv
theorem Ch.bel {w w' : World} {p n B c : Nat} {Sv : Nat → Vl.Th} (h : Ch (· = p) w w') (hp : Vm w p n B Sv c) : Below B w w' := by
  obtain ⟨m, x, X, bl, h1, rfl⟩ := hp
  exact h.below h1.bn (fun k hk => by rw [hk]; exact h1.tq.sp)
theorem run_make769 {a k : Nat} (h : a % 769 = k) {Z : List UInt8} (hZ : Z = List.replicate k 0) (W : World) : (Instr.makeSlice 30 (.int .i64 ((a : Int) % 769)) (.int .i64 ((a : Int) % 769))).run Tryz.prog W = .ok (.slice (some ⟨W.heap.size, 0, none⟩) k k) (W.alloc (.cells (bc Z).toArray 5)) := by
  rw [show (a : Int) % 769 = (k : Int) by omega, hZ]
  exact run_make_bytes W k (by omega)
theorem BS.made' {k : Nat} {Z : List UInt8} (hZ : Z = List.replicate k 0) (w : World) : BS (w.alloc (.cells (bc Z).toArray 5)) (some ⟨w.heap.size, 0, none⟩) k Z := by
  rw [hZ]
  exact BS.made w k
end Go.Proofs.YtnhokkdieijkhaaGreatDoor
