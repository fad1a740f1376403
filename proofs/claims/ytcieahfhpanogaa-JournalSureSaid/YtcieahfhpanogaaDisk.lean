/-
  What a disk is in memory, and the contracts of the small calls of layer 3.
-/
import Derived.Test.YtcieahfhpanogaaDMem
import Derived.Test.YtcieahfhpanogaaBytes
namespace Go.Proofs.Ytcieahfhpanogaa
open Go.RowKit

/-- A sector of noughts. -/
def zs : List UInt8 := List.replicate 128 0
theorem zs_len : zs.length = 128 := by simp [zs]
/-- A disk: its sectors that are sure, the writes that wait, the calls before it stops, whether it is down. -/
structure DS where
  n : Nat
  F : Int → List UInt8
  pend : List (Int × List UInt8)
  left : Int
  down : Bool
  mp : Nat
/-- The cells of writes. -/
def pc : List (Int × List UInt8) → List Value
  | [] => []
  | x :: l => (.int .i64 x.1 :: bc x.2) ++ pc l
theorem pc_append (a b : List (Int × List UInt8)) : pc (a ++ b) = pc a ++ pc b := by
  induction a with
  | nil => rfl
  | cons x a ih => simp only [List.cons_append, pc, ih, List.append_assoc]
theorem pc_len (l : List (Int × List UInt8)) (h : ∀ x ∈ l, x.2.length = 128) : (pc l).length = l.length * 129 := by
  induction l with
  | nil => rfl
  | cons x l ih =>
    have h1 := h x (by simp)
    have h2 := ih fun y hy => h y (by simp [hy])
    simp only [pc, List.length_append, List.length_cons, bc_length, h1, h2]
    omega
theorem pc_one (l : List (Int × List UInt8)) : ∀ u ∈ pc l, u.oneCell' = true := by
  induction l with
  | nil => intro u hu; cases hu
  | cons x l ih =>
    intro u hu
    simp only [pc, List.mem_append, List.mem_cons] at hu
    rcases hu with (rfl | hu) | hu
    · rfl
    · exact bc_one _ u hu
    · exact ih u hu
/-- The cells of the k-th write. -/
theorem pc_get (l : List (Int × List UInt8)) (h : ∀ x ∈ l, x.2.length = 128) (k : Nat) (hk : k < l.length) (j : Nat) (hj : j < 129) : (pc l)[k * 129 + j]? = (Value.int .i64 l[k].1 :: bc l[k].2)[j]? := by
  induction l generalizing k with
  | nil => simp at hk
  | cons x l ih =>
    have h1 := h x (by simp)
    simp only [pc]
    match k with
    | 0 => rw [List.getElem?_append_left (by simp [bc_length, h1]; omega)]; simp
    | k + 1 =>
      rw [List.getElem?_append_right (by simp [bc_length, h1]; omega)]
      have e : (k + 1) * 129 + j - (Value.int .i64 x.1 :: bc x.2).length = k * 129 + j := by simp [bc_length, h1]; omega
      rw [e, ih (fun y hy => h y (by simp [hy])) k (by simpa using hk)]
      rfl

/-- Each write is a sector's, each sector has its bytes, and the numbers fit. -/
def DS.ok (s : DS) : Prop := (∀ x ∈ s.pend, x.2.length = 128) ∧ (∀ i, (s.F i).length = 128) ∧ s.n ≤ 65536 ∧ -9223372036854775808 ≤ s.left ∧ s.left ≤ 9223372036854775807

/-- At block p lies a disk s; all its blocks are of S. -/
def Dk (w : World) (p : Nat) (S : Nat → Prop) (s : DS) : Prop :=
  s.ok ∧ (∀ k, S k → k < w.heap.size) ∧ S p ∧ ∃ b A c, (S b ∧ b = s.mp) ∧ (∀ k, (Value.slice A s.pend.length c).ownBlock = some k → S k) ∧ IsMap w b zs s.F ∧ w.ownsRow 0 70 129 (.slice A s.pend.length c) s.pend.length (pc s.pend) ∧
    w.heap[p]? = some (.cells #[.int .i64 (s.n : Int), .map (some b), .slice A s.pend.length c, .int .i64 s.left, .bool s.down] 57 (0, 0))

/-- All that is not of S is as it was. -/
def Fr (S : Nat → Prop) (w w' : World) : Prop := Keep (fun k => k < w.heap.size ∧ ¬ S k) w w'

theorem Fr.refl (S : Nat → Prop) (w : World) : Fr S w w := Keep.refl _ _
theorem Fr.trans {S S' : Nat → Prop} {w w1 w2 : World} (h : Fr S w w1) (h2 : Fr S' w1 w2) (hS : ∀ k, S' k → S k ∨ w.heap.size ≤ k) : Fr S w w2 :=
  Keep.trans h (h2.mono fun k hk => ⟨Nat.lt_of_lt_of_le hk.1 h.size, fun h' => by rcases hS k h' with h' | h'; exact hk.2 h'; omega⟩)
theorem Fr.of_below {S : Nat → Prop} {w w' : World} (h : Below w.heap.size w w') : Fr S w w' := (Keep.of_below h).mono fun _ hk => hk.1
theorem Fr.mono {S S' : Nat → Prop} {w w' : World} (h : Fr S w w') (hS : ∀ k, S k → S' k) : Fr S' w w' := Keep.mono h fun k hk => ⟨hk.1, fun h' => hk.2 (hS k h')⟩
theorem Fr.below {S : Nat → Prop} {w w' : World} (h : Fr S w w') {B : Nat} (hB : B ≤ w.heap.size) (hS : ∀ k, S k → B ≤ k) : Below B w w' :=
  Keep.below (Keep.mono h fun k hk => ⟨Nat.lt_of_lt_of_le hk hB, fun h' => by have := hS k h'; omega⟩)

section
variable {w w' : World} {p : Nat} {S : Nat → Prop} {s : DS}
theorem Dk.keep (h : Dk w p S s) {S' : Nat → Prop} (hf : Fr S' w w') (hd : ∀ k, S k → ¬ S' k) : Dk w' p S s := by
  obtain ⟨hok, hlt, hp, b, A, c, hb, hv, hm, ho, hc⟩ := h
  have hk : ∀ k, S k → w'.heap[k]? = w.heap[k]? := fun k hk => hf.block k ⟨hlt k hk, hd k hk⟩
  refine ⟨hok, fun k hk => Nat.lt_of_lt_of_le (hlt k hk) hf.size, hp, b, A, c, hb, hv, hm.keep (hk b hb.1), ?_, (hk p hp).trans hc⟩
  refine ⟨ho.1, ?_⟩
  rcases ho.2 with h0 | ⟨g, cap, cur, h1, h2, h3, h4⟩
  · exact .inl h0
  · exact .inr ⟨g, cap, cur, h1, h2, (hk g (hv g (by rw [h1]; rfl))).trans h3, h4⟩
theorem Dk.below (h : Dk w p S s) (hb : Below w.heap.size w w') : Dk w' p S s := h.keep (S' := fun _ => False) (Fr.of_below hb) fun _ _ h => h
theorem Dk.lt (h : Dk w p S s) : p < w.heap.size := h.2.1 p h.2.2.1
/-- The five cells. -/
theorem Dk.cells (h : Dk w p S s) : ∃ b A c, IsMap w b zs s.F ∧ w.ownsRow 0 70 129 (.slice A s.pend.length c) s.pend.length (pc s.pend) ∧
    w.cell? ⟨p, 0, none⟩ = some (.int .i64 (s.n : Int)) ∧ w.cell? ⟨p, 1, none⟩ = some (.map (some b)) ∧ w.cell? ⟨p, 2, none⟩ = some (.slice A s.pend.length c) ∧ w.cell? ⟨p, 3, none⟩ = some (.int .i64 s.left) ∧ w.cell? ⟨p, 4, none⟩ = some (.bool s.down) := by
  obtain ⟨_, _, _, b, A, c, _, _, hm, ho, hc⟩ := h
  exact ⟨b, A, c, hm, ho, by rw [cell_of_row _ _ _ _ _ _ hc]; rfl, by rw [cell_of_row _ _ _ _ _ _ hc]; rfl, by rw [cell_of_row _ _ _ _ _ _ hc]; rfl, by rw [cell_of_row _ _ _ _ _ _ hc]; rfl, by rw [cell_of_row _ _ _ _ _ _ hc]; rfl⟩
theorem Dk.froz (h : Dk w p S s) (j : Nat) : w.frozen? ⟨p, j, none⟩ = false := by
  obtain ⟨_, _, _, b, A, c, _, _, hm, ho, hc⟩ := h
  simp [World.frozen?, hc]
end

set_option maxHeartbeats 400000 in
theorem len_any (p : Nat) (S : Nat → Prop) (s : DS) (w : World) (h : Dk w p S s) : Calls Try.prog 23 #[.pointer (some ⟨p, 0, none⟩)] w fun e w' => e = .returned (.int .i64 (s.n : Int)) ∧ w = w' := by
  obtain ⟨b, A, c, hm, ho, h0, h1, h2, h3, h4⟩ := h.cells
  clear h h1 h2 h3 h4 hm ho
  go_enter Try.func23, Try.ntmps23
  go_wp2
  go_ret
  exact ⟨rfl, rfl⟩
set_option maxHeartbeats 400000 in
theorem len_nil (w : World) : Calls Try.prog 23 #[.pointer none] w fun e w' => e = .returned (.int .i64 0) ∧ w = w' := by
  go_enter Try.func23, Try.ntmps23
  go_wp2
  go_ret
  exact ⟨rfl, rfl⟩
set_option maxHeartbeats 400000 in
theorem waits_any (p : Nat) (S : Nat → Prop) (s : DS) (w : World) (h : Dk w p S s) : Calls Try.prog 22 #[.pointer (some ⟨p, 0, none⟩)] w fun e w' => e = .returned (.int .i64 (s.pend.length : Int)) ∧ w = w' := by
  obtain ⟨b, A, c, hm, ho, h0, h1, h2, h3, h4⟩ := h.cells
  clear h h1 h0 h3 h4 hm ho
  go_enter Try.func22, Try.ntmps22
  go_wp2
  go_ret
  exact ⟨rfl, rfl⟩
set_option maxHeartbeats 400000 in
theorem waits_nil (w : World) : Calls Try.prog 22 #[.pointer none] w fun e w' => e = .returned (.int .i64 0) ∧ w = w' := by
  go_enter Try.func22, Try.ntmps22
  go_wp2
  go_ret
  exact ⟨rfl, rfl⟩
set_option maxHeartbeats 400000 in
theorem down_any (p : Nat) (S : Nat → Prop) (s : DS) (w : World) (h : Dk w p S s) : Calls Try.prog 24 #[.pointer (some ⟨p, 0, none⟩)] w fun e w' => e = .returned (.bool s.down) ∧ w = w' := by
  obtain ⟨b, A, c, hm, ho, h0, h1, h2, h3, h4⟩ := h.cells
  clear h h1 h0 h3 h2 hm ho
  go_enter Try.func24, Try.ntmps24
  go_wp2
  go_ret
  exact ⟨rfl, rfl⟩
set_option maxHeartbeats 400000 in
theorem down_nil (w : World) : Calls Try.prog 24 #[.pointer none] w fun e w' => e = .returned (.bool false) ∧ w = w' := by
  go_enter Try.func24, Try.ntmps24
  go_wp2
  go_ret
  exact ⟨rfl, rfl⟩
set_option maxHeartbeats 400000 in
theorem failure_any (p : Nat) (S : Nat → Prop) (s : DS) (w : World) (h : Dk w p S s) : Calls Try.prog 61 #[.pointer (some ⟨p, 0, none⟩)] w fun e w' => e = .returned (.int .i64 (if s.down then 20 else 0)) ∧ w = w' := by
  obtain ⟨b, A, c, hm, ho, h0, h1, h2, h3, h4⟩ := h.cells
  clear h h1 h0 h3 h2 hm ho
  obtain ⟨sn, sF, sp, sl, sd, sm⟩ := s
  cases sd
  all_goals
    dsimp only at h4
    go_enter Try.func61, Try.ntmps61
    go_wp2
    go_ret
    exact ⟨rfl, rfl⟩
set_option maxHeartbeats 400000 in
theorem failure_nil (w : World) : Calls Try.prog 61 #[.pointer none] w fun e w' => e = .returned (.int .i64 1) ∧ w = w' := by
  go_enter Try.func61, Try.ntmps61
  go_wp2
  go_ret
  exact ⟨rfl, rfl⟩

/-- The error of a call of sector i. -/
def refus (s : DS) (i : Int) : Int := if s.down then 20 else if i < 0 ∨ (s.n : Int) ≤ i then 15 else 0
set_option maxHeartbeats 400000 in
theorem refusal_any (p : Nat) (S : Nat → Prop) (s : DS) (i : Int) (w : World) (h : Dk w p S s) : Calls Try.prog 59 #[.pointer (some ⟨p, 0, none⟩), .int .i64 i] w fun e w' => e = .returned (.int .i64 (refus s i)) ∧ w = w' := by
  have HD := Lib.hid h
  obtain ⟨b, A, c, hm, ho, h0, h1, h2, h3, h4⟩ := h.cells
  clear h h1 h4 h3 h2 hm ho
  by_cases hd : s.down = true
  · have HH : Hid (s.down = true) := hd
    have hf : Hid ((if s.down then (20 : Int) else 0) = 20) := by show _ = _; rw [hd]; rfl
    clear hd
    go_enter Try.func59, Try.ntmps59
    go_wp2_with fail
    refine (failure_any p S s w HD.out).mono ?_
    rintro e w' ⟨rfl, rfl⟩
    rw [hf.out]
    go_wp2
    go_ret
    exact ⟨by simp [refus, HH.out], rfl⟩
  · have HH : Hid (s.down = false) := by show _ = _; simpa using hd
    have hf : Hid ((if s.down then (20 : Int) else 0) = 0) := by show _ = _; rw [HH.out]; rfl
    clear hd
    by_cases hi : i < 0
    · go_enter Try.func59, Try.ntmps59
      go_wp2_with fail
      refine (failure_any p S s w HD.out).mono ?_
      rintro e w' ⟨rfl, rfl⟩
      rw [hf.out]
      go_wp2
      go_ret
      exact ⟨by simp [refus, HH.out, hi], rfl⟩
    · by_cases hn : (s.n : Int) ≤ i
      · go_enter Try.func59, Try.ntmps59
        go_wp2_with fail
        refine (failure_any p S s w HD.out).mono ?_
        rintro e w' ⟨rfl, rfl⟩
        rw [hf.out]
        go_wp2
        go_ret
        exact ⟨by simp [refus, HH.out, hn], rfl⟩
      · go_enter Try.func59, Try.ntmps59
        go_wp2_with fail
        refine (failure_any p S s w HD.out).mono ?_
        rintro e w' ⟨rfl, rfl⟩
        rw [hf.out]
        go_wp2
        go_ret
        exact ⟨by simp [refus, HH.out, hn, hi], rfl⟩
end Go.Proofs.Ytcieahfhpanogaa
