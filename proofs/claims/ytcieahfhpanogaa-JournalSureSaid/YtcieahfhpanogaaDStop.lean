/-
  Contracts of stopsNow, Stop and New (layer 3).
-/
import Derived.Test.YtcieahfhpanogaaDisk
namespace Go.Proofs.Ytcieahfhpanogaa
open Go.RowKit

/-- A counted call. -/
def DS.count (s : DS) : DS := if s.left = 0 then { s with down := true } else if 0 < s.left then { s with left := s.left - 1 } else s
theorem DS.count_ok {s : DS} (h : s.ok) : s.count.ok := by
  obtain ⟨h1, h2, h3, h4, h5⟩ := h
  unfold DS.count
  split
  · exact ⟨h1, h2, h3, h4, h5⟩
  · split
    · exact ⟨h1, h2, h3, by simp; omega, by simp; omega⟩
    · exact ⟨h1, h2, h3, h4, h5⟩
theorem DS.count_pend (s : DS) : s.count.pend = s.pend := by unfold DS.count; split; rfl; split <;> rfl
theorem DS.count_F (s : DS) : s.count.F = s.F := by unfold DS.count; split; rfl; split <;> rfl
theorem DS.count_n (s : DS) : s.count.n = s.n := by unfold DS.count; split; rfl; split <;> rfl

/-- One of the five cells is written: it is a disk as before, but for that. -/
theorem Dk.put {w : World} {p : Nat} {S : Nat → Prop} {s s' : DS} (h : Dk w p S s) (hok : s'.ok) (hn : s'.n = s.n) (hF : s'.F = s.F) (hp : s'.pend = s.pend) (j : Nat) (v : Value)
    (hj : ∀ x y z : Value, #[x, y, z, .int .i64 s'.left, .bool s'.down] = #[x, y, z, .int .i64 s.left, .bool s.down].setIfInBounds j v) (hmp : s'.mp = s.mp := by rfl) :
    Dk (w.setCell ⟨p, j, none⟩ v) p S s' ∧ Fr S w (w.setCell ⟨p, j, none⟩ v) := by
  obtain ⟨_, hlt, hSp, b, A, c, hb, hv, hm, ho, hc⟩ := h
  have e := setCell_eq_setRow w p j _ _ _ v hc
  have hfr : Fr S w (w.setCell ⟨p, j, none⟩ v) := (Fr.refl S w).setCell (p := ⟨p, j, none⟩) (fun h => h.2 hSp) v
  have hbp : b ≠ p := by
    rintro rfl
    obtain ⟨es, cl, hmb, _⟩ := hm
    rw [hc] at hmb
    cases hmb
  have hbk : ∀ k, k ≠ p → (w.setCell ⟨p, j, none⟩ v).heap[k]? = w.heap[k]? := fun k hk => Below.heap_setCell w ⟨p, j, none⟩ v k hk
  refine ⟨⟨hok, fun k hk => Nat.lt_of_lt_of_le (hlt k hk) hfr.size, hSp, b, A, c, ⟨hb.1, by rw [hmp]; exact hb.2⟩, by rw [hp]; exact hv, by rw [hF]; exact hm.keep (hbk b hbp), ?_, ?_⟩, hfr⟩
  · rw [hp]
    refine ⟨ho.1, ?_⟩
    rcases ho.2 with h0 | ⟨g, cap, cur, h1, h2, h3, h4⟩
    · exact .inl h0
    · have hgp : g ≠ p := by
        rintro rfl
        rw [hc] at h3
        cases h3
      exact .inr ⟨g, cap, cur, h1, h2, (hbk g hgp).trans h3, h4⟩
  · rw [e, hn, hp, hj]
    exact setRow_heap w p _ _ _ _ hc

set_option maxHeartbeats 400000 in
theorem stopsNow_any (p : Nat) (S : Nat → Prop) (s : DS) (w : World) (h : Dk w p S s) : Calls Try.prog 60 #[.pointer (some ⟨p, 0, none⟩)] w fun e w' => e = .returned (.bool s.count.down) ∧ Dk w' p S s.count ∧ Fr S w w' := by
  have HD := Lib.hid h
  obtain ⟨b, A, c, hm, ho, h0, h1, h2, h3, h4⟩ := h.cells
  have hf3 := h.froz 3
  have hf4 := h.froz 4
  have hlo := h.1.2.2.2.1
  have hhi := h.1.2.2.2.2
  have HC := Lib.hid (DS.count_ok h.1)
  clear h h0 h1 h2 hm ho
  by_cases hz : s.left = 0
  · have HE : Hid (s.count = { s with down := true }) := by show _ = _; simp [DS.count, hz]
    rw [hz] at h3
    clear hlo hhi hz
    go_enter Try.func60, Try.ntmps60
    go_wp2
    go_ret
    rw [HE.out] at HC ⊢
    exact ⟨rfl, HD.out.put HC.out rfl rfl rfl 4 _ (fun x y z => rfl)⟩
  · by_cases hp : 0 < s.left
    · have HE : Hid (s.count = { s with left := s.left - 1 }) := by show _ = _; simp [DS.count, hz, hp]
      go_enter Try.func60, Try.ntmps60
      go_wp2
      go_ret
      rw [HE.out] at HC ⊢
      exact ⟨rfl, HD.out.put HC.out rfl rfl rfl 3 _ (fun x y z => rfl)⟩
    · have HE : Hid (s.count = s) := by show _ = _; simp [DS.count, hz, hp]
      go_enter Try.func60, Try.ntmps60
      go_wp2
      go_ret
      rw [HE.out]
      exact ⟨rfl, HD.out, Fr.refl _ _⟩

set_option maxHeartbeats 400000 in
theorem stop_any (p : Nat) (S : Nat → Prop) (s : DS) (k : Int) (w : World) (h : Dk w p S s) (hlo : -9223372036854775808 ≤ k) (hhi : k ≤ 9223372036854775807) :
    Calls Try.prog 13 #[.pointer (some ⟨p, 0, none⟩), .int .i64 k] w fun e w' => (∃ v, e = .returned v) ∧ Dk w' p S { s with left := k } ∧ Fr S w w' := by
  have HD := Lib.hid (h.put (s' := { s with left := k }) ⟨h.1.1, h.1.2.1, h.1.2.2.1, hlo, hhi⟩ rfl rfl rfl 3 (.int .i64 k) (fun x y z => rfl))
  obtain ⟨b, A, c, hm, ho, h0, h1, h2, h3, h4⟩ := h.cells
  have hf3 := h.froz 3
  clear h h0 h1 h2 h4 hm ho hlo hhi
  go_enter Try.func13, Try.ntmps13
  go_wp2
  go_end0
  exact ⟨⟨_, rfl⟩, HD.out⟩
set_option maxHeartbeats 400000 in
theorem stop_nil (k : Int) (w : World) : Calls Try.prog 13 #[.pointer none, .int .i64 k] w fun e w' => (∃ v, e = .returned v) ∧ w = w' := by
  go_enter Try.func13, Try.ntmps13
  go_wp2
  go_end0
  exact ⟨⟨_, rfl⟩, rfl⟩

/-- A new disk. -/
def DS.new (n b : Nat) : DS := { n := n, F := fun _ => zs, pend := [], left := -1, down := false, mp := b }
theorem new_world (w : World) (n : Nat) (hn : n ≤ 65536) :
    Dk ((w.alloc (.map #[] 0)).alloc (.cells #[.int .i64 (n : Int), .map (some w.heap.size), .slice none 0 0, .int .i64 (-1), .bool false] 57)) (w.heap.size + 1) (fun k => w.heap.size ≤ k ∧ k ≤ w.heap.size + 1) (DS.new n w.heap.size) := by
  refine ⟨⟨by simp [DS.new], fun _ => by simp [DS.new, zs], hn, by simp [DS.new], by simp [DS.new]⟩, fun k hk => by simp; omega, ⟨by omega, by omega⟩, w.heap.size, none, 0, ⟨⟨by omega, by omega⟩, rfl⟩, ?_, ?_, ?_, ?_⟩
  · intro k hk; cases hk
  · exact (IsMap.new w zs).keep (Below.heap_alloc _ _ _ (by simp))
  · exact World.ownsRow_nil _ _ _ _
  · have := heap_alloc_new (w.alloc (.map #[] 0)) (.cells #[.int .i64 (n : Int), .map (some w.heap.size), .slice none 0 0, .int .i64 (-1), .bool false] 57)
    rw [World.size_alloc] at this
    exact this

set_option maxHeartbeats 400000 in
theorem new_any (n : Nat) (w : World) (h1 : 1 ≤ n) (h2 : n ≤ 65536) : Calls Try.prog 10 #[.int .i64 (n : Int)] w fun e w' =>
    ∃ p S, e = .returned (.tuple #[.pointer (some ⟨p, 0, none⟩), .int .i64 0]) ∧ Dk w' p S (DS.new n w.heap.size) ∧ Below w.heap.size w w' ∧ (∀ k, S k → w.heap.size ≤ k) := by
  have HW := Lib.hid (new_world w n h2)
  have hmm := @run_makeMap Try.prog
  go_enter Try.func10, Try.ntmps10
  go_wp2
  go_ret2
  exact ⟨_, _, rfl, HW.out, ((Below.refl _ _).alloc (Nat.le_refl _) _).alloc (by simp) _, fun k hk => hk.1⟩
set_option maxHeartbeats 400000 in
theorem new_no (n : Int) (w : World) (h : n < 1 ∨ 65536 < n) : Calls Try.prog 10 #[.int .i64 n] w fun e w' => e = .returned (.tuple #[.pointer none, .int .i64 1]) ∧ w = w' := by
  by_cases h1 : n < 1
  · clear h
    go_enter Try.func10, Try.ntmps10
    go_wp2
    go_ret2
    exact ⟨rfl, rfl⟩
  · have h2 : 65536 < n := by omega
    clear h
    go_enter Try.func10, Try.ntmps10
    go_wp2
    go_ret2
    exact ⟨rfl, rfl⟩
end Go.Proofs.Ytcieahfhpanogaa
