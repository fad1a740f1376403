/-
  The disk's calls (layer 3), one contract for all ways of each: what it leaves (wst, fst, crashed), and its error (wer, fer). These words stand in disk's XDFull, XDAlike and XDPairs too, beside the document's.
-/
import Derived.Test.YtcieahfhpanogaaDCrash
namespace Go.Proofs.Ytcieahfhpanogaa
open Go.RowKit

theorem crash_any (p : Nat) (S : Nat → Prop) (s : DS) (A : Option Addr) (m c : Nat) (L : List UInt8) (w : World) (h : Dk w p S s) (hs : s.pend.length ≤ 1000000) (hL : BS w A m L) (hA : 0 < m → ∀ ad, A = some ad → ¬ S ad.block) (hm : m ≤ maxLen) :
    Calls Try.prog 15 #[.pointer (some ⟨p, 0, none⟩), .slice A m c] w fun e w' =>
      e = .returned (.int .i64 ((cho L s.pend s.pend.length).length : Int)) ∧ Dk w' p S (s.crashed L) ∧ Fr S w w' :=
  callsIn_wide.1 (crash_in Fence.wide 3 trivial trivial trivial rfl (by omega) p S s A m c L w h hs hL hA hm)
set_option maxHeartbeats 400000 in
theorem crash_nil (A : Option Addr) (m c : Nat) (w : World) : Calls Try.prog 15 #[.pointer none, .slice A m c] w fun e w' => e = .returned (.int .i64 0) ∧ Below w.heap.size w w' := by
  go_enter Try.func15, Try.ntmps15
  go_wp2
  go_ret
  exact ⟨rfl, (Below.refl _ _).alloc (Nat.le_refl _) _⟩
theorem refus_in {s : DS} {i : Int} (h : refus s i = 0) : 0 ≤ i ∧ i < (s.n : Int) := by
  unfold refus at h
  split at h
  · omega
  · split at h
    · omega
    · omega

/-- Every write that waits is for a sector that is there. -/
def DS.inside (s : DS) : Prop := ∀ x ∈ s.pend, 0 ≤ x.1 ∧ x.1 < (s.n : Int)
theorem DS.inside_new (n b : Nat) : (DS.new n b).inside := fun x hx => by cases hx
theorem DS.inside_count {s : DS} (h : s.inside) : s.count.inside := by
  unfold DS.inside
  rw [DS.count_pend, DS.count_n]
  exact h
theorem DS.inside_push {s : DS} (h : s.inside) {i : Int} {b : List UInt8} (h0 : 0 ≤ i) (h1 : i < (s.n : Int)) : (s.push i b).inside := fun x hx => by
  rcases List.mem_append.1 (show x ∈ s.pend ++ [(i, b)] from hx) with hx | hx
  · exact h x hx
  · obtain rfl : x = (i, b) := by simpa using hx
    exact ⟨h0, h1⟩
theorem DS.inside_flushed (s : DS) : s.flushed.inside := fun x hx => by cases hx
theorem DS.inside_crashed (s : DS) (L : List UInt8) : (s.crashed L).inside := fun x hx => by cases hx
theorem refus_up {s : DS} {i : Int} (h : refus s i = 0) : s.down = false := by
  unfold refus at h
  split at h
  · omega
  · simp_all

/-- A write: what it leaves, and its error. -/
def wst (s : DS) (i : Int) (l : List UInt8) : DS := if refus s i = 0 then (if l.length = 128 then (if s.count.down = true then s.count else s.count.push i l) else s) else s
def wer (s : DS) (i : Int) (l : List UInt8) : Int := if refus s i = 0 then (if l.length = 128 then (if s.count.down = true then 20 else 0) else 1) else refus s i
theorem wst_good {s : DS} (h : s.inside) (i : Int) (l : List UInt8) {k : Nat} (hk : s.pend.length ≤ k) : (wst s i l).inside ∧ (wst s i l).pend.length ≤ k + 1 ∧ (wst s i l).n = s.n := by
  unfold wst
  split
  · rename_i hr
    split
    · split
      · exact ⟨DS.inside_count h, by rw [DS.count_pend]; omega, DS.count_n s⟩
      · obtain ⟨h0, h1⟩ := refus_in hr
        refine ⟨DS.inside_push (DS.inside_count h) h0 (by rw [DS.count_n]; exact h1), ?_, DS.count_n s⟩
        show (s.count.pend ++ [(i, l)]).length ≤ k + 1
        rw [DS.count_pend, List.length_append]
        simp
        exact hk
    · exact ⟨h, by omega, rfl⟩
  · exact ⟨h, by omega, rfl⟩
/-- A flush. -/
def fst (s : DS) : DS := if s.down = true then s else if s.count.down = true then s.count else s.count.flushed
def fer (s : DS) : Int := if s.down = true then 20 else if s.count.down = true then 20 else 0
theorem fst_good {s : DS} (h : s.inside) {k : Nat} (hk : s.pend.length ≤ k) : (fst s).inside ∧ (fst s).pend.length ≤ k + 1 ∧ (fst s).n = s.n := by
  unfold fst
  split
  · exact ⟨h, by omega, rfl⟩
  · split
    · exact ⟨DS.inside_count h, by rw [DS.count_pend]; omega, DS.count_n s⟩
    · exact ⟨DS.inside_flushed _, Nat.zero_le _, DS.count_n s⟩
theorem crashed_good (s : DS) (L : List UInt8) (k : Nat) : (s.crashed L).inside ∧ (s.crashed L).pend.length ≤ k + 1 ∧ (s.crashed L).n = s.n := ⟨DS.inside_crashed _ _, Nat.zero_le _, rfl⟩

/-- A step of the disk: what it leaves lies in memory, of its own blocks and of new ones. -/
def Step (p : Nat) (S : Nat → Prop) (s' : DS) (W W' : World) : Prop := ∃ S', Dk W' p S' s' ∧ Fr S W W' ∧ ∀ k, S' k → S k ∨ W.heap.size ≤ k
theorem write_all (p : Nat) (S : Nat → Prop) (s : DS) (i : Int) (A : Option Addr) (n c : Nat) (l : List UInt8) (w : World) (h : Dk w p S s) (hs : s.pend.length ≤ 1000000) (hb : BS w A n l) (hA : ∀ ad, A = some ad → ¬ S ad.block) :
    Calls Try.prog 47 #[.pointer (some ⟨p, 0, none⟩), .int .i64 i, .slice A n c] w fun e w' => e = .returned (.int .i64 (wer s i l)) ∧ Step p S (wst s i l) w w' := by
  have hl : l.length = n := hb.1
  unfold wst wer
  split
  · rename_i hr
    split
    · rename_i hn
      obtain rfl : n = 128 := by omega
      split
      · rename_i hc
        refine (write_down p S s i A c w h hr hc).mono ?_
        rintro e w' ⟨rfl, h1, h2⟩
        exact ⟨rfl, S, h1, h2, fun _ h => .inl h⟩
      · rename_i hc
        refine (write_up p S s i A c l w h hs hr hb hA (by simpa using hc)).mono ?_
        rintro e w' ⟨rfl, S', h1, h2, h3⟩
        exact ⟨rfl, S', h1, h2, h3⟩
    · refine (write_arg p S s i A n c w h hr (by omega)).mono ?_
      rintro e w' ⟨rfl, rfl⟩
      exact ⟨rfl, S, h, Fr.refl _ _, fun _ h => .inl h⟩
  · rename_i hr
    refine (write_no p S s i A n c w h hr).mono ?_
    rintro e w' ⟨rfl, rfl⟩
    exact ⟨rfl, S, h, Fr.refl _ _, fun _ h => .inl h⟩
theorem flush_all (p : Nat) (S : Nat → Prop) (s : DS) (w : World) (h : Dk w p S s) (hs : s.pend.length ≤ 1000000) :
    Calls Try.prog 48 #[.pointer (some ⟨p, 0, none⟩)] w fun e w' => e = .returned (.int .i64 (fer s)) ∧ Step p S (fst s) w w' := by
  unfold fst fer
  split
  · rename_i hd
    refine (flush_no p S s w h hd).mono ?_
    rintro e w' ⟨rfl, rfl⟩
    exact ⟨rfl, S, h, Fr.refl _ _, fun _ h => .inl h⟩
  · rename_i hd
    split
    · rename_i hc
      refine (flush_down p S s w h (by simpa using hd) hc).mono ?_
      rintro e w' ⟨rfl, h1, h2⟩
      exact ⟨rfl, S, h1, h2, fun _ h => .inl h⟩
    · rename_i hc
      refine (flush_up p S s w h hs (by simpa using hd) (by simpa using hc)).mono ?_
      rintro e w' ⟨rfl, h1, h2⟩
      exact ⟨rfl, S, h1, h2, fun _ h => .inl h⟩
theorem stop_all (p : Nat) (S : Nat → Prop) (s : DS) (k : Int) (w : World) (h : Dk w p S s) (hlo : -9223372036854775808 ≤ k) (hhi : k ≤ 9223372036854775807) :
    Calls Try.prog 13 #[.pointer (some ⟨p, 0, none⟩), .int .i64 k] w fun e w' => (∃ v, e = .returned v) ∧ Step p S { s with left := k } w w' := by
  refine (stop_any p S s k w h hlo hhi).mono ?_
  rintro e w' ⟨h0, h1, h2⟩
  exact ⟨h0, S, h1, h2, fun _ h => .inl h⟩
theorem crash_all (p : Nat) (S : Nat → Prop) (s : DS) (A : Option Addr) (m c : Nat) (L : List UInt8) (w : World) (h : Dk w p S s) (hs : s.pend.length ≤ 1000000) (hL : BS w A m L) (hA : 0 < m → ∀ ad, A = some ad → ¬ S ad.block) (hm : m ≤ maxLen) :
    Calls Try.prog 15 #[.pointer (some ⟨p, 0, none⟩), .slice A m c] w fun e w' => e = .returned (.int .i64 ((cho L s.pend s.pend.length).length : Int)) ∧ Step p S (s.crashed L) w w' := by
  refine (crash_any p S s A m c L w h hs hL hA hm).mono ?_
  rintro e w' ⟨rfl, h1, h2⟩
  exact ⟨rfl, S, h1, h2, fun _ h => .inl h⟩
/-- Read, all ways. -/
theorem read_all (p : Nat) (S : Nat → Prop) (s : DS) (i : Int) (w : World) (h : Dk w p S s) (hs : s.pend.length ≤ 1000000) :
    Calls Try.prog 49 #[.pointer (some ⟨p, 0, none⟩), .int .i64 i] w fun e w' =>
      ∃ A n c, e = .returned (.tuple #[.slice A n c, .int .i64 (refus s i)]) ∧ n ≤ c ∧ BS w' A n (if refus s i = 0 then s.read i else []) ∧ (∀ ad, A = some ad → w.heap.size ≤ ad.block) ∧ Below w.heap.size w w' := by
  by_cases hr : refus s i = 0
  · refine (read_any p S s i w h hs hr).mono ?_
    rintro e w' ⟨g, rfl, h1, h2, h3⟩
    have hb := BS.of_block h1
    have hl : (s.read i).length = 128 := rd_len _ h.1.1 i _ (h.1.2.1 i)
    rw [hl] at hb
    refine ⟨some ⟨g, 0, none⟩, 128, 128, by rw [hr], Nat.le_refl _, by rw [if_pos hr]; exact hb, fun ad e => by cases e; exact h2, h3⟩
  · refine (read_no p S s i w h hr).mono ?_
    rintro e w' ⟨rfl, rfl⟩
    exact ⟨none, 0, 0, rfl, Nat.le_refl _, by rw [if_neg hr]; exact BS.nil, fun ad e => by (cases e), Below.refl _ _⟩
end Go.Proofs.Ytcieahfhpanogaa
