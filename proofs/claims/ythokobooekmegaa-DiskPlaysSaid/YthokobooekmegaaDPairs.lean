/-
  The disk's calls and the document's, one pair at a time: a step, its error, and one contract for all ways.
-/
import Derived.Test.YthokobooekmegaaDAlike
namespace Go.Proofs.Ythokobooekmegaa
open Go.RowKit

/-- Every write that waits is for a sector that is there. -/
def DS.inside (s : DS) : Prop := ∀ x ∈ s.pend, 0 ≤ x.1 ∧ x.1 < (s.n : Int)
theorem DS.inside_new (n : Nat) : (DS.new n).inside := fun x hx => by cases hx
theorem DS.inside_count {s : DS} (h : s.inside) : s.count.inside := by
  unfold DS.inside
  rw [DS.count_pend, DS.count_n]
  exact h
theorem DS.inside_push {s : DS} (h : s.inside) {i : Int} {b : List UInt8} (h0 : 0 ≤ i) (h1 : i < (s.n : Int)) : (s.push i b).inside := fun x hx => by
  rcases List.mem_append.1 (show x ∈ s.pend ++ [(i, b)] from hx) with hx | hx
  · exact h x hx
  · obtain rfl : x = (i, b) := by simpa using hx
    exact ⟨h0, h1⟩
theorem DS.inside_flushed (s : DS) : s.flushed.inside := fun x hx => by cases hx
theorem DS.inside_crashed (s : DS) (L : List UInt8) : (s.crashed L).inside := fun x hx => by cases hx
theorem refus_up {s : DS} {i : Int} (h : refus s i = 0) : s.down = false := by
  unfold refus at h
  split at h
  · omega
  · simp_all

/-- A write: what it leaves, and its error. -/
def wst (s : DS) (i : Int) (l : List UInt8) : DS := if refus s i = 0 then (if l.length = 128 then (if s.count.down = true then s.count else s.count.push i l) else s) else s
def wer (s : DS) (i : Int) (l : List UInt8) : Int := if refus s i = 0 then (if l.length = 128 then (if s.count.down = true then 20 else 0) else 1) else refus s i
theorem wst_good {s : DS} (h : s.inside) (i : Int) (l : List UInt8) {k : Nat} (hk : s.pend.length ≤ k) : (wst s i l).inside ∧ (wst s i l).pend.length ≤ k + 1 ∧ (wst s i l).n = s.n := by
  unfold wst
  split
  · rename_i hr
    split
    · split
      · exact ⟨DS.inside_count h, by rw [DS.count_pend]; omega, DS.count_n s⟩
      · obtain ⟨h0, h1⟩ := refus_in hr
        refine ⟨DS.inside_push (DS.inside_count h) h0 (by rw [DS.count_n]; exact h1), ?_, DS.count_n s⟩
        show (s.count.pend ++ [(i, l)]).length ≤ k + 1
        rw [DS.count_pend, List.length_append]
        simp
        exact hk
    · exact ⟨h, by omega, rfl⟩
  · exact ⟨h, by omega, rfl⟩
/-- A flush. -/
def fst (s : DS) : DS := if s.down = true then s else if s.count.down = true then s.count else s.count.flushed
def fer (s : DS) : Int := if s.down = true then 20 else if s.count.down = true then 20 else 0
theorem fst_good {s : DS} (h : s.inside) {k : Nat} (hk : s.pend.length ≤ k) : (fst s).inside ∧ (fst s).pend.length ≤ k + 1 ∧ (fst s).n = s.n := by
  unfold fst
  split
  · exact ⟨h, by omega, rfl⟩
  · split
    · exact ⟨DS.inside_count h, by rw [DS.count_pend]; omega, DS.count_n s⟩
    · exact ⟨DS.inside_flushed _, Nat.zero_le _, DS.count_n s⟩
theorem crashed_good (s : DS) (L : List UInt8) (k : Nat) : (s.crashed L).inside ∧ (s.crashed L).pend.length ≤ k + 1 ∧ (s.crashed L).n = s.n := ⟨DS.inside_crashed _ _, Nat.zero_le _, rfl⟩

/-- A step of the disk: what it leaves lies in memory, of its own blocks and of new ones. -/
def Step (p : Nat) (S : Nat → Prop) (s' : DS) (W W' : World) : Prop := ∃ S', Dk W' p S' s' ∧ Fr S W W' ∧ ∀ k, S' k → S k ∨ W.heap.size ≤ k
/-- A step of the document. -/
def StepR (s' : DS) (AL AW AL' AW' : Option Addr) (cW' : Nat) (W W' : World) : Prop :=
  RefD W' AL' AW' cW' s' ∧ Below W.heap.size W W' ∧ (∀ ad, AL' = some ad → AL = some ad ∨ W.heap.size ≤ ad.block) ∧ (∀ ad, AW' = some ad → AW = some ad ∨ W.heap.size ≤ ad.block)
theorem new_or {A AL : Option Addr} {n : Nat} (h : A = AL ∨ ∃ g, A = some (⟨g, 0, none⟩ : Addr) ∧ n ≤ g) : ∀ ad, A = some ad → AL = some ad ∨ n ≤ ad.block := fun ad e => by
  rcases h with rfl | ⟨g, rfl, hg⟩
  · exact .inl e
  · cases e
    exact .inr hg

theorem write_all (p : Nat) (S : Nat → Prop) (s : DS) (i : Int) (A : Option Addr) (n c : Nat) (l : List UInt8) (w : World) (h : Dk w p S s) (hs : s.pend.length ≤ 1000000) (hb : BS w A n l) (hA : ∀ ad, A = some ad → ¬ S ad.block) :
    Calls Try.prog 14 #[.pointer (some ⟨p, 0, none⟩), .int .i64 i, .slice A n c] w fun e w' => e = .returned (.int .i64 (wer s i l)) ∧ Step p S (wst s i l) w w' := by
  have hl : l.length = n := hb.1
  unfold wst wer
  split
  · rename_i hr
    split
    · rename_i hn
      obtain rfl : n = 128 := by omega
      split
      · rename_i hc
        refine (write_down p S s i A c w h hr hc).mono ?_
        rintro e w' ⟨rfl, h1, h2⟩
        exact ⟨rfl, S, h1, h2, fun _ h => .inl h⟩
      · rename_i hc
        refine (write_up p S s i A c l w h hs hr hb hA (by simpa using hc)).mono ?_
        rintro e w' ⟨rfl, S', h1, h2, h3⟩
        exact ⟨rfl, S', h1, h2, h3⟩
    · refine (write_arg p S s i A n c w h hr (by omega)).mono ?_
      rintro e w' ⟨rfl, rfl⟩
      exact ⟨rfl, S, h, Fr.refl _ _, fun _ h => .inl h⟩
  · rename_i hr
    refine (write_no p S s i A n c w h hr).mono ?_
    rintro e w' ⟨rfl, rfl⟩
    exact ⟨rfl, S, h, Fr.refl _ _, fun _ h => .inl h⟩

theorem writeR_all (AL AW : Option Addr) (cL cW : Nat) (s : DS) (i : Int) (l : List UInt8) (w : World) (h : RefD w AL AW cW s) (hs : s.pend.length ≤ 1000000) (hl : s.left ≤ 9223372036854775807) :
    Calls Try.prog 15 #[dv AL cL AW cW s, .int .i64 i, .string (txt l)] w fun e w' =>
      ∃ AL' AW' cL' cW', e = .returned (.tuple #[dv AL' cL' AW' cW' (wst s i l), .int .i64 (wer s i l)]) ∧ StepR (wst s i l) AL AW AL' AW' cW' w w' := by
  unfold wst wer
  split
  · rename_i hr
    split
    · rename_i hn
      split
      · rename_i hc
        refine (writeR_down AL AW cL cW s i l w hr hn (refus_up hr) hl hc).mono ?_
        rintro e w' ⟨rfl, h1⟩
        refine ⟨AL, AW, cL, cW, rfl, ?_, h1, fun _ h => .inl h, fun _ h => .inl h⟩
        unfold RefD
        rw [DS.count_n, DS.count_F, DS.count_pend]
        exact h.below h1
      · rename_i hc
        refine (writeR_up AL AW cL cW s i l w h hr hn (refus_up hr) hl (by simpa using hc) hs).mono ?_
        rintro e w' ⟨g, c', rfl, h1, h2, h3⟩
        exact ⟨AL, some ⟨g, 0, none⟩, cL, c', rfl, h1, h2, fun _ h => .inl h, fun ad e => by cases e; exact .inr h3⟩
    · rename_i hn
      refine (writeR_arg AL AW cL cW s i l w hr hn).mono ?_
      rintro e w' ⟨rfl, h1⟩
      exact ⟨AL, AW, cL, cW, rfl, h.below h1, h1, fun _ h => .inl h, fun _ h => .inl h⟩
  · rename_i hr
    refine (writeR_no AL AW cL cW s i l w hr).mono ?_
    rintro e w' ⟨rfl, h1⟩
    exact ⟨AL, AW, cL, cW, rfl, h.below h1, h1, fun _ h => .inl h, fun _ h => .inl h⟩

theorem flush_all (p : Nat) (S : Nat → Prop) (s : DS) (w : World) (h : Dk w p S s) (hs : s.pend.length ≤ 1000000) :
    Calls Try.prog 16 #[.pointer (some ⟨p, 0, none⟩)] w fun e w' => e = .returned (.int .i64 (fer s)) ∧ Step p S (fst s) w w' := by
  unfold fst fer
  split
  · rename_i hd
    refine (flush_no p S s w h hd).mono ?_
    rintro e w' ⟨rfl, rfl⟩
    exact ⟨rfl, S, h, Fr.refl _ _, fun _ h => .inl h⟩
  · rename_i hd
    split
    · rename_i hc
      refine (flush_down p S s w h (by simpa using hd) hc).mono ?_
      rintro e w' ⟨rfl, h1, h2⟩
      exact ⟨rfl, S, h1, h2, fun _ h => .inl h⟩
    · rename_i hc
      refine (flush_up p S s w h hs (by simpa using hd) (by simpa using hc)).mono ?_
      rintro e w' ⟨rfl, h1, h2⟩
      exact ⟨rfl, S, h1, h2, fun _ h => .inl h⟩

theorem flushR_all (AL AW : Option Addr) (cL cW : Nat) (s : DS) (w : World) (h : RefD w AL AW cW s) (hs : s.pend.length ≤ 1000000) (hl : s.left ≤ 9223372036854775807) (hn : s.n ≤ 65536) (hn0 : 0 < s.n) (hin : s.inside) :
    Calls Try.prog 17 #[dv AL cL AW cW s] w fun e w' =>
      ∃ AL' AW' cL' cW', e = .returned (.tuple #[dv AL' cL' AW' cW' (fst s), .int .i64 (fer s)]) ∧ StepR (fst s) AL AW AL' AW' cW' w w' := by
  unfold fst fer
  split
  · rename_i hd
    have hr : refus s 0 = 20 := by simp [refus, hd]
    refine (flushR_no AL AW cL cW s w (by omega)).mono ?_
    rintro e w' ⟨rfl, h1⟩
    exact ⟨AL, AW, cL, cW, by rw [hr], h.below h1, h1, fun _ h => .inl h, fun _ h => .inl h⟩
  · rename_i hd
    have hd' : s.down = false := by simpa using hd
    have hr : refus s 0 = 0 := by simp [refus, hd']; omega
    split
    · rename_i hc
      refine (flushR_down AL AW cL cW s w hr hd' hl hc).mono ?_
      rintro e w' ⟨rfl, h1⟩
      refine ⟨AL, AW, cL, cW, rfl, ?_, h1, fun _ h => .inl h, fun _ h => .inl h⟩
      unfold RefD
      rw [DS.count_n, DS.count_F, DS.count_pend]
      exact h.below h1
    · rename_i hc
      refine (flushR_up AL AW cL cW s w h hr hd' hl (by simpa using hc) hs hn hn0 hin).mono ?_
      rintro e w' ⟨A, c, rfl, h1, h2, h3⟩
      exact ⟨A, none, c, 0, rfl, h1, h2, new_or h3, fun ad e => by cases e⟩

theorem stop_all (p : Nat) (S : Nat → Prop) (s : DS) (k : Int) (w : World) (h : Dk w p S s) (hlo : -9223372036854775808 ≤ k) (hhi : k ≤ 9223372036854775807) :
    Calls Try.prog 18 #[.pointer (some ⟨p, 0, none⟩), .int .i64 k] w fun e w' => (∃ v, e = .returned v) ∧ Step p S { s with left := k } w w' := by
  refine (stop_any p S s k w h hlo hhi).mono ?_
  rintro e w' ⟨h0, h1, h2⟩
  exact ⟨h0, S, h1, h2, fun _ h => .inl h⟩
theorem stopR_all (AL AW : Option Addr) (cL cW : Nat) (s : DS) (k : Int) (w : World) (h : RefD w AL AW cW s) :
    Calls Try.prog 19 #[dv AL cL AW cW s, .int .i64 k] w fun e w' =>
      ∃ AL' AW' cL' cW', e = .returned (dv AL' cL' AW' cW' { s with left := k }) ∧ StepR { s with left := k } AL AW AL' AW' cW' w w' := by
  refine (stopR_any AL AW cL cW s k w).mono ?_
  rintro e w' ⟨rfl, h1⟩
  exact ⟨AL, AW, cL, cW, rfl, h.below h1, h1, fun _ h => .inl h, fun _ h => .inl h⟩
theorem crash_all (p : Nat) (S : Nat → Prop) (s : DS) (A : Option Addr) (m c : Nat) (L : List UInt8) (w : World) (h : Dk w p S s) (hs : s.pend.length ≤ 1000000) (hL : BS w A m L) (hA : 0 < m → ∀ ad, A = some ad → ¬ S ad.block) (hm : m ≤ maxLen) :
    Calls Try.prog 20 #[.pointer (some ⟨p, 0, none⟩), .slice A m c] w fun e w' => e = .returned (.int .i64 ((cho L s.pend s.pend.length).length : Int)) ∧ Step p S (s.crashed L) w w' := by
  refine (crash_any p S s A m c L w h hs hL hA hm).mono ?_
  rintro e w' ⟨rfl, h1, h2⟩
  exact ⟨rfl, S, h1, h2, fun _ h => .inl h⟩
theorem crashR_all (AL AW : Option Addr) (cL cW : Nat) (s : DS) (L : List UInt8) (w : World) (h : RefD w AL AW cW s) (hs : s.pend.length ≤ 1000000) (hn : s.n ≤ 65536) (hn0 : 0 < s.n) (hL : L.length ≤ 1000000) (hin : s.inside) :
    Calls Try.prog 21 #[dv AL cL AW cW s, .string (txt L)] w fun e w' =>
      ∃ AL' AW' cL' cW', e = .returned (.tuple #[dv AL' cL' AW' cW' (s.crashed L), .int .i64 ((cho L s.pend s.pend.length).length : Int)]) ∧ StepR (s.crashed L) AL AW AL' AW' cW' w w' := by
  refine (crashR_any AL AW cL cW s L w h hs hn hn0 hL hin).mono ?_
  rintro e w' ⟨A, c, rfl, h1, h2, h3⟩
  exact ⟨A, none, c, 0, rfl, h1, h2, new_or h3, fun ad e => by cases e⟩
end Go.Proofs.Ythokobooekmegaa
