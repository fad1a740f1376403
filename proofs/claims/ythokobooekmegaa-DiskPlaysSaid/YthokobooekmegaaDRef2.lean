/-
  The document's answers for layer 3, continued: put, Write, Flush.
-/
import Derived.Test.YthokobooekmegaaDRef
namespace Go.Proofs.Ythokobooekmegaa
open Go.RowKit

/-- The cells of n texts. -/
def tc (n : Nat) (f : Nat → List UInt8) : List Value := (List.range n).map fun j => .string (txt (f j))
theorem tc_len (n : Nat) (f : Nat → List UInt8) : (tc n f).length = n := by simp [tc]
theorem tc_get {n : Nat} {f : Nat → List UInt8} {j : Nat} (h : j < n) : (tc n f)[j]? = some (.string (txt (f j))) := by simp [tc, h]
theorem tc_one (n : Nat) (f : Nat → List UInt8) : ∀ u ∈ tc n f, u.oneCell' = true := by
  intro u hu
  simp only [tc, List.mem_map] at hu
  obtain ⟨j, _, rfl⟩ := hu
  rfl
theorem TS.news {w : World} {n : Nat} {f : Nat → List UInt8} {b : Nat} (h : ∀ j, j < n → w.cell? ⟨b, j, none⟩ = some (.string (txt (f j)))) : ∀ j u, (tc n f)[j]? = some u → w.cell? ((⟨b, 0, none⟩ : Addr).add j) = some u := by
  intro j u hu
  have hj : j < n := by have := (List.getElem?_eq_some_iff.1 hu).1; rwa [tc_len] at this
  rw [tc_get hj] at hu
  rw [add_plain, Nat.zero_add, h j hj]
  exact hu
/-- A row of texts of the call's own reads as texts. -/
theorem TS.of_own {w : World} {base g n c : Nat} {f : Nat → List UInt8} (h : w.ownsRow base 9 1 (.slice (some ⟨g, 0, none⟩) n c) n (tc n f)) : TS w (some ⟨g, 0, none⟩) n f := fun _ => ⟨g, rfl, fun j hj => by
  have := h.cells (g := g) rfl j _ (tc_get hj)
  rwa [add_plain, Nat.zero_add] at this⟩
/-- One text of such a row is written. -/
theorem own_set {w : World} {base g n c : Nat} {f : Nat → List UInt8} (h : w.ownsRow base 9 1 (.slice (some ⟨g, 0, none⟩) n c) n (tc n f)) {i : Nat} (hi : i < n) (b : List UInt8) :
    TS (w.setCell ⟨g, i, none⟩ (.string (txt b))) (some ⟨g, 0, none⟩) n (fun j => if j = i then b else f j) ∧ w.cell? ⟨g, i, none⟩ = some (.string (txt (f i))) ∧ w.frozen? ⟨g, i, none⟩ = false := by
  have hcell : ∀ j, j < n → w.cell? ⟨g, j, none⟩ = some (.string (txt (f j))) := fun j hj => by
    have := h.cells (g := g) rfl j _ (tc_get hj)
    rwa [add_plain, Nat.zero_add] at this
  rcases h.2 with ⟨h0, _⟩ | ⟨g', cap, cur, h1, h2, h3, h4⟩
  · cases h0
  · have hg' : g' = g := by
      injection h1 with h1 _ _
      injection h1 with h1
      injection h1 with h1
      exact h1.symm
    subst hg'
    refine ⟨fun _ => ⟨g', rfl, fun j hj => ?_⟩, hcell i hi, by simp [World.frozen?, h3]⟩
    have hj0 := hcell j hj
    rw [cell_of_row _ _ _ _ _ _ h3] at hj0
    rw [setCell_eq_setRow _ _ _ _ _ _ _ h3, cell_of_row _ _ _ _ _ _ (setRow_heap _ _ _ _ _ _ h3), Array.getElem?_setIfInBounds]
    have hi0 := hcell i hi
    rw [cell_of_row _ _ _ _ _ _ h3] at hi0
    have hib := (Array.getElem?_eq_some_iff.1 hi0).1
    by_cases e : i = j
    · subst e
      rw [if_pos rfl, if_pos hib]
      show some (Value.string (txt b)) = some (Value.string (txt (if i = i then b else f i)))
      rw [if_pos rfl]
    · rw [if_neg e]
      show _ = some (Value.string (txt (if j = i then b else f j)))
      rw [if_neg (fun h : j = i => e h.symm)]
      exact hj0

set_option maxRecDepth 100000 in
set_option maxHeartbeats 1000000 in
theorem put_any (A : Option Addr) (n c : Nat) (f : Nat → List UInt8) (i : Nat) (b : List UInt8) (w : World) (h : TS w A n f) (hi : i < n) (hn : n ≤ 65536) :
    Calls Try.prog 32 #[.slice A n c, .int .i64 (i : Int), .string (txt b)] w fun e w' =>
      ∃ g c', e = .returned (.slice (some ⟨g, 0, none⟩) n c') ∧ TS w' (some ⟨g, 0, none⟩) n (fun j => if j = i then b else f j) ∧ Below w.heap.size w w' ∧ w.heap.size ≤ g := by
  obtain ⟨b0, rfl, hc⟩ := h (by omega)
  have HN := Lib.hid (TS.news hc)
  clear hc h
  obtain ⟨i0, hi0, hz0, hz1, hz2⟩ := info_parts info_str
  have HI0 := Lib.hid hi0
  have HZ0 := Lib.hid hz0
  have HZ1 := Lib.hid hz1
  have HZ2 := Lib.hid hz2
  have HLN : Hid ((tc n f).length = n * 1) := by show _ = _; rw [tc_len]; omega
  clear hi0 hz0 hz1 hz2
  go_enter Try.func32, Try.ntmps32
  go_wp2_with (refine wpList_append_lies w rfl (.tmp 8) (.tmp 9) 28 rfl w.heap.size 9 i0 _ 1 16 Try.underlying28 HI0.out HZ0.out HZ1.out HZ2.out rfl (by omega) (.slice none 0 0) 0 [] rfl (World.ownsRow_nil _ _ _ _) ⟨b0, 0, none⟩ n c (tc n f) rfl HLN.out HN.out (tc_one n f) (by omega) (by unfold maxLen; omega) (by omega) (Nat.le_refl _) w.heap.size rfl ?_
               intro g cap w1 ho1 hg1 hat1 hlt1
               rw [Nat.zero_add, List.nil_append] at ho1
               rw [Nat.zero_add]
               obtain ⟨t1, t2, t3⟩ := own_set ho1 hi b
               have HT1 := Lib.hid t1
               have HG : Hid (w.heap.size ≤ g) := by rcases hat1 with h | h; cases h; show _ ≤ _; omega
               have HB : Hid (Below w.heap.size w w1) := ⟨hg1.os, hg1.tape, hg1.output, hg1.size, fun k hk => hg1.block k hk (by simp [Value.ownBlock])⟩
               clear t1 ho1 hg1 hat1 hlt1)
  go_ret
  exact ⟨g, cap, rfl, HT1.out, HB.out.setCell (p := ⟨g, i, none⟩) HG.out _, HG.out⟩

/-- The cells of writes by values. -/
def wc : List (Int × List UInt8) → List Value
  | [] => []
  | x :: l => [.int .i64 x.1, .string (txt x.2)] ++ wc l
theorem wc_append (a b : List (Int × List UInt8)) : wc (a ++ b) = wc a ++ wc b := by
  induction a with
  | nil => rfl
  | cons x a ih => simp only [List.cons_append, wc, ih, List.append_assoc]
theorem wc_len (l : List (Int × List UInt8)) : (wc l).length = l.length * 2 := by
  induction l with
  | nil => rfl
  | cons x l ih => simp only [wc, List.length_append, List.length_cons, List.length_nil, ih]; omega
theorem wc_one (l : List (Int × List UInt8)) : ∀ u ∈ wc l, u.oneCell' = true := by
  induction l with
  | nil => intro u hu; cases hu
  | cons x l ih =>
    intro u hu
    simp only [wc, List.mem_append, List.mem_cons, List.not_mem_nil, or_false] at hu
    rcases hu with (rfl | rfl) | hu
    · rfl
    · rfl
    · exact ih u hu
theorem wc_get (l : List (Int × List UInt8)) (k : Nat) (hk : k < l.length) : (wc l)[k * 2]? = some (.int .i64 l[k].1) ∧ (wc l)[k * 2 + 1]? = some (.string (txt l[k].2)) := by
  induction l generalizing k with
  | nil => simp at hk
  | cons x l ih =>
    match k with
    | 0 => exact ⟨rfl, rfl⟩
    | k + 1 =>
      have := ih k (by simpa using hk)
      simp only [wc]
      rw [show (k + 1) * 2 = k * 2 + 1 + 1 by omega]
      simpa using this
theorem WS.news {w : World} {b : Nat} {l : List (Int × List UInt8)} (h : ∀ j (hj : j < l.length), w.cell? ⟨b, j * 2, none⟩ = some (.int .i64 l[j].1) ∧ w.cell? ⟨b, j * 2 + 1, none⟩ = some (.string (txt l[j].2))) : ∀ j u, (wc l)[j]? = some u → w.cell? ((⟨b, 0, none⟩ : Addr).add j) = some u := by
  intro j u hu
  have hj : j < l.length * 2 := by have := (List.getElem?_eq_some_iff.1 hu).1; rwa [wc_len] at this
  rw [add_plain, Nat.zero_add]
  have hk : j / 2 < l.length := by omega
  obtain ⟨h1, h2⟩ := wc_get l (j / 2) hk
  obtain ⟨c1, c2⟩ := h (j / 2) hk
  rcases Nat.mod_two_eq_zero_or_one j with hm | hm
  · have e : j = j / 2 * 2 := by omega
    rw [← e] at h1 c1
    rw [c1, ← h1]
    exact hu
  · have e : j = j / 2 * 2 + 1 := by omega
    rw [← e] at h2 c2
    rw [c2, ← h2]
    exact hu
theorem WS.of_own {w : World} {base g n c : Nat} {l : List (Int × List UInt8)} (hn : l.length = n) (h0 : 0 < n) (h : w.ownsRow base 69 2 (.slice (some ⟨g, 0, none⟩) n c) n (wc l)) : WS w (some ⟨g, 0, none⟩) c l :=
  ⟨fun e => by rw [e] at hn; simp at hn; omega, fun _ => ⟨g, rfl, fun j hj => by
    obtain ⟨h1, h2⟩ := wc_get l j hj
    have c1 := h.cells (g := g) rfl _ _ h1
    have c2 := h.cells (g := g) rfl _ _ h2
    rw [add_plain, Nat.zero_add] at c1 c2
    exact ⟨c1, c2⟩⟩⟩
theorem info_w : (Try.prog.info? 69).map (fun i => (i.zero, i.size, i.bytes)) = some (some (.agg #[.int .i64 0, .string (txt [])]), 2, 24) := by kernel_rfl

end Go.Proofs.Ythokobooekmegaa
