
/-
  A map of slices asked and written; Len, has, Get, Put (layer 10).
-/
import Derived.Test.YtjionpkflpnejaaTSmall
import Derived.Deep.RegionHeld
import Derived.IntWalk
namespace Go.Proofs.Ytjionpkflpnejaa
open Go.RowKit

section
variable {w : World} {m : Nat} {S : Nat → Prop} {p : Nat → Option (List UInt8)}
theorem PM.none_at (h : PM w m S p) (i : Nat) (hi : p i = none) : (Instr.lookup 60 (.map (some m)) (.int .i64 (i : Int)) true).run Try.prog w = .ok (.tuple #[.slice none 0 0, .bool false]) w := by
  obtain ⟨es, c, hb, hk, hp⟩ := h
  have ho := hp i
  have hik : MapKept.IsKey (.int .i64) (.int .i64 (i : Int)) := by simp [MapKept.IsKey]
  have hz := Try.zeroValue27 w
  rcases findNow_spec (i : Int) es.toList 0 hk with ⟨h1, h2⟩ | ⟨n, v, h1, h2, _⟩
  · simp [Instr.lookup, run_underlying Try.underlying60, MapKept.run_getObj_map hb, MapKept.run_checkKey Try.underlying3 hik, MapKept.run_findKey Try.underlying3 h2, hz, Result.andThen]
  · rw [h1, hi] at ho
    exact ho.elim
theorem PM.some_at (h : PM w m S p) (i : Nat) {b : List UInt8} (hi : p i = some b) : ∃ x : Sl, (Instr.lookup 60 (.map (some m)) (.int .i64 (i : Int)) true).run Try.prog w = .ok (.tuple #[.slice x.a x.n x.c, .bool true]) w ∧ BC w S x b := by
  obtain ⟨es, c, hb, hk, hp⟩ := h
  have ho := hp i
  have hik : MapKept.IsKey (.int .i64) (.int .i64 (i : Int)) := by simp [MapKept.IsKey]
  rcases findNow_spec (i : Int) es.toList 0 hk with ⟨h1, h2⟩ | ⟨n, v, h1, h2, _⟩
  · rw [h1, hi] at ho
    exact ho.elim
  · rw [h1, hi] at ho
    obtain ⟨x, rfl, hx⟩ := ho
    exact ⟨x, by simp [Instr.lookup, run_underlying Try.underlying60, MapKept.run_getObj_map hb, MapKept.run_checkKey Try.underlying3 hik, MapKept.run_findKey Try.underlying3 h2, Result.andThen, Sl.v], hx⟩
theorem PM.update (h : PM w m S p) (i : Nat) (x : Sl) (b : List UInt8) (hx : BC w S x b) :
    ∃ w', (Instr.mapUpdate 60 (.map (some m)) (.int .i64 (i : Int)) (.slice x.a x.n x.c)).run Try.prog w = .ok () w' ∧ PM w' m S (fun j => if j = i then some b else p j) ∧ Ch (· = m) w w' ∧ w'.heap.size = w.heap.size := by
  have hd := h.dull
  obtain ⟨es, c, hb, hkeys, hF⟩ := h
  have hik : MapKept.IsKey (.int .i64) (.int .i64 (i : Int)) := by simp [MapKept.IsKey]
  have gb : ∀ o : Obj, Ch (· = m) w { w with heap := w.heap.setIfInBounds m o } := fun o => ⟨⟨rfl, rfl, rfl, by simp, fun j hj => by
    simp only [Array.getElem?_setIfInBounds]
    rw [if_neg (fun e => hj.2 e.symm)]⟩, fun k hk => by rw [hk]; exact hd⟩
  rcases findNow_spec (i : Int) es.toList 0 hkeys with ⟨h1, h2⟩ | ⟨n, v, h1, h2, h3, h4, h5⟩
  · refine ⟨{ w with heap := w.heap.setIfInBounds m (.map (es.push { key := .int .i64 (i : Int), val := x.v, born := c }) (c + 1)) }, ?_, ⟨_, _, (MapKept.heap_set hb).1, ?_, ?_⟩, gb _, by simp⟩
    · simp [Instr.mapUpdate, run_underlying Try.underlying60, MapKept.run_getObj_map hb, MapKept.run_checkKey Try.underlying3 hik, MapKept.run_findKey Try.underlying3 h2, MapKept.run_setObj_map _ hb, Result.andThen, Sl.v]
    · intro e he
      simp only [Array.toList_push, List.mem_append, List.mem_singleton] at he
      rcases he with he | rfl
      · exact hkeys e he
      · exact ⟨i, rfl⟩
    · intro j
      have happ : ∀ (A : List MapEntry) (x : MapEntry), look (A ++ [x]) (j : Int) = (look A (j : Int)).or (if keyI x.key = some (j : Int) then some x.val else none) := by
        intro A x
        induction A with
        | nil => simp [look]
        | cons y A ih => simp only [List.cons_append, look, ih]; split <;> simp
      rw [Array.toList_push, happ]
      by_cases e1 : j = i
      · subst e1
        simp only [h1, keyI, if_true, Option.none_or]
        exact ⟨x, rfl, hx.ch (gb _)⟩
      · have e2 : ¬ (i : Int) = (j : Int) := fun e => e1 (by omega)
        simp only [keyI, Option.some.injEq, if_neg e2, if_neg e1, Option.or_none]
        exact (hF j).imp fun _ _ hb => hb.ch (gb _)
  · have hes : ((es[n]?).map (·.key)).getD (.int .i64 (i : Int)) = .int .i64 (i : Int) := by
      have : es[n]? = es.toList[n]? := by simp
      rw [this, h4]
      rfl
    refine ⟨{ w with heap := w.heap.setIfInBounds m (.map (es.modify n fun e => { e with key := .int .i64 (i : Int), val := x.v }) c) }, ?_, ⟨_, _, (MapKept.heap_set hb).1, ?_, ?_⟩, gb _, by simp⟩
    · simp [Instr.mapUpdate, run_underlying Try.underlying60, MapKept.run_getObj_map hb, MapKept.run_checkKey Try.underlying3 hik, MapKept.run_findKey Try.underlying3 h2, MapKept.run_setObj_map _ hb, Result.andThen, hes, MapKept.run_keyThatStays hik, Sl.v]
    · intro e he
      rw [Array.toList_modify] at he
      obtain ⟨j, hj⟩ := List.mem_iff_getElem?.1 he
      rw [List.getElem?_modify] at hj
      obtain ⟨x, hx, rfl⟩ := Option.map_eq_some_iff.1 hj
      by_cases hnj : n = j
      · rw [if_pos hnj]
        exact ⟨i, rfl⟩
      · rw [if_neg hnj]
        exact hkeys x (List.mem_of_getElem? hx)
    · intro j
      rw [Array.toList_modify, h5]
      by_cases e1 : j = i
      · subst e1
        simp only [if_true]
        exact ⟨x, rfl, hx.ch (gb _)⟩
      · have e2 : ¬ (j : Int) = (i : Int) := fun e => e1 (by omega)
        simp only [if_neg e2, if_neg e1]
        exact (hF j).imp fun _ _ hb => hb.ch (gb _)
end

section
variable {w : World} {p m : Nat} {x : Sl} {S : Nat → Prop} {X : TX}
set_option maxHeartbeats 400000 in
theorem tlen_nil (w : World) : Calls Try.prog 32 #[.pointer none] w fun e w' => e = .returned (.int .i64 0) ∧ w' = w := by
  go_enter Try.func32, Try.ntmps32
  go_wp2
  go_ret
  exact ⟨rfl, rfl⟩
set_option maxHeartbeats 400000 in
theorem tlen_any (h : Tq w p m x S X) : Calls Try.prog 32 #[.pointer (some ⟨p, 0, none⟩)] w fun e w' => e = .returned (.int .i64 (x.n : Int)) ∧ w' = w := by
  have h0 := h.c0
  clear h
  go_enter Try.func32, Try.ntmps32
  go_wp2
  go_ret
  exact ⟨rfl, rfl⟩
/-- Is there a block i? -/
def hasB (n : Nat) (i : Int) : Bool := decide (0 ≤ i) && decide (i < (n : Int))
set_option maxHeartbeats 400000 in
theorem has_any (h : Tq w p m x S X) (i : Int) : Calls Try.prog 45 #[.pointer (some ⟨p, 0, none⟩), .int .i64 i] w fun e w' => e = .returned (.bool (hasB x.n i)) ∧ w' = w := by
  have HC := Lib.hid (tlen_any h)
  clear h
  by_cases h0 : 0 ≤ i
  · by_cases h1 : i < (x.n : Int)
    · have HE : Hid (hasB x.n i = true) := by show _ = _; simp [hasB, h0, h1]
      have hd : decide (i < (x.n : Int)) = true := by simpa using h1
      go_enter Try.func45, Try.ntmps45
      go_wp2_with fail
      refine HC.out.mono ?_
      rintro e w' ⟨rfl, rfl⟩
      go_wp2
      go_ret
      rw [HE.out]
      exact ⟨rfl, rfl⟩
    · have HE : Hid (hasB x.n i = false) := by show _ = _; simp [hasB, h1]
      have hd : decide (i < (x.n : Int)) = false := by simpa using h1
      go_enter Try.func45, Try.ntmps45
      go_wp2_with fail
      refine HC.out.mono ?_
      rintro e w' ⟨rfl, rfl⟩
      go_wp2
      go_ret
      rw [HE.out]
      exact ⟨rfl, rfl⟩
  · have HE : Hid (hasB x.n i = false) := by show _ = _; simp [hasB, h0]
    go_enter Try.func45, Try.ntmps45
    go_wp2
    go_ret
    rw [HE.out]
    exact ⟨rfl, rfl⟩
set_option maxHeartbeats 400000 in
theorem has_nil (i : Int) (w : World) : Calls Try.prog 45 #[.pointer none, .int .i64 i] w fun e w' => e = .returned (.bool false) ∧ w' = w := by
  have HC := Lib.hid (tlen_nil w)
  by_cases h0 : 0 ≤ i
  · have hd : decide (i < 0) = false := by simp; omega
    go_enter Try.func45, Try.ntmps45
    go_wp2_with fail
    refine HC.out.mono ?_
    rintro e w' ⟨rfl, rfl⟩
    go_wp2
    go_ret
    exact ⟨rfl, rfl⟩
  · go_enter Try.func45, Try.ntmps45
    go_wp2
    go_ret
    exact ⟨rfl, rfl⟩
/-- What Get hands back: bytes of its own. -/
def GotB (w : World) (l : List UInt8) (e : Ending) (w' : World) : Prop := ∃ A n c, e = .returned (.slice A n c) ∧ BS w' A n l ∧ n ≤ c ∧ n ≤ big47 ∧ (∀ ad, A = some ad → w.heap.size ≤ ad.block) ∧ Below w.heap.size w w' ∧ ∀ ad, A = some ad → ∀ j, w'.frozen? ⟨ad.block, j, none⟩ = false
set_option maxHeartbeats 1000000 in
theorem get_no (h : Tq w p m x S X) (i : Int) (hi : hasB x.n i = false) : Calls Try.prog 29 #[.pointer (some ⟨p, 0, none⟩), .int .i64 i] w (GotB w []) := by
  have HC := Lib.hid (has_any h i)
  rw [hi] at HC
  clear h hi
  go_enter Try.func29, Try.ntmps29
  go_wp2_with fail
  refine HC.out.mono ?_
  rintro e w' ⟨rfl, rfl⟩
  go_wp2
  go_ret
  exact ⟨none, 0, 0, rfl, BS.nil, Nat.le_refl _, Nat.zero_le _, (fun _ e => by cases e), Below.refl _ _, (fun _ e => by cases e)⟩
set_option maxHeartbeats 1000000 in
theorem get_nil (i : Int) (w : World) : Calls Try.prog 29 #[.pointer none, .int .i64 i] w fun e w' => e = .returned (.slice none 0 0) ∧ w' = w := by
  have HC := Lib.hid (has_nil i w)
  go_enter Try.func29, Try.ntmps29
  go_wp2_with fail
  refine HC.out.mono ?_
  rintro e w' ⟨rfl, rfl⟩
  go_wp2
  go_ret
  exact ⟨rfl, rfl⟩
theorem hasB_nat {n i : Nat} (h : i < n) : hasB n (i : Int) = true := by simp [hasB, h]
set_option maxHeartbeats 1000000 in
theorem get_ok (h : Tq w p m x S X) (i : Nat) (hi : i < x.n) : Calls Try.prog 29 #[.pointer (some ⟨p, 0, none⟩), .int .i64 (i : Int)] w (GotB w (X.get i)) := by
  have HC := Lib.hid (has_any h (i : Int))
  rw [hasB_nat hi] at HC
  have c0 := h.c0
  have c1 := h.c1
  cases hp : X.p i with
  | none =>
    have hl := h.puts.none_at i hp
    obtain ⟨g, y, hxa, hg, hb⟩ := h.rows.at hi
    have HB := Lib.hid hb
    have HE : Hid (X.get i = X.l.getD i []) := TX.get_none hp
    clear h hp hb
    rw [hxa] at c0
    clear hxa
    go_enter Try.func29, Try.ntmps29
    go_wp2_with fail
    refine HC.out.mono ?_
    rintro e w' ⟨rfl, rfl⟩
    go_wp2_with fail
    refine (clone_big y.a y.n y.c _ w' HB.out.bs HB.out.few).mono ?_
    rintro e w2 ⟨A, c, rfl, h1, h2, h3, h4, h5⟩
    have HH : Hid (GotB w' (X.get i) (.returned (.slice A y.n c)) w2) := by
      show GotB _ _ _ _
      rw [HE.out]
      exact ⟨A, _, c, rfl, h1, h2, HB.out.few, h3, h4, h5⟩
    clear h1 h2 h3 h4 h5
    go_wp2_with fail
    go_ret
    exact HH.out
  | some b =>
    obtain ⟨y, hl, hb⟩ := h.puts.some_at i hp
    have HB := Lib.hid hb
    have HE : Hid (X.get i = b) := TX.get_of hp
    clear h hp hb
    go_enter Try.func29, Try.ntmps29
    go_wp2_with fail
    refine HC.out.mono ?_
    rintro e w' ⟨rfl, rfl⟩
    go_wp2_with fail
    refine (clone_big y.a y.n y.c _ w' HB.out.bs HB.out.few).mono ?_
    rintro e w2 ⟨A, c, rfl, h1, h2, h3, h4, h5⟩
    have HH : Hid (GotB w' (X.get i) (.returned (.slice A y.n c)) w2) := by
      show GotB _ _ _ _
      rw [HE.out]
      exact ⟨A, _, c, rfl, h1, h2, HB.out.few, h3, h4, h5⟩
    clear h1 h2 h3 h4 h5
    go_wp2_with fail
    go_ret
    exact HH.out
end
end Go.Proofs.Ytjionpkflpnejaa
