
/-
  Contract of package dir's valid: names that may be, no two the same, cookies that rise (layer 8).
-/
import Derived.Test.YtjionpkflpnejaaEName
import Derived.Maps.OwnSet
import Derived.StringKeys
namespace Go.Proofs.Ytjionpkflpnejaa
open Go.RowKit Go.Maps Go.Shelf

theorem lawS : Keyed Try.prog 9 := string_keyed Try.underlying9
/-- The set of the first k names. -/
def keysS (xs : List (List UInt8)) (k : Nat) : List Lit := (xs.take k).map Lit.string
def setS (xs : List (List UInt8)) (k : Nat) : DataW Unit := setOf (.agg []) (keysS xs k)
theorem setS_zero (xs : List (List UInt8)) : setS xs 0 = .map [] := by simp [setS, keysS, setOf]
theorem setS_succ (xs : List (List UInt8)) (k : Nat) (h : k < xs.length) : setS xs (k + 1) = (setS xs k).put (.string xs[k]) (.agg []) := by
  unfold setS keysS
  rw [List.take_succ_eq_append_getElem h, List.map_append, List.map_singleton, setOf_snoc]
theorem same_S (a b : List UInt8) : (Lit.string a).sameKey (.string b) = decide (a = b) := by
  show (a == b) = decide (a = b)
  by_cases h : a = b
  · subst h; simp
  · simp [h]
theorem any_S (x : List UInt8) : ∀ l : List (List UInt8), (l.map Lit.string).any (fun y => y.sameKey (.string x)) = decide (x ∈ l)
  | [] => by simp
  | a :: r => by
    rw [List.map_cons, List.any_cons, any_S x r, same_S]
    by_cases h : a = x
    · subst h; simp
    · have h' : ¬ x = a := fun e => h e.symm
      simp [h, h']
/-- The different ones, in order. -/
def difS (l : List (List UInt8)) : List (List UInt8) := l.foldl (fun acc x => if x ∈ acc then acc else acc ++ [x]) []
theorem fold_difS : ∀ (l acc : List (List UInt8)), (l.map Lit.string).foldl addKey (acc.map Lit.string) = (l.foldl (fun acc x => if x ∈ acc then acc else acc ++ [x]) acc).map Lit.string
  | [], acc => rfl
  | a :: r, acc => by
    rw [List.map_cons, List.foldl_cons, List.foldl_cons]
    have e : addKey (acc.map Lit.string) (.string a) = (if a ∈ acc then acc else acc ++ [a]).map Lit.string := by
      unfold addKey
      rw [any_S]
      by_cases h : a ∈ acc
      · simp [h]
      · simp [h]
    rw [e, fold_difS r]
theorem dif_lenS : ∀ (l acc : List (List UInt8)), acc.Nodup → (l.foldl (fun acc x => if x ∈ acc then acc else acc ++ [x]) acc).length ≤ acc.length + l.length ∧ ((l.foldl (fun acc x => if x ∈ acc then acc else acc ++ [x]) acc).length = acc.length + l.length ↔ (acc ++ l).Nodup)
  | [], acc, h => by simp [h]
  | a :: r, acc, h => by
    rw [List.foldl_cons]
    by_cases ha : a ∈ acc
    · rw [if_pos ha]
      obtain ⟨h1, _⟩ := dif_lenS r acc h
      refine ⟨by rw [List.length_cons]; omega, ⟨fun e => by rw [List.length_cons] at e; omega, fun hn => ?_⟩⟩
      rw [List.nodup_append] at hn
      exact absurd rfl (hn.2.2 a ha a (by simp))
    · rw [if_neg ha]
      have hn : (acc ++ [a]).Nodup := by
        rw [List.nodup_append]
        refine ⟨h, by simp, fun x hx y hy => ?_⟩
        rw [List.mem_singleton] at hy
        subst hy
        intro e
        subst e
        exact ha hx
      obtain ⟨h1, h2⟩ := dif_lenS r (acc ++ [a]) hn
      rw [List.length_append, List.length_singleton] at h1
      rw [List.length_append, List.length_singleton, List.append_assoc, List.singleton_append] at h2
      rw [List.length_cons]
      exact ⟨by omega, ⟨fun e => h2.1 (by omega), fun e => by have := h2.2 e; omega⟩⟩
theorem size_setS (xs : List (List UInt8)) : Maps.size (setS xs xs.length) ≤ xs.length ∧ (Maps.size (setS xs xs.length) = xs.length ↔ xs.Nodup) := by
  have h1 : Maps.size (setS xs xs.length) = (difS xs).length := by
    unfold setS
    rw [size_setOf _ _ (fun x hx => by unfold keysS at hx; obtain ⟨_, _, rfl⟩ := List.mem_map.1 hx; trivial)]
    unfold keysS
    rw [List.take_length]
    have := fold_difS xs []
    rw [List.map_nil] at this
    rw [this, List.length_map]
    rfl
  obtain ⟨h2, h3⟩ := dif_lenS xs [] List.nodup_nil
  rw [h1]
  unfold difS
  simp only [List.length_nil, Nat.zero_add, List.nil_append] at h2 h3
  exact ⟨h2, h3⟩
theorem run_makeMap2 {P : Program} (t k e : TypeId) (ht : P.underlying t = some (.map k e)) (n : Nat) (w : World) : (Instr.makeMap t (some (.int .i64 (n : Int)))).run P w = .ok (.map (some w.heap.size)) (w.alloc (.map #[] 0)) := by
  simp [Instr.makeMap, run_underlying ht, asInt]
  rfl
theorem below_grown {w w' : World} (h : Below w.heap.size w w') : w.grownBy w' none := ⟨h.os, h.tape, h.output, h.size, fun k hk _ => h.block k hk⟩

theorem stepOk_eq (es : List En) (k : Nat) (h : k < es.length) : stepOk es k = (nameOk es[k].nm && decide (lastAt es k < es[k].ck)) := by
  unfold stepOk
  rw [List.getD_eq_getElem?_getD, List.getElem?_eq_getElem h]
  rfl
theorem lastAt_succ (es : List En) (k : Nat) (h : k < es.length) : lastAt es (k + 1) = es[k].ck := by
  unfold lastAt
  rw [if_neg (by omega), Nat.add_sub_cancel, List.getD_eq_getElem?_getD, List.getElem?_eq_getElem h]
  rfl
theorem lastAt_lt (es : List En) (hw : ∀ e ∈ es, e.Wide) (k : Nat) : lastAt es k < 18446744073709551616 := by
  unfold lastAt
  split
  · decide
  · rw [List.getD_eq_getElem?_getD]
    rcases Nat.lt_or_ge (k - 1) es.length with h | h
    · rw [List.getElem?_eq_getElem h]
      exact (hw _ (List.getElem_mem h)).c
    · rw [List.getElem?_eq_none h]
      decide
theorem okB_no (es : List En) (k : Nat) (h : k < es.length) (hs : stepOk es k = false) : okB es = false := by
  unfold okB
  rw [Bool.and_eq_false_iff]
  left
  rw [List.all_eq_false]
  exact ⟨k, List.mem_range.2 h, by rw [hs]; simp⟩
theorem okB_all (es : List En) (h : ∀ j, j < es.length → stepOk es j = true) : okB es = decide ((es.map En.nm).Nodup) := by
  unfold okB
  have : (List.range es.length).all (stepOk es) = true := by
    rw [List.all_eq_true]
    exact fun j hj => h j (List.mem_range.1 hj)
  rw [this, Bool.true_and]

/-- An entry that a loop holds in a block of its own. -/
theorem box_E {w w1 w2 : World} {e : En} {t : TypeId} (hw1 : Below w.heap.size w w1) (hb2 : w2.heap[w.heap.size]? = some (.cells (ec e).toArray t (0, 0))) (hw2 : Keep (· ≠ w.heap.size) w1 w2) : EB w2 w.heap.size t e ∧ Below w.heap.size w w2 :=
  ⟨hb2, hw1.trans (Keep.below (hw2.mono fun k hk => by omega))⟩

end Go.Proofs.Ytjionpkflpnejaa
