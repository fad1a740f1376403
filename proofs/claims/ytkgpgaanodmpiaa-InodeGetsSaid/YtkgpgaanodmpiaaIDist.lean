/-
  Contract of package inode's distinct: no two of the numbers are the same (layer 7).
-/
import Derived.Test.YtkgpgaanodmpiaaISmall
import Derived.Maps.OwnSet
namespace Go.Proofs.Ytkgpgaanodmpiaa
open Go.RowKit Go.Maps

theorem law32 : Keyed Try.prog 22 := int_keyed Try.underlying22
/-- The set of the first k numbers. -/
def keys32 (xs : List Nat) (k : Nat) : List Lit := (xs.take k).map fun x : Nat => .int .u32 (x : Int)
def set32 (xs : List Nat) (k : Nat) : DataW Unit := setOf (.agg []) (keys32 xs k)
theorem set32_zero (xs : List Nat) : set32 xs 0 = .map [] := by simp [set32, keys32, setOf]
theorem set32_succ (xs : List Nat) (k : Nat) (h : k < xs.length) : set32 xs (k + 1) = (set32 xs k).put (.int .u32 (xs[k] : Int)) (.agg []) := by
  unfold set32 keys32
  rw [List.take_succ_eq_append_getElem h, List.map_append, List.map_singleton, setOf_snoc]
theorem same_u32 (a b : Nat) : (Lit.int .u32 (a : Int)).sameKey (.int .u32 (b : Int)) = decide (a = b) := by
  show decide (IntKind.u32 = IntKind.u32 ∧ (a : Int) = (b : Int)) = decide (a = b)
  by_cases h : a = b
  · subst h; simp
  · have h' : ¬ (a : Int) = (b : Int) := by omega
    simp [h, h']
theorem any_u32 (x : Nat) : ∀ l : List Nat, (l.map fun y : Nat => Lit.int .u32 (y : Int)).any (fun y => y.sameKey (.int .u32 (x : Int))) = decide (x ∈ l)
  | [] => by simp
  | a :: r => by
    rw [List.map_cons, List.any_cons, any_u32 x r, same_u32]
    by_cases h : a = x
    · subst h; simp
    · have h' : ¬ x = a := fun e => h e.symm
      simp [h, h']
/-- The different ones, in order. -/
def dif (l : List Nat) : List Nat := l.foldl (fun acc x => if x ∈ acc then acc else acc ++ [x]) []
theorem fold_dif : ∀ (l acc : List Nat), (l.map fun y : Nat => Lit.int .u32 (y : Int)).foldl addKey (acc.map fun y : Nat => Lit.int .u32 (y : Int)) = (l.foldl (fun acc x => if x ∈ acc then acc else acc ++ [x]) acc).map fun y : Nat => Lit.int .u32 (y : Int)
  | [], acc => rfl
  | a :: r, acc => by
    rw [List.map_cons, List.foldl_cons, List.foldl_cons]
    have e : addKey (acc.map fun y : Nat => Lit.int .u32 (y : Int)) (.int .u32 (a : Int)) = (if a ∈ acc then acc else acc ++ [a]).map fun y : Nat => Lit.int .u32 (y : Int) := by
      unfold addKey
      rw [any_u32]
      by_cases h : a ∈ acc
      · simp [h]
      · simp [h]
    rw [e, fold_dif r]
theorem dif_len : ∀ (l acc : List Nat), acc.Nodup → (l.foldl (fun acc x => if x ∈ acc then acc else acc ++ [x]) acc).length ≤ acc.length + l.length ∧ ((l.foldl (fun acc x => if x ∈ acc then acc else acc ++ [x]) acc).length = acc.length + l.length ↔ (acc ++ l).Nodup)
  | [], acc, h => by simp [h]
  | a :: r, acc, h => by
    rw [List.foldl_cons]
    by_cases ha : a ∈ acc
    · rw [if_pos ha]
      obtain ⟨h1, _⟩ := dif_len r acc h
      refine ⟨by rw [List.length_cons]; omega, ⟨fun e => by rw [List.length_cons] at e; omega, fun hn => ?_⟩⟩
      rw [List.nodup_append] at hn
      exact absurd rfl (hn.2.2 a ha a (by simp))
    · rw [if_neg ha]
      have hn : (acc ++ [a]).Nodup := by
        rw [List.nodup_append]
        refine ⟨h, by simp, fun x hx y hy => ?_⟩
        rw [List.mem_singleton] at hy
        subst hy
        intro e
        subst e
        exact ha hx
      obtain ⟨h1, h2⟩ := dif_len r (acc ++ [a]) hn
      rw [List.length_append, List.length_singleton] at h1
      rw [List.length_append, List.length_singleton, List.append_assoc, List.singleton_append] at h2
      rw [List.length_cons]
      exact ⟨by omega, ⟨fun e => h2.1 (by omega), fun e => by have := h2.2 e; omega⟩⟩
theorem size_set32 (xs : List Nat) : Maps.size (set32 xs xs.length) ≤ xs.length ∧ (Maps.size (set32 xs xs.length) = xs.length ↔ xs.Nodup) := by
  have h1 : Maps.size (set32 xs xs.length) = (dif xs).length := by
    unfold set32
    rw [size_setOf _ _ (fun x hx => by unfold keys32 at hx; obtain ⟨_, _, rfl⟩ := List.mem_map.1 hx; trivial)]
    unfold keys32
    rw [List.take_length]
    have := fold_dif xs []
    rw [List.map_nil] at this
    rw [this, List.length_map]
    rfl
  obtain ⟨h2, h3⟩ := dif_len xs [] List.nodup_nil
  rw [h1]
  unfold dif
  simp only [List.length_nil, Nat.zero_add, List.nil_append] at h2 h3
  exact ⟨h2, h3⟩

theorem run_makeMap2 {P : Program} (t k e : TypeId) (ht : P.underlying t = some (.map k e)) (n : Nat) (w : World) : (Instr.makeMap t (some (.int .i64 (n : Int)))).run P w = .ok (.map (some w.heap.size)) (w.alloc (.map #[] 0)) := by
  simp [Instr.makeMap, run_underlying ht, asInt]
  rfl

set_option maxRecDepth 100000 in
set_option maxHeartbeats 1000000 in
theorem distinct_any (A : Option Addr) (n cp : Nat) (xs : List Nat) (w : World) (hx : NS .u32 w A n xs) (hb : ∀ x ∈ xs, x < 4294967296) (hn : n ≤ 1000000) :
    Calls Try.prog 30 #[.slice A n cp] w fun e w' => e = .returned (.bool (decide xs.Nodup)) ∧ Below w.heap.size w w' := by
  have hmm := @run_makeMap2 Try.prog _ _ _ Try.underlying84
  have Hn : Hid (xs.length = n) := hx.1
  have HX := Lib.hid hx
  have HB := Lib.hid hb
  clear hx hb
  go_enter Try.func30, Try.ntmps30
  go_wp2
  go_loopw [11] (fun i wr => ∃ k : Nat, k ≤ n ∧ i = .int .i64 k ∧ Hid (wr.ownsMap Try.prog 22 (unitElem (H := Unit)) w.heap.size k (set32 xs k)) ∧ Hid (Below w.heap.size w wr))
    (fun i _ => n - (intOf i).toNat)
  case atStart => exact ⟨0, Nat.zero_le _, rfl, by rw [set32_zero]; exact World.ownsMap_made _ _ _ _, (Below.refl _ _).alloc (Nat.le_refl _) _⟩
  case round =>
    obtain ⟨k, hk, rfl, hown, hnx⟩ := hrel
    by_cases hlt : k < n
    · obtain ⟨b, o, rfl, hj, hc0⟩ := HX.out.at hlt
      have hcx : wr.cell? ⟨b, o + k, none⟩ = some (.int .u32 (xs[k] : Int)) := (hnx.out.cell (World.block_lt_of_cell? w _ hc0)).trans hc0
      have hbx := HB.out xs[k] (List.getElem_mem hj)
      have HS := Lib.hid (set32_succ xs k hj)
      have hkey : keyOf Try.prog 22 (.int .u32 (xs[k] : Int)) = some (.int .u32 (xs[k] : Int)) := keyOf_int_mk Try.underlying22 (by simp [Lit.wf, IntKind.min, IntKind.max, IntKind.bits, IntKind.signed]; omega)
      clear hbx
      generalize xs[k] = x at *
      go_wp2_with (first
        | (at_mapUpdate; refine wpList_mapUpdate_own _ rfl _ _ _ 84 rfl 22 85 law32 Try.underlying84 (unitElem (H := Unit)) w.heap.size k _ rfl hown.out (by unfold maxLen; omega) _ _ _ rfl rfl hkey _ [] unitElem_mk ?_; intro w1 hown1 hgrow1)
        | go_in)
      go_roundw
      case rel => exact ⟨k + 1, by omega, by go_num, HS.out.symm ▸ hown1, hnx.out.grown hgrow1 hnx.out.size (fun j hj => by cases hj; exact Nat.le_refl _)⟩
      case measure => simp [intOf]; omega
    · have : k = n := by omega
      subst this
      have HZ := Lib.hid (size_set32 xs)
      rw [Hn.out] at HZ
      go_wp2_with (first
        | (at_len; refine wpList_len_own _ rfl _ 84 rfl 22 85 Try.underlying84 _ w.heap.size k _ rfl hown.out ?_)
        | go_in)
      go_ret
      refine ⟨?_, hnx.out⟩
      have h1 := HZ.out.2
      by_cases hd : xs.Nodup
      · simp [hd, h1.2 hd]
      · have h2 : ¬ Maps.size (set32 xs k) = k := fun e => hd (h1.1 e)
        have h3 : ¬ (Maps.size (set32 xs k) : Int) = (k : Int) := by omega
        simp [hd, h3]
end Go.Proofs.Ytkgpgaanodmpiaa
