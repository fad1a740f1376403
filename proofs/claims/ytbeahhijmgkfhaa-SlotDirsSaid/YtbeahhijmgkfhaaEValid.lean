
/-
  Contract of package dir's valid: names that may be, no two the same, cookies that rise (layer 8).
-/
import Derived.Test.YtbeahhijmgkfhaaEName
import Derived.Maps.OwnSet
import Derived.StringKeys
namespace Go.Proofs.Ytbeahhijmgkfhaa
open Go.RowKit Go.Maps Go.Shelf

theorem lawS : Keyed Try.prog 9 := string_keyed Try.underlying9
/-- The set of the first k names. -/
def keysS (xs : List (List UInt8)) (k : Nat) : List Lit := (xs.take k).map Lit.string
def setS (xs : List (List UInt8)) (k : Nat) : DataW Unit := setOf (.agg []) (keysS xs k)
theorem setS_zero (xs : List (List UInt8)) : setS xs 0 = .map [] := by simp [setS, keysS, setOf]
theorem setS_succ (xs : List (List UInt8)) (k : Nat) (h : k < xs.length) : setS xs (k + 1) = (setS xs k).put (.string xs[k]) (.agg []) := by
  unfold setS keysS
  rw [List.take_succ_eq_append_getElem h, List.map_append, List.map_singleton, setOf_snoc]
theorem same_S (a b : List UInt8) : (Lit.string a).sameKey (.string b) = decide (a = b) := by
  show (a == b) = decide (a = b)
  by_cases h : a = b
  · subst h; simp
  · simp [h]
theorem any_S (x : List UInt8) : ∀ l : List (List UInt8), (l.map Lit.string).any (fun y => y.sameKey (.string x)) = decide (x ∈ l)
  | [] => by simp
  | a :: r => by
    rw [List.map_cons, List.any_cons, any_S x r, same_S]
    by_cases h : a = x
    · subst h; simp
    · have h' : ¬ x = a := fun e => h e.symm
      simp [h, h']
/-- The different ones, in order. -/
def difS (l : List (List UInt8)) : List (List UInt8) := l.foldl (fun acc x => if x ∈ acc then acc else acc ++ [x]) []
theorem fold_difS : ∀ (l acc : List (List UInt8)), (l.map Lit.string).foldl addKey (acc.map Lit.string) = (l.foldl (fun acc x => if x ∈ acc then acc else acc ++ [x]) acc).map Lit.string
  | [], acc => rfl
  | a :: r, acc => by
    rw [List.map_cons, List.foldl_cons, List.foldl_cons]
    have e : addKey (acc.map Lit.string) (.string a) = (if a ∈ acc then acc else acc ++ [a]).map Lit.string := by
      unfold addKey
      rw [any_S]
      by_cases h : a ∈ acc
      · simp [h]
      · simp [h]
    rw [e, fold_difS r]
theorem dif_lenS : ∀ (l acc : List (List UInt8)), acc.Nodup → (l.foldl (fun acc x => if x ∈ acc then acc else acc ++ [x]) acc).length ≤ acc.length + l.length ∧ ((l.foldl (fun acc x => if x ∈ acc then acc else acc ++ [x]) acc).length = acc.length + l.length ↔ (acc ++ l).Nodup)
  | [], acc, h => by simp [h]
  | a :: r, acc, h => by
    rw [List.foldl_cons]
    by_cases ha : a ∈ acc
    · rw [if_pos ha]
      obtain ⟨h1, _⟩ := dif_lenS r acc h
      refine ⟨by rw [List.length_cons]; omega, ⟨fun e => by rw [List.length_cons] at e; omega, fun hn => ?_⟩⟩
      rw [List.nodup_append] at hn
      exact absurd rfl (hn.2.2 a ha a (by simp))
    · rw [if_neg ha]
      have hn : (acc ++ [a]).Nodup := by
        rw [List.nodup_append]
        refine ⟨h, by simp, fun x hx y hy => ?_⟩
        rw [List.mem_singleton] at hy
        subst hy
        intro e
        subst e
        exact ha hx
      obtain ⟨h1, h2⟩ := dif_lenS r (acc ++ [a]) hn
      rw [List.length_append, List.length_singleton] at h1
      rw [List.length_append, List.length_singleton, List.append_assoc, List.singleton_append] at h2
      rw [List.length_cons]
      exact ⟨by omega, ⟨fun e => h2.1 (by omega), fun e => by have := h2.2 e; omega⟩⟩
theorem size_setS (xs : List (List UInt8)) : Maps.size (setS xs xs.length) ≤ xs.length ∧ (Maps.size (setS xs xs.length) = xs.length ↔ xs.Nodup) := by
  have h1 : Maps.size (setS xs xs.length) = (difS xs).length := by
    unfold setS
    rw [size_setOf _ _ (fun x hx => by unfold keysS at hx; obtain ⟨_, _, rfl⟩ := List.mem_map.1 hx; trivial)]
    unfold keysS
    rw [List.take_length]
    have := fold_difS xs []
    rw [List.map_nil] at this
    rw [this, List.length_map]
    rfl
  obtain ⟨h2, h3⟩ := dif_lenS xs [] List.nodup_nil
  rw [h1]
  unfold difS
  simp only [List.length_nil, Nat.zero_add, List.nil_append] at h2 h3
  exact ⟨h2, h3⟩
theorem run_makeMap2 {P : Program} (t k e : TypeId) (ht : P.underlying t = some (.map k e)) (n : Nat) (w : World) : (Instr.makeMap t (some (.int .i64 (n : Int)))).run P w = .ok (.map (some w.heap.size)) (w.alloc (.map #[] 0)) := by
  simp [Instr.makeMap, run_underlying ht, asInt]
  rfl
theorem below_grown {w w' : World} (h : Below w.heap.size w w') : w.grownBy w' none := ⟨h.os, h.tape, h.output, h.size, fun k hk _ => h.block k hk⟩

theorem stepOk_eq (es : List En) (k : Nat) (h : k < es.length) : stepOk es k = (nameOk es[k].nm && decide (lastAt es k < es[k].ck)) := by
  unfold stepOk
  rw [List.getD_eq_getElem?_getD, List.getElem?_eq_getElem h]
  rfl
theorem lastAt_succ (es : List En) (k : Nat) (h : k < es.length) : lastAt es (k + 1) = es[k].ck := by
  unfold lastAt
  rw [if_neg (by omega), Nat.add_sub_cancel, List.getD_eq_getElem?_getD, List.getElem?_eq_getElem h]
  rfl
theorem lastAt_lt (es : List En) (hw : ∀ e ∈ es, e.Wide) (k : Nat) : lastAt es k < 18446744073709551616 := by
  unfold lastAt
  split
  · decide
  · rw [List.getD_eq_getElem?_getD]
    rcases Nat.lt_or_ge (k - 1) es.length with h | h
    · rw [List.getElem?_eq_getElem h]
      exact (hw _ (List.getElem_mem h)).c
    · rw [List.getElem?_eq_none h]
      decide
theorem okB_no (es : List En) (k : Nat) (h : k < es.length) (hs : stepOk es k = false) : okB es = false := by
  unfold okB
  rw [Bool.and_eq_false_iff]
  left
  rw [List.all_eq_false]
  exact ⟨k, List.mem_range.2 h, by rw [hs]; simp⟩
theorem okB_all (es : List En) (h : ∀ j, j < es.length → stepOk es j = true) : okB es = decide ((es.map En.nm).Nodup) := by
  unfold okB
  have : (List.range es.length).all (stepOk es) = true := by
    rw [List.all_eq_true]
    exact fun j hj => h j (List.mem_range.1 hj)
  rw [this, Bool.true_and]

/-- An entry that a loop holds in a block of its own. -/
theorem box_E {w w1 w2 : World} {e : En} {t : TypeId} (hw1 : Below w.heap.size w w1) (hb2 : w2.heap[w.heap.size]? = some (.cells (ec e).toArray t (0, 0))) (hw2 : Keep (· ≠ w.heap.size) w1 w2) : EB w2 w.heap.size t e ∧ Below w.heap.size w w2 :=
  ⟨hb2, hw1.trans (Keep.below (hw2.mono fun k hk => by omega))⟩

set_option maxRecDepth 100000 in
set_option maxHeartbeats 2000000 in
theorem valid_any (A : Option Addr) (n cp : Nat) (es : List En) (w : World) (h : ES w A n es) (hw : ∀ e ∈ es, e.Wide) (hn : n ≤ 100000000) :
    Calls Try.prog 52 #[.slice A n cp] w fun e w' => e = .returned (.bool (okB es)) ∧ Below w.heap.size w w' := by
  have hmm := @run_makeMap2 Try.prog _ _ _ Try.underlying107
  have Hn : Hid (es.length = n) := h.1
  have HX := Lib.hid h
  have HW := Lib.hid hw
  clear h hw
  go_enter Try.func52, Try.ntmps52
  go_wp2
  go_loopw [4, 12] (fun l i wr => ∃ k : Nat, k ≤ n ∧ i = .int .i64 k ∧ l = .int .u64 (lastAt es k : Nat) ∧ Hid (wr.ownsMap Try.prog 9 (unitElem (H := Unit)) w.heap.size k (setS (es.map En.nm) k)) ∧ Hid (Below w.heap.size w wr) ∧ Hid (∀ j, j < k → stepOk es j = true))
    (fun _ i _ => n - (intOf i).toNat)
  case atStart => exact ⟨0, Nat.zero_le _, rfl, rfl, by rw [setS_zero]; exact World.ownsMap_made _ _ _ _, (Below.refl _ _).alloc (Nat.le_refl _) _, fun j hj => absurd hj (Nat.not_lt_zero _)⟩
  case round =>
    obtain ⟨k, hk, rfl, rfl, hown, hnx, HO⟩ := hrel
    by_cases hlt : k < n
    · obtain ⟨b, o, rfl, hb, hj, hc⟩ := (HX.out.below hnx.out).load hlt
      have HC := Lib.hid hc
      clear hc
      have HS := Lib.hid (setS_succ (es.map En.nm) k (by rw [List.length_map]; exact hj))
      rw [List.getElem_map] at HS
      have HST := Lib.hid (stepOk_eq es k hj)
      have HLA := Lib.hid (lastAt_succ es k hj)
      have HNO := fun hs => Lib.hid (okB_no es k hj hs)
      have HLW := Lib.hid (lastAt_lt es HW.out k)
      have hck := (HW.out es[k] (List.getElem_mem hj)).c
      have hla : lastAt es k < 18446744073709551616 := HLW.out
      generalize lastAt es k = lst at *
      generalize es[k] = e at *
      go_upto_region 6 with (first
        | (refine Did.list rfl (did_load 51 (.tmp 14) rfl ⟨b, o + k * 4, none⟩ rfl _ Try.underlying51 rfl (ec e) size_E HC.out) ?_)
        | (refine wpList_alloc_any rfl 51 rfl _ zero_E ?_
           intro w1 hb1 hs1 hw1)
        | (refine wpList_store_any rfl 51 (.tmp 6) (.tmp 15) rfl wr.heap.size (ec e).toArray rfl rfl 51 _ hb1 size_E rfl (ec_one e) ?_
           intro w2 hb2 hs2 hw2))
      obtain ⟨heb, hb2w⟩ := box_E hw1 hb2 hw2
      have HEB := Lib.hid heb
      have hn2 := Lib.hid (hnx.out.trans (hb2w.mono hnx.out.size))
      have hown2 := Lib.hid (hown.out.kept (below_grown hb2w) (by simp))
      have HZ0 : Hid (w.heap.size < wr.heap.size) := by
        rcases hown.out with ⟨es', cl, h0, _⟩
        exact (Array.getElem?_eq_some_iff.1 h0).1
      clear hb1 hs1 hw1 hb2 hs2 hw2 heb hb2w hown hnx HC
      have HQ : Hid (some w.heap.size ≠ some wr.heap.size) := by show _ ≠ _; have := HZ0.out; simp; omega
      clear HZ0
      generalize wr.heap.size = q at *
      have c3 := HEB.out.c3
      by_cases hnm : nameOk e.nm = true
      · have hne : nameE e.nm = 0 := if_pos hnm
        have HNL : Hid ((txt e.nm).size ≤ maxLen) := by show _ ≤ _; have := nameOk_len _ hnm; rw [txt_size]; unfold maxLen; omega
        rw [hnm, Bool.true_and] at HST
        have HNC := fun W => Lib.hid (name_any e.nm W)
        rw [hne] at HNC
        clear hnm hne
        go_wp2_with fail
        refine ((HNC _).out).mono ?_
        rintro en w3 ⟨rfl, hb3⟩
        have HEB3 := Lib.hid (HEB.out.below' hb3)
        have hn3 := Lib.hid (hn2.out.trans (hb3.mono hn2.out.size))
        have hown3 := Lib.hid (hown2.out.kept (below_grown hb3) (by simp))
        have c0 := HEB3.out.c0
        clear hb3 HEB hn2 hown2 c3 HNC
        have c3 := HEB3.out.c3
        by_cases hcl : lst < e.ck
        · have hd : decide (e.ck ≤ lst) = false := decide_eq_false (by omega)
          have HT := Lib.hid (HST.out.trans (decide_eq_true hcl))
          have hkey : keyOf Try.prog 9 (.string (txt e.nm)) = some (.string e.nm) := Go.WideMaps.keyOf_string_mk Try.underlying9 HNL.out
          clear hcl
          go_wp2_with (first
            | (at_mapUpdate; refine wpList_mapUpdate_own _ rfl _ _ _ 107 rfl 9 109 lawS Try.underlying107 (unitElem (H := Unit)) w.heap.size k _ rfl hown3.out (by unfold maxLen; omega) _ _ _ rfl rfl hkey _ [] unitElem_mk ?_; intro w4 hown4 hgrow4
               have HE4 : Hid (EB w4 q 51 e) := (hgrow4.block q HEB3.out.lt (fun ee => HQ.out ee.symm)).trans HEB3.out
               have HW4 := Lib.hid (hn3.out.grown hgrow4 hn3.out.size (fun j hj => by cases hj; exact Nat.le_refl _))
               have HO4 := Lib.hid hown4
               have c04 := HE4.out.c0
               clear hown4 hgrow4 c0 c3))
          go_roundw
          case rel =>
            refine ⟨k + 1, by omega, by go_num, by rw [HLA.out], HS.out.symm ▸ HO4.out, HW4.out, (show Hid _ from fun j hj => ?_)⟩
            by_cases ej : j = k
            · subst ej; exact HT.out
            · exact HO.out j (by omega)
          case measure => simp [intOf]; omega
        · have hd : decide (e.ck ≤ lst) = true := decide_eq_true (by omega)
          have HN := HNO (HST.out.trans (decide_eq_false hcl))
          clear hcl
          go_wp2_with fail
          go_ret
          exact ⟨by rw [HN.out]; rfl, hn3.out⟩
      · have hnm : nameOk e.nm = false := by simpa using hnm
        have hne : nameE e.nm = 67 := if_neg (by rw [hnm]; simp)
        have HN := HNO (by rw [HST.out, hnm]; rfl)
        have HNC := fun W => Lib.hid (name_any e.nm W)
        rw [hne] at HNC
        clear hnm hne
        go_wp2_with fail
        refine ((HNC _).out).mono ?_
        rintro en w3 ⟨rfl, hb3⟩
        have hn3 := Lib.hid (hn2.out.trans (hb3.mono hn2.out.size))
        clear hb3 HNC
        go_wp2_with fail
        go_ret
        exact ⟨by rw [HN.out]; rfl, hn3.out⟩
    · have : k = n := by omega
      subst this
      have HZ := Lib.hid (size_setS (es.map En.nm))
      rw [List.length_map, Hn.out] at HZ
      have HOK : Hid (okB es = decide ((es.map En.nm).Nodup)) := okB_all es (fun j hj => HO.out j (by have := Hn.out; omega))
      go_wp2_with (first
        | (at_len; refine wpList_len_own _ rfl _ 107 rfl 9 109 Try.underlying107 _ w.heap.size k _ rfl hown.out ?_)
        | go_in)
      go_ret
      refine ⟨?_, hnx.out⟩
      rw [HOK.out]
      have h1 := HZ.out.2
      by_cases hd : (es.map En.nm).Nodup
      · simp [hd, h1.2 hd]
      · have h2 : ¬ Maps.size (setS (es.map En.nm) k) = k := fun e => hd (h1.1 e)
        have h3 : ¬ (Maps.size (setS (es.map En.nm) k) : Int) = (k : Int) := by omega
        simp [hd, h3]
end Go.Proofs.Ytbeahhijmgkfhaa
