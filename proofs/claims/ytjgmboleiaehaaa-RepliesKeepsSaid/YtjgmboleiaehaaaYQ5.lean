/-
  A map of slices asked and written; Len, has, Get, Put (layer 10).
  Contract of Put (layer 10).
  Contracts of Fork, Take and New (layer 10).
  Contracts of Take and New (layer 10).
  Contract of New (layer 10).
  Contract of Changes (layer 10).
  Get hands back a row of its own (layer 14).
  Contract of package replies' Get (layer 14).
  Contract of package replies' Ask (layer 14).
  Contracts of package replies' Put, Raw and SetRaw (layer 14).
  Package replies over a transaction, and what the laws' walks keep of one (layer 14).
-/
import Derived.Test.YtjgmboleiaehaaaYQ4
import Derived.Deep.RegionHeld
import Derived.IntWalk
import Derived.Deep.LoopGhost
import Derived.Maps.AppendAt
namespace Go.Proofs.Ytjgmboleiaehaaa
open Go.RowKit

section
variable {w : World} {m : Nat} {S : Nat → Prop} {p : Nat → Option (List UInt8)}
theorem PM.none_at (h : PM w m S p) (i : Nat) (hi : p i = none) : (Instr.lookup 80 (.map (some m)) (.int .i64 (i : Int)) true).run Try.prog w = .ok (.tuple #[.slice none 0 0, .bool false]) w := by
  obtain ⟨es, c, hb, hk, hp⟩ := h
  have ho := hp i
  have hik : MapKept.IsKey (.int .i64) (.int .i64 (i : Int)) := by simp [MapKept.IsKey]
  have hz := Try.zeroValue38 w
  rcases findNow_spec (i : Int) es.toList 0 hk with ⟨h1, h2⟩ | ⟨n, v, h1, h2, _⟩
  · simp [Instr.lookup, run_underlying Try.underlying80, MapKept.run_getObj_map hb, MapKept.run_checkKey Try.underlying3 hik, MapKept.run_findKey Try.underlying3 h2, hz, Result.andThen]
  · rw [h1, hi] at ho
    exact ho.elim
theorem PM.some_at (h : PM w m S p) (i : Nat) {b : List UInt8} (hi : p i = some b) : ∃ x : Sl, (Instr.lookup 80 (.map (some m)) (.int .i64 (i : Int)) true).run Try.prog w = .ok (.tuple #[.slice x.a x.n x.c, .bool true]) w ∧ BC w S x b := by
  obtain ⟨es, c, hb, hk, hp⟩ := h
  have ho := hp i
  have hik : MapKept.IsKey (.int .i64) (.int .i64 (i : Int)) := by simp [MapKept.IsKey]
  rcases findNow_spec (i : Int) es.toList 0 hk with ⟨h1, h2⟩ | ⟨n, v, h1, h2, _⟩
  · rw [h1, hi] at ho
    exact ho.elim
  · rw [h1, hi] at ho
    obtain ⟨x, rfl, hx⟩ := ho
    exact ⟨x, by simp [Instr.lookup, run_underlying Try.underlying80, MapKept.run_getObj_map hb, MapKept.run_checkKey Try.underlying3 hik, MapKept.run_findKey Try.underlying3 h2, Result.andThen, Sl.v], hx⟩
theorem PM.update (h : PM w m S p) (i : Nat) (x : Sl) (b : List UInt8) (hx : BC w S x b) :
    ∃ w', (Instr.mapUpdate 80 (.map (some m)) (.int .i64 (i : Int)) (.slice x.a x.n x.c)).run Try.prog w = .ok () w' ∧ PM w' m S (fun j => if j = i then some b else p j) ∧ Ch (· = m) w w' ∧ w'.heap.size = w.heap.size := by
  have hd := h.dull
  obtain ⟨es, c, hb, hkeys, hF⟩ := h
  have hik : MapKept.IsKey (.int .i64) (.int .i64 (i : Int)) := by simp [MapKept.IsKey]
  have gb : ∀ o : Obj, Ch (· = m) w { w with heap := w.heap.setIfInBounds m o } := fun o => ⟨⟨rfl, rfl, rfl, by simp, fun j hj => by
    simp only [Array.getElem?_setIfInBounds]
    rw [if_neg (fun e => hj.2 e.symm)]⟩, fun k hk => by rw [hk]; exact hd⟩
  rcases findNow_spec (i : Int) es.toList 0 hkeys with ⟨h1, h2⟩ | ⟨n, v, h1, h2, h3, h4, h5⟩
  · refine ⟨{ w with heap := w.heap.setIfInBounds m (.map (es.push { key := .int .i64 (i : Int), val := x.v, born := c }) (c + 1)) }, ?_, ⟨_, _, (MapKept.heap_set hb).1, ?_, ?_⟩, gb _, by simp⟩
    · simp [Instr.mapUpdate, run_underlying Try.underlying80, MapKept.run_getObj_map hb, MapKept.run_checkKey Try.underlying3 hik, MapKept.run_findKey Try.underlying3 h2, MapKept.run_setObj_map _ hb, Result.andThen, Sl.v]
    · intro e he
      simp only [Array.toList_push, List.mem_append, List.mem_singleton] at he
      rcases he with he | rfl
      · exact hkeys e he
      · exact ⟨i, rfl⟩
    · intro j
      have happ : ∀ (A : List MapEntry) (x : MapEntry), look (A ++ [x]) (j : Int) = (look A (j : Int)).or (if keyI x.key = some (j : Int) then some x.val else none) := by
        intro A x
        induction A with
        | nil => simp [look]
        | cons y A ih => simp only [List.cons_append, look, ih]; split <;> simp
      rw [Array.toList_push, happ]
      by_cases e1 : j = i
      · subst e1
        simp only [h1, keyI, if_true, Option.none_or]
        exact ⟨x, rfl, hx.ch (gb _)⟩
      · have e2 : ¬ (i : Int) = (j : Int) := fun e => e1 (by omega)
        simp only [keyI, Option.some.injEq, if_neg e2, if_neg e1, Option.or_none]
        exact (hF j).imp fun _ _ hb => hb.ch (gb _)
  · have hes : ((es[n]?).map (·.key)).getD (.int .i64 (i : Int)) = .int .i64 (i : Int) := by
      have : es[n]? = es.toList[n]? := by simp
      rw [this, h4]
      rfl
    refine ⟨{ w with heap := w.heap.setIfInBounds m (.map (es.modify n fun e => { e with key := .int .i64 (i : Int), val := x.v }) c) }, ?_, ⟨_, _, (MapKept.heap_set hb).1, ?_, ?_⟩, gb _, by simp⟩
    · simp [Instr.mapUpdate, run_underlying Try.underlying80, MapKept.run_getObj_map hb, MapKept.run_checkKey Try.underlying3 hik, MapKept.run_findKey Try.underlying3 h2, MapKept.run_setObj_map _ hb, Result.andThen, hes, MapKept.run_keyThatStays hik, Sl.v]
    · intro e he
      rw [Array.toList_modify] at he
      obtain ⟨j, hj⟩ := List.mem_iff_getElem?.1 he
      rw [List.getElem?_modify] at hj
      obtain ⟨x, hx, rfl⟩ := Option.map_eq_some_iff.1 hj
      by_cases hnj : n = j
      · rw [if_pos hnj]
        exact ⟨i, rfl⟩
      · rw [if_neg hnj]
        exact hkeys x (List.mem_of_getElem? hx)
    · intro j
      rw [Array.toList_modify, h5]
      by_cases e1 : j = i
      · subst e1
        simp only [if_true]
        exact ⟨x, rfl, hx.ch (gb _)⟩
      · have e2 : ¬ (j : Int) = (i : Int) := fun e => e1 (by omega)
        simp only [if_neg e2, if_neg e1]
        exact (hF j).imp fun _ _ hb => hb.ch (gb _)
end

section
variable {w : World} {p m : Nat} {x : Sl} {S : Nat → Prop} {X : TX}
set_option maxHeartbeats 400000 in
theorem tlen_nil (w : World) : Calls Try.prog 40 #[.pointer none] w fun e w' => e = .returned (.int .i64 0) ∧ w' = w := by
  go_enter Try.func40, Try.ntmps40
  go_wp2
  go_ret
  exact ⟨rfl, rfl⟩
set_option maxHeartbeats 400000 in
theorem tlen_any (h : Tq w p m x S X) : Calls Try.prog 40 #[.pointer (some ⟨p, 0, none⟩)] w fun e w' => e = .returned (.int .i64 (x.n : Int)) ∧ w' = w := by
  have h0 := h.c0
  clear h
  go_enter Try.func40, Try.ntmps40
  go_wp2
  go_ret
  exact ⟨rfl, rfl⟩
/-- Is there a block i? -/
def hasB (n : Nat) (i : Int) : Bool := decide (0 ≤ i) && decide (i < (n : Int))
set_option maxHeartbeats 400000 in
theorem has_any (h : Tq w p m x S X) (i : Int) : Calls Try.prog 37 #[.pointer (some ⟨p, 0, none⟩), .int .i64 i] w fun e w' => e = .returned (.bool (hasB x.n i)) ∧ w' = w := by
  have HC := Lib.hid (tlen_any h)
  clear h
  by_cases h0 : 0 ≤ i
  · by_cases h1 : i < (x.n : Int)
    · have HE : Hid (hasB x.n i = true) := by show _ = _; simp [hasB, h0, h1]
      have hd : decide (i < (x.n : Int)) = true := by simpa using h1
      go_enter Try.func37, Try.ntmps37
      go_wp2_with fail
      refine HC.out.mono ?_
      rintro e w' ⟨rfl, rfl⟩
      go_wp2
      go_ret
      rw [HE.out]
      exact ⟨rfl, rfl⟩
    · have HE : Hid (hasB x.n i = false) := by show _ = _; simp [hasB, h1]
      have hd : decide (i < (x.n : Int)) = false := by simpa using h1
      go_enter Try.func37, Try.ntmps37
      go_wp2_with fail
      refine HC.out.mono ?_
      rintro e w' ⟨rfl, rfl⟩
      go_wp2
      go_ret
      rw [HE.out]
      exact ⟨rfl, rfl⟩
  · have HE : Hid (hasB x.n i = false) := by show _ = _; simp [hasB, h0]
    go_enter Try.func37, Try.ntmps37
    go_wp2
    go_ret
    rw [HE.out]
    exact ⟨rfl, rfl⟩
set_option maxHeartbeats 400000 in
theorem has_nil (i : Int) (w : World) : Calls Try.prog 37 #[.pointer none, .int .i64 i] w fun e w' => e = .returned (.bool false) ∧ w' = w := by
  have HC := Lib.hid (tlen_nil w)
  by_cases h0 : 0 ≤ i
  · have hd : decide (i < 0) = false := by simp; omega
    go_enter Try.func37, Try.ntmps37
    go_wp2_with fail
    refine HC.out.mono ?_
    rintro e w' ⟨rfl, rfl⟩
    go_wp2
    go_ret
    exact ⟨rfl, rfl⟩
  · go_enter Try.func37, Try.ntmps37
    go_wp2
    go_ret
    exact ⟨rfl, rfl⟩
/-- What Get hands back: bytes of its own. -/
def GotB (w : World) (l : List UInt8) (e : Ending) (w' : World) : Prop := ∃ A n c, e = .returned (.slice A n c) ∧ BS w' A n l ∧ n ≤ c ∧ n ≤ big47 ∧ (∀ ad, A = some ad → w.heap.size ≤ ad.block) ∧ Below w.heap.size w w' ∧ ∀ ad, A = some ad → ∀ j, w'.frozen? ⟨ad.block, j, none⟩ = false
set_option maxHeartbeats 1000000 in
theorem get_no (h : Tq w p m x S X) (i : Int) (hi : hasB x.n i = false) : Calls Try.prog 22 #[.pointer (some ⟨p, 0, none⟩), .int .i64 i] w (GotB w []) := by
  have HC := Lib.hid (has_any h i)
  rw [hi] at HC
  clear h hi
  go_enter Try.func22, Try.ntmps22
  go_wp2_with fail
  refine HC.out.mono ?_
  rintro e w' ⟨rfl, rfl⟩
  go_wp2
  go_ret
  exact ⟨none, 0, 0, rfl, BS.nil, Nat.le_refl _, Nat.zero_le _, (fun _ e => by cases e), Below.refl _ _, (fun _ e => by cases e)⟩
set_option maxHeartbeats 1000000 in
theorem get_nil (i : Int) (w : World) : Calls Try.prog 22 #[.pointer none, .int .i64 i] w fun e w' => e = .returned (.slice none 0 0) ∧ w' = w := by
  have HC := Lib.hid (has_nil i w)
  go_enter Try.func22, Try.ntmps22
  go_wp2_with fail
  refine HC.out.mono ?_
  rintro e w' ⟨rfl, rfl⟩
  go_wp2
  go_ret
  exact ⟨rfl, rfl⟩
theorem hasB_nat {n i : Nat} (h : i < n) : hasB n (i : Int) = true := by simp [hasB, h]
set_option maxHeartbeats 1000000 in
theorem get_ok (h : Tq w p m x S X) (i : Nat) (hi : i < x.n) : Calls Try.prog 22 #[.pointer (some ⟨p, 0, none⟩), .int .i64 (i : Int)] w (GotB w (X.get i)) := by
  have HC := Lib.hid (has_any h (i : Int))
  rw [hasB_nat hi] at HC
  have c0 := h.c0
  have c1 := h.c1
  cases hp : X.p i with
  | none =>
    have hl := h.puts.none_at i hp
    obtain ⟨g, y, hxa, hg, hb⟩ := h.rows.at hi
    have HB := Lib.hid hb
    have HE : Hid (X.get i = X.l.getD i []) := TX.get_none hp
    clear h hp hb
    rw [hxa] at c0
    clear hxa
    go_enter Try.func22, Try.ntmps22
    go_wp2_with fail
    refine HC.out.mono ?_
    rintro e w' ⟨rfl, rfl⟩
    go_wp2_with fail
    refine (clone_big y.a y.n y.c _ w' HB.out.bs HB.out.few).mono ?_
    rintro e w2 ⟨A, c, rfl, h1, h2, h3, h4, h5⟩
    have HH : Hid (GotB w' (X.get i) (.returned (.slice A y.n c)) w2) := by
      show GotB _ _ _ _
      rw [HE.out]
      exact ⟨A, _, c, rfl, h1, h2, HB.out.few, h3, h4, h5⟩
    clear h1 h2 h3 h4 h5
    go_wp2_with fail
    go_ret
    exact HH.out
  | some b =>
    obtain ⟨y, hl, hb⟩ := h.puts.some_at i hp
    have HB := Lib.hid hb
    have HE : Hid (X.get i = b) := TX.get_of hp
    clear h hp hb
    go_enter Try.func22, Try.ntmps22
    go_wp2_with fail
    refine HC.out.mono ?_
    rintro e w' ⟨rfl, rfl⟩
    go_wp2_with fail
    refine (clone_big y.a y.n y.c _ w' HB.out.bs HB.out.few).mono ?_
    rintro e w2 ⟨A, c, rfl, h1, h2, h3, h4, h5⟩
    have HH : Hid (GotB w' (X.get i) (.returned (.slice A y.n c)) w2) := by
      show GotB _ _ _ _
      rw [HE.out]
      exact ⟨A, _, c, rfl, h1, h2, HB.out.few, h3, h4, h5⟩
    clear h1 h2 h3 h4 h5
    go_wp2_with fail
    go_ret
    exact HH.out
end
end Go.Proofs.Ytjgmboleiaehaaa

namespace Go.Proofs.Ytjgmboleiaehaaa
open Go.RowKit

/-- What Put answers, and what it leaves. -/
def TX.mayPut (n : Nat) (i : Int) (b : List UInt8) : Bool := hasB n i && decide (b.length ≤ 96)
def TX.perr (n : Nat) (i : Int) (b : List UInt8) : Int := if hasB n i then if b.length ≤ 96 then 0 else 13 else 15
def TX.putI (X : TX) (n : Nat) (i : Int) (b : List UInt8) : TX := if TX.mayPut n i b then X.put i.toNat b else X
theorem TX.perr_ok {n : Nat} {i : Int} {b : List UInt8} (h : hasB n i = true) (hb : b.length ≤ 96) : TX.perr n i b = 0 := by simp [TX.perr, h, hb]
theorem TX.putI_ok {X : TX} {n i : Nat} {b : List UInt8} (h : i < n) (hb : b.length ≤ 96) : X.putI n (i : Int) b = X.put i b := by simp [TX.putI, TX.mayPut, hasB_nat h, hb]
theorem TX.putI_l (X : TX) (n : Nat) (i : Int) (b : List UInt8) : (X.putI n i b).l = X.l := by unfold TX.putI; split <;> rfl

section
variable {w : World} {p m : Nat} {x : Sl} {S : Nat → Prop} {X : TX}
set_option maxHeartbeats 400000 in
theorem put_nil (i : Int) (A : Option Addr) (n c : Nat) (w : World) : Calls Try.prog 15 #[.pointer none, .int .i64 i, .slice A n c] w fun e w' => e = .returned (.int .i64 1) ∧ w' = w := by
  go_enter Try.func15, Try.ntmps15
  go_wp2
  go_ret
  exact ⟨rfl, rfl⟩
theorem Ch.refl (Q : Nat → Prop) (w : World) (hQ : ∀ k, Q k → Dull w k) : Ch Q w w := ⟨Fr.refl _ _, hQ⟩
/-- Behind Put. -/
def TPutQ (w : World) (p m : Nat) (x : Sl) (S : Nat → Prop) (X : TX) (r : Int) (e : Ending) (w' : World) : Prop := e = .returned (.int .i64 r) ∧ Tq w' p m x S X ∧ Ch (· = m) w w'
set_option maxRecDepth 100000 in
set_option maxHeartbeats 1000000 in
theorem tput_any (h : Tq w p m x S X) (hS : ∀ k, w.heap.size ≤ k → S k) (i : Int) (A : Option Addr) (n c : Nat) (b : List UInt8) (hb : BS w A n b) :
    Calls Try.prog 15 #[.pointer (some ⟨p, 0, none⟩), .int .i64 i, .slice A n c] w (TPutQ w p m x S (X.putI x.n i b) (TX.perr x.n i b)) := by
  have HC := Lib.hid (has_any h i)
  have HN : Hid (b.length = n) := hb.1
  cases hh : hasB x.n i with
  | false =>
    have HE : Hid (TX.perr x.n i b = 15 ∧ X.putI x.n i b = X) := by refine ⟨?_, ?_⟩ <;> simp [TX.perr, TX.putI, TX.mayPut, hh]
    have HQ : Hid (Ch (· = m) w w) := Ch.refl _ _ fun k hk => by rw [hk]; exact h.puts.dull
    rw [hh] at HC
    have HT := Lib.hid h
    clear h hb hh hS
    go_enter Try.func15, Try.ntmps15
    go_wp2_with fail
    refine HC.out.mono ?_
    rintro e w' ⟨rfl, rfl⟩
    go_wp2
    go_ret
    show TPutQ _ _ _ _ _ _ _ _ _
    rw [HE.out.1, HE.out.2]
    exact ⟨rfl, HT.out, HQ.out⟩
  | true =>
    by_cases hn : n ≤ 96
    · have HE : Hid (TX.perr x.n i b = 0 ∧ X.putI x.n i b = X.put i.toNat b) := by
        have hl : b.length ≤ 96 := by rw [HN.out]; exact hn
        refine ⟨?_, ?_⟩ <;> simp [TX.perr, TX.putI, TX.mayPut, hh, hl]
      obtain ⟨k, rfl⟩ : ∃ k : Nat, i = (k : Int) := by
        simp only [hasB, Bool.and_eq_true, decide_eq_true_eq] at hh
        exact Int.eq_ofNat_of_zero_le hh.1
      rw [hh] at HC
      have hd : decide (96 < (n : Int)) = false := by simp; omega
      have HT := Lib.hid h
      have HB := Lib.hid hb
      have HS1 := Lib.hid hS
      clear h hb hh hS
      go_enter Try.func15, Try.ntmps15
      go_wp2_with fail
      refine HC.out.mono ?_
      rintro e w' ⟨rfl, rfl⟩
      go_wp2_with fail
      have HTd : Hid (Tq w'.drew p m x S X) := HT.out.drew
      have HS : Hid ((fun W : World => W.cell? ⟨p, 1, none⟩ = some (.map (some m))) w'.drew) := HTd.out.c1
      refine wp_region_held_drew (S := fun W => W.cell? ⟨p, 1, none⟩ = some (.map (some m))) (by kernel_rfl) HS.out (fun _ => ?_)
      change wpAnyH _ _ _ _ _ 8 (Array.replicate 8 false) _ _
      refine takeH (i := 0) 16 (.pointer (some ⟨p, 0, none⟩)) rfl rfl (by kernel_rfl) (by kernel_rfl) (by kernel_rfl) (fun _ _ _ h => h) (.inl ⟨by rfl, fun W hW => by go_simp⟩) HS.out ?_
      simp only [Act.put, List.setIfInBounds_toArray, List.set_cons_zero, List.set_cons_succ]
      refine takeH (i := 1) 17 (.pointer (some ⟨p, 0, none⟩)) rfl rfl (by kernel_rfl) (by kernel_rfl) (by kernel_rfl) (fun _ _ _ h => h) (.inl ⟨by rfl, fun W hW => by go_simp⟩) HS.out ?_
      simp only [Act.put, List.setIfInBounds_toArray, List.set_cons_zero, List.set_cons_succ]
      refine takeH (i := 2) 18 (.pointer (some ⟨p, 1, none⟩)) rfl rfl (by kernel_rfl) (by kernel_rfl) (by kernel_rfl) (fun _ _ _ h => h) (.inl ⟨by rfl, fun W hW => by go_simp⟩) HS.out ?_
      simp only [Act.put, List.setIfInBounds_toArray, List.set_cons_zero, List.set_cons_succ]
      refine takeH (i := 3) 19 (.map (some m)) rfl rfl (by kernel_rfl) (by kernel_rfl) (by kernel_rfl) (fun _ _ _ h => h) (.inl ⟨by rfl, fun W hW => by (have hz : W.cell? ⟨p, 1, none⟩ = some (.map (some m)) := hW; go_simp)⟩) HS.out ?_
      simp only [Act.put, List.setIfInBounds_toArray, List.set_cons_zero, List.set_cons_succ]
      refine takeH (i := 4) 20 (.int .i64 (k : Int)) rfl rfl (by kernel_rfl) (by kernel_rfl) (by kernel_rfl) (fun _ _ _ h => h) (.inl ⟨by rfl, fun W hW => by go_simp⟩) HS.out ?_
      simp only [Act.put, List.setIfInBounds_toArray, List.set_cons_zero, List.set_cons_succ]
      refine takeH (i := 5) 21 (.slice A n c) rfl rfl (by kernel_rfl) (by kernel_rfl) (by kernel_rfl) (fun _ _ _ h => h) (.inl ⟨by rfl, fun W hW => by go_simp⟩) HS.out ?_
      simp only [Act.put, List.setIfInBounds_toArray, List.set_cons_zero, List.set_cons_succ]
      refine wpAnyH_ready (rs := [6]) (by kernel_rfl) (by simp) ?_
      refine AllReadyH.cons rfl (fun K hK => ?_) AllReadyH.nil
      go_simp
      refine (clone_big A n c b w'.drew HB.out.drew (le_big47 (by omega))).mono ?_
      rintro e w2 ⟨A2, c2, rfl, h1, h2, h3, h4, -⟩
      have HT2 := Lib.hid (HTd.out.below h4)
      have HX : Hid (BC w2 S ⟨A2, n, c2⟩ b) := ⟨h1, le_big47 (by show n ≤ _; omega), h2, fun _ ad e => HS1.out _ (h3 ad e)⟩
      have HW2 : Hid (Below w'.heap.size w' w2) := (Below.refl _ _).drew.trans h4
      refine hK.out _ _ HT2.out.c1 fun _ => ?_
      clear hK K h1 h2 h3 h4
      refine wpAnyH_ready (rs := [7]) (by kernel_rfl) (by simp) ?_
      refine AllReadyH.cons rfl (fun K hK => ?_) AllReadyH.nil
      obtain ⟨w3, hr, g1, g2, g3⟩ := HT2.out.puts.update k ⟨A2, n, c2⟩ b HX.out
      have HT3 : Hid (Tq w3 p m x S (X.put k b)) := ⟨(g2.1.block p ⟨HT2.out.plt, fun e => HT2.out.ne e.symm⟩).trans HT2.out.cells, HT2.out.rows.imp (fun _ h => h) (fun g cs _ hg => g2.1.block g ⟨(Array.getElem?_eq_some_iff.1 hg).1, fun hq => (g2.2 g hq).no_row cs _ (by decide) hg⟩) (fun _ _ hb => hb.ch g2), g1, HT2.out.sp, HT2.out.sm⟩
      have HC3 : Hid (Ch (· = m) w' w3) := ⟨(Fr.of_below HW2.out).trans g2.1 (fun k hk => .inl hk), fun k hk => by rw [hk]; exact HT.out.puts.dull⟩
      clear g1 g2 g3
      go_simp
      refine hK.out _ _ HT3.out.c1 fun _ => ?_
      clear hK K hr
      refine wpAnyH_done (by kernel_rfl) ?_ _
      go_wp2
      go_ret
      show TPutQ _ _ _ _ _ _ _ _ _
      rw [HE.out.1, HE.out.2]
      exact ⟨rfl, HT3.out, HC3.out⟩
    · have HE : Hid (TX.perr x.n i b = 13 ∧ X.putI x.n i b = X) := by
        have hl : ¬ b.length ≤ 96 := by rw [HN.out]; exact hn
        refine ⟨?_, ?_⟩ <;> simp [TX.perr, TX.putI, TX.mayPut, hh, hl]
      have HQ : Hid (Ch (· = m) w w) := Ch.refl _ _ fun k hk => by rw [hk]; exact h.puts.dull
      rw [hh] at HC
      have hd : decide (96 < (n : Int)) = true := by simp; omega
      have HT := Lib.hid h
      clear h hb hh hS
      go_enter Try.func15, Try.ntmps15
      go_wp2_with fail
      refine HC.out.mono ?_
      rintro e w' ⟨rfl, rfl⟩
      go_wp2
      go_ret
      show TPutQ _ _ _ _ _ _ _ _ _
      rw [HE.out.1, HE.out.2]
      exact ⟨rfl, HT.out, HQ.out⟩
end
end Go.Proofs.Ytjgmboleiaehaaa

namespace Go.Proofs.Ytjgmboleiaehaaa
open Go.RowKit

theorem PM.new (w : World) (S : Nat → Prop) : PM (w.alloc (.map #[] 0)) w.heap.size S (fun _ => none) := ⟨#[], 0, heap_alloc_new w _, by simp, fun i => trivial⟩
/-- A copy of a map. -/
theorem PM.copy {w : World} {m : Nat} {S : Nat → Prop} {p : Nat → Option (List UInt8)} (h : PM w m S p) : ∃ es clock, w.heap[m]? = some (.map es clock) ∧ PM (w.alloc (.map es clock)) w.heap.size S p := by
  obtain ⟨es, c, h1, h2, h3⟩ := h
  refine ⟨es, c, h1, es, c, heap_alloc_new w _, h2, fun i => (h3 i).imp fun x b hb => hb.keep fun k _ hk => ?_⟩
  exact Below.heap_alloc w _ k hk

section
variable {w : World} {p m q mq : Nat} {x y : Sl} {S : Nat → Prop} {X Y : TX}
/-- Behind Fork. -/
def ForkQ (w : World) (x : Sl) (S : Nat → Prop) (X : TX) (e : Ending) (w' : World) : Prop := ∃ p' m', e = .returned (.pointer (some ⟨p', 0, none⟩)) ∧ Tq w' p' m' x S X ∧ Below w.heap.size w w' ∧ w.heap.size ≤ p' ∧ w.heap.size ≤ m'
end
end Go.Proofs.Ytjgmboleiaehaaa

namespace Go.Proofs.Ytjgmboleiaehaaa
open Go.RowKit

section
variable {w : World} {p m q mq : Nat} {x y : Sl} {S : Nat → Prop} {X Y : TX}
/-- Behind Take. -/
def TakeQ (w : World) (p : Nat) (x : Sl) (S : Nat → Prop) (X : TX) (e : Ending) (w' : World) : Prop := e = .returned (.tuple #[]) ∧ ∃ m', Tq w' p m' x S X ∧ Ch (· = p) w w' ∧ w.heap.size ≤ m'
end
end Go.Proofs.Ytjgmboleiaehaaa

namespace Go.Proofs.Ytjgmboleiaehaaa
open Go.RowKit

/-- Rows of bytes that a call is handed. -/
def RI (w : World) (A : Option Addr) (n : Nat) (ls : List (List UInt8)) : Prop :=
  ls.length = n ∧ (0 < n → ∃ b o, A = some ⟨b, o, none⟩ ∧ ∀ k (_ : k < n), ∃ x : Sl, w.cell? ⟨b, o + k, none⟩ = some (.slice x.a x.n x.c) ∧ BS w x.a x.n (ls.getD k []) ∧ x.n ≤ big47)
theorem RI.at {w : World} {A : Option Addr} {n : Nat} {ls : List (List UInt8)} (h : RI w A n ls) {k : Nat} (hk : k < n) : ∃ b o, ∃ x : Sl, A = some ⟨b, o, none⟩ ∧ w.cell? ⟨b, o + k, none⟩ = some (.slice x.a x.n x.c) ∧ BS w x.a x.n (ls.getD k []) ∧ x.n ≤ big47 := by
  obtain ⟨b, o, e, hc⟩ := h.2 (by omega)
  obtain ⟨x, h1, h2, h3⟩ := hc k hk
  exact ⟨b, o, x, e, h1, h2, h3⟩
theorem RI.below {w w' : World} {A : Option Addr} {n : Nat} {ls : List (List UInt8)} (h : RI w A n ls) (hb : Below w.heap.size w w') : RI w' A n ls :=
  ⟨h.1, fun hn => by
    obtain ⟨b, o, e, hc⟩ := h.2 hn
    refine ⟨b, o, e, fun k hk => ?_⟩
    obtain ⟨x, h1, h2, h3⟩ := hc k hk
    exact ⟨x, (hb.cell (p := ⟨b, o + k, none⟩) (World.block_lt_of_cell? w _ h1)).trans h1, h2.below hb, h3⟩⟩
theorem RI.alloc {w : World} {A : Option Addr} {n : Nat} {ls : List (List UInt8)} (h : RI w A n ls) (o : Obj) : RI (w.alloc o) A n ls := h.below ((Below.refl _ _).alloc (Nat.le_refl _) _)

theorem madeCells_rows (n : Nat) : madeCells (Value.slice none 0 0).cells n = Array.replicate n (.slice none 0 0) := by
  apply Array.ext'
  simp [madeCells, Value.cells, Nat.mod_one]
  apply List.ext_getElem <;> simp
theorem info_rows : (Try.prog.info? 38).map (fun i => (i.zero, i.size, i.bytes)) = some (some (.slice none 0 0), 1, 24) := by kernel_rfl

/-- While New is under way: its struct at p, the rows' block g, of which the first k are laid, the map at m. -/
structure NewI (w wr : World) (n : Nat) (ls : List (List UInt8)) (k g m p : Nat) : Prop where
  bel : Below w.heap.size w wr
  cells : wr.heap[p]? = some (.cells #[.slice (some ⟨g, 0, none⟩) n n, .map (some m)] 82 (0, 0))
  map : wr.heap[m]? = some (.map #[] 0)
  rows : ∃ rl : List Sl, wr.heap[g]? = some (.cells (rl.map Sl.v).toArray 38 (0, 0)) ∧ rl.length = n ∧ ∀ i (_ : i < k) (h : i < rl.length), BC wr (fun z => w.heap.size ≤ z) rl[i] (ls.getD i [])
  gs : w.heap.size ≤ g
  ms : w.heap.size ≤ m
  ps : w.heap.size ≤ p
section
variable {w wr w' : World} {n k g m p : Nat} {ls : List (List UInt8)}
theorem NewI.plt (h : NewI w wr n ls k g m p) : p < wr.heap.size := (Array.getElem?_eq_some_iff.1 h.cells).1
theorem NewI.mlt (h : NewI w wr n ls k g m p) : m < wr.heap.size := (Array.getElem?_eq_some_iff.1 h.map).1
theorem NewI.glt (h : NewI w wr n ls k g m p) : g < wr.heap.size := by
  obtain ⟨rl, h1, _⟩ := h.rows
  exact (Array.getElem?_eq_some_iff.1 h1).1
theorem NewI.gp (h : NewI w wr n ls k g m p) : g ≠ p := by
  rintro rfl
  obtain ⟨rl, h1, _⟩ := h.rows
  rw [h.cells] at h1
  simp only [Option.some.injEq, Obj.cells.injEq] at h1
  exact absurd h1.2.1 (by decide)
theorem NewI.gm (h : NewI w wr n ls k g m p) : g ≠ m := by
  rintro rfl
  obtain ⟨rl, h1, _⟩ := h.rows
  rw [h.map] at h1
  simp at h1
theorem NewI.below (h : NewI w wr n ls k g m p) (hb : Below wr.heap.size wr w') : NewI w w' n ls k g m p := by
  obtain ⟨rl, h1, h2, h3⟩ := h.rows
  exact ⟨h.bel.trans (hb.mono h.bel.size), (hb.block _ h.plt).trans h.cells, (hb.block _ h.mlt).trans h.map, ⟨rl, (hb.block _ h.glt).trans h1, h2, fun i hi hl => (h3 i hi hl).keep fun _ _ hk => hb.block _ hk⟩, h.gs, h.ms, h.ps⟩
theorem NewI.drew (h : NewI w wr n ls k g m p) : NewI w wr.drew n ls k g m p := h.below (Below.refl _ _).drew
theorem NewI.c0 (h : NewI w wr n ls k g m p) : wr.cell? ⟨p, 0, none⟩ = some (.slice (some ⟨g, 0, none⟩) n n) := by rw [cell_of_row _ _ _ _ _ _ h.cells]; rfl
theorem NewI.row (h : NewI w wr n ls k g m p) {i : Nat} (hi : i < n) : ∃ v, wr.cell? ⟨g, i, none⟩ = some v := by
  obtain ⟨rl, h1, h2, _⟩ := h.rows
  have hr : i < rl.length := by omega
  exact ⟨rl[i].v, by rw [cell_of_row _ _ _ _ _ _ h1]; simp [hr]⟩
theorem NewI.froz (h : NewI w wr n ls k g m p) (i : Nat) : wr.frozen? ⟨g, i, none⟩ = false := by
  obtain ⟨rl, h1, _⟩ := h.rows
  simp [World.frozen?, h1]
theorem NewI.set (h : NewI w wr n ls k g m p) (y : Sl) (hy : BC wr (fun z => w.heap.size ≤ z) y (ls.getD k [])) : NewI w (wr.setCell ⟨g, k, none⟩ (.slice y.a y.n y.c)) n ls (k + 1) g m p := by
  have hbk : ∀ b, b ≠ g → (wr.setCell ⟨g, k, none⟩ (.slice y.a y.n y.c)).heap[b]? = wr.heap[b]? := fun b hb => Below.heap_setCell wr ⟨g, k, none⟩ _ b hb
  have hgp := h.gp
  have hgm := h.gm
  obtain ⟨rl, h1, h2, h3⟩ := h.rows
  have keepB : ∀ x l, BC wr (fun z => w.heap.size ≤ z) x l → BC (wr.setCell ⟨g, k, none⟩ (.slice y.a y.n y.c)) (fun z => w.heap.size ≤ z) x l := fun x l hb =>
    ⟨hb.bs.off (q := g) (fun o z e => by
      rw [cell_of_row _ _ _ _ _ _ h1] at e
      simp only [List.getElem?_toArray, List.getElem?_map, Option.map_eq_some_iff] at e
      obtain ⟨_, _, hx⟩ := e
      cases hx) (fun b _ hb => hbk b hb), hb.few, hb.cap, hb.own⟩
  refine ⟨h.bel.setCell h.gs _, (hbk p (Ne.symm hgp)).trans h.cells, (hbk m (Ne.symm hgm)).trans h.map, ⟨rl.set k y, ?_, by simpa using h2, fun i hi hl => ?_⟩, h.gs, h.ms, h.ps⟩
  · rw [setCell_eq_setRow wr g k _ _ _ _ h1]
    have := setRow_heap wr g _ ((rl.map Sl.v).toArray.setIfInBounds k y.v) _ _ h1
    refine this.trans ?_
    simp [List.map_set]
  · by_cases e : k = i
    · subst e
      simp only [List.getElem_set_self]
      exact keepB _ _ hy
    · simp only [List.getElem_set_ne e]
      exact keepB _ _ (h3 i (by omega) (by simpa using hl))
theorem NewI.done (h : NewI w wr n ls n g m p) (hl : ls.length = n) : Tq wr p m ⟨some ⟨g, 0, none⟩, n, n⟩ (fun z => w.heap.size ≤ z) (TX.new ls) := by
  obtain ⟨rl, h1, h2, h3⟩ := h.rows
  exact ⟨h.cells, ⟨hl, Nat.le_refl _, g, rl, rfl, h.gs, by show rl.length = ls.length; omega, h1, fun i hi => h3 i (by omega) hi⟩, ⟨#[], 0, h.map, by simp, fun i => trivial⟩, h.ps, h.ms⟩
/-- At the start. -/
theorem NewI.start (w : World) (n : Nat) (ls : List (List UInt8)) : NewI w (((w.alloc (.cells (Array.replicate n (.slice none 0 0)) 38)).alloc (.map #[] 0)).alloc (.cells #[.slice (some ⟨w.heap.size, 0, none⟩) n n, .map (some (w.heap.size + 1))] 82)) n ls 0 w.heap.size (w.heap.size + 1) (w.heap.size + 2) := by
  refine ⟨(((Below.refl _ _).alloc (Nat.le_refl _) _).alloc (by simp) _).alloc (by simp; omega) _, ?_, ?_, ⟨List.replicate n ⟨none, 0, 0⟩, ?_, by simp, fun i hi => by omega⟩, Nat.le_refl _, by omega, by omega⟩
  · have := heap_alloc_new ((w.alloc (.cells (Array.replicate n (.slice none 0 0)) 38)).alloc (.map #[] 0)) (.cells #[.slice (some ⟨w.heap.size, 0, none⟩) n n, .map (some (w.heap.size + 1))] 82)
    rwa [World.size_alloc, World.size_alloc] at this
  · rw [Below.heap_alloc _ _ _ (by simp)]
    have := heap_alloc_new (w.alloc (.cells (Array.replicate n (.slice none 0 0)) 38)) (.map #[] 0)
    rwa [World.size_alloc] at this
  · rw [Below.heap_alloc _ _ _ (by simp; omega), Below.heap_alloc _ _ _ (by simp), heap_alloc_new]
    simp [Sl.v]
end
/-- Behind New. -/
def NewQ (w : World) (n : Nat) (ls : List (List UInt8)) (e : Ending) (w' : World) : Prop := ∃ g m p, e = .returned (.pointer (some ⟨p, 0, none⟩)) ∧ Tq w' p m ⟨some ⟨g, 0, none⟩, n, n⟩ (fun z => w.heap.size ≤ z) (TX.new ls) ∧ Below w.heap.size w w' ∧ w.heap.size ≤ p ∧ w.heap.size ≤ m
set_option maxRecDepth 100000 in
set_option maxHeartbeats 1000000 in
theorem new_any (A : Option Addr) (n c : Nat) (ls : List (List UInt8)) (w : World) (h : RI w A n ls) (hn : n ≤ 1000000) : Calls Try.prog 8 #[.slice A n c] w (NewQ w n ls) := by
  obtain ⟨ii, hii, hiz, his, hib⟩ := info_parts info_rows
  have hmk : ∀ W : World, (Instr.makeSlice 26 (.int .i64 (n : Int)) (.int .i64 (n : Int))).run Try.prog W = .ok (.slice (some ⟨W.heap.size, 0, none⟩) n n) (W.alloc (.cells (Array.replicate n (.slice none 0 0)) 38)) := fun W => by
    have hr := run_makeSlice (P := Try.prog) W 26 38 ii (.slice none 0 0) Try.underlying26 hii hiz .i64 .i64 (n : Int) (n : Int) (by omega) (by omega) (by rw [his]; simp; omega) (by rw [hib]; omega) (by omega)
    simp only [Int.toNat_natCast, his, Nat.mul_one] at hr
    rw [hr, madeCells_rows]
  have hmm := @run_makeMap Try.prog
  have HR := Lib.hid h
  have HI0 := Lib.hid (NewI.start w n ls)
  have HN : Hid (n ≤ 1000000) := hn
  have HL : Hid (ls.length = n) := h.1
  clear h hii hiz his hib
  go_enter Try.func8, Try.ntmps8
  go_wp2_with fail
  go_loopw [14] (fun i wr => ∃ k : Nat, k ≤ n ∧ i = .int .i64 k ∧ Hid (NewI w wr n ls k w.heap.size (w.heap.size + 1) (w.heap.size + 2))) (fun i _ => n - (intOf i).toNat)
  case atStart => exact ⟨0, by omega, rfl, HI0⟩
  case round =>
    clear HI0 hmk hmm
    obtain ⟨k, hk, rfl, HI⟩ := hrel
    by_cases hlt : k < n
    · obtain ⟨b, o, x, rfl, h1, h2, h3⟩ := HR.out.at hlt
      have hcx : wr.cell? ⟨b, o + k, none⟩ = some (.slice x.a x.n x.c) := (HI.out.bel.cell (p := ⟨b, o + k, none⟩) (World.block_lt_of_cell? w _ h1)).trans h1
      have HX := Lib.hid h2
      have HX3 := Lib.hid h3
      clear h1 h2 h3
      have hn1 := HN.out
      go_wp2_with fail
      have HId := Lib.hid HI.out.drew
      have HS : Hid ((fun W : World => W.cell? ⟨w.heap.size + 2, 0, none⟩ = some (.slice (some ⟨w.heap.size, 0, none⟩) n n)) wr.drew) := HId.out.c0
      refine wp_region_held_drew (S := fun W => W.cell? ⟨w.heap.size + 2, 0, none⟩ = some (.slice (some ⟨w.heap.size, 0, none⟩) n n)) (by kernel_rfl) HS.out (fun _ => ?_)
      change wpAnyH _ _ _ _ _ 9 (Array.replicate 9 false) _ _
      refine takeH (i := 0) 19 (.pointer (some ⟨w.heap.size + 2, 0, none⟩)) rfl rfl (by kernel_rfl) (by kernel_rfl) (by kernel_rfl) (fun _ _ _ h => h) (.inl ⟨by rfl, fun W hW => by go_simp⟩) HS.out ?_
      simp only [Act.put, List.setIfInBounds_toArray, List.set_cons_zero, List.set_cons_succ]
      refine takeH (i := 1) 20 (.pointer (some ⟨w.heap.size + 2, 0, none⟩)) rfl rfl (by kernel_rfl) (by kernel_rfl) (by kernel_rfl) (fun _ _ _ h => h) (.inl ⟨by rfl, fun W hW => by go_simp⟩) HS.out ?_
      simp only [Act.put, List.setIfInBounds_toArray, List.set_cons_zero, List.set_cons_succ]
      refine takeH (i := 2) 21 (.pointer (some ⟨w.heap.size + 2, 0, none⟩)) rfl rfl (by kernel_rfl) (by kernel_rfl) (by kernel_rfl) (fun _ _ _ h => h) (.inl ⟨by rfl, fun W hW => by go_simp⟩) HS.out ?_
      simp only [Act.put, List.setIfInBounds_toArray, List.set_cons_zero, List.set_cons_succ]
      refine takeH (i := 3) 22 (.slice (some ⟨w.heap.size, 0, none⟩) n n) rfl rfl (by kernel_rfl) (by kernel_rfl) (by kernel_rfl) (fun _ _ _ h => h) (.inl ⟨by rfl, fun W hW => by (have hz : W.cell? ⟨w.heap.size + 2, 0, none⟩ = some (.slice (some ⟨w.heap.size, 0, none⟩) n n) := hW; go_simp)⟩) HS.out ?_
      simp only [Act.put, List.setIfInBounds_toArray, List.set_cons_zero, List.set_cons_succ]
      refine takeH (i := 4) 23 (.int .i64 (k : Int)) rfl rfl (by kernel_rfl) (by kernel_rfl) (by kernel_rfl) (fun _ _ _ h => h) (.inl ⟨by rfl, fun W hW => by go_simp⟩) HS.out ?_
      simp only [Act.put, List.setIfInBounds_toArray, List.set_cons_zero, List.set_cons_succ]
      refine takeH (i := 5) 24 (.slice x.a x.n x.c) rfl rfl (by kernel_rfl) (by kernel_rfl) (by kernel_rfl) (fun _ _ _ h => h) (.inl ⟨by rfl, fun W hW => by go_simp⟩) HS.out ?_
      simp only [Act.put, List.setIfInBounds_toArray, List.set_cons_zero, List.set_cons_succ]
      refine wpAnyH_ready (rs := [6]) (by kernel_rfl) (by simp) ?_
      refine AllReadyH.cons rfl (fun K hK => ?_) AllReadyH.nil
      go_simp
      refine (clone_big x.a x.n x.c _ wr.drew (HX.out.below HI.out.bel).drew HX3.out).mono ?_
      rintro e w2 ⟨A2, c2, rfl, h1, h2, h3, h4, -⟩
      have HI2 := Lib.hid (HId.out.below h4)
      have HY : Hid (BC w2 (fun z => w.heap.size ≤ z) ⟨A2, x.n, c2⟩ (ls.getD k [])) := ⟨h1, HX3.out, h2, fun _ ad e => Nat.le_trans HI.out.bel.size (h3 ad e)⟩
      refine hK.out _ _ HI2.out.c0 fun _ => ?_
      clear hK K h1 h2 h3 h4
      refine takeH (i := 7) 26 (.pointer (some ⟨w.heap.size, k, none⟩)) rfl rfl (by kernel_rfl) (by kernel_rfl) (by kernel_rfl) (fun _ _ _ h => h) (.inl ⟨by rfl, fun W hW => by go_simp⟩) HI2.out.c0 ?_
      simp only [Act.put, List.setIfInBounds_toArray, List.set_cons_zero, List.set_cons_succ]
      refine wpAnyH_ready (rs := [8]) (by kernel_rfl) (by simp) ?_
      refine AllReadyH.cons rfl (fun K hK => ?_) AllReadyH.nil
      have HI3 := Lib.hid (HI2.out.set ⟨A2, x.n, c2⟩ HY.out)
      obtain ⟨v, hrow⟩ := HI2.out.row hlt
      have hfrow := HI2.out.froz k
      go_simp
      refine hK.out _ _ HI3.out.c0 fun _ => ?_
      clear hK K hrow hfrow
      refine wpAnyH_done (by kernel_rfl) ?_ _
      go_wp2
      go_roundw
      case rel => exact ⟨k + 1, by omega, by go_num, HI3⟩
      case measure => simp [intOf]; omega
    · obtain rfl : k = n := by omega
      go_wp2
      go_ret
      exact ⟨_, _, _, rfl, HI.out.done HL.out, HI.out.bel, by omega, by omega⟩
end Go.Proofs.Ytjgmboleiaehaaa

namespace Go.Proofs.Ytjgmboleiaehaaa
open Go.RowKit

theorem infos_wr : (Try.prog.info? 104).map (fun i => (i.zero, i.size, i.bytes)) = some (some (.agg (wv 0 ⟨none, 0, 0⟩).toArray), 2, 32) := by kernel_rfl
theorem ownsRow_succ {w : World} {base : Nat} {e : TypeId} {s : Nat} {v : Value} {n : Nat} {cells : List Value} (h : w.ownsRow base e s v (n + 1) cells) : ∃ g cap, v = .slice (some ⟨g, 0, none⟩) (n + 1) cap := by
  rcases h.2 with ⟨_, h0⟩ | ⟨g, cap, _, h1, _⟩
  · omega
  · exact ⟨g, cap, h1⟩

/-- One more write behind a row of them, its bytes new. -/
theorem WR.news (w2 : World) (k : Nat) (s : Sl) : ∀ j u, (wv (k : Int) s)[j]? = some u → (w2.alloc (.cells #[.int .i64 (k : Int), .slice s.a s.n s.c] 104)).cell? ((⟨w2.heap.size, 0, none⟩ : Addr).add j) = some u := fun j u hu =>
  World.news_of_block (heap_alloc_new w2 (.cells #[.int .i64 (k : Int), .slice s.a s.n s.c] 104)) j u (by simpa [wv] using hu)
theorem WR.push {W w2 w8 : World} {base : Nat} {A A' : Option Addr} {c c' : Nat} {l : List (Nat × List UInt8)} {sl : List Sl} (h : WR W base A c l sl) (hsz : base ≤ W.heap.size) (hb : Below W.heap.size W w2) (k : Nat) (b : List UInt8) (s : Sl) (hs : BS w2 s.a s.n b) (hc : s.n ≤ s.c) (hnew : ∀ ad, s.a = some ad → W.heap.size ≤ ad.block)
    (h8 : w8.ownsRow base 104 2 (.slice A' (l.length + 1) c') (l.length + 1) (wcs l sl ++ wv (k : Int) s)) (hg : (w2.alloc (.cells #[.int .i64 (k : Int), .slice s.a s.n s.c] 104)).grownBy w8 (Value.slice A l.length c).ownBlock)
    (hat : (Value.slice A' (l.length + 1) c').ownBlock = (Value.slice A l.length c).ownBlock ∨ (Value.slice A' (l.length + 1) c').ownBlock = some (w2.alloc (.cells #[.int .i64 (k : Int), .slice s.a s.n s.c] 104)).heap.size) :
    WR w8 base A' c' (l ++ [(k, b)]) (sl ++ [s]) ∧ Below base W w8 := by
  have hB : Below W.heap.size W (w2.alloc (.cells #[.int .i64 (k : Int), .slice s.a s.n s.c] 104)) := hb.alloc hb.size _
  refine ⟨(h.below hB).append (x := (k, b)) (s := s) h8 hg hat (hs.alloc _) hc fun _ ad e => ⟨Nat.le_trans hsz (hnew ad e), fun e' => ?_⟩, (hB.mono hsz).trans ((fr_grown hg).below (Nat.le_trans hsz hB.size) fun k e => (h.place k e).1)⟩
  have h1 := (h.place _ e').2
  have h2 := hnew ad e
  omega

/-- The bytes of writes may be written. -/
def Soft (w : World) (sl : List Sl) : Prop := ∀ i (h : i < sl.length), 0 < sl[i].n → ∀ ad, sl[i].a = some ad → ∀ j, w.frozen? ⟨ad.block, j, none⟩ = false
theorem frozen_of_block {w w' : World} {b j : Nat} (h : w'.heap[b]? = w.heap[b]?) : w'.frozen? ⟨b, j, none⟩ = w.frozen? ⟨b, j, none⟩ := by simp only [World.frozen?, h]
theorem WR.soft {W w2 w8 : World} {base : Nat} {A : Option Addr} {c : Nat} {l : List (Nat × List UInt8)} {sl : List Sl} (h : WR W base A c l sl) (hf : Soft W sl) (hb : Below W.heap.size W w2) (k : Nat) (s : Sl) {b : List UInt8} (hs : BS w2 s.a s.n b) (hnew : ∀ ad, s.a = some ad → W.heap.size ≤ ad.block) (hfs : ∀ ad, s.a = some ad → ∀ j, w2.frozen? ⟨ad.block, j, none⟩ = false)
    (hg : (w2.alloc (.cells #[.int .i64 (k : Int), .slice s.a s.n s.c] 104)).grownBy w8 (Value.slice A l.length c).ownBlock) : Soft w8 (sl ++ [s]) := by
  intro i hi h0 ad e j
  by_cases hi' : i < sl.length
  · simp only [List.getElem_append_left hi'] at h0 e
    have hlt := (h.bs i hi').lt_block h0 ad e
    have hsz := hb.size
    have h1 := hf i hi' h0 ad e j
    rw [frozen_of_block (w := w2.alloc (.cells #[.int .i64 (k : Int), .slice s.a s.n s.c] 104)) (hg.block ad.block (by rw [World.size_alloc]; omega) (fun e' => h.off i hi' h0 ad e e'.symm)), frozen_of_block (w := w2) (Below.heap_alloc _ _ _ (by omega)), frozen_of_block (w := W) (hb.block _ hlt)]
    exact h1
  · obtain rfl : i = sl.length := by simp at hi; omega
    have e1 : (sl ++ [s])[sl.length]'hi = s := by simp
    rw [e1] at h0 e
    have hlt := hs.lt_block h0 ad e
    rw [frozen_of_block (w := w2.alloc (.cells #[.int .i64 (k : Int), .slice s.a s.n s.c] 104)) (hg.block ad.block (by rw [World.size_alloc]; omega) (fun e' => by have h2 := (h.place _ e'.symm).2; have h3 := hnew ad e; omega)), frozen_of_block (w := w2) (Below.heap_alloc _ _ _ hlt)]
    exact hfs ad e j

section
variable {w : World} {p m : Nat} {x : Sl} {S : Nat → Prop} {X : TX}
set_option maxHeartbeats 400000 in
theorem changes_nil (w : World) : Calls Try.prog 26 #[.pointer none] w fun e w' => e = .returned (.slice none 0 0) ∧ w' = w := by
  have HC := Lib.hid (tlen_nil w)
  go_enter Try.func26, Try.ntmps26
  go_wp2_with fail
  refine HC.out.mono ?_
  rintro e w' ⟨rfl, rfl⟩
  go_wp2_with fail
  go_loop [3, 9] (fun s i => s = .slice none 0 0 ∧ i = .int .i64 0) (fun _ _ => 0)
  case atStart => exact ⟨rfl, rfl⟩
  case round =>
    obtain ⟨rfl, rfl⟩ := hrel
    go_wp2
    go_ret
    exact ⟨rfl, rfl⟩
/-- Behind Changes. -/
def ChgQ (w : World) (l : List (Nat × List UInt8)) (e : Ending) (w' : World) : Prop := ∃ A c sl, e = .returned (.slice A l.length c) ∧ WR w' w.heap.size A c l sl ∧ Below w.heap.size w w' ∧ Soft w' sl
set_option maxRecDepth 100000 in
set_option maxHeartbeats 2000000 in
theorem changes_any (h : Tq w p m x S X) (hn : x.n ≤ 1000000) : Calls Try.prog 26 #[.pointer (some ⟨p, 0, none⟩)] w (ChgQ w (X.chs x.n)) := by
  obtain ⟨i0, hi0, hz0, hz1, hz2⟩ := info_parts infos_wr
  have HI0 := Lib.hid hi0
  have HZ0 := Lib.hid hz0
  have HZ1 := Lib.hid hz1
  have HZ2 := Lib.hid hz2
  clear hi0 hz0 hz1 hz2
  have HC := Lib.hid (tlen_any h)
  have HT := Lib.hid h
  have HN := Lib.hid hn
  clear h
  go_enter Try.func26, Try.ntmps26
  go_wp2_with fail
  refine HC.out.mono ?_
  rintro e w' ⟨rfl, rfl⟩
  clear HC
  rename World => W0
  go_wp2_with fail
  go_loopw [3, 9] (fun s i wr => ∃ (k c : Nat) (A : Option Addr) (sl : List Sl), k ≤ x.n ∧ i = .int .i64 k ∧ s = .slice A (X.chs k).length c ∧ Hid (Below W0.heap.size W0 wr) ∧ Hid (WR wr W0.heap.size A c (X.chs k) sl) ∧ Hid (Soft wr sl)) (fun _ i _ => x.n - (intOf i).toNat)
  case atStart => exact ⟨0, 0, none, [], by omega, rfl, rfl, Below.refl _ _, WR.nil _ _, fun i h => by simp at h⟩
  case round =>
    obtain ⟨k, c, A, sl, hk, rfl, rfl, HB, HW, HF⟩ := hrel
    by_cases hlt : k < x.n
    · have HT1 := Lib.hid (HT.out.below HB.out)
      have c0 := HT1.out.c0
      have c1 := HT1.out.c1
      obtain ⟨g, y, hxa, hg, hby⟩ := HT1.out.rows.at hlt
      have HY := Lib.hid hby
      clear hby
      rw [hxa] at c0
      cases hp : X.p k with
      | none =>
        have hl := HT1.out.puts.none_at k hp
        have HE : Hid (X.chs (k + 1) = X.chs k) := TX.chs_no (TX.chg_none hp)
        clear hp hxa
        go_wp2_with fail
        go_roundw
        case rel => exact ⟨k + 1, c, A, sl, by omega, by go_num, by rw [HE.out], HB, by show WR _ _ _ _ _ _; rw [HE.out]; exact HW.out, HF⟩
        case measure => simp [intOf]; omega
      | some b =>
        obtain ⟨z, hl, hbz⟩ := HT1.out.puts.some_at k hp
        have HBZ := Lib.hid hbz
        have HQ := Lib.hid (equal_any z.a y.a z.n y.n z.c y.c b (X.l.getD k []) _ hbz.bs HY.out.bs)
        cases hc : X.chg k with
        | false =>
          have HE : Hid (X.chs (k + 1) = X.chs k) := TX.chs_no hc
          rw [TX.chg_of hp, decide_eq_false_iff_not, Decidable.not_not] at hc
          rw [decide_eq_true (show b = X.l.getD k [] from hc)] at HQ
          clear hp hc hbz hxa
          go_wp2_with fail
          refine HQ.out.mono ?_
          rintro e w' ⟨rfl, rfl⟩
          go_wp2_with fail
          go_roundw
          case rel => exact ⟨k + 1, c, A, sl, by omega, by go_num, by rw [HE.out], HB, by show WR _ _ _ _ _ _; rw [HE.out]; exact HW.out, HF⟩
          case measure => simp [intOf]; omega
        | true =>
          have HE : Hid (X.chs (k + 1) = X.chs k ++ [(k, b)]) := by show _ = _; rw [TX.chs_yes hc, TX.get_of hp]
          rw [TX.chg_of hp, decide_eq_true_eq] at hc
          rw [decide_eq_false (show ¬ b = X.l.getD k [] from hc)] at HQ
          have HLN := Lib.hid (TX.chs_len X k)
          clear hp hc hbz hxa
          go_wp2_with fail
          refine HQ.out.mono ?_
          rintro e w' ⟨rfl, rfl⟩
          go_wp2_with fail
          refine (clone_big z.a z.n z.c b _ HBZ.out.bs HBZ.out.few).mono ?_
          rintro e w2 ⟨A2, c2, rfl, h1, h2, h3, h4, h5⟩
          have HB2 := Lib.hid h4
          have HF2 := Lib.hid h5
          have HS2 := Lib.hid h1
          have HC2 := Lib.hid h2
          have HN2 := Lib.hid h3
          have HRM : Hid ((w2.alloc (.cells #[.int .i64 (k : Int), .slice A2 z.n c2] 104)).ownsRow W0.heap.size 104 2 (.slice A (X.chs k).length c) (X.chs k).length (wcs (X.chs k) sl)) := (HW.out.below (HB2.out.alloc HB2.out.size _)).row
          clear h1 h2 h3 h4 h5 HQ
          have hsz : W0.heap.size ≤ (w2.alloc (.cells #[.int .i64 (k : Int), .slice A2 z.n c2] 104)).heap.size := by
            have h5 := HB.out.size
            have h6 := HB2.out.size
            rw [World.size_alloc]
            omega
          have HL1 : Hid ((X.chs k).length ≤ 1000000) := by
            have h5 := HLN.out
            have h6 := HN.out
            show _ ≤ _
            omega
          go_wp2_with (at_builtin
                       go_must (refine wpList_append_own_at _ rfl (.tmp 34) (.tmp 39) 76 rfl W0.heap.size 104 i0 _ 2 32 Try.underlying76 HI0.out HZ0.out HZ1.out HZ2.out rfl (by omega) (.slice A (X.chs k).length c) (X.chs k).length (wcs (X.chs k) sl) rfl HRM.out ⟨w2.heap.size, 0, none⟩ 1 1 (wv (k : Int) ⟨A2, z.n, c2⟩) rfl (by simp [wv]) (WR.news w2 k ⟨A2, z.n, c2⟩) (by simp [wv, Value.oneCell']) (by have := HL1.out; unfold maxLen; omega) (by have := HL1.out; omega) hsz ?_)
                       intro v' w8 hown' hgrow _ hat
                       obtain ⟨g', cap', rfl⟩ := ownsRow_succ hown'
                       have HMO := Lib.hid (HW.out.push HB.out.size HB2.out k b ⟨A2, z.n, c2⟩ HS2.out HC2.out HN2.out hown' hgrow hat)
                       have HFO := Lib.hid (HW.out.soft HF.out HB2.out k ⟨A2, z.n, c2⟩ HS2.out HN2.out HF2.out hgrow)
                       clear hown' hgrow hat)
          go_roundw
          case rel => exact ⟨k + 1, cap', some ⟨g', 0, none⟩, _, by omega, by go_num, by rw [HE.out]; simp, HB.out.trans HMO.out.2, by show WR _ _ _ _ _ _; rw [HE.out]; exact HMO.out.1, HFO⟩
          case measure => simp [intOf]; omega
    · obtain rfl : k = x.n := by omega
      go_wp2
      go_ret
      exact ⟨A, c, sl, rfl, HW.out, HB.out, HF.out⟩
end
end Go.Proofs.Ytjgmboleiaehaaa

namespace Go.Proofs.Ytjgmboleiaehaaa
open Go.RowKit
attribute [local go_sem] Oper.semAt_some
theorem clone_own (A : Option Addr) (n c : Nat) (l : List UInt8) (w : World) (h : BS w A n l) (hn : n ≤ big47) :
    Calls Try.prog 27 #[.slice A n c] w fun e w' => ∃ A' c', e = .returned (.slice A' n c') ∧ Own w w' A' n c' l := by
  rcases A with _ | ad
  · have h0 : n = 0 := by
      rcases Nat.eq_zero_or_pos n with h0 | h0
      · exact h0
      · obtain ⟨b, o, h, _⟩ := h.2 h0
        cases h
    subst h0
    obtain rfl : l = [] := List.eq_nil_of_length_eq_zero h.1
    refine (Try.bytes_Clone_nil 0 c w).mono ?_
    rintro e w' ⟨rfl, rfl⟩
    exact ⟨none, 0, rfl, World.ownsRow_nil _ _ _ _, Below.refl _ _⟩
  · have hl := h.1
    refine (Try.bytes_Clone_at ad n c (l.map fun b => (b.toNat : Int)) w (by simpa using hl) (by exact hn) (fun i hi => ?_)).mono ?_
    · rw [h.news rfl i (.int .u8 ((l[i]'(by omega)).toNat : Int)) (bc_get l i (by omega))]
      simp [hl, hi]
    · rintro e w' ⟨v, rfl, ho, _, hb⟩
      have e1 : ((l.map fun b => (b.toNat : Int)).map (Value.int .u8)) = bc l := by simp [bc]
      rw [e1] at ho
      have hv : ∃ A' c', v = .slice A' n c' := by
        rcases ho.2 with ⟨h6, h7⟩ | ⟨g, cap, cur, h6, _⟩
        · exact ⟨none, 0, by rw [h6, h7]⟩
        · exact ⟨_, _, h6⟩
      obtain ⟨A', c', rfl⟩ := hv
      have hO : Own w w' A' n c' l := ⟨ho, hb⟩
      exact ⟨A', c', rfl, hO⟩


def GotO (w : World) (l : List UInt8) (e : Ending) (w' : World) : Prop := ∃ A n c, e = .returned (.slice A n c) ∧ Own w w' A n c l
section
variable {w : World} {p m : Nat} {x : Sl} {S : Nat → Prop} {X : TX}
set_option maxHeartbeats 1000000 in
theorem get_own (h : Tq w p m x S X) (i : Nat) (hi : i < x.n) : Calls Try.prog 22 #[.pointer (some ⟨p, 0, none⟩), .int .i64 (i : Int)] w (GotO w (X.get i)) := by
  have HC := Lib.hid (has_any h (i : Int))
  rw [hasB_nat hi] at HC
  have c0 := h.c0
  have c1 := h.c1
  cases hp : X.p i with
  | none =>
    have hl := h.puts.none_at i hp
    obtain ⟨g, y, hxa, hg, hb⟩ := h.rows.at hi
    have HB := Lib.hid hb
    have HE : Hid (X.get i = X.l.getD i []) := TX.get_none hp
    clear h hp hb
    rw [hxa] at c0
    clear hxa
    go_enter Try.func22, Try.ntmps22
    go_wp2_with fail
    refine HC.out.mono ?_
    rintro e w' ⟨rfl, rfl⟩
    go_wp2_with fail
    refine (clone_own y.a y.n y.c _ w' HB.out.bs HB.out.few).mono ?_
    rintro e w2 ⟨A, c, rfl, h1⟩
    have HH : Hid (GotO w' (X.get i) (.returned (.slice A y.n c)) w2) := by
      show GotO _ _ _ _
      rw [HE.out]
      exact ⟨A, _, c, rfl, h1⟩
    clear h1
    go_wp2_with fail
    go_ret
    exact HH.out
  | some b =>
    obtain ⟨y, hl, hb⟩ := h.puts.some_at i hp
    have HB := Lib.hid hb
    have HE : Hid (X.get i = b) := TX.get_of hp
    clear h hp hb
    go_enter Try.func22, Try.ntmps22
    go_wp2_with fail
    refine HC.out.mono ?_
    rintro e w' ⟨rfl, rfl⟩
    go_wp2_with fail
    refine (clone_own y.a y.n y.c _ w' HB.out.bs HB.out.few).mono ?_
    rintro e w2 ⟨A, c, rfl, h1⟩
    have HH : Hid (GotO w' (X.get i) (.returned (.slice A y.n c)) w2) := by
      show GotO _ _ _ _
      rw [HE.out]
      exact ⟨A, _, c, rfl, h1⟩
    clear h1
    go_wp2_with fail
    go_ret
    exact HH.out
end
/-- The first of what one owns. -/
theorem own_pre {W : World} {base : Nat} {A : Option Addr} {n c k : Nat} {l : List UInt8} (h : W.ownsRow base 5 1 (.slice A n c) n (bc l)) (hk : k ≤ n) (h0 : 0 < n) : W.ownsRow base 5 1 (.slice A k c) k (bc (l.take k)) := by
  have hl : l.length = n := by have := h.1; simpa [bc] using this
  refine ⟨by simp [bc]; omega, ?_⟩
  rcases h.2 with ⟨h1, h2⟩ | ⟨g, cap, cur, h1, h2, h3, h4, h5, h6, h7⟩
  · omega
  · injection h1 with h1 _ hc
    subst hc
    refine .inr ⟨g, c, cur, by rw [h1], h2, h3, by omega, h5, h6, ?_⟩
    have := congrArg (List.take k) h7
    rw [List.take_take, show min k (n * 1) = k * 1 by omega] at this
    rw [this]
    simp [bc, List.map_take]
end Go.Proofs.Ytjgmboleiaehaaa

namespace Go.Proofs.Ytjgmboleiaehaaa
open Go.RowKit Go.Shelf

/-- Block i of a transaction over n blocks, nothing if there is none. -/
def TX.bk (X : TX) (n i : Nat) : List UInt8 := if i < n then X.get i else []
section
variable {w : World} {p m : Nat} {x : Sl} {S : Nat → Prop} {X : TX}
set_option maxRecDepth 100000 in
set_option maxHeartbeats 1000000 in
theorem get_no_own (h : Tq w p m x S X) (i : Int) (hi : hasB x.n i = false) : Calls Try.prog 22 #[.pointer (some ⟨p, 0, none⟩), .int .i64 i] w (GotO w []) := by
  have HC := Lib.hid (has_any h i)
  rw [hi] at HC
  clear h hi
  go_enter Try.func22, Try.ntmps22
  go_wp2_with fail
  refine HC.out.mono ?_
  rintro e w' ⟨rfl, rfl⟩
  go_wp2
  go_ret
  exact ⟨none, 0, 0, rfl, World.ownsRow_nil _ _ _ _, Below.refl _ _⟩
theorem bk_own (h : Tq w p m x S X) (i : Nat) : Calls Try.prog 22 #[.pointer (some ⟨p, 0, none⟩), .int .i64 (i : Int)] w (GotO w (TX.bk X x.n i)) := by
  unfold TX.bk
  by_cases hi : i < x.n
  · rw [if_pos hi]
    exact get_own h i hi
  · rw [if_neg hi]
    exact get_no_own h (i : Int) (by simp [hasB]; omega)
end
/-- A result that lies in a block of its own, and two more. -/
theorem results_cell2 {t : TypeId} {fs : Array Field} {cs : List Value} {fn : Func} {p q s : Tmp} (h : fn.results = #[.cell p t, .tmp q, .tmp s]) (tmps : Array Value) (w : World) (g : Nat) (v u : Value) (hg : Bw w g cs t) (hi : (Try.prog.info? t).map (·.size) = some cs.length)
    (hp : tmps.getD p undef = .pointer (some ⟨g, 0, none⟩)) (hq : tmps.getD q undef = v) (hs : tmps.getD s undef = u) (hu : Try.prog.underlying t = some (.struct fs)) : (results fn tmps).run Try.prog w = .ok (.tuple #[.agg cs.toArray, v, u]) w := by
  have hp' : tmps[p]?.getD undef = .pointer (some ⟨g, 0, none⟩) := by simpa using hp
  have hq' : tmps[q]?.getD undef = v := by simpa using hq
  have hs' : tmps[s]?.getD undef = u := by simpa using hs
  have hl := run_loadVar_row (P := Try.prog) w g t t cs.toArray (0, 0) _ hg hu rfl (by simpa using hi)
  simp [results, h, hp', hq', hs', asAddr, hl]
theorem Ry.of_cli (c : Nat) (l : List UInt8) (v u : Value) : (rc (Ry.of 0 (Ry.rdT l)) v u).take 0 ++ [.int .u32 (c : Int)] ++ (rc (Ry.of 0 (Ry.rdT l)) v u).drop (0 + 1) = rc (Ry.of c (Ry.rdT l)) v u := rfl
set_option maxRecDepth 100000 in
set_option maxHeartbeats 2000000 in
theorem getR_any (c p : Nat) (b : List UInt8) (w : World) (hbl : b.length ≤ 2000) (I : World → Prop) (hI : I w) (hIb : ∀ W W', I W → Below W.heap.size W W' → I W') (hg : c < 8 → ∀ W, I W → Calls Try.prog 22 #[.pointer (some ⟨p, 0, none⟩), .int .i64 ((1 + c : Nat) : Int)] W (GotO W b)) :
    Calls Try.prog 17 #[.pointer (some ⟨p, 0, none⟩), .int .u32 (c : Int)] w fun e w' => e = .returned (.tuple #[.agg (rc (Ry.gRep c b) (.slice none 0 0) (.slice none 0 0)).toArray, .bool (Ry.gIs c b), .int .i64 (Ry.gErr c b)]) ∧ Below w.heap.size w w' := by
  by_cases hc : c < 8
  rotate_left
  · have HR : Hid (Ry.gIs c b = false ∧ Ry.gErr c b = 1 ∧ Ry.gRep c b = Rp.zero) := by
      have h1 : Ry.gIs c b = false := by simp [Ry.gIs, hc]
      exact ⟨h1, if_neg hc, by unfold Ry.gRep; rw [h1]; rfl⟩
    clear hg hI hIb
    go_enter Try.func17, Try.ntmps17
    go_upto_region 1 with (refine wpList_alloc_any rfl 41 rfl _ zero_Rp ?_; intro w1 hb1 hs1 hw1)
    have HB1 : Hid (Bw w1 w.heap.size (rc Rp.zero (.slice none 0 0) (.slice none 0 0)) 41) := hb1
    have HW1 := Lib.hid hw1
    clear hb1 hs1 hw1
    go_wp2_with fail
    refine (isClient_any c w1).mono ?_
    rintro e w2 ⟨rfl, rfl⟩
    rw [decide_eq_false hc]
    clear hc
    go_wp2_with (first
      | (refine wpList_build rfl 41 #[] rfl (by show (Try.prog.built _ []).isSome = true; rw [built_Rpz]; rfl) ?_; rw [show (Try.prog.built 41 (Array.map _ #[]).toList) = _ from built_Rpz])
      | (refine wpList_store_part rfl 41 (.tmp 4) (.tmp 13) rfl w.heap.size 0 (rc Rp.zero (.slice none 0 0) (.slice none 0 0)) rfl rfl 41 _ HB1.out size_Rp (by simp [rc]) (rc_row _ _ _ _ _ _ _) ?_
         intro y hb _ hk
         have HB := Lib.hid hb
         have HK := Lib.hid hk
         clear hb hk))
    exact bodyPost_ret (results_cell2 rfl _ y w.heap.size (.bool false) (.int .i64 1) HB.out size_Rp (by rfl) (by rfl) (by rfl) Try.underlying41) rfl (by
      rw [HR.out.1, HR.out.2.1, HR.out.2.2]
      exact ⟨rfl, HW1.out.trans (HK.out.below2 (fun k hk => by omega))⟩)
  have HG := Lib.hid (hg hc)
  have HC := Lib.hid hc
  clear hg
  go_enter Try.func17, Try.ntmps17
  go_upto_region 1 with (refine wpList_alloc_any rfl 41 rfl _ zero_Rp ?_; intro w1 hb1 hs1 hw1)
  have HB1 : Hid (Bw w1 w.heap.size (rc Rp.zero (.slice none 0 0) (.slice none 0 0)) 41) := hb1
  have HW1 := Lib.hid hw1
  have HI1 := Lib.hid (hIb w w1 hI hw1)
  clear hb1 hs1 hw1 hI
  go_wp2_with fail
  refine (isClient_any c w1).mono ?_
  rintro e w2 ⟨rfl, rfl⟩
  rw [decide_eq_true hc]
  clear hc
  go_wp2_with fail
  refine (block_any c HC.out _).mono ?_
  rintro e w2 ⟨rfl, rfl⟩
  go_wp2_with fail
  refine (HG.out w1 HI1.out).mono ?_
  rintro e w2 ⟨A, n, cp, rfl, hown⟩
  have HX := Lib.hid hown.bs
  have HB2 := Lib.hid (HB1.out.below hown.2)
  have HW2 := Lib.hid (HW1.out.trans (hown.2.mono HW1.out.size))
  clear hown HB1 HW1 HI1 HG hIb
  by_cases hb0 : b = []
  · have HR : Hid (Ry.gIs c b = false ∧ Ry.gErr c b = 0 ∧ Ry.gRep c b = Rp.zero) := by
      have h1 : Ry.gIs c b = false := by simp [Ry.gIs, hb0]
      exact ⟨h1, (if_pos HC.out).trans (if_pos hb0), by unfold Ry.gRep; rw [h1]; rfl⟩
    have hn : n = 0 := by have := HX.out.1; rw [hb0] at this; exact this.symm
    subst hn
    clear hb0 HX
    go_wp2_with (first
      | (refine wpList_build rfl 41 #[] rfl (by show (Try.prog.built _ []).isSome = true; rw [built_Rpz]; rfl) ?_; rw [show (Try.prog.built 41 (Array.map _ #[]).toList) = _ from built_Rpz])
      | (refine wpList_store_part rfl 41 (.tmp 4) (.tmp 21) rfl w.heap.size 0 (rc Rp.zero (.slice none 0 0) (.slice none 0 0)) rfl rfl 41 _ HB2.out size_Rp (by simp [rc]) (rc_row _ _ _ _ _ _ _) ?_
         intro y hb _ hk
         have HB := Lib.hid hb
         have HK := Lib.hid hk
         clear hb hk))
    exact bodyPost_ret (results_cell2 rfl _ y w.heap.size (.bool false) (.int .i64 0) HB.out size_Rp (by rfl) (by rfl) (by rfl) Try.underlying41) rfl (by
      rw [HR.out.1, HR.out.2.1, HR.out.2.2]
      exact ⟨rfl, HW2.out.trans (HK.out.below2 (fun k hk => by omega))⟩)
  have hn0 : ¬ n = 0 := fun e => hb0 (List.eq_nil_of_length_eq_zero (by rw [HX.out.1]; exact e))
  have hd : ((n : Int) == 0) = false := by simp; omega
  have HB0 := Lib.hid hb0
  clear hb0
  go_wp2_with fail
  refine (decoded_any b A n cp w2 HX.out (by have := HX.out.1; omega)).mono ?_
  rintro e w3 ⟨rfl, hb⟩
  have HB3 := Lib.hid (HB2.out.below hb)
  have HW3 := Lib.hid (HW2.out.trans (hb.mono HW2.out.size))
  clear hb HB2 HW2 HX hd hn0
  obtain ⟨th, hth⟩ : ∃ t : Rp, Ry.got 0 b = t := ⟨_, rfl⟩
  have HTH := Lib.hid hth
  obtain ⟨er, her⟩ : ∃ z : Int, Ry.err b = z := ⟨_, rfl⟩
  have HER := Lib.hid her
  rw [hth, her]
  clear hth her
  go_upto_region 7 with (first
    | (refine wpList_alloc_any rfl 41 rfl _ zero_Rp ?_; intro w4 hb4 hs4 hw4)
    | (refine wpList_store_part rfl 41 (.tmp 8) (.tmp 25) rfl w3.heap.size 0 (rc th (.slice none 0 0) (.slice none 0 0)) rfl rfl 41 _ hb4 size_Rp (by simp [rc]) (rc_row _ _ _ _ _ _ _) ?_
       intro w5 hb5 hs5 hk5))
  have hbw : Below w3.heap.size w3 w5 := hw4.trans (hk5.below2 (fun k hk => by omega))
  have HV5 : Hid (Bw w5 w3.heap.size (rc th (.slice none 0 0) (.slice none 0 0)) 41) := hb5
  have HB5 := Lib.hid (HB3.out.below hbw)
  have HW5 := Lib.hid (HW3.out.trans (hbw.mono HW3.out.size))
  have HNE : Hid (w.heap.size ≠ w3.heap.size ∧ w.heap.size ≤ w3.heap.size) := ⟨by have := HB3.out.lt; omega, HW3.out.size⟩
  clear hb4 hs4 hw4 hb5 hs5 hk5 hbw HB3 HW3
  generalize w3.heap.size = g at *
  by_cases hz : er = 0
  rotate_left
  · have hd : (er != 0) = true := by simpa using hz
    have HR : Hid (Ry.gIs c b = false ∧ Ry.gErr c b = er ∧ Ry.gRep c b = Rp.zero) := by
      have h1 : Ry.gIs c b = false := by simp [Ry.gIs, HER.out, hz]
      exact ⟨h1, ((if_pos HC.out).trans (if_neg HB0.out)).trans HER.out, by unfold Ry.gRep; rw [h1]; rfl⟩
    clear hz
    go_wp2_with (first
      | (refine wpList_build rfl 41 #[] rfl (by show (Try.prog.built _ []).isSome = true; rw [built_Rpz]; rfl) ?_; rw [show (Try.prog.built 41 (Array.map _ #[]).toList) = _ from built_Rpz])
      | (refine wpList_store_part rfl 41 (.tmp 4) (.tmp 29) rfl w.heap.size 0 (rc Rp.zero (.slice none 0 0) (.slice none 0 0)) rfl rfl 41 _ HB5.out size_Rp (by simp [rc]) (rc_row _ _ _ _ _ _ _) ?_
         intro y hb _ hk
         have HB := Lib.hid hb
         have HK := Lib.hid hk
         clear hb hk))
    exact bodyPost_ret (results_cell2 rfl _ y w.heap.size (.bool false) (.int .i64 er) HB.out size_Rp (by rfl) (by rfl) (by rfl) Try.underlying41) rfl (by
      rw [HR.out.1, HR.out.2.1, HR.out.2.2]
      exact ⟨rfl, HW5.out.trans (HK.out.below2 (fun k hk => by omega))⟩)
  have HR : Hid (Ry.gIs c b = true ∧ Ry.gErr c b = 0 ∧ Ry.gRep c b = Ry.of c (Ry.rdT b) ∧ th = Ry.of 0 (Ry.rdT b)) := by
    have h0 : Ry.err b = 0 := HER.out.trans hz
    have h1 : Ry.gIs c b = true := (Ry.gIs_iff c b).2 ⟨HC.out, HB0.out, h0⟩
    exact ⟨h1, ((if_pos HC.out).trans (if_neg HB0.out)).trans h0, by unfold Ry.gRep; rw [h1]; rfl, HTH.out.symm.trans (if_pos h0)⟩
  subst hz
  clear HTH HER
  go_upto_region 10 with (refine wpList_store_cell rfl 31 (.tmp 32) (.tmp 31) rfl g 0 (.int .u32 (c : Int)) rfl rfl 41 _ HV5.out (by kernel_rfl) rfl (by simp [rc]) rfl ?_; intro w6 hb6 hs6 hk6)
  have HV6 : Hid (Bw w6 g (rc (Ry.of c (Ry.rdT b)) (.slice none 0 0) (.slice none 0 0)) 41) := by
    rw [HR.out.2.2.2] at hb6
    exact hb6
  have HB6 := Lib.hid (HB5.out.keep hk6 HNE.out.1)
  have HW6 := Lib.hid (HW5.out.trans (hk6.below2 (fun k hk => by have := HNE.out.2; omega)))
  clear hb6 hs6 hk6 HV5 HB5 HW5
  go_wp2_with (first
    | (refine wpList_load_part rfl 41 (.tmp 8) rfl _ 0 rfl _ Try.underlying41 rfl (rc (Ry.of c (Ry.rdT b)) (.slice none 0 0) (.slice none 0 0)) 41 _ HV6.out size_Rp (fun j u hu => by rw [Nat.zero_add]; exact hu) ?_)
    | (refine wpList_store_part rfl 41 (.tmp 4) (.tmp 33) rfl w.heap.size 0 (rc (Ry.of c (Ry.rdT b)) (.slice none 0 0) (.slice none 0 0)) rfl rfl 41 _ HB6.out size_Rp (by simp [rc]) (rc_row _ _ _ _ _ _ _) ?_
       intro y hb _ hk
       have HB := Lib.hid hb
       have HK := Lib.hid hk
       clear hb hk))
  exact bodyPost_ret (results_cell2 rfl _ y w.heap.size (.bool true) (.int .i64 0) HB.out size_Rp (by rfl) (by rfl) (by rfl) Try.underlying41) rfl (by
    rw [HR.out.1, HR.out.2.1, HR.out.2.2.1]
    exact ⟨rfl, HW6.out.trans (HK.out.below2 (fun k hk => by omega))⟩)
end Go.Proofs.Ytjgmboleiaehaaa

namespace Go.Proofs.Ytjgmboleiaehaaa
open Go.RowKit Go.Shelf

set_option maxRecDepth 100000 in
set_option maxHeartbeats 400000 in
theorem isNaN_any (x : Nat) (w : World) : Calls Try.prog 56 #[.int .u32 (x : Int)] w fun e w' => e = .returned (.bool false) ∧ w = w' := by
  go_enter Try.func56, Try.ntmps56
  go_wp2
  go_ret
  exact ⟨rfl, rfl⟩
def cmpN (x y : Nat) : Int := if x < y then -1 else if x = y then 0 else 1
set_option maxRecDepth 100000 in
set_option maxHeartbeats 400000 in
theorem compare_any (x y : Nat) (w : World) : Calls Try.prog 38 #[.int .u32 (x : Int), .int .u32 (y : Int)] w fun e w' => e = .returned (.int .i64 (cmpN x y)) ∧ w = w' := by
  have hc : x < y ∨ x = y ∨ y < x := by omega
  rcases hc with h | h | h
  · have hv : cmpN x y = -1 := if_pos h
    rw [hv]
    have g1 : decide (x < y) = true := by simp; omega
    clear hv h
    go_enter Try.func38, Try.ntmps38
    go_wp2_with fail
    refine (isNaN_any x w).mono ?_
    rintro e w1 ⟨rfl, rfl⟩
    go_wp2_with fail
    refine (isNaN_any y w).mono ?_
    rintro e w1 ⟨rfl, rfl⟩
    go_wp2_with fail
    go_ret
    exact ⟨rfl, rfl⟩
  · have hv : cmpN x y = 0 := (if_neg (by omega)).trans (if_pos h)
    rw [hv]
    have g1 : decide (x < y) = false := by simp; omega
    have g2 : decide (y < x) = false := by simp; omega
    clear hv h
    go_enter Try.func38, Try.ntmps38
    go_wp2_with fail
    refine (isNaN_any x w).mono ?_
    rintro e w1 ⟨rfl, rfl⟩
    go_wp2_with fail
    refine (isNaN_any y w).mono ?_
    rintro e w1 ⟨rfl, rfl⟩
    go_wp2_with fail
    go_ret
    exact ⟨rfl, rfl⟩
  · have hv : cmpN x y = 1 := (if_neg (by omega)).trans (if_neg (by omega))
    rw [hv]
    have g1 : decide (x < y) = false := by simp; omega
    have g2 : decide (y < x) = true := by simp; omega
    clear hv h
    go_enter Try.func38, Try.ntmps38
    go_wp2_with fail
    refine (isNaN_any x w).mono ?_
    rintro e w1 ⟨rfl, rfl⟩
    go_wp2_with fail
    refine (isNaN_any y w).mono ?_
    rintro e w1 ⟨rfl, rfl⟩
    go_wp2_with fail
    go_ret
    exact ⟨rfl, rfl⟩
/-- A number, and a result that lies in a block of its own. -/
theorem results_tmp_cell {t : TypeId} {fs : Array Field} {cs : List Value} {fn : Func} {p q : Tmp} (h : fn.results = #[.tmp q, .cell p t]) (tmps : Array Value) (w : World) (g : Nat) (v : Value) (hg : Bw w g cs t) (hi : (Try.prog.info? t).map (·.size) = some cs.length)
    (hp : tmps.getD p undef = .pointer (some ⟨g, 0, none⟩)) (hq : tmps.getD q undef = v) (hu : Try.prog.underlying t = some (.struct fs)) : (results fn tmps).run Try.prog w = .ok (.tuple #[v, .agg cs.toArray]) w := by
  have hp' : tmps[p]?.getD undef = .pointer (some ⟨g, 0, none⟩) := by simpa using hp
  have hq' : tmps[q]?.getD undef = v := by simpa using hq
  have hl := run_loadVar_row (P := Try.prog) w g t t cs.toArray (0, 0) _ hg hu rfl (by simpa using hi)
  simp [results, h, hp', hq', asAddr, hl]
set_option maxRecDepth 100000 in
set_option maxHeartbeats 4000000 in
theorem askR_any (cl : Cl) (v : Value) (p : Nat) (b : List UInt8) (w : World) (hbl : b.length ≤ 2000) (I : World → Prop) (hI : I w) (hIb : ∀ W W', I W → Below W.heap.size W W' → I W') (hg : cl.cli < 8 → ∀ W, I W → Calls Try.prog 22 #[.pointer (some ⟨p, 0, none⟩), .int .i64 ((1 + cl.cli : Nat) : Int)] W (GotO W b)) :
    Calls Try.prog 19 #[.pointer (some ⟨p, 0, none⟩), .agg (cc cl v).toArray] w fun e w' => e = .returned (.tuple #[.int .i64 (Ry.aKnown cl.cli cl.xid b), .agg (rc (Ry.aRep cl.cli cl.xid b) (.slice none 0 0) (.slice none 0 0)).toArray]) ∧ Below w.heap.size w w' := by
  have HG : Hid (∀ W, I W → Calls Try.prog 17 #[.pointer (some ⟨p, 0, none⟩), .int .u32 (cl.cli : Int)] W fun e w' => e = .returned (.tuple #[.agg (rc (Ry.gRep cl.cli b) (.slice none 0 0) (.slice none 0 0)).toArray, .bool (Ry.gIs cl.cli b), .int .i64 (Ry.gErr cl.cli b)]) ∧ Below W.heap.size W w') := fun W hW => getR_any cl.cli p b W hbl I hW hIb hg
  have HKN : Hid (Ry.gIs cl.cli b = false → Ry.aKnown cl.cli cl.xid b = 0 ∧ Ry.aRep cl.cli cl.xid b = Rp.zero) := fun h => by
    have h1 : Ry.aKnown cl.cli cl.xid b = 0 := if_neg (by simp [h])
    exact ⟨h1, if_neg (by rw [h1]; decide)⟩
  have HK1 : Hid (Ry.gIs cl.cli b = true → (Ry.gRep cl.cli b).xid < cl.xid → Ry.aKnown cl.cli cl.xid b = 0 ∧ Ry.aRep cl.cli cl.xid b = Rp.zero) := fun h h2 => by
    have h1 : Ry.aKnown cl.cli cl.xid b = 0 := (if_pos h).trans (if_pos h2)
    exact ⟨h1, if_neg (by rw [h1]; decide)⟩
  have HK2 : Hid (Ry.gIs cl.cli b = true → (Ry.gRep cl.cli b).xid = cl.xid → Ry.aKnown cl.cli cl.xid b = 1 ∧ Ry.aRep cl.cli cl.xid b = Ry.gRep cl.cli b) := fun h h2 => by
    have h1 : Ry.aKnown cl.cli cl.xid b = 1 := (if_pos h).trans ((if_neg (by omega)).trans (if_pos h2))
    exact ⟨h1, if_pos h1⟩
  have HK3 : Hid (Ry.gIs cl.cli b = true → cl.xid < (Ry.gRep cl.cli b).xid → Ry.aKnown cl.cli cl.xid b = 2 ∧ Ry.aRep cl.cli cl.xid b = Rp.zero) := fun h h2 => by
    have h1 : Ry.aKnown cl.cli cl.xid b = 2 := (if_pos h).trans ((if_neg (by omega)).trans (if_neg (by omega)))
    exact ⟨h1, if_neg (by rw [h1]; decide)⟩
  obtain ⟨gr, hgr⟩ : ∃ t : Rp, Ry.gRep cl.cli b = t := ⟨_, rfl⟩
  obtain ⟨gi, hgi⟩ : ∃ t : Bool, Ry.gIs cl.cli b = t := ⟨_, rfl⟩
  obtain ⟨ge, hge⟩ : ∃ t : Int, Ry.gErr cl.cli b = t := ⟨_, rfl⟩
  rw [hgr, hgi, hge] at HG
  rw [hgi] at HKN
  rw [hgr, hgi] at HK1 HK2 HK3
  generalize Ry.aKnown cl.cli cl.xid b = ak at *
  generalize Ry.aRep cl.cli cl.xid b = ar at *
  clear hgr hgi hge hg hbl
  go_enter Try.func19, Try.ntmps19
  go_upto_region 1 with (refine wpList_alloc_any rfl 41 rfl _ zero_Rp ?_; intro w1 hb1 hs1 hw1)
  have hb0 : Below w.heap.size w (w.alloc (.cells (cc cl v).toArray 63)) := (Below.refl _ w).alloc (Nat.le_refl _) _
  have hsz : (w.alloc (.cells (cc cl v).toArray 63)).heap.size = w.heap.size + 1 := by simp
  have HB : Hid (Bw w1 w.heap.size (cc cl v) 63) := (hw1.block _ (by omega)).trans (heap_alloc_new w _)
  have HW : Hid (Below w.heap.size w w1) := hb0.trans (hw1.mono (by omega))
  have HR : Hid (Bw w1 (w.heap.size + 1) (rc Rp.zero (.slice none 0 0) (.slice none 0 0)) 41) := by rw [← hsz]; exact hb1
  have HI1 := Lib.hid (hIb w w1 hI HW.out)
  rw [hsz]
  clear hb1 hs1 hw1 hb0 hsz hI hIb
  have HQ : Hid (w.heap.size ≤ w.heap.size + 1) := Nat.le_succ _
  generalize hq : w.heap.size + 1 = q at *
  clear hq
  have e0 := HB.out.cell 0 _ rfl
  go_wp2_with fail
  refine (HG.out w1 HI1.out).mono ?_
  rintro e w2 ⟨rfl, hb⟩
  have HB2 := Lib.hid (HB.out.below hb)
  have HR2 := Lib.hid (HR.out.below hb)
  have HW2 := Lib.hid (HW.out.trans (hb.mono HW.out.size))
  clear hb HB HR HW HI1 HG e0
  go_upto_region 2 with (first
    | (refine wpList_alloc_any rfl 41 rfl _ zero_Rp ?_; intro w3 hb3 hs3 hw3)
    | (refine wpList_store_part rfl 41 (.tmp 6) (.tmp 14) rfl w2.heap.size 0 (rc gr (.slice none 0 0) (.slice none 0 0)) rfl rfl 41 _ hb3 size_Rp (by simp [rc]) (rc_row _ _ _ _ _ _ _) ?_
       intro w4 hb4 hs4 hk4))
  have hbw : Below w2.heap.size w2 w4 := hw3.trans (hk4.below2 (fun k hk => by omega))
  have HV4 : Hid (Bw w4 w2.heap.size (rc gr (.slice none 0 0) (.slice none 0 0)) 41) := hb4
  have HB4 := Lib.hid (HB2.out.below hbw)
  have HR4 := Lib.hid (HR2.out.below hbw)
  have HW4 := Lib.hid (HW2.out.trans (hbw.mono HW2.out.size))
  have HNE : Hid (q ≠ w2.heap.size) := by have := HR2.out.lt; show _ ≠ _; omega
  clear hb3 hs3 hw3 hb4 hs4 hk4 hbw HB2 HR2 HW2
  generalize w2.heap.size = g at *
  cases gi with
  | false =>
    obtain ⟨h1, h2⟩ := HKN.out (by trivial)
    have HE := Lib.hid h1
    have HE2 := Lib.hid h2
    clear h1 h2 HKN HK1 HK2 HK3
    go_wp2_with (first
      | (refine wpList_build rfl 41 #[] rfl (by show (Try.prog.built _ []).isSome = true; rw [built_Rpz]; rfl) ?_; rw [show (Try.prog.built 41 (Array.map _ #[]).toList) = _ from built_Rpz])
      | (refine wpList_store_part rfl 41 (.tmp 5) (.tmp 19) rfl q 0 (rc Rp.zero (.slice none 0 0) (.slice none 0 0)) rfl rfl 41 _ HR4.out size_Rp (by simp [rc]) (rc_row _ _ _ _ _ _ _) ?_
         intro y hb _ hk
         have HB := Lib.hid hb
         have HK := Lib.hid hk
         clear hb hk))
    exact bodyPost_ret (results_tmp_cell rfl _ y q (.int .i64 0) HB.out size_Rp (by rfl) (by rfl) Try.underlying41) rfl (by
      rw [HE.out, HE2.out]
      exact ⟨rfl, HW4.out.trans (HK.out.below2 (fun k hk => by have := HQ.out; omega))⟩)
  | true =>
    have e1 := HV4.out.cell 1 _ rfl
    have e2 := HB4.out.cell 1 _ rfl
    go_wp2_with fail
    refine (compare_any gr.xid cl.xid w4).mono ?_
    rintro e w5 ⟨rfl, rfl⟩
    clear e1 e2
    have hc : gr.xid < cl.xid ∨ gr.xid = cl.xid ∨ cl.xid < gr.xid := by omega
    rcases hc with h | h | h
    · obtain ⟨h1, h2⟩ := HK1.out (by trivial) h
      have HE := Lib.hid h1
      have HE2 := Lib.hid h2
      rw [show cmpN gr.xid cl.xid = -1 from if_pos h]
      clear h1 h2 h HKN HK1 HK2 HK3
      go_wp2_with (first
        | (refine wpList_build rfl 41 #[] rfl (by show (Try.prog.built _ []).isSome = true; rw [built_Rpz]; rfl) ?_; rw [show (Try.prog.built 41 (Array.map _ #[]).toList) = _ from built_Rpz])
        | (refine wpList_store_part rfl 41 (.tmp 5) (.tmp 25) rfl q 0 (rc Rp.zero (.slice none 0 0) (.slice none 0 0)) rfl rfl 41 _ HR4.out size_Rp (by simp [rc]) (rc_row _ _ _ _ _ _ _) ?_
           intro y hb _ hk
           have HB := Lib.hid hb
           have HK := Lib.hid hk
           clear hb hk))
      exact bodyPost_ret (results_tmp_cell rfl _ y q (.int .i64 0) HB.out size_Rp (by rfl) (by rfl) Try.underlying41) rfl (by
        rw [HE.out, HE2.out]
        exact ⟨rfl, HW4.out.trans (HK.out.below2 (fun k hk => by have := HQ.out; omega))⟩)
    · obtain ⟨h1, h2⟩ := HK2.out (by trivial) h
      have HE := Lib.hid h1
      have HE2 := Lib.hid h2
      rw [show cmpN gr.xid cl.xid = 0 from (if_neg (by omega)).trans (if_pos h)]
      clear h1 h2 h HKN HK1 HK2 HK3
      go_upto_region 7 with fail
      have HS0 : Hid ((fun W : World => Bw W g (rc gr (.slice none 0 0) (.slice none 0 0)) 41) w4.drew) := HV4.out
      refine wp_region_held_drew (S := fun W : World => Bw W g (rc gr (.slice none 0 0) (.slice none 0 0)) 41) (by kernel_rfl) HS0.out (fun _ => ?_)
      change wpAnyH _ _ _ _ _ 3 (Array.replicate 3 false) _ _
      refine takeH (i := 0) 28 (.agg (rc gr (.slice none 0 0) (.slice none 0 0)).toArray) rfl rfl (by kernel_rfl) (by kernel_rfl) (by kernel_rfl) (fun _ _ _ h => h) (.inl ⟨by rfl, fun W hW => by (exact run_load_part 41 (.tmp 6) rfl g 0 rfl _ Try.underlying41 rfl (rc gr (.slice none 0 0) (.slice none 0 0)) 41 _ hW size_Rp (fun j u hu => by rw [Nat.zero_add]; exact hu))⟩) HS0.out ?_
      simp only [Act.put, List.setIfInBounds_toArray, List.set_cons_zero, List.set_cons_succ]
      refine takeH (i := 1) 4 (.int .i64 1) rfl rfl (by kernel_rfl) (by kernel_rfl) (by kernel_rfl) (fun _ _ _ h => h) (.inl ⟨by rfl, fun W hW => by go_simp⟩) HS0.out ?_
      simp only [Act.put, List.setIfInBounds_toArray, List.set_cons_zero, List.set_cons_succ]
      refine wpAnyH_ready (rs := [2]) (by kernel_rfl) (by simp) ?_
      refine AllReadyH.cons rfl (fun K hK => ?_) AllReadyH.nil
      refine Did.step rfl (did_store 41 (.tmp 5) (.tmp 28) rfl q (rc gr (.slice none 0 0) (.slice none 0 0)).toArray rfl rfl 41 _ (show w4.drew.heap[q]? = _ from HR4.out) size_Rp (by simp [rc]) (by simp [rc, Value.oneCell'])) ?_
      obtain ⟨wz, hwz⟩ : ∃ W, w4.drew.setRow q (rc gr (.slice none 0 0) (.slice none 0 0)).toArray = W := ⟨_, rfl⟩
      have hk7 : Keep (· ≠ q) w4.drew wz := by rw [← hwz]; exact setRow_keep q _
      have HY : Hid (Bw wz q (rc gr (.slice none 0 0) (.slice none 0 0)) 41) := by
        show Bw _ _ _ _
        rw [← hwz]
        exact setRow_heap w4.drew q _ _ _ _ HR4.out
      have HZ : Hid (Below w.heap.size w wz) := HW4.out.drew.trans (hk7.below2 (fun k hk => by have := HQ.out; omega))
      have HSz : Hid ((fun W : World => Bw W g (rc gr (.slice none 0 0) (.slice none 0 0)) 41) wz) := HS0.out.keep hk7 (fun e => HNE.out e.symm)
      rw [hwz]
      clear hwz hk7
      refine hK.out _ _ HSz.out fun _ => ?_
      clear hK K
      refine wpAnyH_done (by kernel_rfl) ?_ _
      go_wp2_with fail
      exact bodyPost_ret (results_tmp_cell rfl _ wz q (.int .i64 1) HY.out size_Rp (by rfl) (by rfl) Try.underlying41) rfl (by
        rw [HE.out, HE2.out]
        exact ⟨rfl, HZ.out⟩)
    · obtain ⟨h1, h2⟩ := HK3.out (by trivial) h
      have HE := Lib.hid h1
      have HE2 := Lib.hid h2
      rw [show cmpN gr.xid cl.xid = 1 from (if_neg (by omega)).trans (if_neg (by omega))]
      clear h1 h2 h HKN HK1 HK2 HK3
      go_wp2_with (first
        | (refine wpList_build rfl 41 #[] rfl (by show (Try.prog.built _ []).isSome = true; rw [built_Rpz]; rfl) ?_; rw [show (Try.prog.built 41 (Array.map _ #[]).toList) = _ from built_Rpz])
        | (refine wpList_store_part rfl 41 (.tmp 5) (.tmp 31) rfl q 0 (rc Rp.zero (.slice none 0 0) (.slice none 0 0)) rfl rfl 41 _ HR4.out size_Rp (by simp [rc]) (rc_row _ _ _ _ _ _ _) ?_
           intro y hb _ hk
           have HB := Lib.hid hb
           have HK := Lib.hid hk
           clear hb hk))
      exact bodyPost_ret (results_tmp_cell rfl _ y q (.int .i64 2) HB.out size_Rp (by rfl) (by rfl) Try.underlying41) rfl (by
        rw [HE.out, HE2.out]
        exact ⟨rfl, HW4.out.trans (HK.out.below2 (fun k hk => by have := HQ.out; omega))⟩)
end Go.Proofs.Ytjgmboleiaehaaa

namespace Go.Proofs.Ytjgmboleiaehaaa
open Go.RowKit Go.Shelf

theorem Ch.near {w w' : World} {m : Nat} (hb : Below w.heap.size w w') (hd : Dull w m) : Ch (· = m) w w' := ⟨Fr.of_below hb, fun k hk => by rw [hk]; exact hd⟩
theorem Ch.after {w w1 w2 : World} {m : Nat} (hb : Below w.heap.size w w1) (hc : Ch (· = m) w1 w2) (hd : Dull w m) : Ch (· = m) w w2 := ⟨(Fr.of_below (S := (· = m)) hb).trans hc.1 (fun _ h => .inl h), fun k hk => by rw [hk]; exact hd⟩
/-- What Put says and does, what SetRaw says and does, over n blocks. -/
def Ry.pErr (n : Nat) (r : Rp) : Int := if Ry.okB r = true then TX.perr n ((1 + r.cli : Nat) : Int) (Ry.enc r) else 1
def Ry.pPut (n : Nat) (X : TX) (r : Rp) : TX := if Ry.okB r = true then X.putI n ((1 + r.cli : Nat) : Int) (Ry.enc r) else X
def Ry.srErr (n c : Nat) (b : List UInt8) : Int := if Ry.sErr c b = 0 then TX.perr n ((1 + c : Nat) : Int) b else Ry.sErr c b
def Ry.srPut (n : Nat) (X : TX) (c : Nat) (b : List UInt8) : TX := if Ry.sErr c b = 0 then X.putI n ((1 + c : Nat) : Int) b else X
section
variable {w : World} {p m : Nat} {x : Sl} {S : Nat → Prop} {X : TX}
set_option maxRecDepth 100000 in
set_option maxHeartbeats 4000000 in
theorem putRp_any (h : Tq w p m x S X) (hS : ∀ k, w.heap.size ≤ k → S k) (r : Rp) (A : Option Addr) (n c : Nat) (B : Option Addr) (k d : Nat) (hw : r.Wide) (hn : r.dt.length = n) (hk : r.es.length = k) :
    Calls Try.prog 10 #[.pointer (some ⟨p, 0, none⟩), .agg (rc r (.slice A n c) (.slice B k d)).toArray] w fun e w' => e = .returned (.int .i64 (Ry.pErr x.n r)) ∧ Tq w' p m x S (Ry.pPut x.n X r) ∧ Ch (· = m) w w' := by
  have HT := Lib.hid h
  have HS := Lib.hid hS
  have HWD := Lib.hid hw
  have HNO : Hid (¬ Ry.okB r = true → Ry.pErr x.n r = 1 ∧ Ry.pPut x.n X r = X) := fun h => ⟨if_neg h, if_neg h⟩
  have HYES : Hid (Ry.okB r = true → Ry.pErr x.n r = TX.perr x.n ((1 + r.cli : Nat) : Int) (Ry.enc r) ∧ Ry.pPut x.n X r = X.putI x.n ((1 + r.cli : Nat) : Int) (Ry.enc r)) := fun h => ⟨if_pos h, if_pos h⟩
  have HIF := Ry.okB_iff r
  generalize Ry.pErr x.n r = pe at *
  generalize Ry.pPut x.n X r = pX at *
  clear h hS hw
  by_cases a : r.cli < 8
  rotate_left
  · obtain ⟨rfl, rfl⟩ := HNO.out (fun h => a (HIF.1 h).1)
    have a0 := a
    clear HIF HNO HYES a
    go_enter Try.func10, Try.ntmps10
    go_upto_region 1 with fail
    have HB0 : Hid (Bw (w.alloc (.cells (rc r (.slice A n c) (.slice B k d)).toArray 41)) w.heap.size (rc r (.slice A n c) (.slice B k d)) 41) := heap_alloc_new w _
    have HW0 : Hid (Below w.heap.size w (w.alloc (.cells (rc r (.slice A n c) (.slice B k d)).toArray 41))) := (Below.refl _ w).alloc (Nat.le_refl _) _
    generalize w.alloc (.cells (rc r (.slice A n c) (.slice B k d)).toArray 41) = w0 at *
    have e0 := HB0.out.cell 0 _ rfl
    have e2 := HB0.out.cell 2 _ rfl
    have e10 := HB0.out.cell 10 _ rfl
    have e11 := HB0.out.cell 11 _ rfl
    have e12 := HB0.out.cell 12 _ rfl
    go_wp2_with fail
    refine (isClient_any r.cli _).mono ?_
    rintro e w1 ⟨rfl, rfl⟩
    rw [decide_eq_false a0]
    go_wp2_with fail
    go_ret
    exact ⟨rfl, HT.out.below HW0.out, Ch.near HW0.out HT.out.puts.dull⟩
  have b1 := a
  clear a
  by_cases a : stOk r.st = true
  rotate_left
  · obtain ⟨rfl, rfl⟩ := HNO.out (fun h => a (HIF.1 h).2.1)
    have a0 : stOk r.st = false := by simpa using a
    clear HIF HNO HYES a
    go_enter Try.func10, Try.ntmps10
    go_upto_region 1 with fail
    have HB0 : Hid (Bw (w.alloc (.cells (rc r (.slice A n c) (.slice B k d)).toArray 41)) w.heap.size (rc r (.slice A n c) (.slice B k d)) 41) := heap_alloc_new w _
    have HW0 : Hid (Below w.heap.size w (w.alloc (.cells (rc r (.slice A n c) (.slice B k d)).toArray 41))) := (Below.refl _ w).alloc (Nat.le_refl _) _
    generalize w.alloc (.cells (rc r (.slice A n c) (.slice B k d)).toArray 41) = w0 at *
    have e0 := HB0.out.cell 0 _ rfl
    have e2 := HB0.out.cell 2 _ rfl
    have e10 := HB0.out.cell 10 _ rfl
    have e11 := HB0.out.cell 11 _ rfl
    have e12 := HB0.out.cell 12 _ rfl
    go_wp2_with fail
    refine (isClient_any r.cli _).mono ?_
    rintro e w1 ⟨rfl, rfl⟩
    rw [decide_eq_true b1]
    go_wp2_with fail
    refine (isStatus_any r.st _).mono ?_
    rintro e w1 ⟨rfl, rfl⟩
    rw [a0]
    go_wp2_with fail
    go_ret
    exact ⟨rfl, HT.out.below HW0.out, Ch.near HW0.out HT.out.puts.dull⟩
  have b2 := a
  clear a
  by_cases a : r.dt = []
  rotate_left
  · obtain ⟨rfl, rfl⟩ := HNO.out (fun h => a (HIF.1 h).2.2.1)
    have g1 : decide (0 < n) = true := by (have : n ≠ 0 := fun e => a (List.eq_nil_of_length_eq_zero (hn.trans e))); simp; omega
    clear HIF HNO HYES a
    go_enter Try.func10, Try.ntmps10
    go_upto_region 1 with fail
    have HB0 : Hid (Bw (w.alloc (.cells (rc r (.slice A n c) (.slice B k d)).toArray 41)) w.heap.size (rc r (.slice A n c) (.slice B k d)) 41) := heap_alloc_new w _
    have HW0 : Hid (Below w.heap.size w (w.alloc (.cells (rc r (.slice A n c) (.slice B k d)).toArray 41))) := (Below.refl _ w).alloc (Nat.le_refl _) _
    generalize w.alloc (.cells (rc r (.slice A n c) (.slice B k d)).toArray 41) = w0 at *
    have e0 := HB0.out.cell 0 _ rfl
    have e2 := HB0.out.cell 2 _ rfl
    have e10 := HB0.out.cell 10 _ rfl
    have e11 := HB0.out.cell 11 _ rfl
    have e12 := HB0.out.cell 12 _ rfl
    go_wp2_with fail
    refine (isClient_any r.cli _).mono ?_
    rintro e w1 ⟨rfl, rfl⟩
    rw [decide_eq_true b1]
    go_wp2_with fail
    refine (isStatus_any r.st _).mono ?_
    rintro e w1 ⟨rfl, rfl⟩
    rw [b2]
    go_wp2_with fail
    go_ret
    exact ⟨rfl, HT.out.below HW0.out, Ch.near HW0.out HT.out.puts.dull⟩
  have b3 := a
  have g1 : decide (0 < n) = false := by (have hn0 : n = 0 := by rw [← hn, a]; rfl); simp; omega
  clear a
  by_cases a : r.es = []
  rotate_left
  · obtain ⟨rfl, rfl⟩ := HNO.out (fun h => a (HIF.1 h).2.2.2.1)
    have g2 : decide (0 < k) = true := by (have : k ≠ 0 := fun e => a (List.eq_nil_of_length_eq_zero (hk.trans e))); simp; omega
    clear HIF HNO HYES a
    go_enter Try.func10, Try.ntmps10
    go_upto_region 1 with fail
    have HB0 : Hid (Bw (w.alloc (.cells (rc r (.slice A n c) (.slice B k d)).toArray 41)) w.heap.size (rc r (.slice A n c) (.slice B k d)) 41) := heap_alloc_new w _
    have HW0 : Hid (Below w.heap.size w (w.alloc (.cells (rc r (.slice A n c) (.slice B k d)).toArray 41))) := (Below.refl _ w).alloc (Nat.le_refl _) _
    generalize w.alloc (.cells (rc r (.slice A n c) (.slice B k d)).toArray 41) = w0 at *
    have e0 := HB0.out.cell 0 _ rfl
    have e2 := HB0.out.cell 2 _ rfl
    have e10 := HB0.out.cell 10 _ rfl
    have e11 := HB0.out.cell 11 _ rfl
    have e12 := HB0.out.cell 12 _ rfl
    go_wp2_with fail
    refine (isClient_any r.cli _).mono ?_
    rintro e w1 ⟨rfl, rfl⟩
    rw [decide_eq_true b1]
    go_wp2_with fail
    refine (isStatus_any r.st _).mono ?_
    rintro e w1 ⟨rfl, rfl⟩
    rw [b2]
    go_wp2_with fail
    go_ret
    exact ⟨rfl, HT.out.below HW0.out, Ch.near HW0.out HT.out.puts.dull⟩
  have b4 := a
  have g2 : decide (0 < k) = false := by (have hk0 : k = 0 := by rw [← hk, a]; rfl); simp; omega
  clear a
  by_cases a : r.eof = false
  rotate_left
  · obtain ⟨rfl, rfl⟩ := HNO.out (fun h => a (HIF.1 h).2.2.2.2)
    have a0 : r.eof = true := by simpa using a
    clear HIF HNO HYES a
    go_enter Try.func10, Try.ntmps10
    go_upto_region 1 with fail
    have HB0 : Hid (Bw (w.alloc (.cells (rc r (.slice A n c) (.slice B k d)).toArray 41)) w.heap.size (rc r (.slice A n c) (.slice B k d)) 41) := heap_alloc_new w _
    have HW0 : Hid (Below w.heap.size w (w.alloc (.cells (rc r (.slice A n c) (.slice B k d)).toArray 41))) := (Below.refl _ w).alloc (Nat.le_refl _) _
    generalize w.alloc (.cells (rc r (.slice A n c) (.slice B k d)).toArray 41) = w0 at *
    have e0 := HB0.out.cell 0 _ rfl
    have e2 := HB0.out.cell 2 _ rfl
    have e10 := HB0.out.cell 10 _ rfl
    have e11 := HB0.out.cell 11 _ rfl
    have e12 := HB0.out.cell 12 _ rfl
    go_wp2_with fail
    refine (isClient_any r.cli _).mono ?_
    rintro e w1 ⟨rfl, rfl⟩
    rw [decide_eq_true b1]
    go_wp2_with fail
    refine (isStatus_any r.st _).mono ?_
    rintro e w1 ⟨rfl, rfl⟩
    rw [b2]
    go_wp2_with fail
    go_ret
    exact ⟨rfl, HT.out.below HW0.out, Ch.near HW0.out HT.out.puts.dull⟩
  have b5 := a
  clear a
  obtain ⟨he, hX⟩ := HYES.out (HIF.2 ⟨b1, b2, b3, b4, b5⟩)
  have HE := Lib.hid he
  have HXE := Lib.hid hX
  have HB1 := Lib.hid b1
  have HB2 := Lib.hid b2
  clear HIF HNO HYES he hX b1 b2 b3 b4
  go_enter Try.func10, Try.ntmps10
  go_upto_region 1 with fail
  have HB0 : Hid (Bw (w.alloc (.cells (rc r (.slice A n c) (.slice B k d)).toArray 41)) w.heap.size (rc r (.slice A n c) (.slice B k d)) 41) := heap_alloc_new w _
  have HW0 : Hid (Below w.heap.size w (w.alloc (.cells (rc r (.slice A n c) (.slice B k d)).toArray 41))) := (Below.refl _ w).alloc (Nat.le_refl _) _
  generalize w.alloc (.cells (rc r (.slice A n c) (.slice B k d)).toArray 41) = w0 at *
  have e0 := HB0.out.cell 0 _ rfl
  have e2 := HB0.out.cell 2 _ rfl
  have e10 := HB0.out.cell 10 _ rfl
  have e11 := HB0.out.cell 11 _ rfl
  have e12 := HB0.out.cell 12 _ rfl
  go_wp2_with fail
  refine (isClient_any r.cli _).mono ?_
  rintro e w1 ⟨rfl, rfl⟩
  rw [decide_eq_true HB1.out]
  go_wp2_with fail
  refine (isStatus_any r.st _).mono ?_
  rintro e w1 ⟨rfl, rfl⟩
  rw [HB2.out]
  go_upto_region 3 with fail
  clear e0 e2 e10 e11 e12 g1 g2 b5
  have HS0 : Hid ((fun W : World => Bw W w.heap.size (rc r (.slice A n c) (.slice B k d)) 41) w0.drew) := HB0.out
  have HW1 : Hid (Below w.heap.size w w0.drew) := HW0.out.drew
  clear HB0 HW0
  refine wp_region_held_drew (S := fun W : World => Bw W w.heap.size (rc r (.slice A n c) (.slice B k d)) 41) (by kernel_rfl) HS0.out (fun _ => ?_)
  change wpAnyH _ _ _ _ _ 8 (Array.replicate 8 false) _ _
  refine takeH (i := 0) 31 (.pointer (some ⟨p, 0, none⟩)) rfl rfl (by kernel_rfl) (by kernel_rfl) (by kernel_rfl) (fun _ _ _ h => h) (.inl ⟨by rfl, fun W hW => by go_simp⟩) HS0.out ?_
  simp only [Act.put, List.setIfInBounds_toArray, List.set_cons_zero, List.set_cons_succ]
  refine takeH (i := 1) 32 (.pointer (some ⟨w.heap.size, 0, none⟩)) rfl rfl (by kernel_rfl) (by kernel_rfl) (by kernel_rfl) (fun _ _ _ h => h) (.inl ⟨by rfl, fun W hW => by go_simp⟩) HS0.out ?_
  simp only [Act.put, List.setIfInBounds_toArray, List.set_cons_zero, List.set_cons_succ]
  refine takeH (i := 2) 33 (.int .u32 (r.cli : Int)) rfl rfl (by kernel_rfl) (by kernel_rfl) (by kernel_rfl) (fun _ _ _ h => h) (.inl ⟨by rfl, fun W hW => by (have hz := hW.cell 0 _ rfl; go_simp)⟩) HS0.out ?_
  simp only [Act.put, List.setIfInBounds_toArray, List.set_cons_zero, List.set_cons_succ]
  refine takeH (i := 4) 35 (.agg (rc r (.slice A n c) (.slice B k d)).toArray) rfl rfl (by kernel_rfl) (by kernel_rfl) (by kernel_rfl) (fun _ _ _ h => h) (.inl ⟨by rfl, fun W hW => by (exact run_load_part 41 (.tmp 3) rfl w.heap.size 0 rfl _ Try.underlying41 rfl (rc r (.slice A n c) (.slice B k d)) 41 _ hW size_Rp (fun j u hu => by rw [Nat.zero_add]; exact hu))⟩) HS0.out ?_
  simp only [Act.put, List.setIfInBounds_toArray, List.set_cons_zero, List.set_cons_succ]
  refine wpAnyH_ready (rs := [3]) (by kernel_rfl) (by simp) ?_
  refine AllReadyH.cons rfl (fun K hK => ?_) AllReadyH.nil
  go_simp
  refine (block_any r.cli HB1.out _).mono ?_
  rintro e y1 ⟨rfl, rfl⟩
  refine hK.out _ _ HS0.out fun _ => ?_
  clear hK K
  refine wpAnyH_ready (rs := [5]) (by kernel_rfl) (by simp) ?_
  refine AllReadyH.cons rfl (fun K hK => ?_) AllReadyH.nil
  go_simp
  refine (encoded_any r (.slice A n c) (.slice B k d) _ HWD.out HB2.out).mono ?_
  rintro e y2 ⟨A2, n2, c2, rfl, hown⟩
  have HS2 : Hid ((fun W : World => Bw W w.heap.size (rc r (.slice A n c) (.slice B k d)) 41) y2) := HS0.out.below hown.2
  have HX2 := Lib.hid hown.bs
  have HW2 := Lib.hid (HW1.out.trans (hown.2.mono HW1.out.size))
  refine hK.out _ _ HS2.out fun _ => ?_
  clear hK K hown HS0 HW1
  have HT2 := Lib.hid (HT.out.below HW2.out)
  refine wpAnyH_ready (rs := [6]) (by kernel_rfl) (by simp) ?_
  refine AllReadyH.cons rfl (fun K hK => ?_) AllReadyH.nil
  go_simp
  refine (show Calls Try.prog 15 #[.pointer (some ⟨p, 0, none⟩), .int .i64 (1 + (r.cli : Int)), .slice A2 n2 c2] y2 (TPutQ y2 p m x S (X.putI x.n ((1 + r.cli : Nat) : Int) (Ry.enc r)) (TX.perr x.n ((1 + r.cli : Nat) : Int) (Ry.enc r))) from by
    have hz := tput_any HT2.out (fun k hk => HS.out k (Nat.le_trans HW2.out.size hk)) ((1 + r.cli : Nat) : Int) A2 n2 c2 (Ry.enc r) HX2.out
    rw [show ((1 + r.cli : Nat) : Int) = 1 + (r.cli : Int) from by omega] at hz ⊢
    exact hz).mono ?_
  rintro e y3 ⟨rfl, ht, hch⟩
  have HS3 : Hid ((fun W : World => Bw W w.heap.size (rc r (.slice A n c) (.slice B k d)) 41) y3) := (hch.1.block w.heap.size ⟨HS2.out.lt, fun e => by have := HT.out.mlt; omega⟩).trans HS2.out
  have HT3 := Lib.hid ht
  have HC := Lib.hid hch
  refine hK.out _ _ HS3.out fun _ => ?_
  clear hK K ht hch
  have HE' := HE.out
  rw [← HE.out]
  refine takeH (i := 7) 4 (.int .i64 pe) rfl rfl (by kernel_rfl) (by kernel_rfl) (by kernel_rfl) (fun _ _ _ h => h) (.inl ⟨by rfl, fun W hW => by go_simp⟩) HS3.out ?_
  simp only [Act.put, List.setIfInBounds_toArray, List.set_cons_zero, List.set_cons_succ]
  refine wpAnyH_done (by kernel_rfl) ?_ _
  clear HE'
  go_wp2_with fail
  go_ret
  rw [HXE.out]
  exact ⟨rfl, HT3.out, Ch.after HW2.out HC.out HT.out.puts.dull⟩
set_option maxRecDepth 100000 in
set_option maxHeartbeats 1000000 in
theorem rawR_any (c p : Nat) (b : List UInt8) (w : World) (I : World → Prop) (hI : I w) (hg : c < 8 → ∀ W, I W → Calls Try.prog 22 #[.pointer (some ⟨p, 0, none⟩), .int .i64 ((1 + c : Nat) : Int)] W (GotO W b)) :
    Calls Try.prog 23 #[.pointer (some ⟨p, 0, none⟩), .int .u32 (c : Int)] w (GotO w (if c < 8 then b else [])) := by
  by_cases hc : c < 8
  rotate_left
  · rw [if_neg hc]
    clear hg hI
    go_enter Try.func23, Try.ntmps23
    go_wp2_with fail
    refine (isClient_any c w).mono ?_
    rintro e w2 ⟨rfl, rfl⟩
    rw [decide_eq_false hc]
    clear hc
    go_wp2_with fail
    go_ret
    exact ⟨none, 0, 0, rfl, World.ownsRow_nil _ _ _ _, Below.refl _ _⟩
  rw [if_pos hc]
  have HG := Lib.hid (hg hc w hI)
  have HC := Lib.hid hc
  clear hg
  go_enter Try.func23, Try.ntmps23
  go_wp2_with fail
  refine (isClient_any c w).mono ?_
  rintro e w2 ⟨rfl, rfl⟩
  rw [decide_eq_true hc]
  clear hc
  go_wp2_with fail
  refine (block_any c HC.out _).mono ?_
  rintro e w2 ⟨rfl, rfl⟩
  go_wp2_with fail
  refine HG.out.mono ?_
  rintro e w2 ⟨A, n, cp, rfl, hown⟩
  have HO := Lib.hid hown
  clear hown HG
  go_wp2_with fail
  go_ret
  exact ⟨A, n, cp, rfl, HO.out⟩
set_option maxRecDepth 100000 in
set_option maxHeartbeats 2000000 in
theorem setRaw_any (h : Tq w p m x S X) (hS : ∀ k, w.heap.size ≤ k → S k) (cn : Nat) (A : Option Addr) (n c : Nat) (b : List UInt8) (hb : BS w A n b) (hn : n ≤ 2000) :
    Calls Try.prog 13 #[.pointer (some ⟨p, 0, none⟩), .int .u32 (cn : Int), .slice A n c] w fun e w' => e = .returned (.int .i64 (Ry.srErr x.n cn b)) ∧ Tq w' p m x S (Ry.srPut x.n X cn b) ∧ Ch (· = m) w w' := by
  have HT := Lib.hid h
  have HS := Lib.hid hS
  have HX := Lib.hid hb
  have HN : Hid (b.length = n) := hb.1
  by_cases hc : cn < 8
  rotate_left
  · have HR : Hid (Ry.srErr x.n cn b = 1 ∧ Ry.srPut x.n X cn b = X) := by
      have h1 : Ry.sErr cn b = 1 := if_neg hc
      exact ⟨(if_neg (by rw [h1]; decide)).trans h1, if_neg (by rw [h1]; decide)⟩
    rw [HR.out.1, HR.out.2]
    clear h hS hb
    go_enter Try.func13, Try.ntmps13
    go_wp2_with fail
    refine (isClient_any cn w).mono ?_
    rintro e w2 ⟨rfl, rfl⟩
    rw [decide_eq_false hc]
    clear hc
    go_wp2_with fail
    go_ret
    exact ⟨rfl, HT.out, Ch.near (Below.refl _ _) HT.out.puts.dull⟩
  have HC := Lib.hid hc
  have HNO : Hid (b ≠ [] → Ry.err b ≠ 0 → Ry.srErr x.n cn b = 11 ∧ Ry.srPut x.n X cn b = X) := fun h1 h2 => by
    have h3 : Ry.sErr cn b = 11 := (if_pos hc).trans (if_pos ⟨h1, h2⟩)
    exact ⟨(if_neg (by rw [h3]; decide)).trans h3, if_neg (by rw [h3]; decide)⟩
  have HYES : Hid (¬ (b ≠ [] ∧ Ry.err b ≠ 0) → Ry.srErr x.n cn b = TX.perr x.n ((1 + cn : Nat) : Int) b ∧ Ry.srPut x.n X cn b = X.putI x.n ((1 + cn : Nat) : Int) b) := fun h1 => by
    have h3 : Ry.sErr cn b = 0 := (if_pos hc).trans (if_neg h1)
    exact ⟨if_pos h3, if_pos h3⟩
  generalize Ry.srErr x.n cn b = pe at *
  generalize Ry.srPut x.n X cn b = pX at *
  clear h hS hb
  go_enter Try.func13, Try.ntmps13
  go_wp2_with fail
  refine (isClient_any cn w).mono ?_
  rintro e w2 ⟨rfl, rfl⟩
  rw [decide_eq_true hc]
  clear hc
  go_wp2_with fail
  refine (decoded_any b A n c w HX.out hn).mono ?_
  rintro e w3 ⟨rfl, hb⟩
  have HW3 := Lib.hid hb
  clear hb
  obtain ⟨er, her⟩ : ∃ z : Int, Ry.err b = z := ⟨_, rfl⟩
  rw [her] at HNO HYES
  rw [her]
  clear her
  generalize Ry.got 0 b = th at *
  go_upto_region 4 with (first
    | (refine wpList_alloc_any rfl 41 rfl _ zero_Rp ?_; intro w4 hb4 hs4 hw4)
    | (refine wpList_store_part rfl 41 (.tmp 7) (.tmp 15) rfl w3.heap.size 0 (rc th (.slice none 0 0) (.slice none 0 0)) rfl rfl 41 _ hb4 size_Rp (by simp [rc]) (rc_row _ _ _ _ _ _ _) ?_
       intro w5 hb5 hs5 hk5))
  have hbw : Below w3.heap.size w3 w5 := hw4.trans (hk5.below2 (fun k hk => by omega))
  have HW5 := Lib.hid (HW3.out.trans (hbw.mono HW3.out.size))
  clear hb4 hs4 hw4 hb5 hs5 hk5 hbw HW3
  by_cases hno : b ≠ [] ∧ er ≠ 0
  · obtain ⟨rfl, rfl⟩ := HNO.out hno.1 hno.2
    have g1 : decide (0 < n) = true := by (have : n ≠ 0 := fun e => hno.1 (List.eq_nil_of_length_eq_zero (HN.out.trans e))); simp; omega
    have g2 : (er != 0) = true := by simpa using hno.2
    clear hno HNO HYES
    go_wp2_with fail
    go_ret
    exact ⟨rfl, HT.out.below HW5.out, Ch.near HW5.out HT.out.puts.dull⟩
  obtain ⟨he, hX⟩ := HYES.out hno
  have HE := Lib.hid he
  have HXE := Lib.hid hX
  have hcase : n = 0 ∨ (0 < n ∧ er = 0) := by
    rcases Nat.eq_zero_or_pos n with h | h
    · exact .inl h
    · refine .inr ⟨h, ?_⟩
      by_cases h2 : er = 0
      · exact h2
      · exact absurd ⟨fun e => by have := HN.out; rw [e] at this; simp at this; omega, h2⟩ hno
  clear hno HNO HYES he hX
  have HPT : Hid (∀ W, Below w.heap.size w W → Calls Try.prog 15 #[.pointer (some ⟨p, 0, none⟩), .int .i64 (1 + (cn : Int)), .slice A n c] W (TPutQ W p m x S pX pe)) := fun W hW => by
    rw [HE.out, HXE.out]
    have hz := tput_any (HT.out.below hW) (fun k hk => HS.out k (Nat.le_trans hW.size hk)) ((1 + cn : Nat) : Int) A n c b (HX.out.below hW)
    rw [show ((1 + cn : Nat) : Int) = 1 + (cn : Int) from by omega] at hz ⊢
    exact hz
  rcases hcase with h | h
  · have g1 : decide (0 < n) = false := by simp; omega
    clear h
    go_wp2_with fail
    refine (block_any cn HC.out _).mono ?_
    rintro e w6 ⟨rfl, rfl⟩
    go_wp2_with fail
    refine (HPT.out w5 HW5.out).mono ?_
    rintro e w7 ⟨rfl, ht, hch⟩
    have HT7 := Lib.hid ht
    have HC7 := Lib.hid hch
    clear ht hch
    go_wp2_with fail
    go_ret
    exact ⟨rfl, HT7.out, Ch.after HW5.out HC7.out HT.out.puts.dull⟩
  · have g1 : decide (0 < n) = true := by simp; omega
    have g2 : (er != 0) = false := by simpa using h.2
    clear h
    go_wp2_with fail
    refine (block_any cn HC.out _).mono ?_
    rintro e w6 ⟨rfl, rfl⟩
    go_wp2_with fail
    refine (HPT.out w5 HW5.out).mono ?_
    rintro e w7 ⟨rfl, ht, hch⟩
    have HT7 := Lib.hid ht
    have HC7 := Lib.hid hch
    clear ht hch
    go_wp2_with fail
    go_ret
    exact ⟨rfl, HT7.out, Ch.after HW5.out HC7.out HT.out.puts.dull⟩
end
end Go.Proofs.Ytjgmboleiaehaaa

namespace Go.Proofs.Ytjgmboleiaehaaa
open Go.RowKit Go.Shelf

section
variable {w : World} {p m : Nat} {x : Sl} {S : Nat → Prop} {X : TX}
theorem get_tq (h : Tq w p m x S X) (c : Nat) (hb : (TX.bk X x.n (1 + c)).length ≤ 2000) : Calls Try.prog 17 #[.pointer (some ⟨p, 0, none⟩), .int .u32 (c : Int)] w fun e w' => e = .returned (.tuple #[.agg (rc (Ry.gRep c (TX.bk X x.n (1 + c))) (.slice none 0 0) (.slice none 0 0)).toArray, .bool (Ry.gIs c (TX.bk X x.n (1 + c))), .int .i64 (Ry.gErr c (TX.bk X x.n (1 + c)))]) ∧ Below w.heap.size w w' :=
  getR_any c p _ w hb (fun W => Tq W p m x S X) h (fun _ _ hW hb => hW.below hb) (fun _ _ hW => bk_own hW (1 + c))
theorem ask_tq (h : Tq w p m x S X) (cl : Cl) (v : Value) (hb : (TX.bk X x.n (1 + cl.cli)).length ≤ 2000) : Calls Try.prog 19 #[.pointer (some ⟨p, 0, none⟩), .agg (cc cl v).toArray] w fun e w' => e = .returned (.tuple #[.int .i64 (Ry.aKnown cl.cli cl.xid (TX.bk X x.n (1 + cl.cli))), .agg (rc (Ry.aRep cl.cli cl.xid (TX.bk X x.n (1 + cl.cli))) (.slice none 0 0) (.slice none 0 0)).toArray]) ∧ Below w.heap.size w w' :=
  askR_any cl v p _ w hb (fun W => Tq W p m x S X) h (fun _ _ hW hb => hW.below hb) (fun _ _ hW => bk_own hW (1 + cl.cli))
theorem raw_tq (h : Tq w p m x S X) (c : Nat) : Calls Try.prog 23 #[.pointer (some ⟨p, 0, none⟩), .int .u32 (c : Int)] w (GotO w (if c < 8 then TX.bk X x.n (1 + c) else [])) :=
  rawR_any c p _ w (fun W => Tq W p m x S X) h (fun _ _ hW => bk_own hW (1 + c))
end
/-- A transaction of a law: its blocks are behind those that were there. -/
structure TK (w0 : World) (p m : Nat) (x : Sl) (X : TX) (W : World) : Prop where
  tq : Tq W p m x (fun z => w0.heap.size ≤ z) X
  bel : Below w0.heap.size w0 W
section
variable {w0 W W' : World} {p m : Nat} {x : Sl} {X Y : TX}
theorem TK.below (h : TK w0 p m x X W) (hb : Below W.heap.size W W') : TK w0 p m x X W' := ⟨h.tq.below hb, h.bel.trans (hb.mono h.bel.size)⟩
theorem TK.drew (h : TK w0 p m x X W) : TK w0 p m x X W.drew := ⟨h.tq.drew, h.bel.drew⟩
theorem TK.new (h : TK w0 p m x X W) : ∀ k, W.heap.size ≤ k → w0.heap.size ≤ k := fun _ hk => Nat.le_trans h.bel.size hk
theorem TK.put (h : TK w0 p m x X W) (ht : Tq W' p m x (fun z => w0.heap.size ≤ z) Y) (hb : Ch (· = m) W W') : TK w0 p m x Y W' := ⟨ht, h.bel.trans (hb.below h.bel.size (fun k hk => by rw [hk]; exact h.tq.sm))⟩
theorem TK.start {w1 : World} {h n : Nat} {l : List (List UInt8)} (hb0 : Below w0.heap.size w0 w1) (ht : Tq W p m ⟨some ⟨h, 0, none⟩, n, n⟩ (fun z => w1.heap.size ≤ z) (TX.new l)) (hb : Below w1.heap.size w1 W) : TK w0 p m ⟨some ⟨h, 0, none⟩, n, n⟩ (TX.new l) W :=
  ⟨ht.mono fun _ hk => Nat.le_trans hb0.size hk, hb0.trans (hb.mono hb0.size)⟩
end
/-- Blocks of slices of bytes, just made. -/
theorem RI.made (w : World) (n : Nat) : RI (w.alloc (.cells (Array.replicate n (.slice none 0 0)) 38)) (some ⟨w.heap.size, 0, none⟩) n (List.replicate n []) := by
  refine ⟨List.length_replicate, fun hn => ⟨w.heap.size, 0, rfl, fun k hk => ⟨⟨none, 0, 0⟩, ?_, ?_, Nat.zero_le _⟩⟩⟩
  · rw [Nat.zero_add, cell_of_row _ _ _ _ _ _ (heap_alloc_new w _)]
    simp [hk]
  · have : (List.replicate n ([] : List UInt8)).getD k [] = [] := by simp [List.getD, hk]
    rw [this]
    exact BS.nil
theorem run_make_rows (w : World) (n : Nat) (hn : n ≤ 1000000) : (Instr.makeSlice 26 (.int .i64 (n : Int)) (.int .i64 (n : Int))).run Try.prog w = .ok (.slice (some ⟨w.heap.size, 0, none⟩) n n) (w.alloc (.cells (Array.replicate n (.slice none 0 0)) 38)) := by
  obtain ⟨ii, hii, hiz, his, hib⟩ := info_parts info_rows
  have hr := run_makeSlice (P := Try.prog) w 26 38 ii (.slice none 0 0) Try.underlying26 hii hiz .i64 .i64 (n : Int) (n : Int) (by omega) (by omega) (by rw [his]; simp; omega) (by rw [hib]; omega) (by omega)
  simp only [Int.toNat_natCast, his, Nat.mul_one] at hr
  rw [hr, madeCells_rows]
/-- Plain: blocks just made, one put. -/
theorem bk_new (k n i : Nat) : TX.bk (TX.new (List.replicate k [])) n i = [] := by
  unfold TX.bk
  split
  · unfold TX.get TX.new TX.was
    simp only [Option.getD_none]
    by_cases h : i < k
    · simp [List.getD, h]
    · simp [List.getD, h]
  · rfl
theorem chs_new (k : Nat) : ∀ n, (TX.new (List.replicate k [])).chs n = []
  | 0 => rfl
  | n + 1 => by rw [TX.chs_no (TX.chg_none rfl), chs_new k n]
theorem bk_put (X : TX) (n i : Nat) (b : List UInt8) (h : i < n) (hb : b.length ≤ 96) (j : Nat) : TX.bk (X.putI n (i : Int) b) n j = if j = i then b else TX.bk X n j := by
  rw [TX.putI_ok h hb]
  unfold TX.bk
  rw [TX.get_put]
  by_cases e : j = i
  · subst e
    simp [h]
  · simp [e]
theorem Ry.enc_96 (r : Rp) : (Ry.enc r).length ≤ 96 := by rw [Ry.enc_length]; omega
theorem Ry.pErr_ok (n : Nat) (r : Rp) (h : Ry.okB r = true) (hn : 8 < n) : Ry.pErr n r = 0 := by
  unfold Ry.pErr
  have h1 := ((Ry.okB_iff r).1 h).1
  rw [if_pos h, TX.perr_ok (hasB_nat (by omega)) (Ry.enc_96 r)]
theorem Ry.pPut_bk (n : Nat) (X : TX) (r : Rp) (h : Ry.okB r = true) (hn : 8 < n) (j : Nat) : TX.bk (Ry.pPut n X r) n j = if j = 1 + r.cli then Ry.enc r else TX.bk X n j := by
  unfold Ry.pPut
  have h1 := ((Ry.okB_iff r).1 h).1
  rw [if_pos h, bk_put X n (1 + r.cli) _ (by omega) (Ry.enc_96 r)]
theorem Ry.pPut_no (n : Nat) (X : TX) (r : Rp) (h : ¬ Ry.okB r = true) : Ry.pPut n X r = X := if_neg h
theorem Ry.pErr_no (n : Nat) (r : Rp) (h : ¬ Ry.okB r = true) : Ry.pErr n r = 1 := if_neg h
/-- What is told of a reply that is kept. -/
theorem Ry.gIs_enc (r : Rp) (hw : r.Wide) (h : Ry.okB r = true) : Ry.gIs r.cli (Ry.enc r) = true ∧ Ry.gRep r.cli (Ry.enc r) = r ∧ Ry.gErr r.cli (Ry.enc r) = 0 := by
  obtain ⟨h1, h2⟩ := Ry.got_enc r hw h
  have h3 := ((Ry.okB_iff r).1 h).1
  have h4 : Ry.gIs r.cli (Ry.enc r) = true := (Ry.gIs_iff _ _).2 ⟨h3, Ry.enc_ne r, h1⟩
  refine ⟨h4, ?_, ?_⟩
  · unfold Ry.gRep
    rw [if_pos h4]
    unfold Ry.got at h2
    rw [if_pos h1] at h2
    exact h2
  · unfold Ry.gErr
    rw [if_pos h3, if_neg (Ry.enc_ne r), h1]
theorem Ry.none_nil (c x : Nat) : Ry.gIs c [] = false ∧ Ry.aKnown c x [] = 0 ∧ Ry.aRep c x [] = Rp.zero := by
  have h1 : Ry.gIs c [] = false := by simp [Ry.gIs]
  have h2 : Ry.aKnown c x [] = 0 := if_neg (by simp [h1])
  exact ⟨h1, h2, if_neg (by rw [h2]; decide)⟩
theorem Ry.ask_lt (r : Rp) (hw : r.Wide) (h : Ry.okB r = true) (x : Nat) (hx : r.xid < x) : Ry.aKnown r.cli x (Ry.enc r) = 0 ∧ Ry.aRep r.cli x (Ry.enc r) = Rp.zero := by
  obtain ⟨h1, h2, _⟩ := Ry.gIs_enc r hw h
  have h3 : Ry.aKnown r.cli x (Ry.enc r) = 0 := (if_pos h1).trans (if_pos (by rw [h2]; exact hx))
  exact ⟨h3, if_neg (by rw [h3]; decide)⟩
theorem Ry.ask_eq (r : Rp) (hw : r.Wide) (h : Ry.okB r = true) : Ry.aKnown r.cli r.xid (Ry.enc r) = 1 ∧ Ry.aRep r.cli r.xid (Ry.enc r) = r := by
  obtain ⟨h1, h2, _⟩ := Ry.gIs_enc r hw h
  have h3 : Ry.aKnown r.cli r.xid (Ry.enc r) = 1 := (if_pos h1).trans ((if_neg (by rw [h2]; omega)).trans (if_pos (by rw [h2])))
  exact ⟨h3, (if_pos h3).trans h2⟩
theorem Ry.ask_gt (r : Rp) (hw : r.Wide) (h : Ry.okB r = true) (x : Nat) (hx : x < r.xid) : Ry.aKnown r.cli x (Ry.enc r) = 2 ∧ Ry.aRep r.cli x (Ry.enc r) = Rp.zero := by
  obtain ⟨h1, h2, _⟩ := Ry.gIs_enc r hw h
  have h3 : Ry.aKnown r.cli x (Ry.enc r) = 2 := (if_pos h1).trans ((if_neg (by rw [h2]; omega)).trans (if_neg (by rw [h2]; omega)))
  exact ⟨h3, if_neg (by rw [h3]; decide)⟩
end Go.Proofs.Ytjgmboleiaehaaa
