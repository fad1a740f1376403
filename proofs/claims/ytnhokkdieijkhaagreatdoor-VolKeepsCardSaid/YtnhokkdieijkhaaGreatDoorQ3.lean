/-
  Entries in memory: slices that read as entries, blocks that hold one (layer 8).
  Contracts of slices.IndexFunc at entries, and of package dir's Find and lastCookie (layer 8).
  Contracts of strings.IndexRune, strings.IndexAny and strings.ContainsAny at the two bytes that part names, for every string, ASCII or not (layer 8).
  Contract of package dir's Name (layer 8).
  Contract of package dir's valid: names that may be, no two the same, cookies that rise (layer 8).
  Contract of package dir's Put (layer 8).
  append of entries onto a row of entries of the call's own; slices.Grow and slices.Concat (layer 8).
  Contracts of slices.Concat at two rows of entries, and of package dir's Add and Remove (layer 8).
  Contracts of package dir's Add and Remove (layer 8).
  Contract of package dir's Remove (layer 8).
  A region that draws its order, reads first and ends in one operation, inside a fence (also in a round). Nothing of the program is named here.
  Contracts of slices.Values at entries, of the function that it returns, and of package dir's from (layer 8).
  Contract of package dir's from, and the walk of After (layer 8).
  Contract of package dir's After (layer 8).
  Contract of package dir's Get (layer 8).
  Contract of the document's example (layer 8): it holds, and leaves all memory that was there alone.
  DirNames walked (layer 8).
-/
import Derived.Test.YtnhokkdieijkhaaGreatDoorQ2
import Derived.IntWalk
import Derived.Deep.LoopGhost
import Derived.Shelf.Abstract
import Derived.Test.YtnhokkdieijkhaaGreatDoorShelf
import Derived.Laws.RangeAny
import Derived.Lib.IndexAny
import Derived.Lib.TrimU
import Derived.BigQuiet
import Derived.Deep.QuietTactic
import Derived.Lib.Hide
import Derived.WalkKit
import Derived.Maps.OwnSet
import Derived.StringKeys
import Derived.Lib.ConvBytes
import Derived.Maps.AppendAt
import Derived.Lib.AppendZerosOnto
import Derived.Lib.SliceRun
import Derived.RangeFuncNested
import Derived.RangeFuncBound
import Derived.RangeFuncCalls
import Derived.RangeFuncLeaves
import Derived.RangeFuncWrites
import Derived.Shelf.RegionOpen
import Derived.OwnWalkIn
import Derived.TacticsInMore
import Derived.LoopNIn
import Derived.LoopIn
import Derived.Deep.DeepCutAuto
namespace Go.Proofs.YtnhokkdieijkhaaGreatDoor
open Go.RowKit

/-- The cells of an entry, .. -/
def ec (e : En) : List Value := [.int .u64 (e.ck : Int), .int .u32 (e.ino : Int), .int .u32 (e.gen : Int), .string (txt e.nm)]
/-- .. of all of them. -/
def ecs (es : List En) : List Value := es.flatMap ec
theorem ec_length (e : En) : (ec e).length = 4 := rfl
theorem ec_size (e : En) : (ec e).toArray.size = 4 := rfl
theorem ec_one (e : En) : (ec e).toArray.all (·.oneCell') = true := by simp [ec, Value.oneCell']
theorem ec_one' (e : En) : ∀ u ∈ ec e, u.oneCell' = true := by
  intro u hu
  simp only [ec, List.mem_cons, List.not_mem_nil, or_false] at hu
  rcases hu with rfl | rfl | rfl | rfl <;> rfl
theorem ecs_length (es : List En) : (ecs es).length = es.length * 4 := by
  induction es with
  | nil => rfl
  | cons e r ih => show (ec e ++ ecs r).length = _; rw [List.length_append, ih, ec_length, List.length_cons]; omega
theorem ecs_append (a b : List En) : ecs (a ++ b) = ecs a ++ ecs b := by simp [ecs]
theorem ecs_single (e : En) : ecs [e] = ec e := by simp [ecs]
theorem ecs_one (es : List En) : ∀ u ∈ ecs es, u.oneCell' = true := by
  intro u hu
  unfold ecs at hu
  obtain ⟨e, _, h⟩ := List.mem_flatMap.1 hu
  exact ec_one' e u h
theorem ecs_get (es : List En) : ∀ (j : Nat) (hj : j < es.length) (i : Nat) (v : Value), (ec es[j])[i]? = some v → (ecs es)[j * 4 + i]? = some v := by
  induction es with
  | nil => intro j hj; exact absurd hj (Nat.not_lt_zero _)
  | cons e r ih =>
    intro j hj i v hv
    show (ec e ++ ecs r)[j * 4 + i]? = _
    cases j with
    | zero =>
      have hv' : (ec e)[i]? = some v := hv
      have hi := (List.getElem?_eq_some_iff.1 hv').1
      rw [Nat.zero_mul, Nat.zero_add, List.getElem?_append_left hi]
      exact hv'
    | succ j =>
      rw [List.getElem?_append_right (by rw [ec_length]; omega), ec_length, show (j + 1) * 4 + i - 4 = j * 4 + i by omega]
      exact ih j (by simpa using hj) i v hv
theorem info_E : (Tryz.prog.info? 102).map (fun i => (i.zero, i.size, i.bytes)) = some (some (.agg (ec ⟨0, 0, 0, []⟩).toArray), 4, 32) := by kernel_rfl
theorem size_E : (Tryz.prog.info? 102).map (·.size) = some 4 := by kernel_rfl
theorem zero_E : (Tryz.prog.info? 102).bind (·.zero) = some (.agg (ec ⟨0, 0, 0, []⟩).toArray) := by kernel_rfl
/-- The slice (A, n, ..) reads as the entries es. -/
def ES (w : World) (A : Option Addr) (n : Nat) (es : List En) : Prop :=
  es.length = n ∧ (0 < n → ∃ b o, A = some ⟨b, o, none⟩ ∧ ∀ j (hj : j < es.length) i v, (ec es[j])[i]? = some v → w.cell? ⟨b, o + j * 4 + i, none⟩ = some v)
section
variable {w w' : World} {A : Option Addr} {n : Nat} {es : List En}
theorem ES.nil : ES w A 0 [] := ⟨rfl, fun h => absurd h (by omega)⟩
theorem ES.keep (h : ES w A n es) (hk : ∀ p : Addr, p.block < w.heap.size → w'.cell? p = w.cell? p) : ES w' A n es :=
  ⟨h.1, fun hn => by
    obtain ⟨b, o, e, hc⟩ := h.2 hn
    exact ⟨b, o, e, fun j hj i v hv => (hk _ (World.block_lt_of_cell? w _ (hc j hj i v hv))).trans (hc j hj i v hv)⟩⟩
theorem ES.below (h : ES w A n es) (hb : Below w.heap.size w w') : ES w' A n es := h.keep fun _ hp => hb.cell hp
theorem ES.alloc (h : ES w A n es) (o : Obj) : ES (w.alloc o) A n es := h.keep fun p hp => World.cell?_alloc_lt w o p hp
theorem ES.drew (h : ES w A n es) : ES w.drew A n es := h
theorem ES.drewN (h : ES w A n es) (k : Nat) : ES (w.drewN k) A n es := h
theorem ES.at (h : ES w A n es) {k : Nat} (hk : k < n) : ∃ b o, A = some ⟨b, o, none⟩ ∧ b < w.heap.size ∧ ∃ hj : k < es.length, ∀ i v, (ec es[k])[i]? = some v → w.cell? ⟨b, o + k * 4 + i, none⟩ = some v := by
  obtain ⟨b, o, e, hc⟩ := h.2 (by omega)
  have hj : k < es.length := by rw [h.1]; exact hk
  exact ⟨b, o, e, World.block_lt_of_cell? w _ (hc k hj 0 _ rfl), hj, hc k hj⟩
theorem ES.lt_block (h : ES w A n es) (hn : 0 < n) (ad : Addr) (ha : A = some ad) : ad.block < w.heap.size := by
  obtain ⟨b, o, e, hb, _⟩ := h.at hn
  rw [ha] at e
  injection e with e
  subst e
  exact hb
theorem ES.take (h : ES w A n es) {k : Nat} (hk : k ≤ n) : ES w A k (es.take k) :=
  ⟨by rw [List.length_take, h.1]; omega, fun hn => by
    obtain ⟨b, o, e, hc⟩ := h.2 (by omega)
    refine ⟨b, o, e, fun j hj i v hv => ?_⟩
    have hjl : j < es.length := by rw [List.length_take] at hj; omega
    rw [List.getElem_take] at hv
    exact hc j hjl i v hv⟩
theorem ES.drop (h : ES w A n es) {k c : Nat} (hk : k ≤ n) (hc : n ≤ c) : ES w (if c = k then A else A.map (·.add (k * 4))) (n - k) (es.drop k) :=
  ⟨by rw [List.length_drop, h.1], fun hn => by
    obtain ⟨b, o, rfl, hcell⟩ := h.2 (by omega)
    rw [if_neg (by omega)]
    refine ⟨b, o + k * 4, ?_, fun j hj i v hv => ?_⟩
    · simp only [Option.map_some]
      unfold Addr.add
      split
      · simp_all
      · rfl
    · rw [List.length_drop] at hj
      rw [List.getElem_drop] at hv
      rw [show o + k * 4 + j * 4 + i = o + (k + j) * 4 + i by omega]
      exact hcell (k + j) (by omega) i v hv⟩
theorem ES.of_own {base : Nat} {t : TypeId} {c : Nat} (h : w.ownsRow base t 4 (.slice A n c) n (ecs es)) : ES w A n es := by
  have hl : es.length = n := by have := h.1; rw [ecs_length] at this; omega
  refine ⟨hl, fun hn => ?_⟩
  obtain ⟨g, cap, hv, _, hlt⟩ := h.form hn
  injection hv with hA _ _
  subst hA
  refine ⟨g, 0, rfl, fun j hj i v hv => ?_⟩
  have := h.cells (g := g) rfl (j * 4 + i) _ (ecs_get es j hj i v hv)
  rw [add_plain] at this
  rw [Nat.add_assoc]
  exact this
/-- The cells of one, as a load asks for them. -/
theorem ES.load (h : ES w A n es) {k : Nat} (hk : k < n) : ∃ b o, A = some ⟨b, o, none⟩ ∧ b < w.heap.size ∧ ∃ hj : k < es.length, ∀ j u, (ec es[k])[j]? = some u → w.cell? ((⟨b, o + k * 4, none⟩ : Addr).add j) = some u := by
  obtain ⟨b, o, e, hb, hj, hc⟩ := h.at hk
  exact ⟨b, o, e, hb, hj, fun j u hu => by rw [add_plain]; exact hc j u hu⟩
/-- All cells, as the laws on append ask for them. -/
theorem ecs_get_inv (es : List En) (q : Nat) (u : Value) (h : (ecs es)[q]? = some u) : ∃ j i, ∃ hj : j < es.length, q = j * 4 + i ∧ (ec es[j])[i]? = some u := by
  have hq := (List.getElem?_eq_some_iff.1 h).1
  rw [ecs_length] at hq
  have hj : q / 4 < es.length := by omega
  have hi : q % 4 < (ec es[q / 4]).length := by rw [ec_length]; omega
  have := ecs_get es (q / 4) hj (q % 4) _ (List.getElem?_eq_getElem hi)
  rw [show q / 4 * 4 + q % 4 = q by omega, h] at this
  injection this with this
  exact ⟨q / 4, q % 4, hj, by omega, by rw [List.getElem?_eq_getElem hi, this]⟩
theorem ES.news (h : ES w A n es) {ad : Addr} (hA : A = some ad) : ∀ j u, (ecs es)[j]? = some u → w.cell? (ad.add j) = some u := by
  intro q u hu
  obtain ⟨j, i, hj, rfl, hv⟩ := ecs_get_inv es q u hu
  obtain ⟨b, o, e, hc⟩ := h.2 (by rw [← h.1]; omega)
  rw [hA] at e
  injection e with e
  subst e
  rw [add_plain, ← Nat.add_assoc]
  exact hc j hj i u hv
end

/-- Block g holds one entry. -/
def EB (w : World) (g : Nat) (t : TypeId) (e : En) : Prop := w.heap[g]? = some (.cells (ec e).toArray t (0, 0))
section
variable {w w' : World} {g : Nat} {t : TypeId} {e : En}
theorem EB.cell (h : EB w g t e) (k : Nat) (v : Value) (hv : (ec e)[k]? = some v) : w.cell? ⟨g, k, none⟩ = some v := by
  rw [cell_of_row w g k _ _ _ h]
  simpa using hv
theorem EB.c0 (h : EB w g t e) : w.cell? ⟨g, 0, none⟩ = some (.int .u64 (e.ck : Int)) := h.cell 0 _ rfl
theorem EB.c1 (h : EB w g t e) : w.cell? ⟨g, 1, none⟩ = some (.int .u32 (e.ino : Int)) := h.cell 1 _ rfl
theorem EB.c2 (h : EB w g t e) : w.cell? ⟨g, 2, none⟩ = some (.int .u32 (e.gen : Int)) := h.cell 2 _ rfl
theorem EB.c3 (h : EB w g t e) : w.cell? ⟨g, 3, none⟩ = some (.string (txt e.nm)) := h.cell 3 _ rfl
theorem EB.froz (h : EB w g t e) (k : Nat) : w.frozen? ⟨g, k, none⟩ = false := by simp [World.frozen?, show w.heap[g]? = _ from h]
theorem EB.lt (h : EB w g t e) : g < w.heap.size := World.block_lt_of_cell? w _ h.c0
theorem EB.below {B : Nat} (h : EB w g t e) (hb : Below B w w') (hg : g < B) : EB w' g t e := (hb.block g hg).trans h
theorem EB.below' (h : EB w g t e) (hb : Below w.heap.size w w') : EB w' g t e := h.below hb h.lt
theorem EB.new (w : World) (t : TypeId) (e : En) : EB (w.alloc (.cells (ec e).toArray t)) w.heap.size t e := heap_alloc_new w _
theorem EB.es (h : EB w g t e) : ES w (some ⟨g, 0, none⟩) 1 [e] :=
  ⟨rfl, fun _ => ⟨g, 0, rfl, fun j hj i v hv => by
    obtain rfl : j = 0 := by simpa using hj
    rw [Nat.zero_mul, Nat.zero_add]
    try rw [Nat.zero_add]
    exact h.cell i v hv⟩⟩
end
end Go.Proofs.YtnhokkdieijkhaaGreatDoor

namespace Go.Proofs.YtnhokkdieijkhaaGreatDoor
open Go.RowKit Go.Shelf

/-- The first place at which p holds, or -1. -/
def fndP (p : En → Bool) (es : List En) : Int := if es.findIdx p < es.length then (es.findIdx p : Int) else -1
theorem fnd_eq (es : List En) (nm : List UInt8) : fnd es nm = fndP (fun e => e.nm == nm) es := rfl
theorem fndP_hit (p : En → Bool) (es : List En) (k : Nat) (hk : k < es.length) (hp : p es[k] = true) (hno : ∀ j, (h : j < es.length) → j < k → p es[j] = false) : fndP p es = (k : Int) := by
  have h : es.findIdx p = k := by
    rw [List.findIdx_eq hk]
    exact ⟨hp, fun j hj => hno j (by omega) hj⟩
  unfold fndP
  rw [h, if_pos hk]
theorem fndP_miss (p : En → Bool) (es : List En) (hno : ∀ j, (h : j < es.length) → p es[j] = false) : fndP p es = -1 := by
  unfold fndP
  rw [if_neg]
  intro h
  have := List.findIdx_getElem (w := h)
  rw [hno _ h] at this
  cases this

set_option maxRecDepth 100000 in
set_option maxHeartbeats 2000000 in
theorem indexFunc_any (A : Option Addr) (n cp : Nat) (es : List En) (w : World) (h : ES w A n es) (hn : n ≤ 100000000) (g : Nat) (lv : Value) (p : En → Bool) (eg : ∀ args w, (callFunc g args).run Tryz.prog w = .ok (.enter g args) w)
    (hp : ∀ (W : World) (e : En), Below w.heap.size w W → Calls Tryz.prog g #[.agg (ec e).toArray, lv] W fun en w' => en = .returned (.bool (p e)) ∧ Below W.heap.size W w') :
    Calls Tryz.prog 85 #[.slice A n cp, .func (.func g) #[] #[lv]] w fun en w' => en = .returned (.int .i64 (fndP p es)) ∧ Below w.heap.size w w' := by
  have HX := Lib.hid h
  have HN : Hid (es.length = n) := h.1
  have HP := Lib.hid hp
  clear h hp
  go_enter Tryz.func85, Tryz.ntmps85
  go_wp2
  go_loopg [5, 8] n (fun gg _ s8 wr => ∃ k : Nat, k ≤ n ∧ n - k ≤ gg ∧ s8 = .int .i64 k ∧ Hid (Below w.heap.size w wr) ∧ Hid (∀ j, (h : j < es.length) → j < k → p es[j] = false))
  case atStart => exact ⟨0, Nat.zero_le _, by omega, rfl, Below.refl _ w, fun j _ hj => absurd hj (Nat.not_lt_zero _)⟩
  case round =>
    obtain ⟨k, hk, hg, rfl, HB, HO⟩ := hrel
    by_cases hlt : k < n
    · obtain ⟨b, o, rfl, hb, hj, hc⟩ := (HX.out.below HB.out).load hlt
      have HC := Lib.hid hc
      have HCALL := Lib.hid (HP.out wr es[k] HB.out)
      have HQ : Hid (es[k] = es[k]) := rfl
      clear hc
      cases hq : p es[k] with
      | true =>
        rw [hq] at HCALL
        have HY := Lib.hid (fndP_hit p es k hj hq HO.out)
        clear hq
        go_wp2_with (first
          | (refine Did.list rfl (did_load 102 (.tmp 14) rfl ⟨b, o + k * 4, none⟩ rfl _ Tryz.underlying102 rfl (ec es[k]) size_E HC.out) ?_)
          | (go_at_fn g; refine HCALL.out.mono ?_; rintro en w' ⟨rfl, hb'⟩))
        go_ret
        exact ⟨by rw [HY.out]; rfl, HB.out.trans (hb'.mono HB.out.size)⟩
      | false =>
        rw [hq] at HCALL
        have HF := Lib.hid hq
        clear hq
        go_wp2_with (first
          | (refine Did.list rfl (did_load 102 (.tmp 14) rfl ⟨b, o + k * 4, none⟩ rfl _ Tryz.underlying102 rfl (ec es[k]) size_E HC.out) ?_)
          | (go_at_fn g; refine HCALL.out.mono ?_; rintro en w' ⟨rfl, hb'⟩))
        go_roundg (n - (k + 1))
        case measure => omega
        case rel =>
          refine ⟨k + 1, by omega, by omega, by go_num, HB.out.trans (hb'.mono HB.out.size), (show Hid _ from fun j hj hjk => ?_)⟩
          by_cases e : j = k
          · subst e
            exact HF.out
          · exact HO.out j hj (by omega)
    · have : k = n := by omega
      subst this
      have HY := Lib.hid (fndP_miss p es (fun j h => HO.out j h (by have := HN.out; omega)))
      go_wp2
      go_ret
      exact ⟨by rw [HY.out]; rfl, HB.out⟩

theorem lastCk_nil : lastCk [] = 0 := rfl
theorem lastCk_pos (es : List En) (h : 0 < es.length) : lastCk es = (es[es.length - 1]'(by omega)).ck := by
  unfold lastCk lastAt
  rw [if_neg (by omega), List.getD_eq_getElem?_getD, List.getElem?_eq_getElem (by omega)]
  rfl
end Go.Proofs.YtnhokkdieijkhaaGreatDoor

namespace Go.Proofs.YtnhokkdieijkhaaGreatDoor
open Go.RowKit

/-- 0 and '/'. -/
def sep : ByteArray := ⟨#[0, 47]⟩
theorem sep_size : sep.size = 2 := rfl
theorem sep_list : sep.data.toList = [0, 47] := rfl

/-! Runes of a string that is no ASCII. -/
theorem enc_high (c : Nat) (h : 128 ≤ c) (h2 : c ≤ 1114111) : 2 ≤ (Utf8.encode (c : Int)).size ∧ (Utf8.encode (c : Int)).size ≤ 4 ∧ ∀ i (hi : i < (Utf8.encode (c : Int)).size), 128 ≤ ((Utf8.encode (c : Int))[i]).toNat := by
  have main : ∀ d : Nat, 128 ≤ d → d ≤ 1114111 → ∀ u : ByteArray, u = (if d < 0x80 then ⟨#[UInt8.ofNat d]⟩ else if d < 0x800 then ⟨#[UInt8.ofNat (0xC0 + d / 64), UInt8.ofNat (0x80 + d % 64)]⟩
      else if d < 0x10000 then ⟨#[UInt8.ofNat (0xE0 + d / 4096), UInt8.ofNat (0x80 + d / 64 % 64), UInt8.ofNat (0x80 + d % 64)]⟩
      else ⟨#[UInt8.ofNat (0xF0 + d / 262144), UInt8.ofNat (0x80 + d / 4096 % 64), UInt8.ofNat (0x80 + d / 64 % 64), UInt8.ofNat (0x80 + d % 64)]⟩) → 2 ≤ u.size ∧ u.size ≤ 4 ∧ ∀ i (hi : i < u.size), 128 ≤ (u[i]).toNat := by
    intro d hd hd2 u hu
    rw [if_neg (by omega)] at hu
    have hz : ∀ k : Nat, k < 128 → 128 ≤ (UInt8.ofNat (128 + k)).toNat := fun k hk => by simp; omega
    have hk : ∀ k : Nat, 128 ≤ k → k < 256 → 128 ≤ (UInt8.ofNat k).toNat := fun k h1 h2 => by simp; omega
    split at hu
    · subst hu
      refine ⟨?_, ?_, fun i hi => ?_⟩
      · simp [ByteArray.size]
      · simp [ByteArray.size]
      match i, hi with
      | 0, _ => exact hk _ (by omega) (by omega)
      | 1, _ => exact hk _ (by omega) (by omega)
    · split at hu
      · subst hu
        refine ⟨?_, ?_, fun i hi => ?_⟩
        · simp [ByteArray.size]
        · simp [ByteArray.size]
        match i, hi with
        | 0, _ => exact hk _ (by omega) (by omega)
        | 1, _ => exact hk _ (by omega) (by omega)
        | 2, _ => exact hk _ (by omega) (by omega)
      · subst hu
        refine ⟨?_, ?_, fun i hi => ?_⟩
        · simp [ByteArray.size]
        · simp [ByteArray.size]
        match i, hi with
        | 0, _ => exact hk _ (by omega) (by omega)
        | 1, _ => exact hk _ (by omega) (by omega)
        | 2, _ => exact hk _ (by omega) (by omega)
        | 3, _ => exact hk _ (by omega) (by omega)
  refine main (if Utf8.valid (c : Int) then (c : Int).toNat else Utf8.runeError) ?_ ?_ _ rfl
  · split
    · simpa using h
    · decide
  · split
    · simpa using h2
    · decide
/-- What a byte that is no ASCII is part of holds none. -/
theorem decode_span (s : ByteArray) (pos : Nat) (h : pos < s.size) (ha : 128 ≤ (s[pos]'h).toNat) : ∀ j b, pos ≤ j → j < pos + (Utf8.decode s pos).2 → s.data.toList[j]? = some b → 128 ≤ b.toNat := by
  have hg : ∀ k b, s.data.toList[pos + k]? = some b → s.get! (pos + k) = b := by
    intro k b hb
    have hk : pos + k < s.data.toList.length := (List.getElem?_eq_some_iff.1 hb).1
    have hk' : pos + k < s.size := by have := Lib.size_eq s; omega
    have e : s.data.toList[pos + k] = b := (List.getElem?_eq_some_iff.1 hb).2
    have e2 : s.get! (pos + k) = s[pos + k]'hk' := get_at s (pos + k) hk'
    rw [e2, ← e]
    rfl
  have h0 : (s.get! (pos + 0)).toNat = (s[pos]'h).toNat := by rw [get_at s pos h]
  intro j b hj1 hj2 hb
  obtain ⟨k, rfl⟩ : ∃ k, j = pos + k := ⟨j - pos, by omega⟩
  have hgk := hg k b hb
  rw [← hgk]
  have hd : k < (Utf8.decode s pos).2 := by omega
  have hn : ¬ (s.get! (pos + 0)).toNat < 128 := by omega
  have two : ∀ x : Nat, x / 64 = 2 → 128 ≤ x := fun x hx => by omega
  simp only [Utf8.decode, hn, if_false] at hd
  match k with
  | 0 => omega
  | 1 =>
    split at hd
    · rename_i h1
      simp only [Bool.and_eq_true, beq_iff_eq, decide_eq_true_eq] at h1
      exact two _ h1.2.2
    · split at hd
      · rename_i h1
        simp only [Bool.and_eq_true, beq_iff_eq, decide_eq_true_eq] at h1
        exact two _ h1.1.2.2
      · split at hd
        · rename_i h1
          simp only [Bool.and_eq_true, beq_iff_eq, decide_eq_true_eq] at h1
          exact two _ h1.1.1.2.2
        · simp at hd
  | 2 =>
    split at hd
    · split at hd <;> simp at hd
    · split at hd
      · rename_i h1
        simp only [Bool.and_eq_true, beq_iff_eq, decide_eq_true_eq] at h1
        exact two _ h1.2.2
      · split at hd
        · rename_i h1
          simp only [Bool.and_eq_true, beq_iff_eq, decide_eq_true_eq] at h1
          exact two _ h1.1.2.2
        · simp at hd
  | 3 =>
    split at hd
    · split at hd <;> simp at hd
    · split at hd
      · split at hd <;> simp at hd
      · split at hd
        · rename_i h1
          simp only [Bool.and_eq_true, beq_iff_eq, decide_eq_true_eq] at h1
          exact two _ h1.2.2
        · simp at hd
  | k + 4 =>
    split at hd
    · split at hd <;> simp at hd <;> omega
    · split at hd
      · split at hd <;> simp at hd <;> omega
      · split at hd
        · split at hd <;> simp at hd <;> omega
        · simp at hd

theorem ix_any (s : ByteArray) (c : Int) (w : World) (h : s.data.toList = []) : Calls Tryz.prog 141 #[.string s, .int .u8 c] w fun e w' => e = .returned (.int .i64 (-1)) ∧ w' = w :=
  (Tryz.strings_IndexByte s c w).mono fun e w' ⟨h1, h2⟩ => ⟨by rw [h1, h]; rfl, h2⟩
set_option maxRecDepth 1000000 in
set_option maxHeartbeats 4000000 in
/-- A rune that is no ASCII isn't one of the two. -/
theorem indexRune_high (r : Nat) (w : World) (h : 128 ≤ r) (h2 : r ≤ 1114111) :
    Calls Tryz.prog 133 #[.string sep, .int .i32 (r : Int)] w fun e w' => e = .returned (.int .i64 (-1)) ∧ Below w.heap.size w w' := by
  have hr1 : ¬ ((r : Int) < 128) := by omega
  by_cases he : r = 65533
  · subst he
    clear hr1 h h2
    go_enter Tryz.func133, Tryz.ntmps133
    go_wp2
    go_loopg [5, 6] 2 (fun g _ _ wx => ∃ i : Nat, i + g = 2 ∧ wx = w.iter sep i)
    case atStart => exact ⟨0, rfl, rfl⟩
    case round =>
      obtain ⟨i, hig, rfl⟩ := hrel
      cases gk with
      | zero =>
        obtain rfl : i = 2 := by omega
        have hnx := fun ty => run_next_end (P := Tryz.prog) w sep 2 ty (by decide)
        go_wp2
        go_ret
        exact ⟨rfl, (Below.refl _ _).alloc (Nat.le_refl _) _⟩
      | succ g =>
        have hi : i < 2 := by omega
        have hx : (sep[i]'hi).toNat < 128 := by
          rcases (show i = 0 ∨ i = 1 by omega) with rfl | rfl
          · show (0 : UInt8).toNat < 128; decide
          · show (47 : UInt8).toNat < 128; decide
        have hnx := fun ty => run_next_ascii (P := Tryz.prog) w sep i ty hi hx
        have hne : (((sep[i]'hi).toNat : Int) == 65533) = false := by simp; omega
        generalize (sep[i]'hi).toNat = x at *
        go_wp2
        go_roundg g
        case measure => omega
        case rel => exact ⟨i + 1, by omega, rfl⟩
  · have hd1 : ((r : Int) == 65533) = false := by simp; omega
    by_cases hv : Lib.validRune (r : Int) = true
    · obtain ⟨u1, u2, u3⟩ := enc_high r h h2
      have HE : Hid (Utf8.encode (r : Int) = Utf8.encode (r : Int)) := rfl
      generalize hu : Utf8.encode (r : Int) = u at *
      have hcv : ∀ W, (convert 21 9 (.int .i32 (r : Int))).run Tryz.prog W = .ok (.string u) W := by
        intro W
        rw [← hu]
        rfl
      clear hu he
      have u3' : (128 : Nat) ≤ (u[u.size - 1]'(by omega)).toNat := u3 _ _
      go_enter Tryz.func133, Tryz.ntmps133
      go_wp2_with (go_at_call 142; refine (Tryz.utf8_ValidRune _ _).mono ?_; rintro e w' ⟨rfl, hw⟩; rw [hw, hv])
      go_step3
      go_wp2
      go_loop [9] (fun i => i = .int .i64 ((u.size : Int) - 1)) (fun _ => 0)
      case atStart => rfl
      case round =>
        subst hrel
        by_cases h2 : u.size = 2
        · have hlt : ((u.size : Int) - 1 < (sep.size : Int)) := by have := sep_size; omega
          have hl : (1 : Nat) < sep.size := by decide
          have hs1 : ((sep[(1 : Nat)]'hl).toNat : Int) = 47 := rfl
          have hu1 : 128 ≤ ((u[(1 : Nat)]'(by omega)).toNat : Int) := by have := u3 1 (by omega); omega
          have hnn : (((sep[(1 : Nat)]'hl).toNat : Int) != ((u[(1 : Nat)]'(by omega)).toNat : Int)) = true := by
            rw [hs1]
            simp
            omega
          clear hs1 u3 u3'
          go_wp2
          go_step3
          go_wp2_with fail
          go_quiet (fail)
          have HW1 : Hid (Below w.heap.size w (w.drewN nq)) := ⟨rfl, rfl, rfl, Nat.le_refl _, fun _ _ => rfl⟩
          generalize w.drewN nq = w1 at *
          go_wp2_with fail
          go_quiet ((go_at_call 141; exact Calls.quiet_of_same (ix_any _ _ _ (by rfl))))
          go_wp2_with fail
          rw [Exit.noGoto_ret]
          go_wp2
          rw [Exit.noGoto_ret]
          go_wp2
          go_ret
          exact ⟨rfl, HW1.out.os, HW1.out.tape, HW1.out.output, HW1.out.size, HW1.out.block⟩
        · have hge : ((sep.size : Int) ≤ (u.size : Int) - 1) := by have := sep_size; omega
          go_wp2
          go_ret
          exact ⟨rfl, Below.refl _ _⟩
    · have hv' : Lib.validRune (r : Int) = false := by simpa using hv
      clear hv
      go_enter Tryz.func133, Tryz.ntmps133
      go_wp2_with (go_at_call 142; refine (Tryz.utf8_ValidRune _ _).mono ?_; rintro e w' ⟨rfl, hw⟩; rw [hw, hv'])
      go_ret
      exact ⟨rfl, Below.refl _ _⟩

/-- A string's next rune, in whatever world. -/
theorem next_in {P : Program} (W : World) (k : Nat) (s : ByteArray) (pos : Nat) (hk : W.heap[k]? = some (.stringIter s pos)) (h : pos < s.size) :
    ∃ W', (∀ ty, (Instr.next (.pointer (some ⟨k, 0, none⟩)) true ty).run P W = .ok (.tuple #[.bool true, .int .i64 pos, .int .i32 (Utf8.decode s pos).1]) W') ∧ W'.heap[k]? = some (.stringIter s (pos + (Utf8.decode s pos).2)) ∧ Below k W W' ∧ W'.heap.size = W.heap.size := by
  have hlt : k < W.heap.size := (Array.getElem?_eq_some_iff.1 hk).1
  refine ⟨{ W with heap := W.heap.setIfInBounds k (.stringIter s (pos + (Utf8.decode s pos).2)) }, fun ty => ?_, ?_, ⟨rfl, rfl, rfl, by simp, fun j hj => ?_⟩, by simp⟩
  · simp only [Instr.next, getObj, setObj, Sem.run_bind, Sem.run, hk, Result.andThen, h, if_true]
    simp [goInt]
  · simp [hlt]
  · have : k ≠ j := by omega
    simp [this]
theorem next_out {P : Program} (W : World) (k : Nat) (s : ByteArray) (pos : Nat) (hk : W.heap[k]? = some (.stringIter s pos)) (h : ¬ pos < s.size) :
    ∀ ty, (Instr.next (.pointer (some ⟨k, 0, none⟩)) true ty).run P W = .ok (.tuple #[.bool false]) W := fun ty => by
  simp [Instr.next, getObj, Sem.run, hk, h]

theorem noAny_span {s : ByteArray} {i : Nat} (h : Lib.NoAny s.data.toList [0, 47] i) (hi : i < s.size) (hx : 128 ≤ (s[i]'hi).toNat) : Lib.NoAny s.data.toList [0, 47] (i + (Utf8.decode s i).2) := by
  intro j b hj hb
  rcases Nat.lt_or_ge j i with h1 | h1
  · exact h j b h1 hb
  · have := decode_span s i hi hx j b h1 hj hb
    simp
    refine ⟨?_, ?_⟩
    · rintro rfl
      exact absurd this (by decide)
    · rintro rfl
      exact absurd this (by decide)
set_option maxRecDepth 1000000 in
set_option maxHeartbeats 4000000 in
theorem indexAny_small (s : ByteArray) (w : World) (h8 : s.size ≤ 8) :
    Calls Tryz.prog 124 #[.string s, .string sep] w fun e w' => e = .returned (.int .i64 (Lib.indexAny s.data.toList [0, 47])) ∧ Below w.heap.size w w' := by
  have h8z : decide ((8 : Int) < (s.size : Int)) = false := decide_eq_false (by omega)
  have hemp : sep.toList.isEmpty = false := by rw [Lib.toList_data]; rfl
  have hn1 : ((sep.size : Int) == 1) = false := rfl
  go_enter Tryz.func124, Tryz.ntmps124
  go_wp2_with (go_at_call 134; refine (Tryz.strings_shouldUseASCIISet _ _).mono ?_; rintro e w' ⟨rfl, hw⟩; rw [hw, h8z])
  go_loopg [9, 10] s.size (fun g _ _ wx => ∃ i : Nat, s.size - i ≤ g ∧ wx.heap[w.heap.size]? = some (.stringIter s i) ∧ Hid (Below w.heap.size w wx) ∧ Hid (Lib.NoAny s.data.toList [0, 47] i))
  case atStart => exact ⟨0, by omega, World.iter_heap _ _ _, (Below.refl _ _).alloc (Nat.le_refl _) _, Lib.NoAny.zero _ _⟩
  case round =>
    obtain ⟨i, hig, hit, HB, HN⟩ := hrel
    by_cases hi : i < s.size
    · obtain ⟨W', hnx, hit', hbn, hsz⟩ := next_in (P := Tryz.prog) wr w.heap.size s i hit hi
      have HIT := Lib.hid hit'
      have HB' : Hid (Below w.heap.size w W') := HB.out.trans hbn
      have hklt : w.heap.size < W'.heap.size := (Array.getElem?_eq_some_iff.1 hit').1
      have hxl : s.data.toList[i]? = some (s[i]'hi) := Lib.data_getElem? s i hi
      have HXL := Lib.hid hxl
      clear hit' hbn hit hsz hxl
      by_cases ha : (s[i]'hi).toNat < 128
      · have hde := decode_ascii s i hi ha
        have HD := Lib.hid hde
        rw [hde] at hnx
        have HI2 : Hid (W'.heap[w.heap.size]? = some (.stringIter s (i + 1))) := by have := HIT.out; rw [hde] at this; exact this
        clear hde HIT
        obtain ⟨x, hx⟩ : ∃ x : UInt8, s[i]'hi = x := ⟨_, rfl⟩
        rw [hx] at hnx ha
        have HX2 : Hid (s.data.toList[i]? = some x) := by have := HXL.out; rw [hx] at this; exact this
        clear HXL hx
        have hcon := Lib.contains_iff_indexByte [0, 47] x
        have hback : ((x.toNat : Int)).toNat.toUInt8 = x := by simp
        cases hin : ([0, 47] : List UInt8).contains x
        · rw [hin] at hcon
          have hlt : ¬ ((0 : Int) ≤ Lib.indexByte [0, 47] x) := of_decide_eq_false hcon.symm
          clear hcon
          go_wp2_with (go_at_call 133; refine (Tryz.strings_IndexRune_ascii _ _ _ (by omega) (by omega)).mono ?_; rintro e w2 ⟨rfl, hw⟩; rw [hw, hback, sep_list])
          go_roundg (s.size - (i + 1))
          case measure => omega
          case rel => exact ⟨i + 1, by omega, HI2.out, HB', HN.out.succ HX2.out hin⟩
        · rw [hin] at hcon
          have hge : (0 : Int) ≤ Lib.indexByte [0, 47] x := of_decide_eq_true hcon.symm
          clear hcon
          go_wp2_with (go_at_call 133; refine (Tryz.strings_IndexRune_ascii _ _ _ (by omega) (by omega)).mono ?_; rintro e w2 ⟨rfl, hw⟩; rw [hw, hback, sep_list])
          go_ret
          exact ⟨by rw [Lib.indexAny_hit HN.out HX2.out hin]; rfl, HB'.out⟩
      · have HS := Lib.hid (noAny_span HN.out hi (by omega))
        obtain ⟨hd1, hd2⟩ := decode_high s i hi (by omega)
        have hd3 : (Utf8.decode s i).1 ≤ 1114111 := Lib.rune_le s i
        generalize Utf8.decode s i = d at *
        obtain ⟨r, n⟩ := d
        clear ha HXL
        go_wp2_with (go_at_call 133; refine (indexRune_high r _ hd1 hd3).mono ?_; rintro e w2 ⟨rfl, hb2⟩)
        go_roundg (s.size - (i + n))
        case measure => omega
        case rel => exact ⟨i + n, by omega, (hb2.block _ hklt).trans HIT.out, HB'.out.trans (hb2.mono (by omega)), HS.out⟩
    · have hnx := next_out (P := Tryz.prog) wr w.heap.size s i hit hi
      clear hit
      go_wp2
      go_ret
      refine ⟨?_, HB.out⟩
      rw [Lib.indexAny_none (s := s.data.toList) (fun j b hj hb => HN.out j b (by have := Lib.size_eq s; omega) hb)]
      rfl
theorem hv118 (w : World) : (zeroValue 184).run Tryz.prog w = .ok (.agg (Array.replicate 256 (.bool false))) w := by
  exact (zero_of_info (P := Tryz.prog) (t := 184) (n := 256) (by kernel_rfl)).1 w
/-- Is one of the two in these bytes? -/
def parts (l : List UInt8) : Bool := l.any fun b => b == 0 || b == 47
theorem parts_any : ∀ l : List UInt8, decide (0 ≤ Lib.indexAny l [0, 47]) = parts l
  | [] => rfl
  | b :: l => by
    have ih := parts_any l
    have hg := Lib.indexAny_ge [0, 47] l
    have e1 : parts (b :: l) = ((b == 0 || b == 47) || parts l) := rfl
    have e2 : ([0, 47] : List UInt8).contains b = (b == 0 || b == 47) := by simp only [List.contains_cons, List.contains_nil, Bool.or_false]
    rw [e1, ← ih, show Lib.indexAny (b :: l) [0, 47] = (if ([0, 47] : List UInt8).contains b then 0 else if Lib.indexAny l [0, 47] == -1 then -1 else Lib.indexAny l [0, 47] + 1) from rfl, e2]
    cases h : (b == 0 || b == 47)
    · simp only [Bool.false_or, Bool.false_eq_true, if_false]
      split
      · rename_i h1
        have h1' := beq_iff_eq.1 h1
        rw [h1']
      · rename_i h1
        have h1' : ¬ Lib.indexAny l [0, 47] = -1 := fun e => h1 (beq_iff_eq.2 e)
        simp only [decide_eq_decide]
        omega
    · simp
set_option maxHeartbeats 1000000 in
theorem containsAny_any (s : ByteArray) (w : World) (hs : s.size < 4294967281) :
    Calls Tryz.prog 113 #[.string s, .string sep] w fun e w' => e = .returned (.bool (parts s.data.toList)) ∧ Below w.heap.size w w' := by
  have HC : Hid (∀ W, Calls Tryz.prog 124 #[.string s, .string sep] W fun e w' => e = .returned (.int .i64 (Lib.indexAny s.data.toList [0, 47])) ∧ Below W.heap.size W w') := by
    intro W
    by_cases h8 : s.size ≤ 8
    · exact indexAny_small s W h8
    · refine (Tryz.strings_IndexAny_long hv118 s sep W (by decide) (by omega) hs (by decide) (fun j b hj => ?_)).mono fun e w' h => ?_
      · rw [sep_list] at hj
        match j, hj with
        | 0, hj => injection hj with hj; subst hj; decide
        | 1, hj => injection hj with hj; subst hj; decide
        | j + 2, hj => simp at hj
      · rw [h.2]
        exact ⟨h.1, ((Below.refl _ _).alloc (Nat.le_refl _) _).alloc (by simp) _⟩
  rw [← parts_any s.data.toList]
  go_enter Tryz.func113, Tryz.ntmps113
  go_wp2_with fail
  refine (HC.out _).mono ?_
  rintro e w1 ⟨rfl, hb⟩
  go_wp2
  go_ret
  exact ⟨rfl, hb⟩
end Go.Proofs.YtnhokkdieijkhaaGreatDoor

namespace Go.Proofs.YtnhokkdieijkhaaGreatDoor
open Go.RowKit Go.Shelf

theorem nameOk_eq (l : List UInt8) : nameOk l = (!decide (l.length < 1) && !decide (24 < l.length) && !(l == [46]) && !(l == [46, 46]) && !parts l) := by
  unfold nameOk parts
  have e1 : decide (1 ≤ l.length) = !decide (l.length < 1) := by
    rw [← decide_not]
    exact decide_eq_decide.2 (by omega)
  have e2 : decide (l.length ≤ 24) = !decide (24 < l.length) := by
    rw [← decide_not]
    exact decide_eq_decide.2 (by omega)
  have e3 : (l.all fun b => !(b == 0) && !(b == 47)) = !l.any fun b => b == 0 || b == 47 := by
    rw [List.not_any_eq_all_not]
    simp [Bool.not_or]
  rw [e1, e2, e3]

set_option maxRecDepth 100000 in
set_option maxHeartbeats 2000000 in
theorem name_any (l : List UInt8) (w : World) :
    Calls Tryz.prog 103 #[.string (txt l)] w fun e w' => e = .returned (.int .i64 (nameE l)) ∧ Below w.heap.size w w' := by
  have hz := txt_size l
  have ht := txt_toList l
  by_cases hbad : l.length < 1 ∨ 24 < l.length ∨ l = [46] ∨ l = [46, 46]
  · have HE : Hid (nameE l = 67) := by
      show _ = _
      unfold nameE
      rw [if_neg]
      rw [nameOk_eq]
      rcases hbad with h | h | h | h <;> simp [h]
    have HB := Lib.hid hbad
    clear hbad
    go_enter Tryz.func103, Tryz.ntmps103
    go_wp2_with fail
    all_goals first
      | (exfalso; rcases HB.out with h | h | h | h <;> first | omega | contradiction)
      | (go_ret; rw [HE.out]; exact ⟨rfl, Below.refl _ _⟩)
  · have h1 : ¬ ((l.length : Int) < 1) := fun h => hbad (.inl (by omega))
    have h2 : ¬ (24 < (l.length : Int)) := fun h => hbad (.inr (.inl (by omega)))
    have h3 : ¬ l = [46] := fun h => hbad (.inr (.inr (.inl h)))
    have h4 : ¬ l = [46, 46] := fun h => hbad (.inr (.inr (.inr h)))
    have HE : Hid (nameE l = if parts l = true then 67 else 0) := by
      show _ = _
      unfold nameE
      rw [nameOk_eq]
      have e1 : decide (l.length < 1) = false := decide_eq_false (by omega)
      have e2 : decide (24 < l.length) = false := decide_eq_false (by omega)
      have e3 : (l == [46]) = false := by simpa using h3
      have e4 : (l == [46, 46]) = false := by simpa using h4
      rw [e1, e2, e3, e4]
      cases parts l <;> rfl
    have HC : Hid (∀ W, Calls Tryz.prog 113 #[.string (txt l), .string sep] W fun e w' => e = .returned (.bool (parts l)) ∧ Below W.heap.size W w') := fun W => containsAny_any (txt l) W (by rw [txt_size]; omega)
    clear hbad
    generalize parts l = r at *
    go_enter Tryz.func103, Tryz.ntmps103
    go_wp2_with (go_at_call 113; refine (HC.out _).mono ?_; rintro e w1 ⟨rfl, hb⟩)
    all_goals
      go_ret
      first
        | exact ⟨by rw [HE.out]; rfl, hb⟩
        | (refine ⟨?_, hb⟩; rw [HE.out]; simp_all)
end Go.Proofs.YtnhokkdieijkhaaGreatDoor

namespace Go.Proofs.YtnhokkdieijkhaaGreatDoor
open Go.RowKit Go.Maps Go.Shelf

theorem lawS : Keyed Tryz.prog 9 := string_keyed Tryz.underlying9
/-- The set of the first k names. -/
def keysS (xs : List (List UInt8)) (k : Nat) : List Lit := (xs.take k).map Lit.string
def setS (xs : List (List UInt8)) (k : Nat) : DataW Unit := setOf (.agg []) (keysS xs k)
theorem setS_zero (xs : List (List UInt8)) : setS xs 0 = .map [] := by simp [setS, keysS, setOf]
theorem setS_succ (xs : List (List UInt8)) (k : Nat) (h : k < xs.length) : setS xs (k + 1) = (setS xs k).put (.string xs[k]) (.agg []) := by
  unfold setS keysS
  rw [List.take_succ_eq_append_getElem h, List.map_append, List.map_singleton, setOf_snoc]
theorem same_S (a b : List UInt8) : (Lit.string a).sameKey (.string b) = decide (a = b) := by
  show (a == b) = decide (a = b)
  by_cases h : a = b
  · subst h; simp
  · simp [h]
theorem any_S (x : List UInt8) : ∀ l : List (List UInt8), (l.map Lit.string).any (fun y => y.sameKey (.string x)) = decide (x ∈ l)
  | [] => by simp
  | a :: r => by
    rw [List.map_cons, List.any_cons, any_S x r, same_S]
    by_cases h : a = x
    · subst h; simp
    · have h' : ¬ x = a := fun e => h e.symm
      simp [h, h']
/-- The different ones, in order. -/
def difS (l : List (List UInt8)) : List (List UInt8) := l.foldl (fun acc x => if x ∈ acc then acc else acc ++ [x]) []
theorem fold_difS : ∀ (l acc : List (List UInt8)), (l.map Lit.string).foldl addKey (acc.map Lit.string) = (l.foldl (fun acc x => if x ∈ acc then acc else acc ++ [x]) acc).map Lit.string
  | [], acc => rfl
  | a :: r, acc => by
    rw [List.map_cons, List.foldl_cons, List.foldl_cons]
    have e : addKey (acc.map Lit.string) (.string a) = (if a ∈ acc then acc else acc ++ [a]).map Lit.string := by
      unfold addKey
      rw [any_S]
      by_cases h : a ∈ acc
      · simp [h]
      · simp [h]
    rw [e, fold_difS r]
theorem dif_lenS : ∀ (l acc : List (List UInt8)), acc.Nodup → (l.foldl (fun acc x => if x ∈ acc then acc else acc ++ [x]) acc).length ≤ acc.length + l.length ∧ ((l.foldl (fun acc x => if x ∈ acc then acc else acc ++ [x]) acc).length = acc.length + l.length ↔ (acc ++ l).Nodup)
  | [], acc, h => by simp [h]
  | a :: r, acc, h => by
    rw [List.foldl_cons]
    by_cases ha : a ∈ acc
    · rw [if_pos ha]
      obtain ⟨h1, _⟩ := dif_lenS r acc h
      refine ⟨by rw [List.length_cons]; omega, ⟨fun e => by rw [List.length_cons] at e; omega, fun hn => ?_⟩⟩
      rw [List.nodup_append] at hn
      exact absurd rfl (hn.2.2 a ha a (by simp))
    · rw [if_neg ha]
      have hn : (acc ++ [a]).Nodup := by
        rw [List.nodup_append]
        refine ⟨h, by simp, fun x hx y hy => ?_⟩
        rw [List.mem_singleton] at hy
        subst hy
        intro e
        subst e
        exact ha hx
      obtain ⟨h1, h2⟩ := dif_lenS r (acc ++ [a]) hn
      rw [List.length_append, List.length_singleton] at h1
      rw [List.length_append, List.length_singleton, List.append_assoc, List.singleton_append] at h2
      rw [List.length_cons]
      exact ⟨by omega, ⟨fun e => h2.1 (by omega), fun e => by have := h2.2 e; omega⟩⟩
theorem size_setS (xs : List (List UInt8)) : Maps.size (setS xs xs.length) ≤ xs.length ∧ (Maps.size (setS xs xs.length) = xs.length ↔ xs.Nodup) := by
  have h1 : Maps.size (setS xs xs.length) = (difS xs).length := by
    unfold setS
    rw [size_setOf _ _ (fun x hx => by unfold keysS at hx; obtain ⟨_, _, rfl⟩ := List.mem_map.1 hx; trivial)]
    unfold keysS
    rw [List.take_length]
    have := fold_difS xs []
    rw [List.map_nil] at this
    rw [this, List.length_map]
    rfl
  obtain ⟨h2, h3⟩ := dif_lenS xs [] List.nodup_nil
  rw [h1]
  unfold difS
  simp only [List.length_nil, Nat.zero_add, List.nil_append] at h2 h3
  exact ⟨h2, h3⟩
theorem run_makeMap2 {P : Program} (t k e : TypeId) (ht : P.underlying t = some (.map k e)) (n : Nat) (w : World) : (Instr.makeMap t (some (.int .i64 (n : Int)))).run P w = .ok (.map (some w.heap.size)) (w.alloc (.map #[] 0)) := by
  simp [Instr.makeMap, run_underlying ht, asInt]
  rfl
theorem below_grown {w w' : World} (h : Below w.heap.size w w') : w.grownBy w' none := ⟨h.os, h.tape, h.output, h.size, fun k hk _ => h.block k hk⟩

theorem stepOk_eq (es : List En) (k : Nat) (h : k < es.length) : stepOk es k = (nameOk es[k].nm && decide (lastAt es k < es[k].ck)) := by
  unfold stepOk
  rw [List.getD_eq_getElem?_getD, List.getElem?_eq_getElem h]
  rfl
theorem lastAt_succ (es : List En) (k : Nat) (h : k < es.length) : lastAt es (k + 1) = es[k].ck := by
  unfold lastAt
  rw [if_neg (by omega), Nat.add_sub_cancel, List.getD_eq_getElem?_getD, List.getElem?_eq_getElem h]
  rfl
theorem lastAt_lt (es : List En) (hw : ∀ e ∈ es, e.Wide) (k : Nat) : lastAt es k < 18446744073709551616 := by
  unfold lastAt
  split
  · decide
  · rw [List.getD_eq_getElem?_getD]
    rcases Nat.lt_or_ge (k - 1) es.length with h | h
    · rw [List.getElem?_eq_getElem h]
      exact (hw _ (List.getElem_mem h)).c
    · rw [List.getElem?_eq_none h]
      decide
theorem okB_no (es : List En) (k : Nat) (h : k < es.length) (hs : stepOk es k = false) : okB es = false := by
  unfold okB
  rw [Bool.and_eq_false_iff]
  left
  rw [List.all_eq_false]
  exact ⟨k, List.mem_range.2 h, by rw [hs]; simp⟩
theorem okB_all (es : List En) (h : ∀ j, j < es.length → stepOk es j = true) : okB es = decide ((es.map En.nm).Nodup) := by
  unfold okB
  have : (List.range es.length).all (stepOk es) = true := by
    rw [List.all_eq_true]
    exact fun j hj => h j (List.mem_range.1 hj)
  rw [this, Bool.true_and]

/-- An entry that a loop holds in a block of its own. -/
theorem box_E {w w1 w2 : World} {e : En} {t : TypeId} (hw1 : Below w.heap.size w w1) (hb2 : w2.heap[w.heap.size]? = some (.cells (ec e).toArray t (0, 0))) (hw2 : Keep (· ≠ w.heap.size) w1 w2) : EB w2 w.heap.size t e ∧ Below w.heap.size w w2 :=
  ⟨hb2, hw1.trans (Keep.below (hw2.mono fun k hk => by omega))⟩

set_option maxRecDepth 100000 in
set_option maxHeartbeats 2000000 in
theorem valid_any (A : Option Addr) (n cp : Nat) (es : List En) (w : World) (h : ES w A n es) (hw : ∀ e ∈ es, e.Wide) (hn : n ≤ 100000000) :
    Calls Tryz.prog 84 #[.slice A n cp] w fun e w' => e = .returned (.bool (okB es)) ∧ Below w.heap.size w w' := by
  have hmm := @run_makeMap2 Tryz.prog _ _ _ Tryz.underlying146
  have Hn : Hid (es.length = n) := h.1
  have HX := Lib.hid h
  have HW := Lib.hid hw
  clear h hw
  go_enter Tryz.func84, Tryz.ntmps84
  go_wp2
  go_loopw [4, 12] (fun l i wr => ∃ k : Nat, k ≤ n ∧ i = .int .i64 k ∧ l = .int .u64 (lastAt es k : Nat) ∧ Hid (wr.ownsMap Tryz.prog 9 (unitElem (H := Unit)) w.heap.size k (setS (es.map En.nm) k)) ∧ Hid (Below w.heap.size w wr) ∧ Hid (∀ j, j < k → stepOk es j = true))
    (fun _ i _ => n - (intOf i).toNat)
  case atStart => exact ⟨0, Nat.zero_le _, rfl, rfl, by rw [setS_zero]; exact World.ownsMap_made _ _ _ _, (Below.refl _ _).alloc (Nat.le_refl _) _, fun j hj => absurd hj (Nat.not_lt_zero _)⟩
  case round =>
    obtain ⟨k, hk, rfl, rfl, hown, hnx, HO⟩ := hrel
    by_cases hlt : k < n
    · obtain ⟨b, o, rfl, hb, hj, hc⟩ := (HX.out.below hnx.out).load hlt
      have HC := Lib.hid hc
      clear hc
      have HS := Lib.hid (setS_succ (es.map En.nm) k (by rw [List.length_map]; exact hj))
      rw [List.getElem_map] at HS
      have HST := Lib.hid (stepOk_eq es k hj)
      have HLA := Lib.hid (lastAt_succ es k hj)
      have HNO := fun hs => Lib.hid (okB_no es k hj hs)
      have HLW := Lib.hid (lastAt_lt es HW.out k)
      have hck := (HW.out es[k] (List.getElem_mem hj)).c
      have hla : lastAt es k < 18446744073709551616 := HLW.out
      generalize lastAt es k = lst at *
      generalize es[k] = e at *
      go_upto_region 6 with (first
        | (refine Did.list rfl (did_load 102 (.tmp 14) rfl ⟨b, o + k * 4, none⟩ rfl _ Tryz.underlying102 rfl (ec e) size_E HC.out) ?_)
        | (refine wpList_alloc_any rfl 102 rfl _ zero_E ?_
           intro w1 hb1 hs1 hw1)
        | (refine wpList_store_any rfl 102 (.tmp 6) (.tmp 15) rfl wr.heap.size (ec e).toArray rfl rfl 102 _ hb1 size_E rfl (ec_one e) ?_
           intro w2 hb2 hs2 hw2))
      obtain ⟨heb, hb2w⟩ := box_E hw1 hb2 hw2
      have HEB := Lib.hid heb
      have hn2 := Lib.hid (hnx.out.trans (hb2w.mono hnx.out.size))
      have hown2 := Lib.hid (hown.out.kept (below_grown hb2w) (by simp))
      have HZ0 : Hid (w.heap.size < wr.heap.size) := by
        rcases hown.out with ⟨es', cl, h0, _⟩
        exact (Array.getElem?_eq_some_iff.1 h0).1
      clear hb1 hs1 hw1 hb2 hs2 hw2 heb hb2w hown hnx HC
      have HQ : Hid (some w.heap.size ≠ some wr.heap.size) := by show _ ≠ _; have := HZ0.out; simp; omega
      clear HZ0
      generalize wr.heap.size = q at *
      have c3 := HEB.out.c3
      by_cases hnm : nameOk e.nm = true
      · have hne : nameE e.nm = 0 := if_pos hnm
        have HNL : Hid ((txt e.nm).size ≤ maxLen) := by show _ ≤ _; have := nameOk_len _ hnm; rw [txt_size]; unfold maxLen; omega
        rw [hnm, Bool.true_and] at HST
        have HNC := fun W => Lib.hid (name_any e.nm W)
        rw [hne] at HNC
        clear hnm hne
        go_wp2_with fail
        refine ((HNC _).out).mono ?_
        rintro en w3 ⟨rfl, hb3⟩
        have HEB3 := Lib.hid (HEB.out.below' hb3)
        have hn3 := Lib.hid (hn2.out.trans (hb3.mono hn2.out.size))
        have hown3 := Lib.hid (hown2.out.kept (below_grown hb3) (by simp))
        have c0 := HEB3.out.c0
        clear hb3 HEB hn2 hown2 c3 HNC
        have c3 := HEB3.out.c3
        by_cases hcl : lst < e.ck
        · have hd : decide (e.ck ≤ lst) = false := decide_eq_false (by omega)
          have HT := Lib.hid (HST.out.trans (decide_eq_true hcl))
          have hkey : keyOf Tryz.prog 9 (.string (txt e.nm)) = some (.string e.nm) := Go.WideMaps.keyOf_string_mk Tryz.underlying9 HNL.out
          clear hcl
          go_wp2_with (first
            | (at_mapUpdate; refine wpList_mapUpdate_own _ rfl _ _ _ 146 rfl 9 148 lawS Tryz.underlying146 (unitElem (H := Unit)) w.heap.size k _ rfl hown3.out (by unfold maxLen; omega) _ _ _ rfl rfl hkey _ [] unitElem_mk ?_; intro w4 hown4 hgrow4
               have HE4 : Hid (EB w4 q 102 e) := (hgrow4.block q HEB3.out.lt (fun ee => HQ.out ee.symm)).trans HEB3.out
               have HW4 := Lib.hid (hn3.out.grown hgrow4 hn3.out.size (fun j hj => by cases hj; exact Nat.le_refl _))
               have HO4 := Lib.hid hown4
               have c04 := HE4.out.c0
               clear hown4 hgrow4 c0 c3))
          go_roundw
          case rel =>
            refine ⟨k + 1, by omega, by go_num, by rw [HLA.out], HS.out.symm ▸ HO4.out, HW4.out, (show Hid _ from fun j hj => ?_)⟩
            by_cases ej : j = k
            · subst ej; exact HT.out
            · exact HO.out j (by omega)
          case measure => simp [intOf]; omega
        · have hd : decide (e.ck ≤ lst) = true := decide_eq_true (by omega)
          have HN := HNO (HST.out.trans (decide_eq_false hcl))
          clear hcl
          go_wp2_with fail
          go_ret
          exact ⟨by rw [HN.out]; rfl, hn3.out⟩
      · have hnm : nameOk e.nm = false := by simpa using hnm
        have hne : nameE e.nm = 67 := if_neg (by rw [hnm]; simp)
        have HN := HNO (by rw [HST.out, hnm]; rfl)
        have HNC := fun W => Lib.hid (name_any e.nm W)
        rw [hne] at HNC
        clear hnm hne
        go_wp2_with fail
        refine ((HNC _).out).mono ?_
        rintro en w3 ⟨rfl, hb3⟩
        have hn3 := Lib.hid (hn2.out.trans (hb3.mono hn2.out.size))
        clear hb3 HNC
        go_wp2_with fail
        go_ret
        exact ⟨by rw [HN.out]; rfl, hn3.out⟩
    · have : k = n := by omega
      subst this
      have HZ := Lib.hid (size_setS (es.map En.nm))
      rw [List.length_map, Hn.out] at HZ
      have HOK : Hid (okB es = decide ((es.map En.nm).Nodup)) := okB_all es (fun j hj => HO.out j (by have := Hn.out; omega))
      go_wp2_with (first
        | (at_len; refine wpList_len_own _ rfl _ 146 rfl 9 148 Tryz.underlying146 _ w.heap.size k _ rfl hown.out ?_)
        | go_in)
      go_ret
      refine ⟨?_, hnx.out⟩
      rw [HOK.out]
      have h1 := HZ.out.2
      by_cases hd : (es.map En.nm).Nodup
      · simp [hd, h1.2 hd]
      · have h2 : ¬ Maps.size (setS (es.map En.nm) k) = k := fun e => hd (h1.1 e)
        have h3 : ¬ (Maps.size (setS (es.map En.nm) k) : Int) = (k : Int) := by omega
        simp [hd, h3]
end Go.Proofs.YtnhokkdieijkhaaGreatDoor

namespace Go.Proofs.YtnhokkdieijkhaaGreatDoor
open Go.RowKit Go.Shelf

theorem run_bytes_txt (w : World) (l : List UInt8) : ∃ c w', (convert 9 30 (.string (txt l))).run Tryz.prog w = .ok (.slice (some ⟨w.heap.size, 0, none⟩) l.length c) w' ∧ BS w' (some ⟨w.heap.size, 0, none⟩) l.length l ∧ Below w.heap.size w w' ∧ l.length ≤ c ∧ w.heap.size < w'.heap.size := by
  have hr := Lib.run_convert_string_bytes (P := Tryz.prog) w 9 30 5 (txt l) Tryz.underlying9 Tryz.underlying30 Tryz.underlying5
  rw [txt_size] at hr
  refine ⟨_, _, hr, ⟨rfl, fun _ => ⟨w.heap.size, 0, rfl, fun j hj => ?_⟩⟩, ⟨rfl, rfl, rfl, ?_, fun k hk => Lib.bytesWorld_at_old w _ _ k hk⟩, ?_, ?_⟩
  · rw [Nat.zero_add, Lib.bytesWorld_cell w _ _ j (by rw [txt_size]; exact hj)]
    simp [txt, hj]
  · rw [Lib.bytesWorld_size]
    omega
  · exact grownCap_ge _ _ _ _
  · rw [Lib.bytesWorld_size]
    omega
theorem Wr.less {K K' : Nat → Prop} {w : World} {p : Nat} {l : List UInt8} (h : Wr K w p l) (hk : ∀ k, K' k → K k) : Wr K' w p l := by
  obtain ⟨A, c, h1, h2, h3, h4, h5⟩ := h
  exact ⟨A, c, h1, h2, fun hp => h3 (hk _ hp), fun k hk1 hk2 => h4 k hk1 (hk _ hk2), fun k hk1 => h5 k (hk _ hk1)⟩
/-- A new block may be added to what is left alone, in any later world. -/
theorem Wr.grow {K : Nat → Prop} {w w' : World} {p : Nat} {l : List UInt8} (h : Wr K w p l) (hb : Below w.heap.size w w') (hlt : w.heap.size < w'.heap.size) : Wr (fun k => K k ∨ k = w.heap.size) w' p l := by
  obtain ⟨A, c, h⟩ := h
  refine ⟨A, c, (hb.block p h.lt).trans h.1, ?_, ?_, fun k hk => ?_, ?_⟩
  · exact h.2.1.kept (below_grown hb) (Classical.em _)
  · rintro (hk | hk)
    · exact h.2.2.1 hk
    · have := h.lt; omega
  · rintro (h1 | h1)
    · exact h.2.2.2.1 k hk h1
    · have := (h.2.1.lt k hk).2; omega
  · rintro k (hk | rfl)
    · exact Nat.lt_of_lt_of_le (h.2.2.2.2 k hk) hb.size
    · exact hlt
theorem Keep.below2 {K : Nat → Prop} {B : Nat} {w w' : World} (h : Keep K w w') (hK : ∀ k, k < B → K k) : Below B w w' := ⟨h.os, h.tape, h.output, h.size, fun k hk => h.block k (hK k hk)⟩

theorem encs_succ (es : List En) (k : Nat) (h : k < es.length) : encs (es.take (k + 1)) = encs (es.take k) ++ enc1 es[k] := by
  unfold encs
  rw [List.take_succ_eq_append_getElem h, List.flatMap_append, List.flatMap_singleton]
theorem encs_le (es : List En) (k : Nat) : (encs (es.take k)).length ≤ (encs es).length := by
  have : encs es = encs (es.take k) ++ encs (es.drop k) := by
    unfold encs
    rw [← List.flatMap_append, List.take_append_drop]
  rw [this, List.length_append]
  omega
/-- What Put hands back. -/
def PutP (es : List En) (w : World) (e : Ending) (w' : World) : Prop := ∃ A n cp, e = .returned (.tuple #[.slice A n cp, .int .i64 (chkE es)]) ∧ BS w' A n (putE es) ∧ Below w.heap.size w w'

end Go.Proofs.YtnhokkdieijkhaaGreatDoor

namespace Go.Proofs.YtnhokkdieijkhaaGreatDoor
open Go.RowKit Go.Shelf

section
variable {P : Program} (w : World)
/-- append of entries (of whatever slice, nil let in) onto a row of the call's own. -/
theorem run_append_es (base : Nat) (t ty e : TypeId) (i : TypeInfo) (z : Value) (ht : P.underlying t = some (.slice e)) (hi : P.info? e = some i) (hz : i.zero = some z) (hsize : i.size = 4) (hby : i.bytes = 32) (hzs : z.cells.size = 4)
    (A0 : Option Addr) (n0 c0 : Nat) (l0 : List En) (hown : w.ownsRow base e 4 (.slice A0 n0 c0) n0 (ecs l0)) (A : Option Addr) (m c : Nat) (l : List En) (hr : ES w A m l) (hb : n0 + m ≤ 400000000) (hbase : base ≤ w.heap.size) :
    ∃ A' c' w', (Builtin.append_ #[t, t] ty #[.slice A0 n0 c0, .slice A m c]).run P w = .ok (.slice A' (n0 + m) c') w' ∧ w'.ownsRow base e 4 (.slice A' (n0 + m) c') (n0 + m) (ecs (l0 ++ l)) ∧
      w.grownBy w' (Value.slice A0 n0 c0).ownBlock ∧ ((Value.slice A' (n0 + m) c').ownBlock = (Value.slice A0 n0 c0).ownBlock ∨ (Value.slice A' (n0 + m) c').ownBlock = some w.heap.size) := by
  rcases A with _ | ad
  · have hm : m = 0 := by
      rcases Nat.eq_zero_or_pos m with h0 | h0
      · exact h0
      · obtain ⟨b, o, h, _⟩ := hr.2 h0
        cases h
    subst hm
    have hl : l = [] := List.eq_nil_of_length_eq_zero hr.1
    subst hl
    refine ⟨A0, c0, w, ?_, by simpa using hown, World.grownBy.refl w _, .inl rfl⟩
    rcases hown.2 with ⟨h1, h2⟩ | ⟨g, cap, cur, h1, _, _, hnc, _⟩
    · injection h1 with h1 h3 h4
      subst h1 h3 h4
      simp [Builtin.append_, run_underlying ht, sizeOf, typeInfo, hi, Builtin.lenOf, Builtin.firstCells]
    · injection h1 with h1 h3 h4
      subst h1 h4
      simp [Builtin.append_, run_underlying ht, sizeOf, typeInfo, hi, Builtin.lenOf, Builtin.firstCells, hnc, storeCells]
  · obtain ⟨v', w', hrun, h2, h3, _, h5⟩ := run_append_own_at (P := P) w base t ty e i z 4 32 ht hi hz hsize hby hzs (by omega) _ n0 _ hown ad m c (ecs l) (by rw [ecs_length, hr.1])
      (hr.news rfl) (ecs_one l) (by unfold maxLen; omega) (by omega) hbase
    have hv : ∃ A' c', v' = .slice A' (n0 + m) c' := by
      rcases h2.2 with ⟨h6, h7⟩ | ⟨g, cap, cur, h6, _⟩
      · exact ⟨none, 0, by rw [h6, h7]⟩
      · exact ⟨_, _, h6⟩
    obtain ⟨A', c', rfl⟩ := hv
    exact ⟨A', c', w', hrun, by rw [ecs_append]; exact h2, h3, h5⟩
theorem wp_append_es {o : Oper} {a : Act} {K : Act → World → Prop} {Q : Exit → Act → World → Prop} (s x : Operand) (t : TypeId)
    (ho : o.op = .call { callee := .builtin .append, args := #[s, x], argTypes := #[t, t] })
    (base : Nat) (e : TypeId) (i : TypeInfo) (z : Value) (ht : P.underlying t = some (.slice e)) (hi : P.info? e = some i) (hz : i.zero = some z) (hsize : i.size = 4) (hby : i.bytes = 32) (hzs : z.cells.size = 4)
    (A0 : Option Addr) (n0 c0 : Nat) (l0 : List En) (hs : a.eval s = .slice A0 n0 c0) (hown : w.ownsRow base e 4 (.slice A0 n0 c0) n0 (ecs l0))
    (A : Option Addr) (m c : Nat) (l : List En) (hx : a.eval x = .slice A m c) (hr : ES w A m l) (hb : n0 + m ≤ 400000000) (hbase : base ≤ w.heap.size)
    (h : ∀ A' c' w', w'.ownsRow base e 4 (.slice A' (n0 + m) c') (n0 + m) (ecs (l0 ++ l)) → w.grownBy w' (Value.slice A0 n0 c0).ownBlock →
      ((Value.slice A' (n0 + m) c').ownBlock = (Value.slice A0 n0 c0).ownBlock ∨ (Value.slice A' (n0 + m) c').ownBlock = some w.heap.size) → K (a.put o.dst (.slice A' (n0 + m) c')) w') : o.wp P a w K Q := by
  obtain ⟨A', c', w', hr, h2, h3, h4⟩ := run_append_es (P := P) w base t o.type e i z ht hi hz hsize hby hzs A0 n0 c0 l0 hown A m c l hr hb hbase
  unfold Oper.wp execOp
  simp only [ho, resolve, invoke, builtin, Sem.run_bind, Sem.run_pure, Result.andThen_ok, List.map_toArray, List.map_cons, List.map_nil, hs, hx, hr]
  exact h A' c' w' h2 h3 h4
theorem wpList_append_es {ops : Array Oper} {rest : List Oper} {o : Oper} {a : Act} {Q : Exit → Act → World → Prop} (hgd : o.guard = none) (s x : Operand) (t : TypeId)
    (ho : o.op = .call { callee := .builtin .append, args := #[s, x], argTypes := #[t, t] })
    (base : Nat) (e : TypeId) (i : TypeInfo) (z : Value) (ht : P.underlying t = some (.slice e)) (hi : P.info? e = some i) (hz : i.zero = some z) (hsize : i.size = 4) (hby : i.bytes = 32) (hzs : z.cells.size = 4)
    (A0 : Option Addr) (n0 c0 : Nat) (l0 : List En) (hs : a.eval s = .slice A0 n0 c0) (hown : w.ownsRow base e 4 (.slice A0 n0 c0) n0 (ecs l0))
    (A : Option Addr) (m c : Nat) (l : List En) (hx : a.eval x = .slice A m c) (hr : ES w A m l) (hb : n0 + m ≤ 400000000) (hbase : base ≤ w.heap.size)
    (h : ∀ A' c' w', w'.ownsRow base e 4 (.slice A' (n0 + m) c') (n0 + m) (ecs (l0 ++ l)) → w.grownBy w' (Value.slice A0 n0 c0).ownBlock →
      ((Value.slice A' (n0 + m) c').ownBlock = (Value.slice A0 n0 c0).ownBlock ∨ (Value.slice A' (n0 + m) c').ownBlock = some w.heap.size) → wpList P ops Q rest (a.put o.dst (.slice A' (n0 + m) c')) w') : wpList P ops Q (o :: rest) a w :=
  wpList_plain hgd fun _ hK => wp_append_es w s x t ho base e i z ht hi hz hsize hby hzs A0 n0 c0 l0 hs hown A m c l hx hr hb hbase fun A' c' w' h2 h3 h4 => hK _ _ (h A' c' w' h2 h3 h4)
end

/-- append of a number of zero values (append(s, make([]T, n)...)). -/
theorem wpList_append_make {P : Program} {w : World} {ops : Array Oper} {rest : List Oper} {o : Oper} {a : Act} {Q : Exit → Act → World → Prop} (hgd : o.guard = none) (s x : Operand) (t tn : TypeId)
    (ho : o.op = .call { callee := .builtin .append, args := #[s, x], argTypes := #[t, tn] }) (v u r : Value) (w' : World) (hs : a.eval s = v) (hx : a.eval x = u)
    (hr : (Builtin.append_ #[t, tn] o.type #[v, u]).run P w = .ok r w') (h : wpList P ops Q rest (a.put o.dst r) w') : wpList P ops Q (o :: rest) a w :=
  wpList_plain hgd fun _ hK => by
    unfold Oper.wp execOp
    simp only [ho, resolve, invoke, builtin, Sem.run_bind, Sem.run_pure, Result.andThen_ok, List.map_toArray, List.map_cons, List.map_nil, hs, hx, hr]
    exact hK _ _ h
/-- A row that a call makes, in a later world. -/
theorem own_below {w w1 w2 : World} {e : TypeId} {v : Value} {n : Nat} {xs : List Value} (hb : Below w.heap.size w w1) (h : w1.ownsRow w.heap.size e 4 v n xs) (hg : w1.grownBy w2 v.ownBlock) : Below w.heap.size w w2 :=
  hb.trans ⟨hg.os, hg.tape, hg.output, hg.size, fun k hk => hg.block k (Nat.lt_of_lt_of_le hk hb.size) (fun ee => by have := (h.lt k ee.symm).1; omega)⟩
theorem zeroCells_ec (k : Nat) : (Builtin.zeroCells (Value.agg (ec ⟨0, 0, 0, []⟩).toArray).cells k).size = k * 4 := by
  simp [Builtin.zeroCells, Value.cells, ec]

end Go.Proofs.YtnhokkdieijkhaaGreatDoor

namespace Go.Proofs.YtnhokkdieijkhaaGreatDoor
open Go.RowKit Go.Shelf

/-- How many there are behind k of two rows, and which. -/
def szs (n m k : Nat) : Nat := if k = 0 then 0 else if k = 1 then n else n + m
def acc (a b : List En) (k : Nat) : List En := if k = 0 then [] else if k = 1 then a else a ++ b

end Go.Proofs.YtnhokkdieijkhaaGreatDoor

namespace Go.Proofs.YtnhokkdieijkhaaGreatDoor
open Go.RowKit Go.Shelf

theorem zsize_E : (Tryz.prog.info? 102).map (fun i => (i.zero, i.size)) = some (some (.agg (ec ⟨0, 0, 0, []⟩).toArray), 4) := by kernel_rfl
theorem own_le {w : World} {base : Nat} {e : TypeId} {A : Option Addr} {n c : Nat} {xs : List Value} (h : w.ownsRow base e 4 (.slice A n c) n xs) : n ≤ c ∧ c ≤ 9223372036854775807 := by
  rcases h.2 with ⟨h1, h2⟩ | ⟨g, cap, cur, h1, _, _, h2, h3, _⟩
  · injection h1 with _ _ h1
    omega
  · injection h1 with _ _ h1
    unfold maxLen at h3
    omega
/-- A slice of entries, and its error. -/
def EsQ (es : List En) (z : Int) (w : World) (en : Ending) (w' : World) : Prop := ∃ A n c, en = .returned (.tuple #[.slice A n c, .int .i64 z]) ∧ ES w' A n es ∧ (n ≤ c ∧ c ≤ 9223372036854775807) ∧ Below w.heap.size w w'
theorem EsQ.nil {w w' : World} {es : List En} {z : Int} (he : es = []) (hb : Below w.heap.size w w') : EsQ es z w (.returned (.tuple #[.slice none 0 0, .int .i64 z])) w' := by
  subst he
  exact ⟨none, 0, 0, rfl, ES.nil, ⟨Nat.le_refl _, Nat.zero_le _⟩, hb⟩

end Go.Proofs.YtnhokkdieijkhaaGreatDoor

namespace Go.Proofs.YtnhokkdieijkhaaGreatDoor
open Go.RowKit Go.Shelf

theorem fnd_range (es : List En) (nm : List UInt8) : fnd es nm < 0 ∨ ∃ k : Nat, fnd es nm = (k : Int) ∧ k < es.length := by
  unfold fnd
  split
  · rename_i h
    exact .inr ⟨_, rfl, h⟩
  · exact .inl (by omega)
/-- What lies behind place k, whatever the capacity. -/
theorem ES.behind {w : World} {b o n c : Nat} {es : List En} (h : ES w (some ⟨b, o, none⟩) n es) (k : Nat) (hk : k ≤ n) (hc : n ≤ c) : ∃ A', (if c = k then some (⟨b, o, none⟩ : Addr) else some ⟨b, o + k * 4, none⟩) = A' ∧ ES w A' (n - k) (es.drop k) := by
  have hd := h.drop hk hc
  refine ⟨_, rfl, ?_⟩
  split
  · rename_i h1
    rw [if_pos h1] at hd
    exact hd
  · rename_i h1
    rw [if_neg h1] at hd
    simp only [Option.map_some, add_plain] at hd
    exact hd

end Go.Proofs.YtnhokkdieijkhaaGreatDoor

namespace Go.Proofs.YtnhokkdieijkhaaGreatDoor
open Go.RowKit

/-- Operations that never begin a call. -/
def plainOp : Op → Bool
  | .move _ | .load .. | .fieldAddr .. | .nilCheck _ => true
  | _ => false

theorem plain_noEnter {ρ : Operand → Value} {o : Oper} (h : plainOp o.op = true) {P : Program} {w w' : World} {f : FuncId} {args : Array Value} : (execOp ρ o).run P w ≠ .ok (.enter f args) w' := by
  unfold execOp
  cases ho : o.op <;> rw [ho] at h <;> first | (simp [plainOp] at h; done) | skip
  case move x => simp
  case load t x =>
    simp only [Sem.run_bind]
    cases (Instr.loadAt t (ρ x)).run P w <;> simp [Result.andThen]
  case fieldAddr s x fl =>
    simp only [Sem.run_bind]
    cases (Instr.fieldAt s (ρ x) fl).run P w <;> simp [Result.andThen]
  case nilCheck x =>
    dsimp only
    split
    · simp [runtimePanic, goPanic, Sem.run_bind, Result.andThen, Sem.run]
    · simp [runtimePanic, goPanic, Sem.run_bind, Result.andThen, Sem.run]
    · simp [runtimePanic, goPanic, Sem.run_bind, Result.andThen, Sem.run]
    · split
      · simp [runtimePanic, goPanic, Sem.run_bind, Result.andThen, Sem.run]
      · simp only [Sem.run_bind, run_program, Result.andThen]
        split
        · split <;> simp [unsupported, Sem.run]
        · simp
      · simp
    · simp

section
variable {F : Fence} {m : Nat} {P : Program} {md : Region.Mode} {ops : Array Oper} {w : World}
theorem wpIn_of_still {o : Oper} {a : Act} {K : Act → Prop} {K' : Act → World → Prop} {Q : Exit → Act → World → Prop} (hp : plainOp o.op = true) (h : ∀ a, K a → K' a w) (hh : o.still P a w K) : o.wpIn F m P a w K' Q := by
  have hc : ∀ c, o.op ≠ .call c := fun c e => by rw [e] at hp; cases hp
  have hd : ∀ c, o.op ≠ .defer c := fun c e => by rw [e] at hp; cases hp
  unfold Oper.still at hh
  cases hr : (execOp a.eval o).run P w with
  | ok x w' =>
    rw [hr] at hh
    cases x <;> simp only [Oper.stillUpon] at hh
    case value v =>
      obtain ⟨rfl, hk⟩ := hh
      exact Did.wpIn hc hd (.inl hr) (h _ hk)
    case skip =>
      obtain ⟨rfl, hk⟩ := hh
      exact Did.wpIn hc hd (.inr ⟨hr, rfl⟩) (h _ hk)
    case enter f args => exact absurd hr (plain_noEnter hp)
  | halt x w' =>
    rw [hr] at hh
    exact hh.elim
theorem about_plain {o : Oper} {a : Act} (hp : plainOp o.op = true) : ∀ f, o.about P w a.eval = some f → F.fn f := fun f hf => by
  unfold Oper.about at hf
  split at hf
  · rename_i hc
    rw [hc] at hp
    cases hp
  · cases hf
theorem wpOpIn_of_stOp {i : Nat} {a : Act} {K : Act → Prop} {K' : Act → World → Prop} {Q : Exit → Act → World → Prop} (hp : ∀ o, ops[i]? = some o → plainOp o.op = true) (h : ∀ a, K a → K' a w) (hh : stOp P ops w i K a) : wpOpIn F m P ops Q i K' a w := by
  unfold stOp at hh
  unfold wpOpIn
  split
  · rename_i ho; simp only [ho] at hh; exact h _ hh
  · rename_i o ho
    simp only [ho] at hh
    split
    · rename_i hw; simp only [hw, if_true] at hh; exact wpIn_of_still (hp o ho) h hh
    · rename_i hw; simp only [hw] at hh; exact ⟨about_plain (hp o ho), h _ hh⟩
theorem wpAnyIn_of_head {n g : Nat} {L : Array Bool → Act → Prop} {Q : Exit → Act → World → Prop} (hp : ∀ i o, i < n → ops[i]? = some o → plainOp o.op = true) (hL : ∀ listed a, L listed a → wpAnyIn F m P md ops Q g listed a w) :
    ∀ (f : Nat) (listed : Array Bool) (a : Act), wpAnyL P md ops w n L f listed a → wpAnyIn F m P md ops Q (f + g) listed a w
  | 0, listed, a, h => by rw [Nat.zero_add]; exact hL _ _ h
  | f + 1, listed, a, h => by
    rw [show f + 1 + g = (f + g) + 1 by omega]
    exact ⟨fun h0 => absurd h0 h.1, fun i hi => wpOpIn_of_stOp (fun o ho => hp i o (h.2 i hi).1 ho) (fun a' h' => wpAnyIn_of_head hp hL f _ a' h') (h.2 i hi).2⟩
/-- The region: n operations that read, then one. -/
theorem wpIn_region_still_one {id : Nat} {Q : Exit → Act → World → Prop} {a : Act} {l : List Oper} (n : Nat) (o : Oper) (hm : P.follows .mixedOrders = true) (hB : Region.lexTailB .any l.toArray n = true) (hlast : l.drop n = [o]) (hp : (l.take n).all (fun o => plainOp o.op) = true)
    (h : wpStill P l.toArray w.drew (fun a' => wpListIn F m P l.toArray Q [o] a' w.drew) (l.take n) a) : (Code.region id l.toArray true).wpIn F m P Q a w := by
  simp only [Region.lexTailB, Bool.and_eq_true, decide_eq_true_eq] at hB
  obtain ⟨⟨⟨⟨hsel, hn⟩, hs⟩, hc⟩, hlex⟩ := hB
  have hn' : n < l.length := by simpa using hn
  have hlen : l.length = n + 1 := by
    have := congrArg List.length hlast
    simp at this
    omega
  have htl : (l.take n).length = n := by simp; omega
  have hon : l[n]? = some o := by
    have := congrArg (fun x => x[0]?) hlast
    simpa [List.getElem?_drop] using this
  have inv0 : HeadInv .any l.toArray n (Array.replicate l.toArray.size false) :=
    ⟨by simp, fun j oj _ hl => (by rw [getD_replicate_false] at hl; cases hl), fun t _ ht => getD_in (by simpa using ht) (getD_replicate_false _ _)⟩
  have H := wpAnyL_lex (md := .any) (g := l.toArray.size - n) hsel hs hc hn (l.take n) 0 _ a (fun j hj => by
    have hj' : j < n := by rw [htl] at hj; exact hj
    simp [hj']) (by simpa using htl) inv0 (by rw [htl]; exact hlex) h
  refine wpIn_region_any hm ?_
  have hp' : ∀ i o, i < n → l.toArray[i]? = some o → plainOp o.op = true := fun i o hi ho => by
    have hm : o ∈ l.take n := List.mem_of_getElem? (i := i) (by rw [List.getElem?_take]; simpa [hi] using ho)
    exact (List.all_eq_true.1 hp) o hm
  have := wpAnyIn_of_head (F := F) (m := m) (Q := Q) (g := l.toArray.size - n) hp' (fun listed a' hL => by
    have hg : l.toArray.size - n = 1 := by simp; omega
    rw [hg] at hL ⊢
    obtain ⟨hq, hl⟩ := hL
    simp only [Region.seqB, Bool.and_eq_true, decide_eq_true_eq] at hq
    refine ⟨fun h0 => absurd h0 (by rw [hq.1]; simp), fun i hi => ?_⟩
    obtain rfl : i = n := by rw [hq.1] at hi; simpa using hi
    unfold wpOpIn
    simp only [List.getElem?_toArray, hon]
    have hrd : Region.ready .any l.toArray (listed.setIfInBounds i true) = [] := by simpa using hq.2
    unfold wpListIn at hl
    split
    · rename_i hw
      rw [if_pos hw] at hl
      exact Oper.wpIn_mono (fun a w hh => ⟨hrd, hh⟩) hl
    · rename_i hw
      rw [if_neg hw] at hl
      exact ⟨hl.1, hrd, hl.2⟩) _ _ _ H
  rw [htl, show n + (l.toArray.size - n) = l.toArray.size by simp; omega] at this
  exact this
theorem Did.listIn {o : Oper} {a : Act} {w' : World} {v : Value} {rest : List Oper} {Q : Exit → Act → World → Prop} (hg : o.guard = none) (hc : ∀ c, o.op ≠ .call c) (hd : ∀ c, o.op ≠ .defer c) (h : Did P o a w v w') (hK : wpListIn F m P ops Q rest (a.put o.dst v) w') : wpListIn F m P ops Q (o :: rest) a w := by
  have hw : Region.wanted o (yielded ops a.tmps) = true := by simp [Region.wanted, hg]
  unfold wpListIn
  rw [if_pos hw]
  exact h.wpIn hc hd hK
theorem wpListIn_alloc_any {o : Oper} {a : Act} {rest : List Oper} {Q : Exit → Act → World → Prop} (hg : o.guard = none) (ty : TypeId) (ho : o.op = .alloc ty) (z : Value) (hz : (P.info? ty).bind (·.zero) = some z)
    (h : ∀ w', w'.heap[w.heap.size]? = some (.cells z.cells ty (0, 0)) → w'.heap.size = w.heap.size + 1 → Below w.heap.size w w' → wpListIn F m P ops Q rest (a.put o.dst (.pointer (some ⟨w.heap.size, 0, none⟩))) w') : wpListIn F m P ops Q (o :: rest) a w :=
  (did_alloc ty ho z hz).listIn hg (by rw [ho]; intro c h; cases h) (by rw [ho]; intro c h; cases h) (h _ (heap_alloc_new w _) (by simp) ((Below.refl _ _).alloc (Nat.le_refl _) _))
theorem wpListIn_store_any {o : Oper} {a : Act} {rest : List Oper} {Q : Exit → Act → World → Prop} (hgd : o.guard = none) (ty : TypeId) (x y : Operand) (ho : o.op = .store ty x y) (g : Nat) (cells : Array Value) (hx : a.eval x = .pointer (some ⟨g, 0, none⟩)) (hy : a.eval y = .agg cells)
    (t : TypeId) (old : Array Value) (hg : w.heap[g]? = some (.cells old t (0, 0))) (hi : (P.info? ty).map (·.size) = some cells.size) (hold : old.size = cells.size) (h1 : cells.all (·.oneCell') = true)
    (h : ∀ w', w'.heap[g]? = some (.cells cells t (0, 0)) → w'.heap.size = w.heap.size → Keep (· ≠ g) w w' → wpListIn F m P ops Q rest (a.put o.dst undef) w') : wpListIn F m P ops Q (o :: rest) a w :=
  (did_store ty x y ho g cells hx hy t old hg hi hold h1).listIn hgd (by rw [ho]; intro c h; cases h) (by rw [ho]; intro c h; cases h) (h _ (setRow_heap w g old cells t _ hg) (by simp) (setRow_keep g cells))
theorem wpListIn_update_any {o : Oper} {a : Act} {rest : List Oper} {Q : Exit → Act → World → Prop} {b : Nat} {z : List UInt8} {G : Int → List UInt8} (hgd : o.guard = none) (h : IsMap w b z G) (t k e : TypeId) (mo x y : Operand) (ho : o.op = .mapUpdate t mo x y)
    (ht : P.underlying t = some (.map k e)) (hk : P.underlying k = some (.int .i64)) (i : Int) (l : List UInt8) (hm : a.eval mo = .map (some b)) (hx : a.eval x = .int .i64 i) (hy : a.eval y = .agg (bc l).toArray)
    (hK : ∀ w', IsMap w' b z (fun j => if j = i then l else G j) → w.grownBy w' (some b) → w'.heap.size = w.heap.size → wpListIn F m P ops Q rest (a.put o.dst undef) w') : wpListIn F m P ops Q (o :: rest) a w := by
  obtain ⟨w', hd, h1, h2, h3⟩ := h.did_update (P := P) (o := o) (a := a) mo x y ho ht hk i l hm hx hy
  exact hd.listIn hgd (by rw [ho]; intro c h; cases h) (by rw [ho]; intro c h; cases h) (hK w' h1 h2 h3)
end
end Go.Proofs.YtnhokkdieijkhaaGreatDoor

namespace Go.Proofs.YtnhokkdieijkhaaGreatDoor
open Go.RowKit Go.Shelf
attribute [local go_sem] Oper.semAt_some

theorem ES.keepK {K : Nat → Prop} {w w' : World} {A : Option Addr} {n : Nat} {es : List En} (h : ES w A n es) (hk : Keep K w w') (hA : 0 < n → ∀ ad, A = some ad → K ad.block) : ES w' A n es :=
  ⟨h.1, fun hn => by
    obtain ⟨b, o, e, hc⟩ := h.2 hn
    exact ⟨b, o, e, fun j hj i v hv => (World.cell?_of_block (hk.block b (hA hn _ e))).trans (hc j hj i v hv)⟩⟩
theorem EB.load {w : World} {g : Nat} {t : TypeId} {e : En} (h : EB w g t e) : ∀ j u, (ec e)[j]? = some u → w.cell? ((⟨g, 0, none⟩ : Addr).add j) = some u := fun j u hu => by
  rw [add_plain, Nat.zero_add]
  exact h.cell j u hu
theorem Keep.bel {K : Nat → Prop} {a w w' : World} (h : Keep K a w) (hK : ∀ k, K k → k < a.heap.size) (hb : Below w.heap.size w w') : Keep K a w' :=
  h.trans ⟨hb.os, hb.tape, hb.output, hb.size, fun k hk => hb.block k (Nat.lt_of_lt_of_le (hK k hk) h.size)⟩

end Go.Proofs.YtnhokkdieijkhaaGreatDoor

namespace Go.Proofs.YtnhokkdieijkhaaGreatDoor
open Go.RowKit Go.Shelf
attribute [local go_sem] Oper.semAt_some

theorem frm_le (es : List En) (c : Nat) : frm es c ≤ es.length := List.findIdx_le_length
end Go.Proofs.YtnhokkdieijkhaaGreatDoor

namespace Go.Proofs.YtnhokkdieijkhaaGreatDoor
open Go.RowKit Go.Shelf
attribute [local go_sem] Oper.semAt_some

theorem wpListIn_append_es {F : Fence} {m : Nat} {P : Program} (w : World) {ops : Array Oper} {rest : List Oper} {o : Oper} {a : Act} {Q : Exit → Act → World → Prop}
    (hgd : o.guard = none) (s x : Operand) (t : TypeId) (hop : o.op = Op.call { callee := Callee.builtin Builtin.append, args := #[s, x], argTypes := #[t, t] })
    (base : Nat) (e : TypeId) (i : TypeInfo) (z : Value) (ht : P.underlying t = some (.slice e)) (hi : P.info? e = some i) (hz : i.zero = some z) (hsize : i.size = 4) (hby : i.bytes = 32) (hzs : z.cells.size = 4)
    (A0 : Option Addr) (n0 c0 : Nat) (l0 : List En) (hs : a.eval s = .slice A0 n0 c0) (hown : w.ownsRow base e 4 (.slice A0 n0 c0) n0 (ecs l0))
    (A : Option Addr) (k c : Nat) (l : List En) (hx : a.eval x = .slice A k c) (hr : ES w A k l) (hb : n0 + k ≤ 400000000) (hbase : base ≤ w.heap.size)
    (h : ∀ A' c' w', w'.ownsRow base e 4 (.slice A' (n0 + k) c') (n0 + k) (ecs (l0 ++ l)) → w.grownBy w' (Value.slice A0 n0 c0).ownBlock → wpListIn F m P ops Q rest (a.put o.dst (.slice A' (n0 + k) c')) w') : wpListIn F m P ops Q (o :: rest) a w := by
  refine wpListIn_plain hgd fun K hK' => ?_
  obtain ⟨A', c', w', hrun, r1, r2, _⟩ := run_append_es (P := P) w base t o.type e i z ht hi hz hsize hby hzs A0 n0 c0 l0 hown A k c l hr hb hbase
  unfold Oper.wpIn
  refine ⟨?_, ?_⟩
  · simp [Oper.about, hop, resolve, Target.leads, Sem.run_pure]
  · rw [Oper.semAt_plain F _ _ (by rw [hop]; intro c hc'; cases hc')]
    simp [execOp, hop, resolve, invoke, builtin, hs, hx, hrun, Result.andThen]
    exact hK' _ _ (h A' c' w' r1 r2)

/-- What After knows between two rounds: what was taken lies in a row of its own. -/
structure AfI (W0 : World) (b : Nat) (most : Int) (pre : List En) (W : World) : Prop where
  keep : Keep (fun k => k ≠ b ∧ k < W0.heap.size) W0 W
  st : ∃ A c, W.heap[b]? = some (.cells #[.slice A pre.length c] 98 (0, 0)) ∧ W.ownsRow W0.heap.size 102 4 (.slice A pre.length c) pre.length (ecs pre)
  few : (pre.length : Int) ≤ max most 0
  blt : b < W0.heap.size
theorem own_ncells {W W' : World} {base : Nat} {t : TypeId} {v : Value} {n : Nat} {xs : List Value} {row : Option Nat} (h : W.ownsRow base t 4 v n xs) (hg : W.grownBy W' row) (hr : ∀ r, row = some r → ∃ o : Obj, W.heap[r]? = some o ∧ o.isCells = false) : W'.ownsRow base t 4 v n xs := by
  refine h.kept hg ?_
  rcases h.2 with ⟨h1, _⟩ | ⟨g, cap, cur, h1, _, h2, _⟩
  · left; rw [h1]; rfl
  · right
    rw [h1]
    intro e
    obtain ⟨o, ho, hc⟩ := hr g (by rw [← e]; rfl)
    rw [h2] at ho
    injection ho with ho
    subst ho
    cases hc
theorem AfI.grown {W0 : World} {b : Nat} {most : Int} {pre : List En} {W W' : World} {row : Option Nat} (h : AfI W0 b most pre W) (hg : W.grownBy W' row) (hr : ∀ r, row = some r → W0.heap.size ≤ r ∧ ∃ o : Obj, W.heap[r]? = some o ∧ o.isCells = false) : AfI W0 b most pre W' := by
  have hs := h.keep.size
  obtain ⟨A, c, h1, h2⟩ := h.st
  have hb := h.blt
  exact ⟨h.keep.trans ⟨hg.os, hg.tape, hg.output, hg.size, fun k hk => hg.block k (by omega) (fun e => by have := (hr k e.symm).1; omega)⟩,
    ⟨A, c, (hg.block _ (by omega) (fun e => by have := (hr b e.symm).1; omega)).trans h1, own_ncells h2 hg fun r e => (hr r e).2⟩, h.few, h.blt⟩
theorem AfI.own {W0 : World} {b : Nat} {most : Int} : OwnFrom W0.heap.size (AfI W0 b most) := fun _ _ _ _ h hg hr => h.grown hg hr
/-- What After knows behind its early return. -/
structure AfX (W0 : World) (b b6 b7 : Nat) (most : Int) (c : Code) (pre : List En) (W : World) : Prop where
  ret : c = Code.ret
  keep : Keep (fun k => k ≠ b6 ∧ k ≠ b7 ∧ k ≠ b ∧ k < W0.heap.size) W0 W
  st : ∃ A c, W.heap[b6]? = some (.cells #[.slice A pre.dropLast.length c] 98 (0, 0)) ∧ W.ownsRow W0.heap.size 102 4 (.slice A pre.dropLast.length c) pre.dropLast.length (ecs pre.dropLast)
  no : W.heap[b7]? = some (.cells #[.bool false] 4 (0, 0))
  few : (pre.dropLast.length : Int) = max most 0
  ne : pre ≠ []
  lt : b6 < W0.heap.size ∧ b7 < W0.heap.size
theorem AfX.own {W0 : World} {b b6 b7 : Nat} {most : Int} {c : Code} : OwnFrom W0.heap.size (AfX W0 b b6 b7 most c) := fun pre W W' row h hg hr => by
  have hs := h.keep.size
  obtain ⟨A, cc, h1, h2⟩ := h.st
  have hl := h.lt
  exact ⟨h.ret, h.keep.trans ⟨hg.os, hg.tape, hg.output, hg.size, fun k hk => hg.block k (by omega) (fun e => by have := (hr k e.symm).1; omega)⟩,
    ⟨A, cc, (hg.block _ (by omega) (fun e => by have := (hr b6 e.symm).1; omega)).trans h1, own_ncells h2 hg fun r e => (hr r e).2⟩, (hg.block _ (by omega) (fun e => by have := (hr b7 e.symm).1; omega)).trans h.no, h.few, h.ne, h.lt⟩
/-- The loop's variable in a block of its own. -/
def AfA (W0 : World) (f : Nat → Act) (x : En) (a : Act) (W : World) : Prop := ∃ q, W0.heap.size ≤ q ∧ EB W q 102 x ∧ a = f q
theorem AfA.own {W0 : World} {f : Nat → Act} {x : En} {a : Act} : OwnFrom W0.heap.size (fun (_ : Unit) W => AfA W0 f x a W) := fun _ W W' row h hg hr => by
  obtain ⟨q, h1, h2, h3⟩ := h
  refine ⟨q, h1, (hg.block q h2.lt (fun e => ?_)).trans h2, h3⟩
  obtain ⟨o, ho, hc⟩ := (hr q e.symm).2
  unfold EB at h2
  rw [h2] at ho
  injection ho with ho
  subst ho
  cases hc
/-- What After hands back. -/
def AftP (es : List En) (c : Nat) (most : Int) (w : World) (en : Ending) (w' : World) : Prop := ∃ A n cp, en = .returned (.tuple #[.slice A n cp, .bool (aftB es c most)]) ∧ ES w' A n (aftL es c most) ∧ n ≤ cp ∧ Below w.heap.size w w'

theorem foldl_one (p : Tmp) (v : Value) (t : Array Value) : (#[p].zip #[v]).foldl (fun (t : Array Value) (x : Tmp × Value) => match x with | (p, v) => t.setIfInBounds p v) t = t.setIfInBounds p v := by simp
theorem Keep.trans2 {b b6 b7 B : Nat} {a w w' : World} (h : Keep (fun k => k ≠ b ∧ k < B) a w) (k : Keep (fun k => k ≠ b6 ∧ k ≠ b7) w w') : Keep (fun k => k ≠ b6 ∧ k ≠ b7 ∧ k ≠ b ∧ k < B) a w' :=
  (h.mono fun _ hk => ⟨hk.2.2.1, hk.2.2.2⟩).trans (k.mono fun _ hk => ⟨hk.1, hk.2.1⟩)
theorem results_two {t u : TypeId} {fn : Func} {p q : Tmp} (h : fn.results = #[.cell p t, .cell q u]) (tmps : Array Value) (w : World) (a b : Addr) (v x : Value) (hp : tmps.getD p undef = .pointer (some a)) (hq : tmps.getD q undef = .pointer (some b))
    (hu : (Tryz.prog.underlying t).map (fun d => match d with | .struct _ | .array _ _ => true | _ => false) = some false) (hu2 : (Tryz.prog.underlying u).map (fun d => match d with | .struct _ | .array _ _ => true | _ => false) = some false) (hc : w.cell? a = some v) (hc2 : w.cell? b = some x) :
    (results fn tmps).run Tryz.prog w = .ok (.tuple #[v, x]) w := by
  have hp' : tmps[p]?.getD undef = .pointer (some a) := by simpa using hp
  have hq' : tmps[q]?.getD undef = .pointer (some b) := by simpa using hq
  have one : ∀ (t : TypeId) (ad : Addr) (v : Value), (Tryz.prog.underlying t).map (fun d => match d with | .struct _ | .array _ _ => true | _ => false) = some false → w.cell? ad = some v → (loadVar t ad).run Tryz.prog w = .ok v w := by
    intro t ad v hu hc
    have hagg : (isAgg t).run Tryz.prog w = .ok false w := by
      cases hq : Tryz.prog.underlying t with
      | none => simp [hq] at hu
      | some d =>
        unfold isAgg
        rw [Sem.run_bind, run_underlying hq w]
        cases d <;> simp_all
    unfold loadVar
    rw [Sem.run_bind, hagg]
    simp [hc]
  simp [results, h, hp', hq', asAddr, one t a v hu hc, one u b x hu2 hc2]
theorem put_block {W : World} {k Dd : Nat} {o o' : Obj} (h : W.heap[k]? = some o) (hk : k ≠ Dd) : (W.putObj Dd o').heap[k]? = some o := by
  have hg := grownBy_putObj' W Dd o'
  exact (hg.block k (Array.getElem?_eq_some_iff.1 h).1 (fun e => hk (by simpa using e))).trans h
/-- Both results are stored; then the mark of the calls that wait is put away. -/
theorem fin2 {W : World} {b6 b7 D : Nat} {u6 u7 : Value} {t6 t7 : TypeId} (hne : b6 ≠ b7) (h6 : W.heap[b6]? = some (.cells #[u6] t6 (0, 0))) (h7 : W.heap[b7]? = some (.cells #[u7] t7 (0, 0))) (v6 v7 : Value) (hK : W.heap[D]? = some (.deferred (some []))) (hD6 : b6 < D) (hD7 : b7 < D) :
    ((W.setCell ⟨b6, 0, none⟩ v6).setCell ⟨b7, 0, none⟩ v7).heap[b6]? = some (.cells #[v6] t6 (0, 0)) ∧ ((W.setCell ⟨b6, 0, none⟩ v6).setCell ⟨b7, 0, none⟩ v7).heap[b7]? = some (.cells #[v7] t7 (0, 0)) ∧ ((W.setCell ⟨b6, 0, none⟩ v6).setCell ⟨b7, 0, none⟩ v7).heap[D]? = some (.deferred (some [])) := by
  have e6 : (W.setCell ⟨b6, 0, none⟩ v6).heap[b6]? = some (.cells #[v6] t6 (0, 0)) := by
    rw [setCell_eq_setRow _ _ _ _ _ _ _ h6, setRow_heap _ _ _ _ _ _ h6]
    simp
  have e7 : (W.setCell ⟨b6, 0, none⟩ v6).heap[b7]? = some (.cells #[u7] t7 (0, 0)) := (Below.heap_setCell _ ⟨b6, 0, none⟩ _ _ (fun e => hne e.symm)).trans h7
  refine ⟨(Below.heap_setCell _ ⟨b7, 0, none⟩ _ _ hne).trans e6, ?_, ?_⟩
  · rw [setCell_eq_setRow _ _ _ _ _ _ _ e7, setRow_heap _ _ _ _ _ _ e7]
    simp
  · rw [Below.heap_setCell _ ⟨b7, 0, none⟩ _ _ (by show D ≠ b7; omega), Below.heap_setCell _ ⟨b6, 0, none⟩ _ _ (by show D ≠ b6; omega)]
    exact hK
/-- Five blocks that a call lays. -/
theorem five (w : World) (a1 a2 a3 a4 a5 : Array Value) (t1 t2 t3 t4 t5 : TypeId) : ∃ W, (((((w.alloc (.cells a1 t1)).alloc (.cells a2 t2)).alloc (.cells a3 t3)).alloc (.cells a4 t4)).alloc (.cells a5 t5)) = W ∧ W.heap.size = w.heap.size + 5 ∧ Below w.heap.size w W ∧
    W.heap[w.heap.size]? = some (.cells a1 t1 (0, 0)) ∧ W.heap[w.heap.size + 1]? = some (.cells a2 t2 (0, 0)) ∧ W.heap[w.heap.size + 1 + 1]? = some (.cells a3 t3 (0, 0)) ∧ W.heap[w.heap.size + 1 + 1 + 1]? = some (.cells a4 t4 (0, 0)) ∧ W.heap[w.heap.size + 1 + 1 + 1 + 1]? = some (.cells a5 t5 (0, 0)) := by
  have s1 : (w.alloc (.cells a1 t1)).heap.size = w.heap.size + 1 := by simp
  have s2 : ((w.alloc (.cells a1 t1)).alloc (.cells a2 t2)).heap.size = w.heap.size + 1 + 1 := by simp
  have s3 : (((w.alloc (.cells a1 t1)).alloc (.cells a2 t2)).alloc (.cells a3 t3)).heap.size = w.heap.size + 1 + 1 + 1 := by simp
  have s4 : ((((w.alloc (.cells a1 t1)).alloc (.cells a2 t2)).alloc (.cells a3 t3)).alloc (.cells a4 t4)).heap.size = w.heap.size + 1 + 1 + 1 + 1 := by simp
  have n1 := heap_alloc_new w (.cells a1 t1)
  have n2 := heap_alloc_new (w.alloc (.cells a1 t1)) (.cells a2 t2)
  have n3 := heap_alloc_new ((w.alloc (.cells a1 t1)).alloc (.cells a2 t2)) (.cells a3 t3)
  have n4 := heap_alloc_new (((w.alloc (.cells a1 t1)).alloc (.cells a2 t2)).alloc (.cells a3 t3)) (.cells a4 t4)
  have n5 := heap_alloc_new ((((w.alloc (.cells a1 t1)).alloc (.cells a2 t2)).alloc (.cells a3 t3)).alloc (.cells a4 t4)) (.cells a5 t5)
  rw [s1] at n2
  rw [s2] at n3
  rw [s3] at n4
  rw [s4] at n5
  have b5 := Below.heap_alloc ((((w.alloc (.cells a1 t1)).alloc (.cells a2 t2)).alloc (.cells a3 t3)).alloc (.cells a4 t4)) (.cells a5 t5)
  have b4 := Below.heap_alloc (((w.alloc (.cells a1 t1)).alloc (.cells a2 t2)).alloc (.cells a3 t3)) (.cells a4 t4)
  have b3 := Below.heap_alloc ((w.alloc (.cells a1 t1)).alloc (.cells a2 t2)) (.cells a3 t3)
  have b2 := Below.heap_alloc (w.alloc (.cells a1 t1)) (.cells a2 t2)
  refine ⟨_, rfl, by simp, ((((((Below.refl _ _).alloc (Nat.le_refl _) _).alloc (by simp) _).alloc (by simp; omega) _).alloc (by simp; omega) _).alloc (by simp; omega) _), ?_, ?_, ?_, ?_, n5⟩
  · rw [b5 _ (by omega), b4 _ (by omega), b3 _ (by omega), b2 _ (by omega)]; exact n1
  · rw [b5 _ (by omega), b4 _ (by omega), b3 _ (by omega)]; exact n2
  · rw [b5 _ (by omega), b4 _ (by omega)]; exact n3
  · rw [b5 _ (by omega)]; exact n4

end Go.Proofs.YtnhokkdieijkhaaGreatDoor

namespace Go.Proofs.YtnhokkdieijkhaaGreatDoor
open Go.RowKit Go.Shelf

theorem encs_min (es : List En) : 20 * es.length ≤ (encs es).length := by
  induction es with
  | nil => exact Nat.zero_le _
  | cons e r ih =>
    rw [encs_cons, List.length_append, enc1_length, List.length_cons]
    omega
theorem Rd.blk {w : World} {q : Nat} {l : List UInt8} {e : Int} (h : Rd w q l e) : ∃ cs, w.heap[q]? = some (.cells cs 118 (0, 0)) := by
  obtain ⟨A, c, h⟩ := h
  exact ⟨_, h.1⟩
theorem own_type {w : World} {base : Nat} {t : TypeId} {v : Value} {n : Nat} {xs : List Value} (h : w.ownsRow base t 4 v n xs) {g : Nat} {cs : Array Value} {u : TypeId} {fr : Nat × Nat} (hg : w.heap[g]? = some (.cells cs u fr)) (ht : u ≠ t) : v.ownBlock ≠ some g := by
  intro he
  rcases h.2 with ⟨h1, _⟩ | ⟨g', cap', cur', h1, _, h2, _⟩
  · rw [h1] at he; cases he
  · rw [h1] at he
    obtain rfl : g' = g := by simpa [Value.ownBlock] using he
    rw [hg] at h2
    injection h2 with h2
    injection h2 with _ h2 _
    exact ht h2
theorem EB.set {w : World} {g : Nat} {t : TypeId} {e e' : En} (h : EB w g t e) (k : Nat) (v : Value) (he : (ec e').toArray = (ec e).toArray.setIfInBounds k v) : EB (w.setCell ⟨g, k, none⟩ v) g t e' := by
  unfold EB
  rw [setCell_eq_setRow _ _ _ _ _ _ _ h, setRow_heap _ _ _ _ _ _ h, he]
/-- Within a round of Get: the Reader, the entry that is read, the row of those that were. -/
structure GR (w : World) (q g : Nat) (s : List UInt8) (er : Int) (es : List En) (A : Option Addr) (c : Nat) (e : En) (W : World) : Prop where
  rd : Rd W q s er
  eb : EB W g 102 e
  row : W.ownsRow w.heap.size 102 4 (.slice A es.length c) es.length (ecs es)
  bel : Below w.heap.size w W
  hq : w.heap.size ≤ q
  hg : w.heap.size ≤ g
  qg : q ≠ g
  rg : (Value.slice A es.length c).ownBlock ≠ some g
section
variable {w W W' : World} {q g : Nat} {s s' : List UInt8} {er er' : Int} {es : List En} {A : Option Addr} {c : Nat} {e e' : En}
theorem GR.below (h : GR w q g s er es A c e W) (hb : Below W.heap.size W W') : GR w q g s er es A c e W' :=
  ⟨h.rd.kept hb, h.eb.below' hb, h.row.kept (below_grown hb) (Classical.em _), h.bel.trans (hb.mono h.bel.size), h.hq, h.hg, h.qg, h.rg⟩
theorem GR.read (h : GR w q g s er es A c e W) (hr : Rd W' q s' er') (hg : W.grownBy W' (some q)) : GR w q g s' er' es A c e W' := by
  obtain ⟨cs, hb⟩ := h.rd.blk
  have hq := h.hq
  exact ⟨hr, (hg.block g h.eb.lt (fun e => h.qg (by injection e with e; exact e.symm))).trans h.eb, h.row.kept hg (.inr (own_type h.row hb (by decide))),
    h.bel.trans ⟨hg.os, hg.tape, hg.output, hg.size, fun k hk => hg.block k (Nat.lt_of_lt_of_le hk h.bel.size) (fun e => by injection e with e; omega)⟩, h.hq, h.hg, h.qg, h.rg⟩
theorem GR.set (h : GR w q g s er es A c e W) (k : Nat) (v : Value) (he : (ec e').toArray = (ec e).toArray.setIfInBounds k v) : GR w q g s er es A c e' (W.setCell ⟨g, k, none⟩ v) := by
  have hg := h.hg
  exact ⟨h.rd.off h.eb (by decide) h.qg (fun j _ hj => Below.heap_setCell W ⟨g, k, none⟩ v j hj), h.eb.set k v he, h.row.kept (off_setCell W g k v) (.inr h.rg), h.bel.setCell (p := ⟨g, k, none⟩) hg v, h.hq, h.hg, h.qg, h.rg⟩
end

theorem gr_rd {w W W' : World} {q g : Nat} {s : List UInt8} {er : Int} {es : List En} {A : Option Addr} {c : Nat} {e : En} (h : GR w q g s er es A c e W) (hg : W.grownBy W' (Value.slice A es.length c).ownBlock) : Rd W' q s er := by
  rcases h.row.2 with ⟨h1, _⟩ | ⟨g', cap', cur', h1, _, h2, _⟩
  · rw [h1] at hg
    exact h.rd.kept ⟨hg.os, hg.tape, hg.output, hg.size, fun k hk => hg.block k hk (by simp [Value.ownBlock])⟩
  · have hq : q ≠ g' := by
      rintro rfl
      obtain ⟨cs, h3⟩ := h.rd.blk
      rw [h3] at h2
      injection h2 with h2
      injection h2 with _ h2 _
      exact absurd h2 (by decide)
    refine h.rd.off h2 (by decide) hq (fun k hk hne => hg.block k hk ?_)
    rw [h1]
    simp [Value.ownBlock]
    exact hne
set_option maxRecDepth 100000 in
set_option maxHeartbeats 4000000 in
theorem get_any (A : Option Addr) (n cp : Nat) (l : List UInt8) (w : World) (h : BS w A n l) (hn : n ≤ 10000000) : Calls Tryz.prog 62 #[.slice A n cp] w (EsQ (gotE l) (errE l) w) := by
  obtain ⟨i0, hi0, hz0, hz1, hz2⟩ := info_parts info_E
  have HI0 := Lib.hid hi0
  have HZ0 := Lib.hid hz0
  have HZ1 := Lib.hid hz1
  have HZ2 := Lib.hid hz2
  have HL := Lib.hid h
  have HN : Hid (l.length = n) := h.1
  clear h hi0 hz0 hz1 hz2
  go_enter Tryz.func62, Tryz.ntmps62
  go_wp2_with fail
  refine (newReader_any A n cp l w HL.out (by omega)).mono ?_
  rintro e w1 ⟨q, rfl, hrd, hb1, hq⟩
  have HRD := Lib.hid hrd
  have HB1 := Lib.hid hb1
  have HQ := Lib.hid hq
  clear hrd hb1 hq
  go_wp2_with fail
  go_loopg [4] n (fun gg s4 wr => ∃ k A2 c2, s4 = .slice A2 (reads k l).2.2.length c2 ∧ (reads k l).1.length ≤ gg ∧ Hid ((reads k l).2.1 = 0) ∧ Hid ((reads k l).2.2.length = k) ∧ Hid (Rd wr q (reads k l).1 0) ∧ Hid (wr.ownsRow w.heap.size 102 4 (.slice A2 (reads k l).2.2.length c2) (reads k l).2.2.length (ecs (reads k l).2.2)) ∧ Hid (Below w.heap.size w wr))
  case atStart => exact ⟨0, none, 0, rfl, by show l.length ≤ n; rw [HN.out]; exact Nat.le_refl _, rfl, rfl, HRD.out, World.ownsRow_nil _ _ _ _, HB1.out⟩
  case round =>
    obtain ⟨k, A2, c2, rfl, hgg, H0, HLK, HR, HROW, HW⟩ := hrel
    have HBK := Lib.hid (reads_back l k H0.out)
    have HMORE := fun hs => Lib.hid (reads_more k l H0.out hs)
    have HALL := fun j hj hs => Lib.hid (all_of j l hj hs)
    have HWD := Lib.hid (reads_wide l k)
    have HKL : Hid (20 * k + (reads k l).1.length ≤ n) := by
      show _ ≤ _
      have h1 := HBK.out
      have h2 := congrArg List.length h1
      rw [List.length_append, HN.out] at h2
      have h3 := encs_min (reads k l).2.2
      rw [HLK.out] at h3
      omega
    have HNXT := Lib.hid (reads_more k l H0.out)
    have hErr : ∀ j, j ≤ l.length → ((reads j l).2.1 ≠ 0 ∨ (reads j l).1 = []) → errE l = (if (reads j l).2.1 ≠ 0 then (reads j l).2.1 else chkE (reads j l).2.2) ∧ ((reads j l).2.1 = 0 → gotE l = if okB (reads j l).2.2 then (reads j l).2.2 else []) := by
      intro j hj hs
      have e := all_of j l hj hs
      refine ⟨by unfold errE; rw [e], fun h0 => ?_⟩
      unfold gotE errE
      rw [e, h0]
      unfold chkE
      cases okB (reads j l).2.2 <;> simp
    have HERR := Lib.hid hErr
    clear hErr HALL HBK HMORE
    generalize hrd : reads k l = R at *
    have HRDK := Lib.hid hrd
    clear hrd
    obtain ⟨s, er0, es⟩ := R
    dsimp only at *
    obtain rfl : k = es.length := HLK.out.symm
    by_cases hs : s = []
    · subst hs
      have hE := HERR.out es.length (by have := HKL.out; have := HN.out; omega) (.inr (by rw [HRDK.out]))
      rw [HRDK.out] at hE
      dsimp only at hE
      have h0 := H0.out
      rw [if_neg (by rw [h0]; simp)] at hE
      have HE1 := Lib.hid hE.1
      have HE2 := Lib.hid (hE.2 h0)
      clear hE h0
      have HES := Lib.hid (ES.of_own HROW.out)
      have HLE := Lib.hid (own_le HROW.out)
      have hel : es.length ≤ 100000000 := by have := HKL.out; omega
      go_wp2_with fail
      refine (left_any wr q _ _ HR.out).mono ?_
      rintro en w2 ⟨rfl, rfl⟩
      go_wp2_with fail
      refine (valid_any A2 es.length c2 es wr HES.out HWD.out hel).mono ?_
      rintro en w2 ⟨rfl, hb2⟩
      have HB2 := Lib.hid (HW.out.trans (hb2.mono HW.out.size))
      have HES2 := Lib.hid (HES.out.below hb2)
      clear hb2 HES hel HERR HNXT
      unfold chkE at HE1
      cases hok : okB es
      · rw [hok] at HE1 HE2
        clear hok
        go_wp2_with fail
        go_ret2
        rw [show errE l = 11 from HE1.out]
        exact EsQ.nil HE2.out HB2.out
      · rw [hok] at HE1 HE2
        clear hok
        go_wp2_with fail
        go_ret2
        rw [show errE l = 0 from HE1.out, show gotE l = es from HE2.out]
        exact ⟨A2, _, c2, rfl, HES2.out, HLE.out, HB2.out⟩
    · have hsp : 0 < s.length := List.length_pos_iff.2 hs
      have HN1 := Lib.hid (HNXT.out hs)
      have HERR1 := fun hx => Lib.hid (HERR.out (es.length + 1) (by have := HKL.out; have := HN.out; omega) (.inl hx))
      clear hs HNXT HERR
      have hsi : (0 : Int) < (s.length : Int) := by omega
      have HOWN : Hid (∀ j, (Value.slice A2 es.length c2).ownBlock = some j → j < wr.heap.size) := fun j e => (HROW.out.lt j e).2
      go_wp2_with fail
      refine (left_any wr q _ _ HR.out).mono ?_
      rintro en w2 ⟨rfl, rfl⟩
      go_upto_region 5 with (refine wpList_alloc_any rfl 102 rfl _ zero_E ?_; intro w3 hb3 hs3 hw3)
      have G3 : Hid (GR w q wr.heap.size s 0 es A2 c2 ⟨0, 0, 0, []⟩ w3) :=
        ⟨HR.out.kept hw3, hb3, HROW.out.kept (below_grown hw3) (Classical.em _), HW.out.trans (hw3.mono HW.out.size), HQ.out, HW.out.size, by have := HR.out.lt; omega, fun e => by have := HOWN.out _ e; omega⟩
      have HGL : Hid (w.heap.size ≤ wr.heap.size) := HW.out.size
      clear hb3 hs3 hw3 HR HROW HW HOWN
      generalize wr.heap.size = g at *
      go_wp2_with fail
      refine (u64r w3 q s 0 G3.out.rd).mono ?_
      rintro en w4 ⟨rfl, hr, hgr⟩
      have G4 : Hid (GR w q g (r1 s).1.1 (r1 s).1.2 es A2 c2 ⟨0, 0, 0, []⟩ w4) := G3.out.read hr hgr
      clear hr hgr G3
      change Hid _ at G4
      have c0 := G4.out.eb.c0
      have f0 := G4.out.eb.froz 0
      rw [show (rdN 8 (s, 0)).2 = (r1 s).2 from rfl]
      go_wp2_with fail
      have G5 : Hid (GR w q g (r1 s).1.1 (r1 s).1.2 es A2 c2 ⟨(r1 s).2, 0, 0, []⟩ (w4.setCell ⟨g, 0, none⟩ (.int .u64 ((r1 s).2 : Int)))) := G4.out.set 0 _ rfl
      clear c0 f0 G4
      generalize w4.setCell ⟨g, 0, none⟩ (.int .u64 ((r1 s).2 : Int)) = w5 at *
      refine (u32r w5 q _ _ G5.out.rd).mono ?_
      rintro en w6 ⟨rfl, hr, hgr⟩
      have G6 : Hid (GR w q g (r2 s).1.1 (r2 s).1.2 es A2 c2 ⟨(r1 s).2, 0, 0, []⟩ w6) := G5.out.read hr hgr
      clear hr hgr G5
      have c1 := G6.out.eb.c1
      have f1 := G6.out.eb.froz 1
      rw [show (rdN 4 ((r1 s).1.1, (r1 s).1.2)).2 = (r2 s).2 from rfl]
      go_wp2_with fail
      have G7 : Hid (GR w q g (r2 s).1.1 (r2 s).1.2 es A2 c2 ⟨(r1 s).2, (r2 s).2, 0, []⟩ (w6.setCell ⟨g, 1, none⟩ (.int .u32 ((r2 s).2 : Int)))) := G6.out.set 1 _ rfl
      clear c1 f1 G6
      generalize w6.setCell ⟨g, 1, none⟩ (.int .u32 ((r2 s).2 : Int)) = w7 at *
      refine (u32r w7 q _ _ G7.out.rd).mono ?_
      rintro en w8 ⟨rfl, hr, hgr⟩
      have G8 : Hid (GR w q g (r3 s).1.1 (r3 s).1.2 es A2 c2 ⟨(r1 s).2, (r2 s).2, 0, []⟩ w8) := G7.out.read hr hgr
      clear hr hgr G7
      have c2' := G8.out.eb.c2
      have f2 := G8.out.eb.froz 2
      rw [show (rdN 4 ((r2 s).1.1, (r2 s).1.2)).2 = (r3 s).2 from rfl]
      go_wp2_with fail
      have G9 : Hid (GR w q g (r3 s).1.1 (r3 s).1.2 es A2 c2 ⟨(r1 s).2, (r2 s).2, (r3 s).2, []⟩ (w8.setCell ⟨g, 2, none⟩ (.int .u32 ((r3 s).2 : Int)))) := G8.out.set 2 _ rfl
      clear c2' f2 G8
      generalize w8.setCell ⟨g, 2, none⟩ (.int .u32 ((r3 s).2 : Int)) = w9 at *
      refine (opaquer w9 q _ _ 24 (by omega) (by omega) G9.out.rd).mono ?_
      rintro en wA ⟨BA, cA, rfl, hbs, hr, hgr, _⟩
      have GA : Hid (GR w q g (r4 s).1.1 (r4 s).1.2 es A2 c2 ⟨(r1 s).2, (r2 s).2, (r3 s).2, []⟩ wA) := G9.out.read hr hgr
      have hcv := run_convert_bs wA BA _ cA _ hbs
      clear hr hgr G9 hbs
      change (convert _ _ (.slice BA (r4 s).2.length cA)).run _ _ = .ok (.string (txt (r4 s).2)) _ at hcv
      rw [show (rdO 24 ((r3 s).1.1, (r3 s).1.2)).2 = (r4 s).2 from rfl]
      have c3 := GA.out.eb.c3
      have f3 := GA.out.eb.froz 3
      go_wp2_with fail
      have GB : Hid (GR w q g (r4 s).1.1 (r4 s).1.2 es A2 c2 (one s) (wA.setCell ⟨g, 3, none⟩ (.string (txt (r4 s).2)))) := GA.out.set 3 _ rfl
      clear c3 f3 GA hcv
      generalize wA.setCell ⟨g, 3, none⟩ (.string (txt (r4 s).2)) = wB at *
      refine (err_any wB q _ _ GB.out.rd).mono ?_
      rintro en wC ⟨rfl, rfl⟩
      by_cases he : (r4 s).1.2 = 0
      · have hd : ((r4 s).1.2 != 0) = false := by simpa using he
        have HSH : Hid ((r4 s).1.1.length + 20 ≤ s.length) := by
          show _ ≤ _
          have := congrArg List.length (one_back s he)
          rw [List.length_append, enc1_length] at this
          omega
        have HE0 := Lib.hid he
        clear he HERR1
        have hecl := ec_length (one s)
        have HEA : Hid (ES (wB.alloc (.cells (ec (one s)).toArray 102)) (some ⟨wB.heap.size, 0, none⟩) 1 [one s]) := (EB.new wB 102 (one s)).es
        have hab : Below wB.heap.size wB (wB.alloc (.cells (ec (one s)).toArray 102)) := (Below.refl _ _).alloc (Nat.le_refl _) _
        have GC := Lib.hid (GB.out.below hab)
        have hnl : es.length + 1 ≤ 400000000 := by have := HKL.out; omega
        clear hab
        go_wp2_with (first
          | (refine wpList_load_row rfl 102 (.tmp 6) rfl _ rfl 102 (ec (one s)).toArray (0, 0) _ GB.out.eb Tryz.underlying102 rfl size_E ?_)
          | (at_builtin
             refine wpList_append_es (wB.alloc (.cells (ec (one s)).toArray 102)) rfl (.tmp 32) (.tmp 34) 98 rfl w.heap.size 102 i0 _ Tryz.underlying98 HI0.out HZ0.out HZ1.out HZ2.out rfl A2 es.length c2 es rfl GC.out.row (some ⟨wB.heap.size, 0, none⟩) 1 1 [one s] rfl HEA.out (by omega) GC.out.bel.size ?_
             intro A4 c4 wD ho hgr _
             have HRD4 := Lib.hid (gr_rd GC.out hgr)
             have HBD4 := Lib.hid (own_below GC.out.bel GC.out.row hgr)
             have HOD4 := Lib.hid ho
             clear ho hgr))
        go_roundg ((r4 s).1.1.length)
        case measure => have := HSH.out; omega
        case rel =>
          have h1 : (es ++ [one s]).length = es.length + 1 := by simp
          refine ⟨es.length + 1, A4, c4, ?_, ?_, ?_, ?_, ?_, ?_, HBD4.out⟩
          · rw [HN1.out]; show _ = Value.slice A4 (es ++ [one s]).length c4; rw [h1]
          · rw [HN1.out]; exact Nat.le_refl _
          · show _ = _; rw [HN1.out]; exact HE0.out
          · show _ = _; rw [HN1.out]; exact h1
          · rw [HN1.out]
            have := HRD4.out
            rw [HE0.out] at this
            exact this
          · rw [HN1.out]
            show wD.ownsRow _ _ _ (.slice A4 (es ++ [one s]).length c4) (es ++ [one s]).length _
            rw [h1]
            exact HOD4.out
      · have hd : ((r4 s).1.2 != 0) = true := by simpa using he
        have HE := HERR1 (by rw [HN1.out]; exact he)
        rw [HN1.out] at HE
        have HE1 : Hid (errE l = (r4 s).1.2) := by have := HE.out.1; dsimp only at this; rwa [if_pos he] at this
        have HE2 : Hid (gotE l = []) := if_neg (by rw [HE1.out]; exact he)
        clear he HE HERR1
        generalize (r4 s).1.2 = er at *
        go_wp2_with fail
        refine (err_any wB q _ _ GB.out.rd).mono ?_
        rintro en wC ⟨rfl, rfl⟩
        go_wp2_with fail
        go_ret2
        rw [HE1.out]
        exact EsQ.nil HE2.out GB.out.bel
end Go.Proofs.YtnhokkdieijkhaaGreatDoor

namespace Go.Proofs.YtnhokkdieijkhaaGreatDoor
open Go.RowKit Go.Shelf

def eA : En := ⟨1, 0, 0, [97]⟩
def eB : En := ⟨2, 0, 0, [98]⟩
def eC : En := ⟨3, 0, 0, [99]⟩
def eD : En := ⟨3, 0, 0, [100]⟩
def es0 : List En := [eA, eB, eC]
theorem built_A : Tryz.prog.built 102 [(0, .int .u64 1), (2, .string ⟨#[97]⟩)] = some (ec eA).toArray := by kernel_rfl
theorem built_B : Tryz.prog.built 102 [(0, .int .u64 2), (2, .string ⟨#[98]⟩)] = some (ec eB).toArray := by kernel_rfl
theorem built_C : Tryz.prog.built 102 [(0, .int .u64 3), (2, .string ⟨#[99]⟩)] = some (ec eC).toArray := by kernel_rfl
theorem built_D : Tryz.prog.built 102 [(0, .int .u64 3), (2, .string ⟨#[100]⟩)] = some (ec eD).toArray := by kernel_rfl
theorem es0_wide : ∀ x ∈ es0, x.Wide := by
  intro x hx
  simp only [es0, List.mem_cons, List.not_mem_nil, or_false] at hx
  rcases hx with rfl | rfl | rfl <;> exact ⟨by decide, by decide, by decide⟩
theorem es0_ok : okB es0 = true := by decide +kernel
theorem es0_len : (putE es0).length = 72 := by decide +kernel
theorem es0_aft : aftL es0 1 1 = [eB] ∧ aftB es0 1 1 = false := by decide +kernel
theorem es0_rem : remE es0 [98] = 0 ∧ remL es0 [98] = [eA, eC] := by decide +kernel
theorem es0_add : addE [eA, eC] eD = 70 := by decide +kernel
theorem es0_addL : addL [eA, eC] eD = [] := by decide +kernel
theorem es0_fnd : fnd es0 [99] = 2 := by decide +kernel
theorem dots : nameE [46, 46] = 67 := by decide +kernel
/-- A block that holds entries. -/
theorem es_block {w : World} {g : Nat} {t : TypeId} {es : List En} (h : w.heap[g]? = some (.cells (ecs es).toArray t (0, 0))) : ES w (some ⟨g, 0, none⟩) es.length es :=
  ⟨rfl, fun _ => ⟨g, 0, rfl, fun j hj i v hv => by
    rw [cell_of_row w g _ _ _ _ h, Nat.zero_add]
    simpa using ecs_get es j hj i v hv⟩⟩

end Go.Proofs.YtnhokkdieijkhaaGreatDoor

namespace Go.Proofs.YtnhokkdieijkhaaGreatDoor
open Go.RowKit Go.Shelf

/-- What a name must be ahead of its bytes. -/
def headOk (l : List UInt8) : Bool := decide (1 ≤ l.length) && decide (l.length ≤ 24) && !(l == [46]) && !(l == [46, 46])
theorem nameOk_head (l : List UInt8) : nameOk l = (headOk l && !parts l) := by
  rw [nameOk_eq]
  unfold headOk
  have e1 : (!decide (l.length < 1)) = decide (1 ≤ l.length) := by
    rw [← decide_not]
    exact decide_eq_decide.2 (by omega)
  have e2 : (!decide (24 < l.length)) = decide (l.length ≤ 24) := by
    rw [← decide_not]
    exact decide_eq_decide.2 (by omega)
  rw [e1, e2]
theorem parts_take (l : List UInt8) (k : Nat) (h : k < l.length) : parts (l.take (k + 1)) = (parts (l.take k) || (l[k] == 0 || l[k] == 47)) := by
  unfold parts
  rw [List.take_succ_eq_append_getElem h, List.any_append]
  simp
theorem parts_at (l : List UInt8) (k : Nat) (h : k < l.length) : ∃ x : UInt8, (∀ hk : k < (txt l).size, (txt l)[k]'hk = x) ∧ parts (l.take (k + 1)) = (parts (l.take k) || (x == 0 || x == 47)) :=
  ⟨l[k], fun _ => rfl, parts_take l k h⟩
theorem fnd_nil (nm : List UInt8) : fnd [] nm = -1 := rfl
theorem addE_nil (e : En) (h : 0 < e.ck) : addE [] e = if nameOk e.nm = true then 0 else 67 := by
  unfold addE
  cases nameOk e.nm
  · rfl
  · rw [if_neg (by simp), if_neg (by rw [fnd_nil]; omega), if_neg (by show ¬ e.ck ≤ 0; omega)]
    rfl
theorem u8_ne (b c : UInt8) (n : Int) (hc : (c.toNat : Int) = n) : (((b.toNat : Int)) != n) = !(b == c) := by
  rw [← hc]
  by_cases h : b = c
  · subst h; simp
  · have h2 : b.toNat ≠ c.toNat := fun e => h (UInt8.toNat_inj.1 e)
    have e1 : (b == c) = false := by simpa using h
    rw [e1]
    simp
    omega
theorem built_N (v : ByteArray) : Tryz.prog.built 102 [(0, .int .u64 1), (2, .string v)] = some #[.int .u64 1, .int .u32 0, .int .u32 0, .string v] := by kernel_rfl

end Go.Proofs.YtnhokkdieijkhaaGreatDoor
