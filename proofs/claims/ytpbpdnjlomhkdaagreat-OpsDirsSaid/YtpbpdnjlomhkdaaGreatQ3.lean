/-
  Contracts of the document's answers for what is read: raw, number, Read32, Read64, ReadBool, ReadOpaque, End (over values).
  Entries in memory: slices that read as entries, blocks that hold one (layer 8).
  Contracts of slices.IndexFunc at entries, and of package dir's Find and lastCookie (layer 8).
  Contract of package slot's all: conditions, as functions that hold what they caught, are asked up to the first one that does not hold (layer 11).
  Plain mathematics of calls and replies: fields one behind the other, what is put of them, what is read (layer 9). No program.
  Contracts of strings.IndexRune, strings.IndexAny and strings.ContainsAny at the two bytes that part names, for every string, ASCII or not (layer 8).
  Contract of package dir's Name (layer 8).
  Contract of package dir's valid: names that may be, no two the same, cookies that rise (layer 8).
  Contract of package dir's Put (layer 8).
-/
import Derived.Test.YtpbpdnjlomhkdaaGreatQ2
import Derived.Deep.RegionHeld3
import Derived.Deep.Cut
import Derived.IntWalk
import Derived.Deep.LoopGhost
import Derived.Shelf.Abstract
import Derived.Test.YtpbpdnjlomhkdaaGreatShelf
import Derived.Laws.RangeAny
import Derived.Lib.IndexAny
import Derived.Lib.TrimU
import Derived.BigQuiet
import Derived.Deep.QuietTactic
import Derived.Lib.Hide
import Derived.WalkKit
import Derived.Maps.OwnSet
import Derived.StringKeys
import Derived.Lib.ConvBytes
namespace Go.Proofs.YtpbpdnjlomhkdaaGreat
open Go.RowKit

/-- The document's reader as a value. -/
def RV (l : List UInt8) (e : Int) : Value := .agg #[.string (txt l), .int .i64 e]

theorem txt_take (l : List UInt8) (n : Nat) : (txt l).extract 0 n = txt (l.take n) := by
  apply ByteArray.ext
  simp [txt]
theorem txt_drop (l : List UInt8) (n : Nat) : (txt l).extract n l.length = txt (l.drop n) := by
  apply ByteArray.ext
  simp [txt]
  exact List.take_of_length_le (by simp)
theorem txt_get (l : List UInt8) (k : Nat) (h : k < (txt l).size) : ((txt l)[k]'h).toNat = (l[k]'(by rwa [txt_size] at h)).toNat := rfl
theorem mul_add_u64 (a b : Nat) (h : a * 256 + b < 18446744073709551616) : IntKind.u64.wrap (IntKind.u64.wrap ((a : Int) * 256) + IntKind.u64.wrap (b : Int)) = ((a * 256 + b : Nat) : Int) := by
  rw [IntKind.wrap_u64, IntKind.wrap_u64, IntKind.wrap_u64]
  omega

/-- The next n bytes. -/
def rdRaw (n : Nat) (s : St) : St × List UInt8 := if s.2 ≠ 0 then (s, []) else if s.1.length < n then ((s.1, 10), []) else ((s.1.drop n, 0), s.1.take n)
theorem rdN_raw (n : Nat) (s : St) : rdN n s = ((rdRaw n s).1, num (rdRaw n s).2) := by
  unfold rdN rdRaw
  split
  · rfl
  · split
    · rfl
    · rfl
theorem rdRaw_len (n : Nat) (s : St) : (rdRaw n s).2.length ≤ n := by
  unfold rdRaw
  split
  · simp
  · split
    · simp
    · simp; omega

set_option maxRecDepth 100000 in
set_option maxHeartbeats 1000000 in
theorem refRaw (l : List UInt8) (e : Int) (n : Nat) (w : World) (hn : n ≤ 1000000000000) :
    Calls Tryz.prog 174 #[RV l e, .int .i64 n] w fun en w' => en = .returned (.tuple #[RV (rdRaw n (l, e)).1.1 (rdRaw n (l, e)).1.2, .string (txt (rdRaw n (l, e)).2)]) ∧ Below w.heap.size w w' := by
  have hsz := txt_size l
  unfold RV
  by_cases he : e = 0
  · subst he
    by_cases hs : l.length < n
    · have HR : Hid (rdRaw n (l, 0) = ((l, 10), [])) := by show _ = _; simp [rdRaw, hs]
      rw [HR.out]
      clear HR
      have hd : decide ((l.length : Int) < (n : Int)) = true := by simp; omega
      go_enter Tryz.func174, Tryz.ntmps174
      go_wp2_with fail
      exact bodyPost_ret (v := .tuple #[.agg #[.string (txt l), .int .i64 10], .string (txt [])]) (by simp [results, Tryz.results174, go_sem, txt]) rfl ⟨rfl, ((Below.refl _ _).alloc (Nat.le_refl _) _).alloc (by simp) _⟩
    · have HR : Hid (rdRaw n (l, 0) = ((l.drop n, 0), l.take n)) := by show _ = _; simp [rdRaw]; omega
      rw [HR.out]
      clear HR
      have hd : decide ((l.length : Int) < (n : Int)) = false := by simp; omega
      have x1 := txt_take l n
      have x2 := txt_drop l n
      go_enter Tryz.func174, Tryz.ntmps174
      go_wp2_with fail
      exact bodyPost_ret (v := .tuple #[.agg #[.string (txt (l.drop n)), .int .i64 0], .string (txt (l.take n))]) (by simp [results, Tryz.results174, go_sem]) rfl ⟨rfl, ((Below.refl _ _).alloc (Nat.le_refl _) _).alloc (by simp) _⟩
  · have HR : Hid (rdRaw n (l, e) = ((l, e), [])) := if_pos he
    rw [HR.out]
    clear HR
    have he' : (e != 0) = true := by simp [he]
    clear he
    go_enter Tryz.func174, Tryz.ntmps174
    go_wp2_with fail
    exact bodyPost_ret (v := .tuple #[.agg #[.string (txt l), .int .i64 e], .string (txt [])]) (by simp [results, Tryz.results174, go_sem, txt]) rfl ⟨rfl, ((Below.refl _ _).alloc (Nat.le_refl _) _).alloc (by simp) _⟩

set_option maxRecDepth 100000 in
set_option maxHeartbeats 1000000 in
theorem refNumber (l : List UInt8) (w : World) (hl : l.length ≤ 8) :
    Calls Tryz.prog 175 #[.string (txt l)] w fun en w' => en = .returned (.int .u64 (num l)) ∧ w = w' := by
  have hsz := txt_size l
  go_enter Tryz.func175, Tryz.ntmps175
  go_wp2_with fail
  go_loop [3, 4] (fun x i => ∃ k : Nat, k ≤ l.length ∧ i = .int .i64 k ∧ x = .int .u64 (num (l.take k) : Int)) (fun _ i => l.length - (intOf i).toNat)
  case atStart => exact ⟨0, by omega, rfl, rfl⟩
  case round =>
    obtain ⟨k, hk, rfl, rfl⟩ := hrel
    by_cases hlt : k < l.length
    · have hlt' : k < (txt l).size := by rw [hsz]; exact hlt
      have hn := num_lt (l.take k)
      have hkl : (l.take k).length ≤ 7 := by rw [List.length_take]; omega
      have hn7 := Nat.pow_le_pow_right (n := 256) (by omega) hkl
      have hb : l[k].toNat < 256 := l[k].toNat_lt
      have HX := Lib.hid (mul_add_u64 (num (l.take k)) l[k].toNat (by omega))
      have HS := Lib.hid (num_take_snoc l k hlt)
      clear hn hn7 hb hkl
      generalize hx : num (l.take k) = x at *
      clear hx
      go_wp2_with fail
      refine ⟨⟨k + 1, by omega, by go_num, ?_⟩, by simp [intOf]; omega⟩
      exact congrArg (Value.int .u64) (HX.out.trans (congrArg (fun z : Nat => (z : Int)) HS.out.symm))
    · have hkl : k = l.length := by omega
      subst hkl
      rw [List.take_length]
      go_wp2_with fail
      go_ret
      exact ⟨rfl, rfl⟩

/-- Block g is just the two cells a, b. -/
def Two (w : World) (g : Nat) (a b : Value) : Prop := w.heap[g]? = some (.cells #[a, b] 205 (0, 0))
section
variable {w w' : World} {g : Nat} {a b a' b' : Value}
theorem Two.c0 (h : Two w g a b) : w.cell? ⟨g, 0, none⟩ = some a := cell_of_row w g 0 _ _ (0, 0) h
theorem Two.c1 (h : Two w g a b) : w.cell? ⟨g, 1, none⟩ = some b := cell_of_row w g 1 _ _ (0, 0) h
theorem Two.fr (h : Two w g a b) (o : Nat) : w.frozen? ⟨g, o, none⟩ = false := by unfold Two at h; simp [World.frozen?, h]
theorem Two.lt (h : Two w g a b) : g < w.heap.size := World.block_lt_of_cell? w _ h.c0
theorem Two.below {B : Nat} (h : Two w g a b) (hb : Below B w w') (hg : g < B) : Two w' g a b := (hb.block g hg).trans h
theorem Two.set2 (h : Two w g a b) : Two ((w.setCell ⟨g, 0, none⟩ a').setCell ⟨g, 1, none⟩ b') g a' b' := by
  unfold Two at *
  simp [World.setCell, Array.getElem?_modify, h]
theorem Two.set1 (h : Two w g a b) : Two (w.setCell ⟨g, 1, none⟩ b') g a b' := by
  unfold Two at *
  simp [World.setCell, Array.getElem?_modify, h]
theorem Two.far {p : Addr} {u : Value} (h : Two w g a b) (hp : g ≠ p.block) : Two (w.setCell p u) g a b := (Below.heap_setCell w p u g hp).trans h
theorem Two.drew (h : Two w g a b) : Two w.drew g a b := h
/-- Two blocks that were laid, behind a call that keeps what was there. -/
theorem two_new {x y u v : Value} {w1 : World} (hb : Below ((w.alloc (.cells #[x, y] 205)).alloc (.cells #[u, v] 205)).heap.size ((w.alloc (.cells #[x, y] 205)).alloc (.cells #[u, v] 205)) w1) :
    Two w1 w.heap.size x y ∧ Two w1 (w.heap.size + 1) u v ∧ Below w.heap.size w w1 := by
  have h1 : Two ((w.alloc (.cells #[x, y] 205)).alloc (.cells #[u, v] 205)) w.heap.size x y :=
    (Below.heap_alloc _ _ _ (by simp)).trans (heap_alloc_new w _)
  have h2 : Two ((w.alloc (.cells #[x, y] 205)).alloc (.cells #[u, v] 205)) (w.heap.size + 1) u v := by
    have := heap_alloc_new (w.alloc (.cells #[x, y] 205)) (.cells #[u, v] 205)
    simpa [Two] using this
  exact ⟨h1.below hb h1.lt, h2.below hb h2.lt, (((Below.refl _ _).alloc (Nat.le_refl _) _).alloc (by simp) _).trans (hb.mono (by simp; omega))⟩
end

set_option maxRecDepth 100000 in
set_option maxHeartbeats 1000000 in
theorem refRead32 (l : List UInt8) (e : Int) (w : World) :
    Calls Tryz.prog 156 #[RV l e] w fun en w' => en = .returned (.tuple #[RV (rdN 4 (l, e)).1.1 (rdN 4 (l, e)).1.2, .int .u32 ((rdN 4 (l, e)).2 : Int)]) ∧ Below w.heap.size w w' := by
  have HC := Lib.hid (fun W => refRaw l e 4 W (by omega))
  have hrl := rdRaw_len 4 (l, e)
  rw [rdN_raw]
  generalize rdRaw 4 (l, e) = r at *
  obtain ⟨⟨l', e'⟩, b⟩ := r
  simp only at hrl
  have hnb : num b < 4294967296 := by
    have h1 := num_lt b
    have := Nat.pow_le_pow_right (n := 256) (by omega) hrl
    omega
  have wr : IntKind.u32.wrap (num b : Int) = (num b : Int) := by rw [IntKind.wrap_u32]; omega
  have Hrl := Lib.hid hrl
  unfold RV at *
  go_enter Tryz.func156, Tryz.ntmps156
  go_wp2_with fail
  refine (HC.out _).mono ?_
  rintro en w1 ⟨rfl, hb1⟩
  obtain ⟨t1, t2, hbb⟩ := two_new hb1
  have T1 := Lib.hid t1
  have T2 := Lib.hid t2
  have HB1 := Lib.hid hbb
  have c0 := t1.c0
  have c1 := t1.c1
  have f0 := t1.fr 0
  have f1 := t1.fr 1
  clear t1 t2 hbb hb1
  go_wp2_with fail
  have T1' : Hid (Two ((w1.setCell ⟨w.heap.size, 0, none⟩ (.string (txt l'))).setCell ⟨w.heap.size, 1, none⟩ (.int .i64 e')) w.heap.size (.string (txt l')) (.int .i64 e')) := T1.out.set2
  have T2' : Hid (Two ((w1.setCell ⟨w.heap.size, 0, none⟩ (.string (txt l'))).setCell ⟨w.heap.size, 1, none⟩ (.int .i64 e')) (w.heap.size + 1) _ _) := (T2.out.far (by simp)).far (by simp)
  have HB2 : Hid (Below w.heap.size w ((w1.setCell ⟨w.heap.size, 0, none⟩ (.string (txt l'))).setCell ⟨w.heap.size, 1, none⟩ (.int .i64 e'))) := (HB1.out.setCell (by simp) _).setCell (by simp) _
  clear c0 c1 f0 f1 T1 T2 HB1
  generalize (w1.setCell ⟨w.heap.size, 0, none⟩ (.string (txt l'))).setCell ⟨w.heap.size, 1, none⟩ (.int .i64 e') = w2 at *
  have d0 := T1'.out.c0
  have d1 := T1'.out.c1
  have g0 := T2'.out.c0
  have g1 := T2'.out.c1
  have m0 := T2'.out.fr 0
  have m1 := T2'.out.fr 1
  go_region_held3 (fun W => W.cell? ⟨w.heap.size, 0, none⟩ = some (.string (txt l')) ∧ W.cell? ⟨w.heap.size, 1, none⟩ = some (.int .i64 e'))
    (first | go_keep | exact ⟨d0, d1⟩)
    (first
      | (go_at_call 175
         refine (refNumber b _ (by have := Hrl.out; omega)).mono ?_
         rintro en w3 ⟨rfl, rfl⟩))
  go_wp2_with fail
  refine bodyPost_ret (v := .tuple #[.agg #[.string (txt l'), .int .i64 e'], .int .u32 (num b)]) (by simp [results, Tryz.results156, go_sem, g0, g1]) rfl ⟨rfl, ?_⟩
  exact (HB2.out.drew.setCell (by simp) _).setCell (by simp) _

set_option maxRecDepth 100000 in
set_option maxHeartbeats 1000000 in
theorem refRead64 (l : List UInt8) (e : Int) (w : World) :
    Calls Tryz.prog 155 #[RV l e] w fun en w' => en = .returned (.tuple #[RV (rdN 8 (l, e)).1.1 (rdN 8 (l, e)).1.2, .int .u64 ((rdN 8 (l, e)).2 : Int)]) ∧ Below w.heap.size w w' := by
  have HC := Lib.hid (fun W => refRaw l e 8 W (by omega))
  have hrl := rdRaw_len 8 (l, e)
  rw [rdN_raw]
  generalize rdRaw 8 (l, e) = r at *
  obtain ⟨⟨l', e'⟩, b⟩ := r
  simp only at hrl
  have Hrl := Lib.hid hrl
  unfold RV at *
  go_enter Tryz.func155, Tryz.ntmps155
  go_wp2_with fail
  refine (HC.out _).mono ?_
  rintro en w1 ⟨rfl, hb1⟩
  obtain ⟨t1, t2, hbb⟩ := two_new hb1
  have T1 := Lib.hid t1
  have T2 := Lib.hid t2
  have HB1 := Lib.hid hbb
  have c0 := t1.c0
  have c1 := t1.c1
  have f0 := t1.fr 0
  have f1 := t1.fr 1
  clear t1 t2 hbb hb1
  go_wp2_with fail
  have T1' : Hid (Two ((w1.setCell ⟨w.heap.size, 0, none⟩ (.string (txt l'))).setCell ⟨w.heap.size, 1, none⟩ (.int .i64 e')) w.heap.size (.string (txt l')) (.int .i64 e')) := T1.out.set2
  have T2' : Hid (Two ((w1.setCell ⟨w.heap.size, 0, none⟩ (.string (txt l'))).setCell ⟨w.heap.size, 1, none⟩ (.int .i64 e')) (w.heap.size + 1) _ _) := (T2.out.far (by simp)).far (by simp)
  have HB2 : Hid (Below w.heap.size w ((w1.setCell ⟨w.heap.size, 0, none⟩ (.string (txt l'))).setCell ⟨w.heap.size, 1, none⟩ (.int .i64 e'))) := (HB1.out.setCell (by simp) _).setCell (by simp) _
  clear c0 c1 f0 f1 T1 T2 HB1
  generalize (w1.setCell ⟨w.heap.size, 0, none⟩ (.string (txt l'))).setCell ⟨w.heap.size, 1, none⟩ (.int .i64 e') = w2 at *
  have d0 := T1'.out.c0
  have d1 := T1'.out.c1
  have g0 := T2'.out.c0
  have g1 := T2'.out.c1
  have m0 := T2'.out.fr 0
  have m1 := T2'.out.fr 1
  go_region_held3 (fun W => W.cell? ⟨w.heap.size, 0, none⟩ = some (.string (txt l')) ∧ W.cell? ⟨w.heap.size, 1, none⟩ = some (.int .i64 e'))
    (first | go_keep | exact ⟨d0, d1⟩)
    (first
      | (go_at_call 175
         refine (refNumber b _ (by have := Hrl.out; omega)).mono ?_
         rintro en w3 ⟨rfl, rfl⟩))
  go_wp2_with fail
  refine bodyPost_ret (v := .tuple #[.agg #[.string (txt l'), .int .i64 e'], .int .u64 (num b)]) (by simp [results, Tryz.results155, go_sem, g0, g1]) rfl ⟨rfl, ?_⟩
  exact (HB2.out.drew.setCell (by simp) _).setCell (by simp) _


theorem txt_toList (l : List UInt8) : (txt l).toList = l := by
  rw [ByteArray.toList_eq]
  rfl
end Go.Proofs.YtpbpdnjlomhkdaaGreat

namespace Go.Proofs.YtpbpdnjlomhkdaaGreat
open Go.RowKit

/-- The cells of an entry, .. -/
def ec (e : En) : List Value := [.int .u64 (e.ck : Int), .int .u32 (e.ino : Int), .int .u32 (e.gen : Int), .string (txt e.nm)]
/-- .. of all of them. -/
def ecs (es : List En) : List Value := es.flatMap ec
theorem ec_length (e : En) : (ec e).length = 4 := rfl
theorem ec_size (e : En) : (ec e).toArray.size = 4 := rfl
theorem ec_one (e : En) : (ec e).toArray.all (·.oneCell') = true := by simp [ec, Value.oneCell']
theorem ec_one' (e : En) : ∀ u ∈ ec e, u.oneCell' = true := by
  intro u hu
  simp only [ec, List.mem_cons, List.not_mem_nil, or_false] at hu
  rcases hu with rfl | rfl | rfl | rfl <;> rfl
theorem ecs_length (es : List En) : (ecs es).length = es.length * 4 := by
  induction es with
  | nil => rfl
  | cons e r ih => show (ec e ++ ecs r).length = _; rw [List.length_append, ih, ec_length, List.length_cons]; omega
theorem ecs_append (a b : List En) : ecs (a ++ b) = ecs a ++ ecs b := by simp [ecs]
theorem ecs_single (e : En) : ecs [e] = ec e := by simp [ecs]
theorem ecs_one (es : List En) : ∀ u ∈ ecs es, u.oneCell' = true := by
  intro u hu
  unfold ecs at hu
  obtain ⟨e, _, h⟩ := List.mem_flatMap.1 hu
  exact ec_one' e u h
theorem ecs_get (es : List En) : ∀ (j : Nat) (hj : j < es.length) (i : Nat) (v : Value), (ec es[j])[i]? = some v → (ecs es)[j * 4 + i]? = some v := by
  induction es with
  | nil => intro j hj; exact absurd hj (Nat.not_lt_zero _)
  | cons e r ih =>
    intro j hj i v hv
    show (ec e ++ ecs r)[j * 4 + i]? = _
    cases j with
    | zero =>
      have hv' : (ec e)[i]? = some v := hv
      have hi := (List.getElem?_eq_some_iff.1 hv').1
      rw [Nat.zero_mul, Nat.zero_add, List.getElem?_append_left hi]
      exact hv'
    | succ j =>
      rw [List.getElem?_append_right (by rw [ec_length]; omega), ec_length, show (j + 1) * 4 + i - 4 = j * 4 + i by omega]
      exact ih j (by simpa using hj) i v hv
theorem info_E : (Tryz.prog.info? 87).map (fun i => (i.zero, i.size, i.bytes)) = some (some (.agg (ec ⟨0, 0, 0, []⟩).toArray), 4, 32) := by kernel_rfl
theorem size_E : (Tryz.prog.info? 87).map (·.size) = some 4 := by kernel_rfl
theorem zero_E : (Tryz.prog.info? 87).bind (·.zero) = some (.agg (ec ⟨0, 0, 0, []⟩).toArray) := by kernel_rfl
theorem info_F : (Tryz.prog.info? 109).map (fun i => (i.zero, i.size, i.bytes)) = some (some (.agg (ec ⟨0, 0, 0, []⟩).toArray), 4, 32) := by kernel_rfl
theorem size_F : (Tryz.prog.info? 109).map (·.size) = some 4 := by kernel_rfl
theorem zero_F : (Tryz.prog.info? 109).bind (·.zero) = some (.agg (ec ⟨0, 0, 0, []⟩).toArray) := by kernel_rfl

/-- The slice (A, n, ..) reads as the entries es. -/
def ES (w : World) (A : Option Addr) (n : Nat) (es : List En) : Prop :=
  es.length = n ∧ (0 < n → ∃ b o, A = some ⟨b, o, none⟩ ∧ ∀ j (hj : j < es.length) i v, (ec es[j])[i]? = some v → w.cell? ⟨b, o + j * 4 + i, none⟩ = some v)
section
variable {w w' : World} {A : Option Addr} {n : Nat} {es : List En}
theorem ES.nil : ES w A 0 [] := ⟨rfl, fun h => absurd h (by omega)⟩
theorem ES.keep (h : ES w A n es) (hk : ∀ p : Addr, p.block < w.heap.size → w'.cell? p = w.cell? p) : ES w' A n es :=
  ⟨h.1, fun hn => by
    obtain ⟨b, o, e, hc⟩ := h.2 hn
    exact ⟨b, o, e, fun j hj i v hv => (hk _ (World.block_lt_of_cell? w _ (hc j hj i v hv))).trans (hc j hj i v hv)⟩⟩
theorem ES.below (h : ES w A n es) (hb : Below w.heap.size w w') : ES w' A n es := h.keep fun _ hp => hb.cell hp
theorem ES.alloc (h : ES w A n es) (o : Obj) : ES (w.alloc o) A n es := h.keep fun p hp => World.cell?_alloc_lt w o p hp
theorem ES.drew (h : ES w A n es) : ES w.drew A n es := h
theorem ES.drewN (h : ES w A n es) (k : Nat) : ES (w.drewN k) A n es := h
theorem ES.at (h : ES w A n es) {k : Nat} (hk : k < n) : ∃ b o, A = some ⟨b, o, none⟩ ∧ b < w.heap.size ∧ ∃ hj : k < es.length, ∀ i v, (ec es[k])[i]? = some v → w.cell? ⟨b, o + k * 4 + i, none⟩ = some v := by
  obtain ⟨b, o, e, hc⟩ := h.2 (by omega)
  have hj : k < es.length := by rw [h.1]; exact hk
  exact ⟨b, o, e, World.block_lt_of_cell? w _ (hc k hj 0 _ rfl), hj, hc k hj⟩
theorem ES.lt_block (h : ES w A n es) (hn : 0 < n) (ad : Addr) (ha : A = some ad) : ad.block < w.heap.size := by
  obtain ⟨b, o, e, hb, _⟩ := h.at hn
  rw [ha] at e
  injection e with e
  subst e
  exact hb
theorem ES.take (h : ES w A n es) {k : Nat} (hk : k ≤ n) : ES w A k (es.take k) :=
  ⟨by rw [List.length_take, h.1]; omega, fun hn => by
    obtain ⟨b, o, e, hc⟩ := h.2 (by omega)
    refine ⟨b, o, e, fun j hj i v hv => ?_⟩
    have hjl : j < es.length := by rw [List.length_take] at hj; omega
    rw [List.getElem_take] at hv
    exact hc j hjl i v hv⟩
theorem ES.drop (h : ES w A n es) {k c : Nat} (hk : k ≤ n) (hc : n ≤ c) : ES w (if c = k then A else A.map (·.add (k * 4))) (n - k) (es.drop k) :=
  ⟨by rw [List.length_drop, h.1], fun hn => by
    obtain ⟨b, o, rfl, hcell⟩ := h.2 (by omega)
    rw [if_neg (by omega)]
    refine ⟨b, o + k * 4, ?_, fun j hj i v hv => ?_⟩
    · simp only [Option.map_some]
      unfold Addr.add
      split
      · simp_all
      · rfl
    · rw [List.length_drop] at hj
      rw [List.getElem_drop] at hv
      rw [show o + k * 4 + j * 4 + i = o + (k + j) * 4 + i by omega]
      exact hcell (k + j) (by omega) i v hv⟩
theorem ES.of_own {base : Nat} {t : TypeId} {c : Nat} (h : w.ownsRow base t 4 (.slice A n c) n (ecs es)) : ES w A n es := by
  have hl : es.length = n := by have := h.1; rw [ecs_length] at this; omega
  refine ⟨hl, fun hn => ?_⟩
  obtain ⟨g, cap, hv, _, hlt⟩ := h.form hn
  injection hv with hA _ _
  subst hA
  refine ⟨g, 0, rfl, fun j hj i v hv => ?_⟩
  have := h.cells (g := g) rfl (j * 4 + i) _ (ecs_get es j hj i v hv)
  rw [add_plain] at this
  rw [Nat.add_assoc]
  exact this
/-- The cells of one, as a load asks for them. -/
theorem ES.load (h : ES w A n es) {k : Nat} (hk : k < n) : ∃ b o, A = some ⟨b, o, none⟩ ∧ b < w.heap.size ∧ ∃ hj : k < es.length, ∀ j u, (ec es[k])[j]? = some u → w.cell? ((⟨b, o + k * 4, none⟩ : Addr).add j) = some u := by
  obtain ⟨b, o, e, hb, hj, hc⟩ := h.at hk
  exact ⟨b, o, e, hb, hj, fun j u hu => by rw [add_plain]; exact hc j u hu⟩
/-- All cells, as the laws on append ask for them. -/
theorem ecs_get_inv (es : List En) (q : Nat) (u : Value) (h : (ecs es)[q]? = some u) : ∃ j i, ∃ hj : j < es.length, q = j * 4 + i ∧ (ec es[j])[i]? = some u := by
  have hq := (List.getElem?_eq_some_iff.1 h).1
  rw [ecs_length] at hq
  have hj : q / 4 < es.length := by omega
  have hi : q % 4 < (ec es[q / 4]).length := by rw [ec_length]; omega
  have := ecs_get es (q / 4) hj (q % 4) _ (List.getElem?_eq_getElem hi)
  rw [show q / 4 * 4 + q % 4 = q by omega, h] at this
  injection this with this
  exact ⟨q / 4, q % 4, hj, by omega, by rw [List.getElem?_eq_getElem hi, this]⟩
theorem ES.news (h : ES w A n es) {ad : Addr} (hA : A = some ad) : ∀ j u, (ecs es)[j]? = some u → w.cell? (ad.add j) = some u := by
  intro q u hu
  obtain ⟨j, i, hj, rfl, hv⟩ := ecs_get_inv es q u hu
  obtain ⟨b, o, e, hc⟩ := h.2 (by rw [← h.1]; omega)
  rw [hA] at e
  injection e with e
  subst e
  rw [add_plain, ← Nat.add_assoc]
  exact hc j hj i u hv
end

/-- Block g holds one entry. -/
def EB (w : World) (g : Nat) (t : TypeId) (e : En) : Prop := w.heap[g]? = some (.cells (ec e).toArray t (0, 0))
section
variable {w w' : World} {g : Nat} {t : TypeId} {e : En}
theorem EB.cell (h : EB w g t e) (k : Nat) (v : Value) (hv : (ec e)[k]? = some v) : w.cell? ⟨g, k, none⟩ = some v := by
  rw [cell_of_row w g k _ _ _ h]
  simpa using hv
theorem EB.c0 (h : EB w g t e) : w.cell? ⟨g, 0, none⟩ = some (.int .u64 (e.ck : Int)) := h.cell 0 _ rfl
theorem EB.c1 (h : EB w g t e) : w.cell? ⟨g, 1, none⟩ = some (.int .u32 (e.ino : Int)) := h.cell 1 _ rfl
theorem EB.c2 (h : EB w g t e) : w.cell? ⟨g, 2, none⟩ = some (.int .u32 (e.gen : Int)) := h.cell 2 _ rfl
theorem EB.c3 (h : EB w g t e) : w.cell? ⟨g, 3, none⟩ = some (.string (txt e.nm)) := h.cell 3 _ rfl
theorem EB.froz (h : EB w g t e) (k : Nat) : w.frozen? ⟨g, k, none⟩ = false := by simp [World.frozen?, show w.heap[g]? = _ from h]
theorem EB.lt (h : EB w g t e) : g < w.heap.size := World.block_lt_of_cell? w _ h.c0
theorem EB.below {B : Nat} (h : EB w g t e) (hb : Below B w w') (hg : g < B) : EB w' g t e := (hb.block g hg).trans h
theorem EB.below' (h : EB w g t e) (hb : Below w.heap.size w w') : EB w' g t e := h.below hb h.lt
theorem EB.new (w : World) (t : TypeId) (e : En) : EB (w.alloc (.cells (ec e).toArray t)) w.heap.size t e := heap_alloc_new w _
theorem EB.es (h : EB w g t e) : ES w (some ⟨g, 0, none⟩) 1 [e] :=
  ⟨rfl, fun _ => ⟨g, 0, rfl, fun j hj i v hv => by
    obtain rfl : j = 0 := by simpa using hj
    rw [Nat.zero_mul, Nat.zero_add]
    try rw [Nat.zero_add]
    exact h.cell i v hv⟩⟩
end
end Go.Proofs.YtpbpdnjlomhkdaaGreat

namespace Go.Proofs.YtpbpdnjlomhkdaaGreat
open Go.RowKit Go.Shelf

/-- The first place at which p holds, or -1. -/
def fndP (p : En → Bool) (es : List En) : Int := if es.findIdx p < es.length then (es.findIdx p : Int) else -1
theorem fnd_eq (es : List En) (nm : List UInt8) : fnd es nm = fndP (fun e => e.nm == nm) es := rfl
theorem fndP_hit (p : En → Bool) (es : List En) (k : Nat) (hk : k < es.length) (hp : p es[k] = true) (hno : ∀ j, (h : j < es.length) → j < k → p es[j] = false) : fndP p es = (k : Int) := by
  have h : es.findIdx p = k := by
    rw [List.findIdx_eq hk]
    exact ⟨hp, fun j hj => hno j (by omega) hj⟩
  unfold fndP
  rw [h, if_pos hk]
theorem fndP_miss (p : En → Bool) (es : List En) (hno : ∀ j, (h : j < es.length) → p es[j] = false) : fndP p es = -1 := by
  unfold fndP
  rw [if_neg]
  intro h
  have := List.findIdx_getElem (w := h)
  rw [hno _ h] at this
  cases this

set_option maxRecDepth 100000 in
set_option maxHeartbeats 2000000 in
theorem indexFunc_any (A : Option Addr) (n cp : Nat) (es : List En) (w : World) (h : ES w A n es) (hn : n ≤ 100000000) (g : Nat) (lv : Value) (p : En → Bool) (eg : ∀ args w, (callFunc g args).run Tryz.prog w = .ok (.enter g args) w)
    (hp : ∀ (W : World) (e : En), Below w.heap.size w W → Calls Tryz.prog g #[.agg (ec e).toArray, lv] W fun en w' => en = .returned (.bool (p e)) ∧ Below W.heap.size W w') :
    Calls Tryz.prog 167 #[.slice A n cp, .func (.func g) #[] #[lv]] w fun en w' => en = .returned (.int .i64 (fndP p es)) ∧ Below w.heap.size w w' := by
  have HX := Lib.hid h
  have HN : Hid (es.length = n) := h.1
  have HP := Lib.hid hp
  clear h hp
  go_enter Tryz.func167, Tryz.ntmps167
  go_wp2
  go_loopg [5, 8] n (fun gg _ s8 wr => ∃ k : Nat, k ≤ n ∧ n - k ≤ gg ∧ s8 = .int .i64 k ∧ Hid (Below w.heap.size w wr) ∧ Hid (∀ j, (h : j < es.length) → j < k → p es[j] = false))
  case atStart => exact ⟨0, Nat.zero_le _, by omega, rfl, Below.refl _ w, fun j _ hj => absurd hj (Nat.not_lt_zero _)⟩
  case round =>
    obtain ⟨k, hk, hg, rfl, HB, HO⟩ := hrel
    by_cases hlt : k < n
    · obtain ⟨b, o, rfl, hb, hj, hc⟩ := (HX.out.below HB.out).load hlt
      have HC := Lib.hid hc
      have HCALL := Lib.hid (HP.out wr es[k] HB.out)
      have HQ : Hid (es[k] = es[k]) := rfl
      clear hc
      cases hq : p es[k] with
      | true =>
        rw [hq] at HCALL
        have HY := Lib.hid (fndP_hit p es k hj hq HO.out)
        clear hq
        go_wp2_with (first
          | (refine Did.list rfl (did_load 87 (.tmp 14) rfl ⟨b, o + k * 4, none⟩ rfl _ Tryz.underlying87 rfl (ec es[k]) size_E HC.out) ?_)
          | (go_at_fn g; refine HCALL.out.mono ?_; rintro en w' ⟨rfl, hb'⟩))
        go_ret
        exact ⟨by rw [HY.out]; rfl, HB.out.trans (hb'.mono HB.out.size)⟩
      | false =>
        rw [hq] at HCALL
        have HF := Lib.hid hq
        clear hq
        go_wp2_with (first
          | (refine Did.list rfl (did_load 87 (.tmp 14) rfl ⟨b, o + k * 4, none⟩ rfl _ Tryz.underlying87 rfl (ec es[k]) size_E HC.out) ?_)
          | (go_at_fn g; refine HCALL.out.mono ?_; rintro en w' ⟨rfl, hb'⟩))
        go_roundg (n - (k + 1))
        case measure => omega
        case rel =>
          refine ⟨k + 1, by omega, by omega, by go_num, HB.out.trans (hb'.mono HB.out.size), (show Hid _ from fun j hj hjk => ?_)⟩
          by_cases e : j = k
          · subst e
            exact HF.out
          · exact HO.out j hj (by omega)
    · have : k = n := by omega
      subst this
      have HY := Lib.hid (fndP_miss p es (fun j h => HO.out j h (by have := HN.out; omega)))
      go_wp2
      go_ret
      exact ⟨by rw [HY.out]; rfl, HB.out⟩

set_option maxRecDepth 100000 in
set_option maxHeartbeats 1000000 in
theorem findC_any (e : En) (B : Nat) (nm : List UInt8) (w : World) (hc : w.cell? ⟨B, 0, none⟩ = some (.string (txt nm))) :
    Calls Tryz.prog 168 #[.agg (ec e).toArray, .pointer (some ⟨B, 0, none⟩)] w fun en w' => en = .returned (.bool (e.nm == nm)) ∧ Below w.heap.size w w' := by
  have c3 := (EB.new w 87 e).c3
  have cB : (w.alloc (.cells (ec e).toArray 87)).cell? ⟨B, 0, none⟩ = some (.string (txt nm)) := (World.cell?_alloc_lt _ _ _ (World.block_lt_of_cell? w _ hc)).trans hc
  have ht : ((txt e.nm).toList == (txt nm).toList) = (e.nm == nm) := by rw [txt_toList, txt_toList]
  clear hc
  generalize (e.nm == nm) = r at *
  go_enter Tryz.func168, Tryz.ntmps168
  go_wp2
  go_ret
  exact ⟨rfl, (Below.refl _ _).alloc (Nat.le_refl _) _⟩
set_option maxRecDepth 100000 in
set_option maxHeartbeats 1000000 in
theorem afterC_any (e : En) (B c : Nat) (w : World) (hc : w.cell? ⟨B, 0, none⟩ = some (.int .u64 (c : Int))) :
    Calls Tryz.prog 154 #[.agg (ec e).toArray, .pointer (some ⟨B, 0, none⟩)] w fun en w' => en = .returned (.bool (decide (c < e.ck))) ∧ Below w.heap.size w w' := by
  have c0 := (EB.new w 87 e).c0
  have cB : (w.alloc (.cells (ec e).toArray 87)).cell? ⟨B, 0, none⟩ = some (.int .u64 (c : Int)) := (World.cell?_alloc_lt _ _ _ (World.block_lt_of_cell? w _ hc)).trans hc
  clear hc
  go_enter Tryz.func154, Tryz.ntmps154
  go_wp2
  go_ret
  exact ⟨rfl, (Below.refl _ _).alloc (Nat.le_refl _) _⟩

set_option maxRecDepth 100000 in
set_option maxHeartbeats 1000000 in
theorem find_any (A : Option Addr) (n cp : Nat) (es : List En) (nm : List UInt8) (w : World) (h : ES w A n es) (hn : n ≤ 100000000) :
    Calls Tryz.prog 145 #[.slice A n cp, .string (txt nm)] w fun en w' => en = .returned (.int .i64 (fnd es nm)) ∧ Below w.heap.size w w' := by
  have HA : Hid (Below w.heap.size w (w.alloc (.cells #[.string (txt nm)] 9))) := (Below.refl _ _).alloc (Nat.le_refl _) _
  have HC := Lib.hid (indexFunc_any A n cp es _ (h.alloc (.cells #[.string (txt nm)] 9)) hn 168 (.pointer (some ⟨w.heap.size, 0, none⟩)) (fun e => e.nm == nm) (enters_of Tryz.func168 (by kernel_rfl) rfl)
    (fun W e hW => findC_any e w.heap.size nm W ((hW.cell (p := ⟨w.heap.size, 0, none⟩) (by simp)).trans (by
      rw [cell_of_row _ _ _ _ _ _ (heap_alloc_new w _)]; rfl))))
  rw [fnd_eq]
  clear h
  go_enter Tryz.func145, Tryz.ntmps145
  go_wp2_with fail
  refine HC.out.mono ?_
  rintro e w1 ⟨rfl, hb⟩
  have HB : Hid (Below w.heap.size w w1) := HA.out.trans (hb.mono (by simp))
  clear hb HC HA
  go_wp2
  go_ret
  exact ⟨rfl, HB.out⟩

theorem lastCk_nil : lastCk [] = 0 := rfl
theorem lastCk_pos (es : List En) (h : 0 < es.length) : lastCk es = (es[es.length - 1]'(by omega)).ck := by
  unfold lastCk lastAt
  rw [if_neg (by omega), List.getD_eq_getElem?_getD, List.getElem?_eq_getElem (by omega)]
  rfl
set_option maxRecDepth 100000 in
set_option maxHeartbeats 1000000 in
theorem lastCookie_any (A : Option Addr) (n cp : Nat) (es : List En) (w : World) (h : ES w A n es) (hn : n ≤ 100000000) :
    Calls Tryz.prog 172 #[.slice A n cp] w fun en w' => en = .returned (.int .u64 (lastCk es : Int)) ∧ w = w' := by
  have hl := h.1
  by_cases h0 : n = 0
  · subst h0
    have : es = [] := List.eq_nil_of_length_eq_zero hl
    subst this
    clear h hl
    go_enter Tryz.func172, Tryz.ntmps172
    go_wp2
    go_ret
    exact ⟨rfl, rfl⟩
  · have h1 : n - 1 < n := by omega
    obtain ⟨b, o, rfl, hb, hj, hc⟩ := h.at h1
    have hcc := hc 0 _ rfl
    have e1 : (n : Int) - 1 = ((n - 1 : Nat) : Int) := by omega
    have HL : Hid (lastCk es = es[n - 1].ck) := by
      show _ = _
      rw [lastCk_pos es (by omega)]
      subst hl
      rfl
    rw [HL.out]
    generalize es[n - 1].ck = x at *
    have hd : ((n : Int) == 0) = false := by simp; omega
    have hd1 : (0 : Int) ≤ (n : Int) - 1 := by omega
    have hd2 : (n : Int) - 1 < (n : Int) := by omega
    have e2 : ((n : Int) - 1).toNat = n - 1 := by omega
    rw [Nat.add_zero] at hcc
    clear hc h hl e1
    go_enter Tryz.func172, Tryz.ntmps172
    go_wp2
    go_ret
    exact ⟨rfl, rfl⟩
end Go.Proofs.YtpbpdnjlomhkdaaGreat

namespace Go.Proofs.YtpbpdnjlomhkdaaGreat
open Go.RowKit Go.Shelf

/-- A function that caught these. -/
def fnV (F : Nat) (caps : Array Value) : Value := .func (.func F) #[] caps
/-- The slice (B, n, ..) reads as these functions. -/
def FS (w : World) (B n : Nat) (fs : List (Nat × Array Value)) : Prop := fs.length = n ∧ ∀ j (h : j < fs.length), w.cell? ⟨B, j, none⟩ = some (fnV fs[j].1 fs[j].2)
theorem FS.below {w w' : World} {B n : Nat} {fs : List (Nat × Array Value)} (h : FS w B n fs) (hb : Below w.heap.size w w') : FS w' B n fs :=
  ⟨h.1, fun j hj => (hb.cell (World.block_lt_of_cell? w _ (h.2 j hj))).trans (h.2 j hj)⟩
/-- The first one that does not hold, or -1. -/
def fndN (bs : List Bool) : Int := if bs.all id then -1 else ((bs.findIdx (!·) : Nat) : Int)
theorem fndN_neg (bs : List Bool) (h : ∀ j, (hj : j < bs.length) → bs[j] = true) : fndN bs = -1 := by
  unfold fndN
  rw [if_pos]
  rw [List.all_eq_true]
  intro b hb
  obtain ⟨j, hj, rfl⟩ := List.getElem_of_mem hb
  exact h j hj
theorem fndN_hit (bs : List Bool) (k : Nat) (hk : k < bs.length) (hb : bs[k] = false) (h : ∀ j, (hj : j < bs.length) → j < k → bs[j] = true) : fndN bs = (k : Int) := by
  have h1 : bs.findIdx (!·) = k := by
    rw [List.findIdx_eq hk]
    exact ⟨by simp [hb], fun j hj => by simp [h j (by omega) hj]⟩
  unfold fndN
  rw [if_neg, h1]
  intro ha
  rw [List.all_eq_true] at ha
  have := ha _ (List.getElem_mem hk)
  rw [hb] at this
  cases this
theorem fndN_dec (bs : List Bool) : decide (0 ≤ fndN bs) = !(bs.all id) := by
  unfold fndN
  cases hb : bs.all id
  · simp
  · simp
/-- Asked in their order, each holds or not, as long as those ahead of it hold. -/
def Asked (w : World) (fs : List (Nat × Array Value)) (bs : List Bool) : Prop := bs.length = fs.length ∧ ∀ j (h : j < fs.length) (hb : j < bs.length), (∀ i, (hi : i < bs.length) → i < j → bs[i] = true) → ∀ W, Below w.heap.size w W →
  (∀ args V, (callFunc fs[j].1 args).run Tryz.prog V = .ok (.enter fs[j].1 args) V) ∧ Calls Tryz.prog fs[j].1 fs[j].2 W fun e w' => e = .returned (.bool bs[j]) ∧ Below W.heap.size W w'

set_option maxRecDepth 100000 in
set_option maxHeartbeats 1000000 in
theorem all1_any (F : Nat) (caps : Array Value) (b : Bool) (w : World) (eg : ∀ args V, (callFunc F args).run Tryz.prog V = .ok (.enter F args) V) (h : Calls Tryz.prog F caps w fun e w' => e = .returned (.bool b) ∧ Below w.heap.size w w') :
    Calls Tryz.prog 136 #[fnV F caps] w fun e w' => e = .returned (.bool (!b)) ∧ Below w.heap.size w w' := by
  have HC := Lib.hid h
  clear h
  go_enter Tryz.func136, Tryz.ntmps136
  unfold fnV
  go_wp2_with (go_at_fn F; refine HC.out.mono ?_; rintro en w' ⟨rfl, hb'⟩)
  go_ret
  exact ⟨rfl, hb'⟩

set_option maxRecDepth 100000 in
set_option maxHeartbeats 2000000 in
theorem indexAll_any (B n cp : Nat) (fs : List (Nat × Array Value)) (bs : List Bool) (w : World) (h : FS w B n fs) (hn : n ≤ 1000) (hq : Asked w fs bs) :
    Calls Tryz.prog 166 #[.slice (some ⟨B, 0, none⟩) n cp, fnV 136 #[]] w fun en w' => en = .returned (.int .i64 (fndN bs)) ∧ Below w.heap.size w w' := by
  have HX := Lib.hid h
  have HN : Hid (fs.length = n) := h.1
  have HL : Hid (bs.length = fs.length) := hq.1
  have HP := Lib.hid hq.2
  clear h hq
  go_enter Tryz.func166, Tryz.ntmps166
  unfold fnV
  go_wp2
  go_loopg [5, 8] n (fun gg _ s8 wr => ∃ k : Nat, k ≤ n ∧ n - k ≤ gg ∧ s8 = .int .i64 k ∧ Hid (Below w.heap.size w wr) ∧ Hid (∀ j, (h : j < bs.length) → j < k → bs[j] = true))
  case atStart => exact ⟨0, Nat.zero_le _, by omega, rfl, Below.refl _ w, fun j _ hj => absurd hj (Nat.not_lt_zero _)⟩
  case round =>
    obtain ⟨k, hk, hg, rfl, HB, HO⟩ := hrel
    by_cases hlt : k < n
    · have hj : k < fs.length := by rw [HN.out]; exact hlt
      have hjb : k < bs.length := by rw [HL.out]; exact hj
      have hc := (HX.out.below HB.out).2 k hj
      obtain ⟨h1, h2⟩ := HP.out k hj hjb HO.out wr HB.out
      have HCALL := Lib.hid (all1_any fs[k].1 fs[k].2 bs[k] wr h1 h2)
      clear h1 h2
      generalize fnV fs[k].1 fs[k].2 = fv at *
      cases hq : bs[k] with
      | false =>
        rw [hq] at HCALL
        have HY := Lib.hid (fndN_hit bs k hjb hq HO.out)
        clear hq
        go_wp2_with (refine HCALL.out.mono ?_; rintro en w' ⟨rfl, hb'⟩)
        go_ret
        exact ⟨by rw [HY.out]; rfl, HB.out.trans (hb'.mono HB.out.size)⟩
      | true =>
        rw [hq] at HCALL
        have HF := Lib.hid hq
        clear hq
        go_wp2_with (refine HCALL.out.mono ?_; rintro en w' ⟨rfl, hb'⟩)
        go_roundg (n - (k + 1))
        case measure => omega
        case rel =>
          refine ⟨k + 1, by omega, by omega, by go_num, HB.out.trans (hb'.mono HB.out.size), (show Hid _ from fun j hj hjk => ?_)⟩
          by_cases e : j = k
          · subst e
            exact HF.out
          · exact HO.out j hj (by omega)
    · have : k = n := by omega
      subst this
      have HY := Lib.hid (fndN_neg bs (fun j h => HO.out j h (by have := HN.out; have := HL.out; omega)))
      go_wp2
      go_ret
      exact ⟨by rw [HY.out]; rfl, HB.out⟩

set_option maxRecDepth 100000 in
set_option maxHeartbeats 1000000 in
theorem all_any (B n cp : Nat) (fs : List (Nat × Array Value)) (bs : List Bool) (w : World) (h : FS w B n fs) (hn : n ≤ 1000) (hq : Asked w fs bs) :
    Calls Tryz.prog 89 #[.slice (some ⟨B, 0, none⟩) n cp] w fun en w' => en = .returned (.bool (bs.all id)) ∧ Below w.heap.size w w' := by
  have HC := Lib.hid (indexAll_any B n cp fs bs w h hn hq)
  have hd := fndN_dec bs
  clear h hq
  generalize fndN bs = z at *
  generalize bs.all id = b at *
  have hc : Calls Tryz.prog 135 #[.slice (some ⟨B, 0, none⟩) n cp, fnV 136 #[]] w fun en w' => en = .returned (.bool (!b)) ∧ Below w.heap.size w w' := by
    go_enter Tryz.func135, Tryz.ntmps135
    unfold fnV at *
    go_wp2_with fail
    refine HC.out.mono ?_
    rintro e w1 ⟨rfl, hb⟩
    go_wp2_with fail
    go_ret
    exact ⟨by rw [← hd]; rfl, hb⟩
  have HD := Lib.hid hc
  clear hc HC hd
  go_enter Tryz.func89, Tryz.ntmps89
  unfold fnV at *
  go_wp2_with fail
  refine HD.out.mono ?_
  rintro e w1 ⟨rfl, hb⟩
  go_wp2_with fail
  go_ret
  exact ⟨by simp, hb⟩
end Go.Proofs.YtpbpdnjlomhkdaaGreat

namespace Go.Proofs.YtpbpdnjlomhkdaaGreat
open Go.RowKit

theorem rdO_most (m : Nat) (s : St) (h : (rdO m s).1.2 = 0) : (rdO m s).2.length ≤ m := by
  unfold rdO at h ⊢
  split at h
  · rename_i h1; exact absurd h h1
  rename_i h1
  rw [if_neg h1]
  split at h
  · cases h
  rename_i h2
  rw [if_neg h2]
  split at h
  · cases h
  rename_i h3
  rw [if_neg h3]
  split at h
  · rename_i h4
    rw [if_pos h4]
    simp only [List.length_take]
    omega
  · cases h

/-- A way to put a thing and to read it. -/
structure Cd (α : Type) where
  enc : α → List UInt8
  rd : St → St × α
  ok : α → Prop
  put : ∀ a t, ok a → rd (enc a ++ t, 0) = ((t, 0), a)
  back : ∀ s, (rd s).1.2 = 0 → s.2 = 0 ∧ s.1 = enc (rd s).2 ++ (rd s).1.1 ∧ ok (rd s).2
  cut : ∀ a j, ok a → j < (enc a).length → (rd ((enc a).take j, 0)).1.2 = 10
  err : ∀ l e, e ≠ 0 → (rd (l, e)).1 = (l, e)

/-- A number of n bytes. -/
def cN (n : Nat) : Cd Nat where
  enc := be n
  rd := rdN n
  ok x := x < 256 ^ n
  put a t h := rdN_be n a t h
  back s h := by
    obtain ⟨h1, h2, h3⟩ := rdN_back n s h
    exact ⟨h1, h2, h3⟩
  cut a j h hj := by
    rw [be_length] at hj
    rw [rdN_short]
    rw [List.length_take, be_length]
    omega
  err l e h := by rw [rdN_err n l e h]
/-- Bytes, so many at most. -/
def cO (m : Nat) (hm : m < 4294967296) : Cd (List UInt8) where
  enc := opq
  rd := rdO m
  ok b := b.length ≤ m
  put b t h := rdO_opq m b t (by omega) (by omega)
  back s h := by
    have h0 : s.2 = 0 := by
      by_cases h0 : s.2 = 0
      · exact h0
      · obtain ⟨l, e⟩ := s
        rw [rdO_err m l e h0] at h
        exact absurd h h0
    obtain ⟨l, e⟩ := s
    dsimp only at h0
    subst h0
    refine ⟨rfl, rdO_one m l h, ?_⟩
    exact rdO_most m (l, 0) h
  cut b j h hj := by
    obtain ⟨l, hl⟩ := rdO_cut m b j hj (by omega) (by omega)
    rw [hl]
  err l e h := by rw [rdO_err m l e h]
/-- A bool. -/
def cB : Cd Bool where
  enc b := be 4 (b01 b)
  rd := rdB
  ok _ := True
  put b t _ := by
    have := rdN_be 4 (b01 b) t (by cases b <;> decide)
    unfold rdB
    rw [this]
    cases b <;> rfl
  back s h := by
    unfold rdB at h ⊢
    split at h
    · cases h
    · rename_i hx
      rw [if_neg hx]
      obtain ⟨h1, h2, _⟩ := rdN_back 4 s h
      refine ⟨h1, ?_, trivial⟩
      generalize (rdN 4 s).2 = x at *
      have hb : b01 (x == 1) = x := by
        have : x = 0 ∨ x = 1 := by omega
        rcases this with rfl | rfl <;> rfl
      rw [hb]
      exact h2
  cut b j _ hj := by
    rw [be_length] at hj
    unfold rdB
    rw [rdN_short 4 _ (by rw [List.length_take, be_length]; omega)]
    rfl
  err l e h := by rw [rdB_err l e h]
/-- One behind the other. -/
def Cd.seq {α β : Type} (A : Cd α) (B : Cd β) : Cd (α × β) where
  enc x := A.enc x.1 ++ B.enc x.2
  rd s := ((B.rd (A.rd s).1).1, ((A.rd s).2, (B.rd (A.rd s).1).2))
  ok x := A.ok x.1 ∧ B.ok x.2
  put x t h := by
    have h1 := A.put x.1 (B.enc x.2 ++ t) h.1
    have h2 := B.put x.2 t h.2
    rw [List.append_assoc, h1]
    simp only [h2]
  back s h := by
    obtain ⟨h1, h2, h3⟩ := B.back (A.rd s).1 h
    obtain ⟨h4, h5, h6⟩ := A.back s h1
    refine ⟨h4, ?_, h6, h3⟩
    simp only
    rw [List.append_assoc, ← h2, ← h5]
  cut x j h hj := by
    rw [List.length_append] at hj
    simp only
    by_cases hl : j < (A.enc x.1).length
    · have h1 := A.cut x.1 j h.1 hl
      rw [List.take_append_of_le_length (by omega)]
      generalize hs : (A.rd ((A.enc x.1).take j, 0)).1 = s at *
      obtain ⟨l, e⟩ := s
      dsimp only at h1
      subst h1
      rw [B.err l 10 (by decide)]
    · rw [List.take_append, List.take_of_length_le (Nat.le_of_not_lt hl), A.put x.1 _ h.1]
      exact B.cut x.2 _ h.2 (by omega)
  err l e h := by
    have h1 := A.err l e h
    simp only [h1]
    exact B.err l e h

section
variable {α : Type} (C : Cd α)
/-- What is read of whole bytes: the error of the end. -/
def Cd.bad (l : List UInt8) : Int := endOf (C.rd (l, 0)).1.1 (C.rd (l, 0)).1.2
theorem Cd.bad_put (a : α) (h : C.ok a) : C.bad (C.enc a) = 0 ∧ (C.rd (C.enc a, 0)).2 = a := by
  have := C.put a [] h
  rw [List.append_nil] at this
  unfold Cd.bad
  rw [this]
  exact ⟨rfl, rfl⟩
theorem Cd.bad_more (a : α) (t : List UInt8) (h : C.ok a) (ht : 0 < t.length) : C.bad (C.enc a ++ t) = 12 := by
  unfold Cd.bad
  rw [C.put a t h]
  exact if_pos ⟨rfl, ht⟩
theorem Cd.bad_cut (a : α) (j : Nat) (h : C.ok a) (hj : j < (C.enc a).length) : C.bad ((C.enc a).take j) = 10 := by
  unfold Cd.bad
  have := C.cut a j h hj
  rw [this]
  exact if_neg (fun h => by cases h.1)
theorem Cd.bad_back (l : List UInt8) (h : C.bad l = 0) : l = C.enc (C.rd (l, 0)).2 ∧ C.ok (C.rd (l, 0)).2 := by
  unfold Cd.bad endOf at h
  split at h
  · cases h
  · rename_i hx
    obtain ⟨_, h2, h3⟩ := C.back (l, 0) h
    have h0 : (C.rd (l, 0)).1.1 = [] := by
      have : ¬ 0 < (C.rd (l, 0)).1.1.length := fun hp => hx ⟨h, hp⟩
      exact List.eq_nil_of_length_eq_zero (by omega)
    rw [h0, List.append_nil] at h2
    exact ⟨h2, h3⟩
end

/-! ### Calls -/
structure Cl where
  cli : Nat
  xid : Nat
  op : Nat
  ati : Nat
  atg : Nat
  nm : List UInt8
  toi : Nat
  tog : Nat
  tn : List UInt8
  off : Nat
  vf : Nat
  cnt : Nat
  md : Nat
  dt : List UInt8
  deriving DecidableEq
structure Cl.Wide (c : Cl) : Prop where
  cli : c.cli < 4294967296
  xid : c.xid < 4294967296
  op : c.op < 4294967296
  ati : c.ati < 4294967296
  atg : c.atg < 4294967296
  toi : c.toi < 4294967296
  tog : c.tog < 4294967296
  off : c.off < 18446744073709551616
  vf : c.vf < 18446744073709551616
  cnt : c.cnt < 4294967296
  md : c.md < 4294967296
def c4 : Cd Nat := cN 4
def c8 : Cd Nat := cN 8
def cH : Cd (Nat × Nat) := c4.seq c4
def Cl.zero : Cl := ⟨0, 0, 0, 0, 0, [], 0, 0, [], 0, 0, 0, 0, []⟩
abbrev Ct := Nat × Nat × Nat × (Nat × Nat) × List UInt8 × (Nat × Nat) × List UInt8 × Nat × Nat × Nat × Nat × List UInt8
def callC : Cd Ct := c4.seq (c4.seq (c4.seq (cH.seq ((cO 64 (by decide)).seq (cH.seq ((cO 64 (by decide)).seq (c8.seq (c8.seq (c4.seq (c4.seq (cO 1024 (by decide))))))))))))
def Cl.tup (c : Cl) : Ct := (c.cli, c.xid, c.op, (c.ati, c.atg), c.nm, (c.toi, c.tog), c.tn, c.off, c.vf, c.cnt, c.md, c.dt)
def Cl.of (t : Ct) : Cl := ⟨t.1, t.2.1, t.2.2.1, t.2.2.2.1.1, t.2.2.2.1.2, t.2.2.2.2.1, t.2.2.2.2.2.1.1, t.2.2.2.2.2.1.2, t.2.2.2.2.2.2.1, t.2.2.2.2.2.2.2.1, t.2.2.2.2.2.2.2.2.1, t.2.2.2.2.2.2.2.2.2.1, t.2.2.2.2.2.2.2.2.2.2.1, t.2.2.2.2.2.2.2.2.2.2.2⟩
theorem Cl.of_tup (c : Cl) : Cl.of c.tup = c := rfl
theorem Cl.tup_of (t : Ct) : (Cl.of t).tup = t := rfl
def opOk (op : Nat) : Bool := decide (1 ≤ op) && decide (op ≤ 16)
def Cl.okB (c : Cl) : Bool := opOk c.op && decide (c.nm.length ≤ 64) && decide (c.tn.length ≤ 64) && decide (c.dt.length ≤ 1024)
def Cl.enc (c : Cl) : List UInt8 := callC.enc c.tup
def Cl.errP (c : Cl) : Int := if c.okB then 0 else 1
def Cl.put (c : Cl) : List UInt8 := if c.okB then c.enc else []
def Cl.rd (l : List UInt8) : Cl := Cl.of (callC.rd (l, 0)).2
def Cl.err (l : List UInt8) : Int := if callC.bad l ≠ 0 then callC.bad l else if opOk (Cl.rd l).op then 0 else 11
def Cl.got (l : List UInt8) : Cl := if Cl.err l = 0 then Cl.rd l else Cl.zero
theorem Cl.enc_eq (c : Cl) : c.enc = be 4 c.cli ++ (be 4 c.xid ++ (be 4 c.op ++ ((be 4 c.ati ++ be 4 c.atg) ++ (opq c.nm ++ ((be 4 c.toi ++ be 4 c.tog) ++ (opq c.tn ++ (be 8 c.off ++ (be 8 c.vf ++ (be 4 c.cnt ++ (be 4 c.md ++ opq c.dt)))))))))) := rfl
theorem Cl.ok_iff (c : Cl) : callC.ok c.tup ↔ c.Wide ∧ c.nm.length ≤ 64 ∧ c.tn.length ≤ 64 ∧ c.dt.length ≤ 1024 := by
  constructor
  · rintro ⟨h1, h2, h3, ⟨h4, h5⟩, h6, ⟨h7, h8⟩, h9, h10, h11, h12, h13, h14⟩
    exact ⟨⟨h1, h2, h3, h4, h5, h7, h8, h10, h11, h12, h13⟩, h6, h9, h14⟩
  · rintro ⟨⟨h1, h2, h3, h4, h5, h7, h8, h10, h11, h12, h13⟩, h6, h9, h14⟩
    exact ⟨h1, h2, h3, ⟨h4, h5⟩, h6, ⟨h7, h8⟩, h9, h10, h11, h12, h13, h14⟩
theorem Cl.okB_iff (c : Cl) : c.okB = true ↔ opOk c.op = true ∧ c.nm.length ≤ 64 ∧ c.tn.length ≤ 64 ∧ c.dt.length ≤ 1024 := by
  simp [Cl.okB, Bool.and_eq_true, and_assoc]
theorem Cl.ok_of (c : Cl) (hw : c.Wide) (h : c.okB = true) : callC.ok c.tup := (Cl.ok_iff c).2 ⟨hw, ((Cl.okB_iff c).1 h).2⟩
theorem Cl.got_put (c : Cl) (hw : c.Wide) (h : c.okB = true) : Cl.err c.enc = 0 ∧ Cl.got c.enc = c := by
  obtain ⟨h1, h2⟩ := callC.bad_put c.tup (c.ok_of hw h)
  have h3 : Cl.rd c.enc = c := by
    show Cl.of (callC.rd (callC.enc c.tup, 0)).2 = c
    rw [h2, Cl.of_tup]
  have h4 : Cl.err c.enc = 0 := by
    unfold Cl.err
    rw [show callC.bad c.enc = 0 from h1, if_neg (by simp), h3, if_pos ((Cl.okB_iff c).1 h).1]
  exact ⟨h4, by unfold Cl.got; rw [if_pos h4, h3]⟩
theorem Cl.err_cases (l : List UInt8) (h : Cl.err l = 0) : callC.bad l = 0 ∧ opOk (Cl.rd l).op = true ∧ Cl.got l = Cl.rd l := by
  have hg : Cl.got l = Cl.rd l := if_pos h
  unfold Cl.err at h
  split at h
  · rename_i h1; exact absurd h h1
  · rename_i h1
    split at h
    · rename_i h2; exact ⟨by simpa using h1, h2, hg⟩
    · cases h
theorem Cl.got_back (l : List UInt8) (h : Cl.err l = 0) : (Cl.got l).okB = true ∧ (Cl.got l).enc = l ∧ (Cl.got l).Wide := by
  obtain ⟨h1, h2, h3⟩ := Cl.err_cases l h
  obtain ⟨h4, h5⟩ := callC.bad_back l h1
  have h6 := (Cl.ok_iff (Cl.rd l)).1 h5
  rw [h3]
  exact ⟨(Cl.okB_iff _).2 ⟨h2, h6.2⟩, h4.symm, h6.1⟩
theorem Cl.err_more (c : Cl) (t : List UInt8) (hw : c.Wide) (h : c.okB = true) (ht : 0 < t.length) : Cl.err (c.enc ++ t) = 12 := by
  have := callC.bad_more c.tup t (c.ok_of hw h) ht
  unfold Cl.err
  rw [show callC.bad (c.enc ++ t) = 12 from this]
  rfl
theorem Cl.err_cut (c : Cl) (j : Nat) (hw : c.Wide) (h : c.okB = true) (hj : j < c.enc.length) : Cl.err (c.enc.take j) = 10 := by
  have := callC.bad_cut c.tup j (c.ok_of hw h) hj
  unfold Cl.err
  rw [show callC.bad (c.enc.take j) = 10 from this]
  rfl
theorem Cl.enc_inj (a b : Cl) (ha : a.Wide) (hb : b.Wide) (h1 : a.okB = true) (h2 : b.okB = true) (h : a.enc = b.enc) : a = b := by
  have := (Cl.got_put a ha h1).2
  rw [h, (Cl.got_put b hb h2).2] at this
  exact this.symm
theorem opq_mod (b : List UInt8) : (opq b).length % 4 = 0 := by rw [opq_length]; unfold pad; omega
theorem Cl.enc_mod (c : Cl) : c.enc.length % 4 = 0 := by
  rw [Cl.enc_eq]
  have h1 := opq_mod c.nm
  have h2 := opq_mod c.tn
  have h3 := opq_mod c.dt
  simp only [List.length_append, be_length]
  omega
theorem Cl.enc_len (c : Cl) (h : c.okB = true) : 64 ≤ c.enc.length ∧ c.enc.length ≤ 2000 := by
  obtain ⟨_, h1, h2, h3⟩ := (Cl.okB_iff c).1 h
  rw [Cl.enc_eq]
  have p1 := pad_lt c.nm.length
  have p2 := pad_lt c.tn.length
  have p3 := pad_lt c.dt.length
  simp only [List.length_append, be_length, opq_length]
  omega

/-! ### Replies -/
structure Rp where
  cli : Nat
  xid : Nat
  st : Int
  ati : Nat
  atg : Nat
  kd : Nat
  md : Nat
  ln : Nat
  sz : Nat
  ch : Nat
  dt : List UInt8
  es : List En
  eof : Bool
  vf : Nat
  fr : Nat
  deriving DecidableEq
structure Rp.Wide (r : Rp) : Prop where
  cli : r.cli < 4294967296
  xid : r.xid < 4294967296
  ati : r.ati < 4294967296
  atg : r.atg < 4294967296
  kd : r.kd < 4294967296
  md : r.md < 4294967296
  ln : r.ln < 4294967296
  sz : r.sz < 4294967296
  ch : r.ch < 18446744073709551616
  vf : r.vf < 18446744073709551616
  fr : r.fr < 4294967296
  es : ∀ e ∈ r.es, e.Wide
def cA : Cd (Nat × Nat × Nat × Nat × Nat) := c4.seq (c4.seq (c4.seq (c4.seq c8)))
abbrev Rt := Nat × Nat × Nat × (Nat × Nat) × (Nat × Nat × Nat × Nat × Nat) × List UInt8 × List UInt8 × Bool × Nat × Nat
def replyC : Cd Rt := c4.seq (c4.seq (c4.seq (cH.seq (cA.seq ((cO 1024 (by decide)).seq ((cO 2048 (by decide)).seq (cB.seq (c8.seq c4))))))))
def Rp.tup (r : Rp) : Rt := (r.cli, r.xid, r.st.toNat, (r.ati, r.atg), (r.kd, r.md, r.ln, r.sz, r.ch), r.dt, encs r.es, r.eof, r.vf, r.fr)
def Rp.of (t : Rt) (es : List En) : Rp := ⟨t.1, t.2.1, (t.2.2.1 : Int), t.2.2.2.1.1, t.2.2.2.1.2, t.2.2.2.2.1.1, t.2.2.2.2.1.2.1, t.2.2.2.2.1.2.2.1, t.2.2.2.2.1.2.2.2.1, t.2.2.2.2.1.2.2.2.2, t.2.2.2.2.2.1, es, t.2.2.2.2.2.2.2.1, t.2.2.2.2.2.2.2.2.1, t.2.2.2.2.2.2.2.2.2⟩
def Rt.row (t : Rt) : List UInt8 := t.2.2.2.2.2.2.1
def Rp.zero : Rp := ⟨0, 0, 0, 0, 0, 0, 0, 0, 0, 0, [], [], false, 0, 0⟩
def stOk (z : Int) : Bool := decide (z = 0) || decide (60 ≤ z) && decide (z ≤ 71)
def Rp.okA (r : Rp) : Bool := stOk r.st && decide (r.dt.length ≤ 1024) && decide (r.es.length ≤ 24)
def Rp.okB (r : Rp) : Bool := r.okA && Go.Proofs.YtpbpdnjlomhkdaaGreat.okB r.es
def Rp.enc (r : Rp) : List UInt8 := replyC.enc r.tup
def Rp.errP (r : Rp) : Int := if r.okA then chkE r.es else 1
def Rp.put (r : Rp) : List UInt8 := if r.okB then r.enc else []
def Rp.rd (l : List UInt8) : Rt := (replyC.rd (l, 0)).2
def Rp.err (l : List UInt8) : Int := if replyC.bad l ≠ 0 then replyC.bad l else if errE (Rp.rd l).row ≠ 0 then errE (Rp.rd l).row else if stOk ((Rp.rd l).2.2.1 : Int) && decide ((gotE (Rp.rd l).row).length ≤ 24) then 0 else 11
def Rp.got (l : List UInt8) : Rp := if Rp.err l = 0 then Rp.of (Rp.rd l) (gotE (Rp.rd l).row) else Rp.zero
theorem Rp.enc_eq (r : Rp) : r.enc = be 4 r.cli ++ (be 4 r.xid ++ (be 4 r.st.toNat ++ ((be 4 r.ati ++ be 4 r.atg) ++ ((be 4 r.kd ++ (be 4 r.md ++ (be 4 r.ln ++ (be 4 r.sz ++ be 8 r.ch)))) ++ (opq r.dt ++ (opq (encs r.es) ++ (be 4 (b01 r.eof) ++ (be 8 r.vf ++ be 4 r.fr)))))))) := rfl
theorem stOk_iff (z : Int) : stOk z = true ↔ z = 0 ∨ 60 ≤ z ∧ z ≤ 71 := by simp [stOk]
theorem Rp.okA_iff (r : Rp) : r.okA = true ↔ stOk r.st = true ∧ r.dt.length ≤ 1024 ∧ r.es.length ≤ 24 := by
  simp [Rp.okA, and_assoc]
theorem Rp.okB_iff (r : Rp) : r.okB = true ↔ r.okA = true ∧ Go.Proofs.YtpbpdnjlomhkdaaGreat.okB r.es = true := by simp [Rp.okB]
theorem encs_len (es : List En) (h : ∀ e ∈ es, e.nm.length ≤ 24) : (encs es).length ≤ 44 * es.length := by
  induction es with
  | nil => exact Nat.zero_le _
  | cons e r ih =>
    rw [encs_cons, List.length_append, enc1_length, List.length_cons]
    have h1 := ih fun x hx => h x (List.mem_cons_of_mem _ hx)
    have h2 := h e List.mem_cons_self
    unfold pad
    omega
theorem Rp.ok_of (r : Rp) (hw : r.Wide) (h : r.okB = true) : replyC.ok r.tup := by
  obtain ⟨h1, h2⟩ := r.okB_iff.1 h
  obtain ⟨h3, h4, h5⟩ := r.okA_iff.1 h1
  have h6 := encs_len r.es (okB_names _ h2)
  have h7 := (stOk_iff _).1 h3
  have h8 : r.st.toNat < 4294967296 := by omega
  exact ⟨hw.cli, hw.xid, h8, ⟨hw.ati, hw.atg⟩, ⟨hw.kd, hw.md, hw.ln, hw.sz, hw.ch⟩, h4, by show (encs r.es).length ≤ 2048; omega, trivial, hw.vf, hw.fr⟩
theorem Rp.enc_len (r : Rp) (h : r.okB = true) : 64 ≤ r.enc.length ∧ r.enc.length ≤ 4000 := by
  obtain ⟨h1, h2⟩ := r.okB_iff.1 h
  obtain ⟨h3, h4, h5⟩ := r.okA_iff.1 h1
  have h6 := encs_len r.es (okB_names _ h2)
  rw [Rp.enc_eq]
  have p1 := pad_lt r.dt.length
  have p2 := pad_lt (encs r.es).length
  simp only [List.length_append, be_length, opq_length]
  omega
theorem Rp.got_put (r : Rp) (hw : r.Wide) (h : r.okB = true) : Rp.err r.enc = 0 ∧ Rp.got r.enc = r := by
  obtain ⟨g1, g2⟩ := r.okB_iff.1 h
  obtain ⟨g3, g4, g5⟩ := r.okA_iff.1 g1
  obtain ⟨h1, h2⟩ := replyC.bad_put r.tup (r.ok_of hw h)
  have h3 : Rp.rd r.enc = r.tup := h2
  obtain ⟨k1, k2⟩ := Go.Proofs.YtpbpdnjlomhkdaaGreat.got_put r.es hw.es g2
  have hp : putE r.es = encs r.es := if_pos g2
  rw [hp] at k1 k2
  have h7 := (stOk_iff _).1 g3
  have hs : ((r.st.toNat : Nat) : Int) = r.st := by omega
  have h4 : Rp.err r.enc = 0 := by
    unfold Rp.err
    rw [show replyC.bad r.enc = 0 from h1, if_neg (by simp), h3]
    show (if errE (encs r.es) ≠ 0 then errE (encs r.es) else if stOk ((r.st.toNat : Nat) : Int) && decide ((gotE (encs r.es)).length ≤ 24) then 0 else 11) = 0
    rw [k1, k2, hs, if_neg (by simp), g3, if_pos (by simpa using g5)]
  refine ⟨h4, ?_⟩
  unfold Rp.got
  rw [if_pos h4, h3]
  show Rp.of r.tup (gotE (encs r.es)) = r
  rw [k2]
  show Rp.mk r.cli r.xid ((r.st.toNat : Nat) : Int) r.ati r.atg r.kd r.md r.ln r.sz r.ch r.dt r.es r.eof r.vf r.fr = r
  rw [hs]
theorem Rp.err_cases (l : List UInt8) (h : Rp.err l = 0) : replyC.bad l = 0 ∧ errE (Rp.rd l).row = 0 ∧ stOk ((Rp.rd l).2.2.1 : Int) = true ∧ (gotE (Rp.rd l).row).length ≤ 24 ∧ Rp.got l = Rp.of (Rp.rd l) (gotE (Rp.rd l).row) := by
  have hg : Rp.got l = _ := if_pos h
  unfold Rp.err at h
  split at h
  · rename_i h1; exact absurd h h1
  rename_i h1
  split at h
  · rename_i h2; exact absurd h h2
  rename_i h2
  split at h
  · rename_i h3
    simp only [Bool.and_eq_true, decide_eq_true_eq] at h3
    exact ⟨by simpa using h1, by simpa using h2, h3.1, h3.2, hg⟩
  · cases h
theorem Rp.got_back (l : List UInt8) (h : Rp.err l = 0) : (Rp.got l).okB = true ∧ (Rp.got l).enc = l ∧ (Rp.got l).Wide := by
  obtain ⟨h1, h2, h3, h4, h5⟩ := Rp.err_cases l h
  obtain ⟨h6, h7⟩ := replyC.bad_back l h1
  obtain ⟨k1, k2⟩ := Go.Proofs.YtpbpdnjlomhkdaaGreat.got_back (Rp.rd l).row h2
  have k3 : encs (gotE (Rp.rd l).row) = (Rp.rd l).row := by
    have hp : putE (gotE (Rp.rd l).row) = encs (gotE (Rp.rd l).row) := if_pos k1
    rw [← hp]; exact k2
  have hw := gotE_wide (Rp.rd l).row
  rw [h5]
  generalize hes : gotE (Rp.rd l).row = es at *
  change replyC.ok (Rp.rd l) at h7
  change l = replyC.enc (Rp.rd l) at h6
  generalize Rp.rd l = t at *
  obtain ⟨b1, b2, b3, ⟨b4, b5⟩, ⟨b6, b7, b8, b9, b10⟩, b11, b12, _, b14, b15⟩ := h7
  have ht : (Rp.of t es).tup = t := by
    show (t.1, t.2.1, (t.2.2.1 : Int).toNat, _, _, _, encs es, _) = t
    rw [k3, Int.toNat_natCast]
    rfl
  refine ⟨(Rp.okB_iff _).2 ⟨(Rp.okA_iff _).2 ⟨h3, b11, h4⟩, k1⟩, ?_, ⟨b1, b2, b4, b5, b6, b7, b8, b9, b10, b14, b15, hw⟩⟩
  show replyC.enc (Rp.of t es).tup = l
  rw [ht, ← h6]
theorem Rp.err_more (r : Rp) (t : List UInt8) (hw : r.Wide) (h : r.okB = true) (ht : 0 < t.length) : Rp.err (r.enc ++ t) = 12 := by
  have := replyC.bad_more r.tup t (r.ok_of hw h) ht
  unfold Rp.err
  rw [show replyC.bad (r.enc ++ t) = 12 from this]
  rfl
theorem Rp.err_cut (r : Rp) (j : Nat) (hw : r.Wide) (h : r.okB = true) (hj : j < r.enc.length) : Rp.err (r.enc.take j) = 10 := by
  have := replyC.bad_cut r.tup j (r.ok_of hw h) hj
  unfold Rp.err
  rw [show replyC.bad (r.enc.take j) = 10 from this]
  rfl
end Go.Proofs.YtpbpdnjlomhkdaaGreat

namespace Go.Proofs.YtpbpdnjlomhkdaaGreat
open Go.RowKit

/-- 0 and '/'. -/
def sep : ByteArray := ⟨#[0, 47]⟩
theorem sep_size : sep.size = 2 := rfl
theorem sep_list : sep.data.toList = [0, 47] := rfl

/-! Runes of a string that is no ASCII. -/
theorem enc_high (c : Nat) (h : 128 ≤ c) (h2 : c ≤ 1114111) : 2 ≤ (Utf8.encode (c : Int)).size ∧ (Utf8.encode (c : Int)).size ≤ 4 ∧ ∀ i (hi : i < (Utf8.encode (c : Int)).size), 128 ≤ ((Utf8.encode (c : Int))[i]).toNat := by
  have main : ∀ d : Nat, 128 ≤ d → d ≤ 1114111 → ∀ u : ByteArray, u = (if d < 0x80 then ⟨#[UInt8.ofNat d]⟩ else if d < 0x800 then ⟨#[UInt8.ofNat (0xC0 + d / 64), UInt8.ofNat (0x80 + d % 64)]⟩
      else if d < 0x10000 then ⟨#[UInt8.ofNat (0xE0 + d / 4096), UInt8.ofNat (0x80 + d / 64 % 64), UInt8.ofNat (0x80 + d % 64)]⟩
      else ⟨#[UInt8.ofNat (0xF0 + d / 262144), UInt8.ofNat (0x80 + d / 4096 % 64), UInt8.ofNat (0x80 + d / 64 % 64), UInt8.ofNat (0x80 + d % 64)]⟩) → 2 ≤ u.size ∧ u.size ≤ 4 ∧ ∀ i (hi : i < u.size), 128 ≤ (u[i]).toNat := by
    intro d hd hd2 u hu
    rw [if_neg (by omega)] at hu
    have hz : ∀ k : Nat, k < 128 → 128 ≤ (UInt8.ofNat (128 + k)).toNat := fun k hk => by simp; omega
    have hk : ∀ k : Nat, 128 ≤ k → k < 256 → 128 ≤ (UInt8.ofNat k).toNat := fun k h1 h2 => by simp; omega
    split at hu
    · subst hu
      refine ⟨?_, ?_, fun i hi => ?_⟩
      · simp [ByteArray.size]
      · simp [ByteArray.size]
      match i, hi with
      | 0, _ => exact hk _ (by omega) (by omega)
      | 1, _ => exact hk _ (by omega) (by omega)
    · split at hu
      · subst hu
        refine ⟨?_, ?_, fun i hi => ?_⟩
        · simp [ByteArray.size]
        · simp [ByteArray.size]
        match i, hi with
        | 0, _ => exact hk _ (by omega) (by omega)
        | 1, _ => exact hk _ (by omega) (by omega)
        | 2, _ => exact hk _ (by omega) (by omega)
      · subst hu
        refine ⟨?_, ?_, fun i hi => ?_⟩
        · simp [ByteArray.size]
        · simp [ByteArray.size]
        match i, hi with
        | 0, _ => exact hk _ (by omega) (by omega)
        | 1, _ => exact hk _ (by omega) (by omega)
        | 2, _ => exact hk _ (by omega) (by omega)
        | 3, _ => exact hk _ (by omega) (by omega)
  refine main (if Utf8.valid (c : Int) then (c : Int).toNat else Utf8.runeError) ?_ ?_ _ rfl
  · split
    · simpa using h
    · decide
  · split
    · simpa using h2
    · decide
/-- What a byte that is no ASCII is part of holds none. -/
theorem decode_span (s : ByteArray) (pos : Nat) (h : pos < s.size) (ha : 128 ≤ (s[pos]'h).toNat) : ∀ j b, pos ≤ j → j < pos + (Utf8.decode s pos).2 → s.data.toList[j]? = some b → 128 ≤ b.toNat := by
  have hg : ∀ k b, s.data.toList[pos + k]? = some b → s.get! (pos + k) = b := by
    intro k b hb
    have hk : pos + k < s.data.toList.length := (List.getElem?_eq_some_iff.1 hb).1
    have hk' : pos + k < s.size := by have := Lib.size_eq s; omega
    have e : s.data.toList[pos + k] = b := (List.getElem?_eq_some_iff.1 hb).2
    have e2 : s.get! (pos + k) = s[pos + k]'hk' := get_at s (pos + k) hk'
    rw [e2, ← e]
    rfl
  have h0 : (s.get! (pos + 0)).toNat = (s[pos]'h).toNat := by rw [get_at s pos h]
  intro j b hj1 hj2 hb
  obtain ⟨k, rfl⟩ : ∃ k, j = pos + k := ⟨j - pos, by omega⟩
  have hgk := hg k b hb
  rw [← hgk]
  have hd : k < (Utf8.decode s pos).2 := by omega
  have hn : ¬ (s.get! (pos + 0)).toNat < 128 := by omega
  have two : ∀ x : Nat, x / 64 = 2 → 128 ≤ x := fun x hx => by omega
  simp only [Utf8.decode, hn, if_false] at hd
  match k with
  | 0 => omega
  | 1 =>
    split at hd
    · rename_i h1
      simp only [Bool.and_eq_true, beq_iff_eq, decide_eq_true_eq] at h1
      exact two _ h1.2.2
    · split at hd
      · rename_i h1
        simp only [Bool.and_eq_true, beq_iff_eq, decide_eq_true_eq] at h1
        exact two _ h1.1.2.2
      · split at hd
        · rename_i h1
          simp only [Bool.and_eq_true, beq_iff_eq, decide_eq_true_eq] at h1
          exact two _ h1.1.1.2.2
        · simp at hd
  | 2 =>
    split at hd
    · split at hd <;> simp at hd
    · split at hd
      · rename_i h1
        simp only [Bool.and_eq_true, beq_iff_eq, decide_eq_true_eq] at h1
        exact two _ h1.2.2
      · split at hd
        · rename_i h1
          simp only [Bool.and_eq_true, beq_iff_eq, decide_eq_true_eq] at h1
          exact two _ h1.1.2.2
        · simp at hd
  | 3 =>
    split at hd
    · split at hd <;> simp at hd
    · split at hd
      · split at hd <;> simp at hd
      · split at hd
        · rename_i h1
          simp only [Bool.and_eq_true, beq_iff_eq, decide_eq_true_eq] at h1
          exact two _ h1.2.2
        · simp at hd
  | k + 4 =>
    split at hd
    · split at hd <;> simp at hd <;> omega
    · split at hd
      · split at hd <;> simp at hd <;> omega
      · split at hd
        · split at hd <;> simp at hd <;> omega
        · simp at hd

theorem ix_any (s : ByteArray) (c : Int) (w : World) (h : s.data.toList = []) : Calls Tryz.prog 162 #[.string s, .int .u8 c] w fun e w' => e = .returned (.int .i64 (-1)) ∧ w' = w :=
  (Tryz.strings_IndexByte s c w).mono fun e w' ⟨h1, h2⟩ => ⟨by rw [h1, h]; rfl, h2⟩
set_option maxRecDepth 1000000 in
set_option maxHeartbeats 4000000 in
/-- A rune that is no ASCII isn't one of the two. -/
theorem indexRune_high (r : Nat) (w : World) (h : 128 ≤ r) (h2 : r ≤ 1114111) :
    Calls Tryz.prog 131 #[.string sep, .int .i32 (r : Int)] w fun e w' => e = .returned (.int .i64 (-1)) ∧ Below w.heap.size w w' := by
  have hr1 : ¬ ((r : Int) < 128) := by omega
  by_cases he : r = 65533
  · subst he
    clear hr1 h h2
    go_enter Tryz.func131, Tryz.ntmps131
    go_wp2
    go_loopg [5, 6] 2 (fun g _ _ wx => ∃ i : Nat, i + g = 2 ∧ wx = w.iter sep i)
    case atStart => exact ⟨0, rfl, rfl⟩
    case round =>
      obtain ⟨i, hig, rfl⟩ := hrel
      cases gk with
      | zero =>
        obtain rfl : i = 2 := by omega
        have hnx := fun ty => run_next_end (P := Tryz.prog) w sep 2 ty (by decide)
        go_wp2
        go_ret
        exact ⟨rfl, (Below.refl _ _).alloc (Nat.le_refl _) _⟩
      | succ g =>
        have hi : i < 2 := by omega
        have hx : (sep[i]'hi).toNat < 128 := by
          rcases (show i = 0 ∨ i = 1 by omega) with rfl | rfl
          · show (0 : UInt8).toNat < 128; decide
          · show (47 : UInt8).toNat < 128; decide
        have hnx := fun ty => run_next_ascii (P := Tryz.prog) w sep i ty hi hx
        have hne : (((sep[i]'hi).toNat : Int) == 65533) = false := by simp; omega
        generalize (sep[i]'hi).toNat = x at *
        go_wp2
        go_roundg g
        case measure => omega
        case rel => exact ⟨i + 1, by omega, rfl⟩
  · have hd1 : ((r : Int) == 65533) = false := by simp; omega
    by_cases hv : Lib.validRune (r : Int) = true
    · obtain ⟨u1, u2, u3⟩ := enc_high r h h2
      have HE : Hid (Utf8.encode (r : Int) = Utf8.encode (r : Int)) := rfl
      generalize hu : Utf8.encode (r : Int) = u at *
      have hcv : ∀ W, (convert 21 9 (.int .i32 (r : Int))).run Tryz.prog W = .ok (.string u) W := by
        intro W
        rw [← hu]
        rfl
      clear hu he
      have u3' : (128 : Nat) ≤ (u[u.size - 1]'(by omega)).toNat := u3 _ _
      go_enter Tryz.func131, Tryz.ntmps131
      go_wp2_with (go_at_call 163; refine (Tryz.utf8_ValidRune _ _).mono ?_; rintro e w' ⟨rfl, hw⟩; rw [hw, hv])
      go_step3
      go_wp2
      go_loop [9] (fun i => i = .int .i64 ((u.size : Int) - 1)) (fun _ => 0)
      case atStart => rfl
      case round =>
        subst hrel
        by_cases h2 : u.size = 2
        · have hlt : ((u.size : Int) - 1 < (sep.size : Int)) := by have := sep_size; omega
          have hl : (1 : Nat) < sep.size := by decide
          have hs1 : ((sep[(1 : Nat)]'hl).toNat : Int) = 47 := rfl
          have hu1 : 128 ≤ ((u[(1 : Nat)]'(by omega)).toNat : Int) := by have := u3 1 (by omega); omega
          have hnn : (((sep[(1 : Nat)]'hl).toNat : Int) != ((u[(1 : Nat)]'(by omega)).toNat : Int)) = true := by
            rw [hs1]
            simp
            omega
          clear hs1 u3 u3'
          go_wp2
          go_step3
          go_wp2_with fail
          go_quiet (fail)
          have HW1 : Hid (Below w.heap.size w (w.drewN nq)) := ⟨rfl, rfl, rfl, Nat.le_refl _, fun _ _ => rfl⟩
          generalize w.drewN nq = w1 at *
          go_wp2_with fail
          go_quiet ((go_at_call 162; exact Calls.quiet_of_same (ix_any _ _ _ (by rfl))))
          go_wp2_with fail
          rw [Exit.noGoto_ret]
          go_wp2
          rw [Exit.noGoto_ret]
          go_wp2
          go_ret
          exact ⟨rfl, HW1.out.os, HW1.out.tape, HW1.out.output, HW1.out.size, HW1.out.block⟩
        · have hge : ((sep.size : Int) ≤ (u.size : Int) - 1) := by have := sep_size; omega
          go_wp2
          go_ret
          exact ⟨rfl, Below.refl _ _⟩
    · have hv' : Lib.validRune (r : Int) = false := by simpa using hv
      clear hv
      go_enter Tryz.func131, Tryz.ntmps131
      go_wp2_with (go_at_call 163; refine (Tryz.utf8_ValidRune _ _).mono ?_; rintro e w' ⟨rfl, hw⟩; rw [hw, hv'])
      go_ret
      exact ⟨rfl, Below.refl _ _⟩

/-- A string's next rune, in whatever world. -/
theorem next_in {P : Program} (W : World) (k : Nat) (s : ByteArray) (pos : Nat) (hk : W.heap[k]? = some (.stringIter s pos)) (h : pos < s.size) :
    ∃ W', (∀ ty, (Instr.next (.pointer (some ⟨k, 0, none⟩)) true ty).run P W = .ok (.tuple #[.bool true, .int .i64 pos, .int .i32 (Utf8.decode s pos).1]) W') ∧ W'.heap[k]? = some (.stringIter s (pos + (Utf8.decode s pos).2)) ∧ Below k W W' ∧ W'.heap.size = W.heap.size := by
  have hlt : k < W.heap.size := (Array.getElem?_eq_some_iff.1 hk).1
  refine ⟨{ W with heap := W.heap.setIfInBounds k (.stringIter s (pos + (Utf8.decode s pos).2)) }, fun ty => ?_, ?_, ⟨rfl, rfl, rfl, by simp, fun j hj => ?_⟩, by simp⟩
  · simp only [Instr.next, getObj, setObj, Sem.run_bind, Sem.run, hk, Result.andThen, h, if_true]
    simp [goInt]
  · simp [hlt]
  · have : k ≠ j := by omega
    simp [this]
theorem next_out {P : Program} (W : World) (k : Nat) (s : ByteArray) (pos : Nat) (hk : W.heap[k]? = some (.stringIter s pos)) (h : ¬ pos < s.size) :
    ∀ ty, (Instr.next (.pointer (some ⟨k, 0, none⟩)) true ty).run P W = .ok (.tuple #[.bool false]) W := fun ty => by
  simp [Instr.next, getObj, Sem.run, hk, h]

theorem noAny_span {s : ByteArray} {i : Nat} (h : Lib.NoAny s.data.toList [0, 47] i) (hi : i < s.size) (hx : 128 ≤ (s[i]'hi).toNat) : Lib.NoAny s.data.toList [0, 47] (i + (Utf8.decode s i).2) := by
  intro j b hj hb
  rcases Nat.lt_or_ge j i with h1 | h1
  · exact h j b h1 hb
  · have := decode_span s i hi hx j b h1 hj hb
    simp
    refine ⟨?_, ?_⟩
    · rintro rfl
      exact absurd this (by decide)
    · rintro rfl
      exact absurd this (by decide)
set_option maxRecDepth 1000000 in
set_option maxHeartbeats 4000000 in
theorem indexAny_small (s : ByteArray) (w : World) (h8 : s.size ≤ 8) :
    Calls Tryz.prog 88 #[.string s, .string sep] w fun e w' => e = .returned (.int .i64 (Lib.indexAny s.data.toList [0, 47])) ∧ Below w.heap.size w w' := by
  have h8z : decide ((8 : Int) < (s.size : Int)) = false := decide_eq_false (by omega)
  have hemp : sep.toList.isEmpty = false := by rw [Lib.toList_data]; rfl
  have hn1 : ((sep.size : Int) == 1) = false := rfl
  go_enter Tryz.func88, Tryz.ntmps88
  go_wp2_with (go_at_call 132; refine (Tryz.strings_shouldUseASCIISet _ _).mono ?_; rintro e w' ⟨rfl, hw⟩; rw [hw, h8z])
  go_loopg [9, 10] s.size (fun g _ _ wx => ∃ i : Nat, s.size - i ≤ g ∧ wx.heap[w.heap.size]? = some (.stringIter s i) ∧ Hid (Below w.heap.size w wx) ∧ Hid (Lib.NoAny s.data.toList [0, 47] i))
  case atStart => exact ⟨0, by omega, World.iter_heap _ _ _, (Below.refl _ _).alloc (Nat.le_refl _) _, Lib.NoAny.zero _ _⟩
  case round =>
    obtain ⟨i, hig, hit, HB, HN⟩ := hrel
    by_cases hi : i < s.size
    · obtain ⟨W', hnx, hit', hbn, hsz⟩ := next_in (P := Tryz.prog) wr w.heap.size s i hit hi
      have HIT := Lib.hid hit'
      have HB' : Hid (Below w.heap.size w W') := HB.out.trans hbn
      have hklt : w.heap.size < W'.heap.size := (Array.getElem?_eq_some_iff.1 hit').1
      have hxl : s.data.toList[i]? = some (s[i]'hi) := Lib.data_getElem? s i hi
      have HXL := Lib.hid hxl
      clear hit' hbn hit hsz hxl
      by_cases ha : (s[i]'hi).toNat < 128
      · have hde := decode_ascii s i hi ha
        have HD := Lib.hid hde
        rw [hde] at hnx
        have HI2 : Hid (W'.heap[w.heap.size]? = some (.stringIter s (i + 1))) := by have := HIT.out; rw [hde] at this; exact this
        clear hde HIT
        obtain ⟨x, hx⟩ : ∃ x : UInt8, s[i]'hi = x := ⟨_, rfl⟩
        rw [hx] at hnx ha
        have HX2 : Hid (s.data.toList[i]? = some x) := by have := HXL.out; rw [hx] at this; exact this
        clear HXL hx
        have hcon := Lib.contains_iff_indexByte [0, 47] x
        have hback : ((x.toNat : Int)).toNat.toUInt8 = x := by simp
        cases hin : ([0, 47] : List UInt8).contains x
        · rw [hin] at hcon
          have hlt : ¬ ((0 : Int) ≤ Lib.indexByte [0, 47] x) := of_decide_eq_false hcon.symm
          clear hcon
          go_wp2_with (go_at_call 131; refine (Tryz.strings_IndexRune_ascii _ _ _ (by omega) (by omega)).mono ?_; rintro e w2 ⟨rfl, hw⟩; rw [hw, hback, sep_list])
          go_roundg (s.size - (i + 1))
          case measure => omega
          case rel => exact ⟨i + 1, by omega, HI2.out, HB', HN.out.succ HX2.out hin⟩
        · rw [hin] at hcon
          have hge : (0 : Int) ≤ Lib.indexByte [0, 47] x := of_decide_eq_true hcon.symm
          clear hcon
          go_wp2_with (go_at_call 131; refine (Tryz.strings_IndexRune_ascii _ _ _ (by omega) (by omega)).mono ?_; rintro e w2 ⟨rfl, hw⟩; rw [hw, hback, sep_list])
          go_ret
          exact ⟨by rw [Lib.indexAny_hit HN.out HX2.out hin]; rfl, HB'.out⟩
      · have HS := Lib.hid (noAny_span HN.out hi (by omega))
        obtain ⟨hd1, hd2⟩ := decode_high s i hi (by omega)
        have hd3 : (Utf8.decode s i).1 ≤ 1114111 := Lib.rune_le s i
        generalize Utf8.decode s i = d at *
        obtain ⟨r, n⟩ := d
        clear ha HXL
        go_wp2_with (go_at_call 131; refine (indexRune_high r _ hd1 hd3).mono ?_; rintro e w2 ⟨rfl, hb2⟩)
        go_roundg (s.size - (i + n))
        case measure => omega
        case rel => exact ⟨i + n, by omega, (hb2.block _ hklt).trans HIT.out, HB'.out.trans (hb2.mono (by omega)), HS.out⟩
    · have hnx := next_out (P := Tryz.prog) wr w.heap.size s i hit hi
      clear hit
      go_wp2
      go_ret
      refine ⟨?_, HB.out⟩
      rw [Lib.indexAny_none (s := s.data.toList) (fun j b hj hb => HN.out j b (by have := Lib.size_eq s; omega) hb)]
      rfl
theorem hv118 (w : World) : (zeroValue 177).run Tryz.prog w = .ok (.agg (Array.replicate 256 (.bool false))) w := by
  exact (zero_of_info (P := Tryz.prog) (t := 177) (n := 256) (by kernel_rfl)).1 w
/-- Is one of the two in these bytes? -/
def parts (l : List UInt8) : Bool := l.any fun b => b == 0 || b == 47
theorem parts_any : ∀ l : List UInt8, decide (0 ≤ Lib.indexAny l [0, 47]) = parts l
  | [] => rfl
  | b :: l => by
    have ih := parts_any l
    have hg := Lib.indexAny_ge [0, 47] l
    have e1 : parts (b :: l) = ((b == 0 || b == 47) || parts l) := rfl
    have e2 : ([0, 47] : List UInt8).contains b = (b == 0 || b == 47) := by simp only [List.contains_cons, List.contains_nil, Bool.or_false]
    rw [e1, ← ih, show Lib.indexAny (b :: l) [0, 47] = (if ([0, 47] : List UInt8).contains b then 0 else if Lib.indexAny l [0, 47] == -1 then -1 else Lib.indexAny l [0, 47] + 1) from rfl, e2]
    cases h : (b == 0 || b == 47)
    · simp only [Bool.false_or, Bool.false_eq_true, if_false]
      split
      · rename_i h1
        have h1' := beq_iff_eq.1 h1
        rw [h1']
      · rename_i h1
        have h1' : ¬ Lib.indexAny l [0, 47] = -1 := fun e => h1 (beq_iff_eq.2 e)
        simp only [decide_eq_decide]
        omega
    · simp
set_option maxHeartbeats 1000000 in
theorem containsAny_any (s : ByteArray) (w : World) (hs : s.size < 4294967281) :
    Calls Tryz.prog 48 #[.string s, .string sep] w fun e w' => e = .returned (.bool (parts s.data.toList)) ∧ Below w.heap.size w w' := by
  have HC : Hid (∀ W, Calls Tryz.prog 88 #[.string s, .string sep] W fun e w' => e = .returned (.int .i64 (Lib.indexAny s.data.toList [0, 47])) ∧ Below W.heap.size W w') := by
    intro W
    by_cases h8 : s.size ≤ 8
    · exact indexAny_small s W h8
    · refine (Tryz.strings_IndexAny_long hv118 s sep W (by decide) (by omega) hs (by decide) (fun j b hj => ?_)).mono fun e w' h => ?_
      · rw [sep_list] at hj
        match j, hj with
        | 0, hj => injection hj with hj; subst hj; decide
        | 1, hj => injection hj with hj; subst hj; decide
        | j + 2, hj => simp at hj
      · rw [h.2]
        exact ⟨h.1, ((Below.refl _ _).alloc (Nat.le_refl _) _).alloc (by simp) _⟩
  rw [← parts_any s.data.toList]
  go_enter Tryz.func48, Tryz.ntmps48
  go_wp2_with fail
  refine (HC.out _).mono ?_
  rintro e w1 ⟨rfl, hb⟩
  go_wp2
  go_ret
  exact ⟨rfl, hb⟩
end Go.Proofs.YtpbpdnjlomhkdaaGreat

namespace Go.Proofs.YtpbpdnjlomhkdaaGreat
open Go.RowKit Go.Shelf

theorem nameOk_eq (l : List UInt8) : nameOk l = (!decide (l.length < 1) && !decide (24 < l.length) && !(l == [46]) && !(l == [46, 46]) && !parts l) := by
  unfold nameOk parts
  have e1 : decide (1 ≤ l.length) = !decide (l.length < 1) := by
    rw [← decide_not]
    exact decide_eq_decide.2 (by omega)
  have e2 : decide (l.length ≤ 24) = !decide (24 < l.length) := by
    rw [← decide_not]
    exact decide_eq_decide.2 (by omega)
  have e3 : (l.all fun b => !(b == 0) && !(b == 47)) = !l.any fun b => b == 0 || b == 47 := by
    rw [List.not_any_eq_all_not]
    simp [Bool.not_or]
  rw [e1, e2, e3]

set_option maxRecDepth 100000 in
set_option maxHeartbeats 2000000 in
theorem name_any (l : List UInt8) (w : World) :
    Calls Tryz.prog 31 #[.string (txt l)] w fun e w' => e = .returned (.int .i64 (nameE l)) ∧ Below w.heap.size w w' := by
  have hz := txt_size l
  have ht := txt_toList l
  by_cases hbad : l.length < 1 ∨ 24 < l.length ∨ l = [46] ∨ l = [46, 46]
  · have HE : Hid (nameE l = 67) := by
      show _ = _
      unfold nameE
      rw [if_neg]
      rw [nameOk_eq]
      rcases hbad with h | h | h | h <;> simp [h]
    have HB := Lib.hid hbad
    clear hbad
    go_enter Tryz.func31, Tryz.ntmps31
    go_wp2_with fail
    all_goals first
      | (exfalso; rcases HB.out with h | h | h | h <;> first | omega | contradiction)
      | (go_ret; rw [HE.out]; exact ⟨rfl, Below.refl _ _⟩)
  · have h1 : ¬ ((l.length : Int) < 1) := fun h => hbad (.inl (by omega))
    have h2 : ¬ (24 < (l.length : Int)) := fun h => hbad (.inr (.inl (by omega)))
    have h3 : ¬ l = [46] := fun h => hbad (.inr (.inr (.inl h)))
    have h4 : ¬ l = [46, 46] := fun h => hbad (.inr (.inr (.inr h)))
    have HE : Hid (nameE l = if parts l = true then 67 else 0) := by
      show _ = _
      unfold nameE
      rw [nameOk_eq]
      have e1 : decide (l.length < 1) = false := decide_eq_false (by omega)
      have e2 : decide (24 < l.length) = false := decide_eq_false (by omega)
      have e3 : (l == [46]) = false := by simpa using h3
      have e4 : (l == [46, 46]) = false := by simpa using h4
      rw [e1, e2, e3, e4]
      cases parts l <;> rfl
    have HC : Hid (∀ W, Calls Tryz.prog 48 #[.string (txt l), .string sep] W fun e w' => e = .returned (.bool (parts l)) ∧ Below W.heap.size W w') := fun W => containsAny_any (txt l) W (by rw [txt_size]; omega)
    clear hbad
    generalize parts l = r at *
    go_enter Tryz.func31, Tryz.ntmps31
    go_wp2_with (go_at_call 48; refine (HC.out _).mono ?_; rintro e w1 ⟨rfl, hb⟩)
    all_goals
      go_ret
      first
        | exact ⟨by rw [HE.out]; rfl, hb⟩
        | (refine ⟨?_, hb⟩; rw [HE.out]; simp_all)
end Go.Proofs.YtpbpdnjlomhkdaaGreat

namespace Go.Proofs.YtpbpdnjlomhkdaaGreat
open Go.RowKit Go.Maps Go.Shelf

theorem lawS : Keyed Tryz.prog 9 := string_keyed Tryz.underlying9
/-- The set of the first k names. -/
def keysS (xs : List (List UInt8)) (k : Nat) : List Lit := (xs.take k).map Lit.string
def setS (xs : List (List UInt8)) (k : Nat) : DataW Unit := setOf (.agg []) (keysS xs k)
theorem setS_zero (xs : List (List UInt8)) : setS xs 0 = .map [] := by simp [setS, keysS, setOf]
theorem setS_succ (xs : List (List UInt8)) (k : Nat) (h : k < xs.length) : setS xs (k + 1) = (setS xs k).put (.string xs[k]) (.agg []) := by
  unfold setS keysS
  rw [List.take_succ_eq_append_getElem h, List.map_append, List.map_singleton, setOf_snoc]
theorem same_S (a b : List UInt8) : (Lit.string a).sameKey (.string b) = decide (a = b) := by
  show (a == b) = decide (a = b)
  by_cases h : a = b
  · subst h; simp
  · simp [h]
theorem any_S (x : List UInt8) : ∀ l : List (List UInt8), (l.map Lit.string).any (fun y => y.sameKey (.string x)) = decide (x ∈ l)
  | [] => by simp
  | a :: r => by
    rw [List.map_cons, List.any_cons, any_S x r, same_S]
    by_cases h : a = x
    · subst h; simp
    · have h' : ¬ x = a := fun e => h e.symm
      simp [h, h']
/-- The different ones, in order. -/
def difS (l : List (List UInt8)) : List (List UInt8) := l.foldl (fun acc x => if x ∈ acc then acc else acc ++ [x]) []
theorem fold_difS : ∀ (l acc : List (List UInt8)), (l.map Lit.string).foldl addKey (acc.map Lit.string) = (l.foldl (fun acc x => if x ∈ acc then acc else acc ++ [x]) acc).map Lit.string
  | [], acc => rfl
  | a :: r, acc => by
    rw [List.map_cons, List.foldl_cons, List.foldl_cons]
    have e : addKey (acc.map Lit.string) (.string a) = (if a ∈ acc then acc else acc ++ [a]).map Lit.string := by
      unfold addKey
      rw [any_S]
      by_cases h : a ∈ acc
      · simp [h]
      · simp [h]
    rw [e, fold_difS r]
theorem dif_lenS : ∀ (l acc : List (List UInt8)), acc.Nodup → (l.foldl (fun acc x => if x ∈ acc then acc else acc ++ [x]) acc).length ≤ acc.length + l.length ∧ ((l.foldl (fun acc x => if x ∈ acc then acc else acc ++ [x]) acc).length = acc.length + l.length ↔ (acc ++ l).Nodup)
  | [], acc, h => by simp [h]
  | a :: r, acc, h => by
    rw [List.foldl_cons]
    by_cases ha : a ∈ acc
    · rw [if_pos ha]
      obtain ⟨h1, _⟩ := dif_lenS r acc h
      refine ⟨by rw [List.length_cons]; omega, ⟨fun e => by rw [List.length_cons] at e; omega, fun hn => ?_⟩⟩
      rw [List.nodup_append] at hn
      exact absurd rfl (hn.2.2 a ha a (by simp))
    · rw [if_neg ha]
      have hn : (acc ++ [a]).Nodup := by
        rw [List.nodup_append]
        refine ⟨h, by simp, fun x hx y hy => ?_⟩
        rw [List.mem_singleton] at hy
        subst hy
        intro e
        subst e
        exact ha hx
      obtain ⟨h1, h2⟩ := dif_lenS r (acc ++ [a]) hn
      rw [List.length_append, List.length_singleton] at h1
      rw [List.length_append, List.length_singleton, List.append_assoc, List.singleton_append] at h2
      rw [List.length_cons]
      exact ⟨by omega, ⟨fun e => h2.1 (by omega), fun e => by have := h2.2 e; omega⟩⟩
theorem size_setS (xs : List (List UInt8)) : Maps.size (setS xs xs.length) ≤ xs.length ∧ (Maps.size (setS xs xs.length) = xs.length ↔ xs.Nodup) := by
  have h1 : Maps.size (setS xs xs.length) = (difS xs).length := by
    unfold setS
    rw [size_setOf _ _ (fun x hx => by unfold keysS at hx; obtain ⟨_, _, rfl⟩ := List.mem_map.1 hx; trivial)]
    unfold keysS
    rw [List.take_length]
    have := fold_difS xs []
    rw [List.map_nil] at this
    rw [this, List.length_map]
    rfl
  obtain ⟨h2, h3⟩ := dif_lenS xs [] List.nodup_nil
  rw [h1]
  unfold difS
  simp only [List.length_nil, Nat.zero_add, List.nil_append] at h2 h3
  exact ⟨h2, h3⟩
theorem run_makeMap2 {P : Program} (t k e : TypeId) (ht : P.underlying t = some (.map k e)) (n : Nat) (w : World) : (Instr.makeMap t (some (.int .i64 (n : Int)))).run P w = .ok (.map (some w.heap.size)) (w.alloc (.map #[] 0)) := by
  simp [Instr.makeMap, run_underlying ht, asInt]
  rfl
theorem below_grown {w w' : World} (h : Below w.heap.size w w') : w.grownBy w' none := ⟨h.os, h.tape, h.output, h.size, fun k hk _ => h.block k hk⟩

theorem stepOk_eq (es : List En) (k : Nat) (h : k < es.length) : stepOk es k = (nameOk es[k].nm && decide (lastAt es k < es[k].ck)) := by
  unfold stepOk
  rw [List.getD_eq_getElem?_getD, List.getElem?_eq_getElem h]
  rfl
theorem lastAt_succ (es : List En) (k : Nat) (h : k < es.length) : lastAt es (k + 1) = es[k].ck := by
  unfold lastAt
  rw [if_neg (by omega), Nat.add_sub_cancel, List.getD_eq_getElem?_getD, List.getElem?_eq_getElem h]
  rfl
theorem lastAt_lt (es : List En) (hw : ∀ e ∈ es, e.Wide) (k : Nat) : lastAt es k < 18446744073709551616 := by
  unfold lastAt
  split
  · decide
  · rw [List.getD_eq_getElem?_getD]
    rcases Nat.lt_or_ge (k - 1) es.length with h | h
    · rw [List.getElem?_eq_getElem h]
      exact (hw _ (List.getElem_mem h)).c
    · rw [List.getElem?_eq_none h]
      decide
theorem okB_no (es : List En) (k : Nat) (h : k < es.length) (hs : stepOk es k = false) : okB es = false := by
  unfold okB
  rw [Bool.and_eq_false_iff]
  left
  rw [List.all_eq_false]
  exact ⟨k, List.mem_range.2 h, by rw [hs]; simp⟩
theorem okB_all (es : List En) (h : ∀ j, j < es.length → stepOk es j = true) : okB es = decide ((es.map En.nm).Nodup) := by
  unfold okB
  have : (List.range es.length).all (stepOk es) = true := by
    rw [List.all_eq_true]
    exact fun j hj => h j (List.mem_range.1 hj)
  rw [this, Bool.true_and]

/-- An entry that a loop holds in a block of its own. -/
theorem box_E {w w1 w2 : World} {e : En} {t : TypeId} (hw1 : Below w.heap.size w w1) (hb2 : w2.heap[w.heap.size]? = some (.cells (ec e).toArray t (0, 0))) (hw2 : Keep (· ≠ w.heap.size) w1 w2) : EB w2 w.heap.size t e ∧ Below w.heap.size w w2 :=
  ⟨hb2, hw1.trans (Keep.below (hw2.mono fun k hk => by omega))⟩

set_option maxRecDepth 100000 in
set_option maxHeartbeats 2000000 in
theorem valid_any (A : Option Addr) (n cp : Nat) (es : List En) (w : World) (h : ES w A n es) (hw : ∀ e ∈ es, e.Wide) (hn : n ≤ 100000000) :
    Calls Tryz.prog 104 #[.slice A n cp] w fun e w' => e = .returned (.bool (okB es)) ∧ Below w.heap.size w w' := by
  have hmm := @run_makeMap2 Tryz.prog _ _ _ Tryz.underlying190
  have Hn : Hid (es.length = n) := h.1
  have HX := Lib.hid h
  have HW := Lib.hid hw
  clear h hw
  go_enter Tryz.func104, Tryz.ntmps104
  go_wp2
  go_loopw [4, 12] (fun l i wr => ∃ k : Nat, k ≤ n ∧ i = .int .i64 k ∧ l = .int .u64 (lastAt es k : Nat) ∧ Hid (wr.ownsMap Tryz.prog 9 (unitElem (H := Unit)) w.heap.size k (setS (es.map En.nm) k)) ∧ Hid (Below w.heap.size w wr) ∧ Hid (∀ j, j < k → stepOk es j = true))
    (fun _ i _ => n - (intOf i).toNat)
  case atStart => exact ⟨0, Nat.zero_le _, rfl, rfl, by rw [setS_zero]; exact World.ownsMap_made _ _ _ _, (Below.refl _ _).alloc (Nat.le_refl _) _, fun j hj => absurd hj (Nat.not_lt_zero _)⟩
  case round =>
    obtain ⟨k, hk, rfl, rfl, hown, hnx, HO⟩ := hrel
    by_cases hlt : k < n
    · obtain ⟨b, o, rfl, hb, hj, hc⟩ := (HX.out.below hnx.out).load hlt
      have HC := Lib.hid hc
      clear hc
      have HS := Lib.hid (setS_succ (es.map En.nm) k (by rw [List.length_map]; exact hj))
      rw [List.getElem_map] at HS
      have HST := Lib.hid (stepOk_eq es k hj)
      have HLA := Lib.hid (lastAt_succ es k hj)
      have HNO := fun hs => Lib.hid (okB_no es k hj hs)
      have HLW := Lib.hid (lastAt_lt es HW.out k)
      have hck := (HW.out es[k] (List.getElem_mem hj)).c
      have hla : lastAt es k < 18446744073709551616 := HLW.out
      generalize lastAt es k = lst at *
      generalize es[k] = e at *
      go_upto_region 6 with (first
        | (refine Did.list rfl (did_load 87 (.tmp 14) rfl ⟨b, o + k * 4, none⟩ rfl _ Tryz.underlying87 rfl (ec e) size_E HC.out) ?_)
        | (refine wpList_alloc_any rfl 87 rfl _ zero_E ?_
           intro w1 hb1 hs1 hw1)
        | (refine wpList_store_any rfl 87 (.tmp 6) (.tmp 15) rfl wr.heap.size (ec e).toArray rfl rfl 87 _ hb1 size_E rfl (ec_one e) ?_
           intro w2 hb2 hs2 hw2))
      obtain ⟨heb, hb2w⟩ := box_E hw1 hb2 hw2
      have HEB := Lib.hid heb
      have hn2 := Lib.hid (hnx.out.trans (hb2w.mono hnx.out.size))
      have hown2 := Lib.hid (hown.out.kept (below_grown hb2w) (by simp))
      have HZ0 : Hid (w.heap.size < wr.heap.size) := by
        rcases hown.out with ⟨es', cl, h0, _⟩
        exact (Array.getElem?_eq_some_iff.1 h0).1
      clear hb1 hs1 hw1 hb2 hs2 hw2 heb hb2w hown hnx HC
      have HQ : Hid (some w.heap.size ≠ some wr.heap.size) := by show _ ≠ _; have := HZ0.out; simp; omega
      clear HZ0
      generalize wr.heap.size = q at *
      have c3 := HEB.out.c3
      by_cases hnm : nameOk e.nm = true
      · have hne : nameE e.nm = 0 := if_pos hnm
        have HNL : Hid ((txt e.nm).size ≤ maxLen) := by show _ ≤ _; have := nameOk_len _ hnm; rw [txt_size]; unfold maxLen; omega
        rw [hnm, Bool.true_and] at HST
        have HNC := fun W => Lib.hid (name_any e.nm W)
        rw [hne] at HNC
        clear hnm hne
        go_wp2_with fail
        refine ((HNC _).out).mono ?_
        rintro en w3 ⟨rfl, hb3⟩
        have HEB3 := Lib.hid (HEB.out.below' hb3)
        have hn3 := Lib.hid (hn2.out.trans (hb3.mono hn2.out.size))
        have hown3 := Lib.hid (hown2.out.kept (below_grown hb3) (by simp))
        have c0 := HEB3.out.c0
        clear hb3 HEB hn2 hown2 c3 HNC
        have c3 := HEB3.out.c3
        by_cases hcl : lst < e.ck
        · have hd : decide (e.ck ≤ lst) = false := decide_eq_false (by omega)
          have HT := Lib.hid (HST.out.trans (decide_eq_true hcl))
          have hkey : keyOf Tryz.prog 9 (.string (txt e.nm)) = some (.string e.nm) := Go.WideMaps.keyOf_string_mk Tryz.underlying9 HNL.out
          clear hcl
          go_wp2_with (first
            | (at_mapUpdate; refine wpList_mapUpdate_own _ rfl _ _ _ 190 rfl 9 191 lawS Tryz.underlying190 (unitElem (H := Unit)) w.heap.size k _ rfl hown3.out (by unfold maxLen; omega) _ _ _ rfl rfl hkey _ [] unitElem_mk ?_; intro w4 hown4 hgrow4
               have HE4 : Hid (EB w4 q 87 e) := (hgrow4.block q HEB3.out.lt (fun ee => HQ.out ee.symm)).trans HEB3.out
               have HW4 := Lib.hid (hn3.out.grown hgrow4 hn3.out.size (fun j hj => by cases hj; exact Nat.le_refl _))
               have HO4 := Lib.hid hown4
               have c04 := HE4.out.c0
               clear hown4 hgrow4 c0 c3))
          go_roundw
          case rel =>
            refine ⟨k + 1, by omega, by go_num, by rw [HLA.out], HS.out.symm ▸ HO4.out, HW4.out, (show Hid _ from fun j hj => ?_)⟩
            by_cases ej : j = k
            · subst ej; exact HT.out
            · exact HO.out j (by omega)
          case measure => simp [intOf]; omega
        · have hd : decide (e.ck ≤ lst) = true := decide_eq_true (by omega)
          have HN := HNO (HST.out.trans (decide_eq_false hcl))
          clear hcl
          go_wp2_with fail
          go_ret
          exact ⟨by rw [HN.out]; rfl, hn3.out⟩
      · have hnm : nameOk e.nm = false := by simpa using hnm
        have hne : nameE e.nm = 67 := if_neg (by rw [hnm]; simp)
        have HN := HNO (by rw [HST.out, hnm]; rfl)
        have HNC := fun W => Lib.hid (name_any e.nm W)
        rw [hne] at HNC
        clear hnm hne
        go_wp2_with fail
        refine ((HNC _).out).mono ?_
        rintro en w3 ⟨rfl, hb3⟩
        have hn3 := Lib.hid (hn2.out.trans (hb3.mono hn2.out.size))
        clear hb3 HNC
        go_wp2_with fail
        go_ret
        exact ⟨by rw [HN.out]; rfl, hn3.out⟩
    · have : k = n := by omega
      subst this
      have HZ := Lib.hid (size_setS (es.map En.nm))
      rw [List.length_map, Hn.out] at HZ
      have HOK : Hid (okB es = decide ((es.map En.nm).Nodup)) := okB_all es (fun j hj => HO.out j (by have := Hn.out; omega))
      go_wp2_with (first
        | (at_len; refine wpList_len_own _ rfl _ 190 rfl 9 191 Tryz.underlying190 _ w.heap.size k _ rfl hown.out ?_)
        | go_in)
      go_ret
      refine ⟨?_, hnx.out⟩
      rw [HOK.out]
      have h1 := HZ.out.2
      by_cases hd : (es.map En.nm).Nodup
      · simp [hd, h1.2 hd]
      · have h2 : ¬ Maps.size (setS (es.map En.nm) k) = k := fun e => hd (h1.1 e)
        have h3 : ¬ (Maps.size (setS (es.map En.nm) k) : Int) = (k : Int) := by omega
        simp [hd, h3]
end Go.Proofs.YtpbpdnjlomhkdaaGreat

namespace Go.Proofs.YtpbpdnjlomhkdaaGreat
open Go.RowKit Go.Shelf

theorem run_bytes_txt (w : World) (l : List UInt8) : ∃ c w', (convert 9 38 (.string (txt l))).run Tryz.prog w = .ok (.slice (some ⟨w.heap.size, 0, none⟩) l.length c) w' ∧ BS w' (some ⟨w.heap.size, 0, none⟩) l.length l ∧ Below w.heap.size w w' ∧ l.length ≤ c ∧ w.heap.size < w'.heap.size := by
  have hr := Lib.run_convert_string_bytes (P := Tryz.prog) w 9 38 5 (txt l) Tryz.underlying9 Tryz.underlying38 Tryz.underlying5
  rw [txt_size] at hr
  refine ⟨_, _, hr, ⟨rfl, fun _ => ⟨w.heap.size, 0, rfl, fun j hj => ?_⟩⟩, ⟨rfl, rfl, rfl, ?_, fun k hk => Lib.bytesWorld_at_old w _ _ k hk⟩, ?_, ?_⟩
  · rw [Nat.zero_add, Lib.bytesWorld_cell w _ _ j (by rw [txt_size]; exact hj)]
    simp [txt, hj]
  · rw [Lib.bytesWorld_size]
    omega
  · exact grownCap_ge _ _ _ _
  · rw [Lib.bytesWorld_size]
    omega
theorem Wr.less {K K' : Nat → Prop} {w : World} {p : Nat} {l : List UInt8} (h : Wr K w p l) (hk : ∀ k, K' k → K k) : Wr K' w p l := by
  obtain ⟨A, c, h1, h2, h3, h4, h5⟩ := h
  exact ⟨A, c, h1, h2, fun hp => h3 (hk _ hp), fun k hk1 hk2 => h4 k hk1 (hk _ hk2), fun k hk1 => h5 k (hk _ hk1)⟩
/-- A new block may be added to what is left alone, in any later world. -/
theorem Wr.grow {K : Nat → Prop} {w w' : World} {p : Nat} {l : List UInt8} (h : Wr K w p l) (hb : Below w.heap.size w w') (hlt : w.heap.size < w'.heap.size) : Wr (fun k => K k ∨ k = w.heap.size) w' p l := by
  obtain ⟨A, c, h⟩ := h
  refine ⟨A, c, (hb.block p h.lt).trans h.1, ?_, ?_, fun k hk => ?_, ?_⟩
  · exact h.2.1.kept (below_grown hb) (Classical.em _)
  · rintro (hk | hk)
    · exact h.2.2.1 hk
    · have := h.lt; omega
  · rintro (h1 | h1)
    · exact h.2.2.2.1 k hk h1
    · have := (h.2.1.lt k hk).2; omega
  · rintro k (hk | rfl)
    · exact Nat.lt_of_lt_of_le (h.2.2.2.2 k hk) hb.size
    · exact hlt
theorem Keep.below2 {K : Nat → Prop} {B : Nat} {w w' : World} (h : Keep K w w') (hK : ∀ k, k < B → K k) : Below B w w' := ⟨h.os, h.tape, h.output, h.size, fun k hk => h.block k (hK k hk)⟩

theorem encs_succ (es : List En) (k : Nat) (h : k < es.length) : encs (es.take (k + 1)) = encs (es.take k) ++ enc1 es[k] := by
  unfold encs
  rw [List.take_succ_eq_append_getElem h, List.flatMap_append, List.flatMap_singleton]
theorem encs_le (es : List En) (k : Nat) : (encs (es.take k)).length ≤ (encs es).length := by
  have : encs es = encs (es.take k) ++ encs (es.drop k) := by
    unfold encs
    rw [← List.flatMap_append, List.take_append_drop]
  rw [this, List.length_append]
  omega
/-- What Put hands back. -/
def PutP (es : List En) (w : World) (e : Ending) (w' : World) : Prop := ∃ A n cp, e = .returned (.tuple #[.slice A n cp, .int .i64 (chkE es)]) ∧ BS w' A n (putE es) ∧ Below w.heap.size w w'

set_option maxRecDepth 100000 in
set_option maxHeartbeats 2000000 in
theorem put_any (A : Option Addr) (n cp : Nat) (es : List En) (w : World) (h : ES w A n es) (hw : ∀ e ∈ es, e.Wide) (hn : n ≤ 100000000) (hlen : okB es = true → (encs es).length ≤ 80000000) :
    Calls Tryz.prog 171 #[.slice A n cp] w (PutP es w) := by
  have HV := Lib.hid (valid_any A n cp es w h hw hn)
  have HX := Lib.hid h
  have HN : Hid (es.length = n) := h.1
  have HW := Lib.hid hw
  clear h hw
  by_cases hok : okB es = true
  rotate_left
  · have hok : okB es = false := by simpa using hok
    rw [hok] at HV
    have HC : Hid (chkE es = 11) := by show _ = _; unfold chkE; rw [hok]; rfl
    have HP : Hid (putE es = []) := by show _ = _; unfold putE; rw [hok]; rfl
    clear hok hlen
    go_enter Tryz.func171, Tryz.ntmps171
    go_wp2_with fail
    refine (HV.out).mono ?_
    rintro e w1 ⟨rfl, hb1⟩
    have HB1 := Lib.hid hb1
    clear hb1
    go_wp2
    go_ret2
    refine ⟨none, 0, 0, ?_, ?_, HB1.out⟩
    · rw [HC.out]; rfl
    · rw [HP.out]; exact BS.nil
  have HOK := Lib.hid hok
  have HLEN := Lib.hid (hlen hok)
  rw [hok] at HV
  clear hok hlen
  go_enter Tryz.func171, Tryz.ntmps171
  go_wp2_with fail
  refine (HV.out).mono ?_
  rintro e w1 ⟨rfl, hb1⟩
  have HB1 := Lib.hid hb1
  clear hb1 HV
  go_wp2_with fail
  refine (newWriter_op w1).mono ?_
  rintro e w2 ⟨p, rfl, hwr, hb2⟩
  have HB2 := Lib.hid (HB1.out.trans (hb2.mono HB1.out.size))
  have HWR : Hid (Wr (· < w.heap.size) w2 p []) := hwr.less (fun k hk => Nat.lt_of_lt_of_le hk HB1.out.size)
  clear hwr hb2 HB1
  go_wp2_with fail
  go_loopw [13] (fun i wr => ∃ k : Nat, k ≤ n ∧ i = .int .i64 k ∧ Hid (Wr (· < w.heap.size) wr p (encs (es.take k))) ∧ Hid (Below w.heap.size w wr))
    (fun i _ => n - (intOf i).toNat)
  case atStart => exact ⟨0, Nat.zero_le _, rfl, HWR.out, HB2.out⟩
  case round =>
    obtain ⟨k, hk, rfl, hwr, hnx⟩ := hrel
    by_cases hlt : k < n
    · obtain ⟨b, o, rfl, hb, hj, hc⟩ := (HX.out.below hnx.out).load hlt
      have HC := Lib.hid hc
      clear hc HWR HB2
      have HS := Lib.hid (encs_succ es k hj)
      have HLE := Lib.hid (Nat.le_trans (encs_le es k) HLEN.out)
      have HNM := Lib.hid (nameOk_len _ (okB_at es HOK.out k hj).1)
      have HWD := Lib.hid (HW.out _ (List.getElem_mem hj))
      generalize encs (es.take k) = L at *
      generalize es[k] = e at *
      go_upto_region 7 with (first
        | (refine Did.list rfl (did_load 87 (.tmp 15) rfl ⟨b, o + k * 4, none⟩ rfl _ Tryz.underlying87 rfl (ec e) size_E HC.out) ?_)
        | (refine wpList_alloc_any rfl 87 rfl _ zero_E ?_
           intro w3 hb3 hs3 hw3)
        | (refine wpList_store_any rfl 87 (.tmp 6) (.tmp 16) rfl wr.heap.size (ec e).toArray rfl rfl 87 _ hb3 size_E rfl (ec_one e) ?_
           intro w4 hb4 hs4 hw4))
      obtain ⟨heb, hbw⟩ := box_E hw3 hb4 hw4
      have HEB := Lib.hid heb
      have HR4 := Lib.hid (hwr.out.grow hbw (by have := heb.lt; omega))
      have HN4 := Lib.hid (hnx.out.trans (hbw.mono hnx.out.size))
      clear hb3 hs3 hw3 hb4 hs4 hw4 heb hbw hwr HC
      have HQ : Hid (w.heap.size ≤ wr.heap.size) := hnx.out.size
      clear hnx
      generalize wr.heap.size = q at *
      have c0 := HEB.out.c0
      go_wp2_with fail
      refine (u64w _ _ p L _ (by omega) HR4.out (by have := HLE.out; omega)).mono ?_
      rintro en w5 ⟨rfl, hwr, hkp⟩
      have HE5 : Hid (EB w5 q 87 e) := (hkp.block q (.inr rfl)).trans HEB.out
      have HR5 := Lib.hid hwr
      have HN5 := Lib.hid (HN4.out.trans (hkp.below2 (fun k hk => .inl hk)))
      clear hwr hkp HEB HR4 HN4 c0
      have c1 := HE5.out.c1
      go_wp2_with fail
      refine (u32w _ _ p _ _ (by omega) HR5.out (by have := HLE.out; rw [List.length_append, be_length]; omega)).mono ?_
      rintro en w6 ⟨rfl, hwr, hkp⟩
      have HE6 : Hid (EB w6 q 87 e) := (hkp.block q (.inr rfl)).trans HE5.out
      have HR6 := Lib.hid hwr
      have HN6 := Lib.hid (HN5.out.trans (hkp.below2 (fun k hk => .inl hk)))
      clear hwr hkp HE5 HR5 HN5 c1
      have c2 := HE6.out.c2
      go_wp2_with fail
      refine (u32w _ _ p _ _ (by omega) HR6.out (by have := HLE.out; rw [List.length_append, List.length_append, be_length, be_length]; omega)).mono ?_
      rintro en w7 ⟨rfl, hwr, hkp⟩
      have HE7 : Hid (EB w7 q 87 e) := (hkp.block q (.inr rfl)).trans HE6.out
      have HR7 := Lib.hid hwr
      have HN7 := Lib.hid (HN6.out.trans (hkp.below2 (fun k hk => .inl hk)))
      clear hwr hkp HE6 HR6 HN6 c2
      have c3 := HE7.out.c3
      obtain ⟨c8, w8, hcv, hbs8, hb8, _, hlt8⟩ := run_bytes_txt w7 e.nm
      have HR8 := Lib.hid (HR7.out.grow hb8 hlt8)
      have HBS8 := Lib.hid hbs8
      have HN8 := Lib.hid (HN7.out.trans (hb8.mono HN7.out.size))
      clear hbs8 hb8 hlt8 HR7 HN7
      go_wp2_with fail
      refine (opaquew _ _ p _ _ _ _ e.nm HR8.out HBS8.out (fun _ ad h => by injection h with h; subst h; exact .inr rfl) (by have := HLE.out; rw [List.length_append, List.length_append, List.length_append, be_length, be_length, be_length]; omega) (by have := HNM.out; omega)).mono ?_
      rintro en w9 ⟨rfl, hwr, hkp⟩
      have HR9 : Hid (Wr (· < w.heap.size) w9 p (encs (es.take (k + 1)))) := by
        rw [HS.out]
        have : L ++ enc1 e = L ++ be 8 (e.ck : Int).toNat ++ be 4 (e.ino : Int).toNat ++ be 4 (e.gen : Int).toNat ++ opq e.nm := by simp [enc1]
        rw [this]
        exact hwr.less (fun k hk => .inl (.inl hk))
      have HN9 := Lib.hid (HN8.out.trans (hkp.below2 (fun k hk => .inl (.inl hk))))
      clear hwr hkp HR8 HN8 HBS8 hcv c3 HE7
      go_wp2_with fail
      go_roundw
      case rel => exact ⟨k + 1, by omega, by go_num, HR9.out, HN9.out⟩
      case measure => simp [intOf]; omega
    · have : k = n := by omega
      subst this
      have HT : Hid (es.take k = es) := List.take_of_length_le (by have := HN.out; omega)
      rw [HT.out] at hwr
      go_wp2_with fail
      refine (out_any _ _ p _ hwr.out (by have := HLEN.out; omega)).mono ?_
      rintro en w3 ⟨A3, c3, rfl, hown⟩
      have HO := Lib.hid hown
      have HN3 := Lib.hid (hnx.out.trans (hown.2.mono hnx.out.size))
      have HC : Hid (chkE es = 0) := if_pos HOK.out
      have HP : Hid (putE es = encs es) := if_pos HOK.out
      clear hown hwr hnx HWR HB2
      go_wp2_with fail
      go_ret2
      refine ⟨A3, (encs es).length, c3, ?_, ?_, HN3.out⟩
      · rw [HC.out]; rfl
      · rw [HP.out]; exact HO.out.bs
end Go.Proofs.YtpbpdnjlomhkdaaGreat
