
/-
  Contracts of the document's answers for what is read: raw, number, Read32, Read64, ReadBool, ReadOpaque, End (over values).
-/
import Derived.Test.YtjionpkflpnejaaRef
import Derived.Deep.RegionHeld3
import Derived.Deep.Cut
namespace Go.Proofs.Ytjionpkflpnejaa
open Go.RowKit

/-- The document's reader as a value. -/
def RV (l : List UInt8) (e : Int) : Value := .agg #[.string (txt l), .int .i64 e]

theorem txt_take (l : List UInt8) (n : Nat) : (txt l).extract 0 n = txt (l.take n) := by
  apply ByteArray.ext
  simp [txt]
theorem txt_drop (l : List UInt8) (n : Nat) : (txt l).extract n l.length = txt (l.drop n) := by
  apply ByteArray.ext
  simp [txt]
  exact List.take_of_length_le (by simp)
theorem txt_get (l : List UInt8) (k : Nat) (h : k < (txt l).size) : ((txt l)[k]'h).toNat = (l[k]'(by rwa [txt_size] at h)).toNat := rfl
theorem mul_add_u64 (a b : Nat) (h : a * 256 + b < 18446744073709551616) : IntKind.u64.wrap (IntKind.u64.wrap ((a : Int) * 256) + IntKind.u64.wrap (b : Int)) = ((a * 256 + b : Nat) : Int) := by
  rw [IntKind.wrap_u64, IntKind.wrap_u64, IntKind.wrap_u64]
  omega

/-- The next n bytes. -/
def rdRaw (n : Nat) (s : St) : St × List UInt8 := if s.2 ≠ 0 then (s, []) else if s.1.length < n then ((s.1, 10), []) else ((s.1.drop n, 0), s.1.take n)
theorem rdN_raw (n : Nat) (s : St) : rdN n s = ((rdRaw n s).1, num (rdRaw n s).2) := by
  unfold rdN rdRaw
  split
  · rfl
  · split
    · rfl
    · rfl
theorem rdRaw_len (n : Nat) (s : St) : (rdRaw n s).2.length ≤ n := by
  unfold rdRaw
  split
  · simp
  · split
    · simp
    · simp; omega

set_option maxRecDepth 100000 in
set_option maxHeartbeats 1000000 in
theorem refRaw (l : List UInt8) (e : Int) (n : Nat) (w : World) (hn : n ≤ 1000000000000) :
    Calls Try.prog 50 #[RV l e, .int .i64 n] w fun en w' => en = .returned (.tuple #[RV (rdRaw n (l, e)).1.1 (rdRaw n (l, e)).1.2, .string (txt (rdRaw n (l, e)).2)]) ∧ Below w.heap.size w w' := by
  have hsz := txt_size l
  unfold RV
  by_cases he : e = 0
  · subst he
    by_cases hs : l.length < n
    · have HR : Hid (rdRaw n (l, 0) = ((l, 10), [])) := by show _ = _; simp [rdRaw, hs]
      rw [HR.out]
      clear HR
      have hd : decide ((l.length : Int) < (n : Int)) = true := by simp; omega
      go_enter Try.func50, Try.ntmps50
      go_wp2_with fail
      exact bodyPost_ret (v := .tuple #[.agg #[.string (txt l), .int .i64 10], .string (txt [])]) (by simp [results, Try.results50, go_sem, txt]) rfl ⟨rfl, ((Below.refl _ _).alloc (Nat.le_refl _) _).alloc (by simp) _⟩
    · have HR : Hid (rdRaw n (l, 0) = ((l.drop n, 0), l.take n)) := by show _ = _; simp [rdRaw]; omega
      rw [HR.out]
      clear HR
      have hd : decide ((l.length : Int) < (n : Int)) = false := by simp; omega
      have x1 := txt_take l n
      have x2 := txt_drop l n
      go_enter Try.func50, Try.ntmps50
      go_wp2_with fail
      exact bodyPost_ret (v := .tuple #[.agg #[.string (txt (l.drop n)), .int .i64 0], .string (txt (l.take n))]) (by simp [results, Try.results50, go_sem]) rfl ⟨rfl, ((Below.refl _ _).alloc (Nat.le_refl _) _).alloc (by simp) _⟩
  · have HR : Hid (rdRaw n (l, e) = ((l, e), [])) := if_pos he
    rw [HR.out]
    clear HR
    have he' : (e != 0) = true := by simp [he]
    clear he
    go_enter Try.func50, Try.ntmps50
    go_wp2_with fail
    exact bodyPost_ret (v := .tuple #[.agg #[.string (txt l), .int .i64 e], .string (txt [])]) (by simp [results, Try.results50, go_sem, txt]) rfl ⟨rfl, ((Below.refl _ _).alloc (Nat.le_refl _) _).alloc (by simp) _⟩

set_option maxRecDepth 100000 in
set_option maxHeartbeats 1000000 in
theorem refNumber (l : List UInt8) (w : World) (hl : l.length ≤ 8) :
    Calls Try.prog 51 #[.string (txt l)] w fun en w' => en = .returned (.int .u64 (num l)) ∧ w = w' := by
  have hsz := txt_size l
  go_enter Try.func51, Try.ntmps51
  go_wp2_with fail
  go_loop [3, 4] (fun x i => ∃ k : Nat, k ≤ l.length ∧ i = .int .i64 k ∧ x = .int .u64 (num (l.take k) : Int)) (fun _ i => l.length - (intOf i).toNat)
  case atStart => exact ⟨0, by omega, rfl, rfl⟩
  case round =>
    obtain ⟨k, hk, rfl, rfl⟩ := hrel
    by_cases hlt : k < l.length
    · have hlt' : k < (txt l).size := by rw [hsz]; exact hlt
      have hn := num_lt (l.take k)
      have hkl : (l.take k).length ≤ 7 := by rw [List.length_take]; omega
      have hn7 := Nat.pow_le_pow_right (n := 256) (by omega) hkl
      have hb : l[k].toNat < 256 := l[k].toNat_lt
      have HX := Lib.hid (mul_add_u64 (num (l.take k)) l[k].toNat (by omega))
      have HS := Lib.hid (num_take_snoc l k hlt)
      clear hn hn7 hb hkl
      generalize hx : num (l.take k) = x at *
      clear hx
      go_wp2_with fail
      refine ⟨⟨k + 1, by omega, by go_num, ?_⟩, by simp [intOf]; omega⟩
      exact congrArg (Value.int .u64) (HX.out.trans (congrArg (fun z : Nat => (z : Int)) HS.out.symm))
    · have hkl : k = l.length := by omega
      subst hkl
      rw [List.take_length]
      go_wp2_with fail
      go_ret
      exact ⟨rfl, rfl⟩

/-- Block g is just the two cells a, b. -/
def Two (w : World) (g : Nat) (a b : Value) : Prop := w.heap[g]? = some (.cells #[a, b] 77 (0, 0))
section
variable {w w' : World} {g : Nat} {a b a' b' : Value}
theorem Two.c0 (h : Two w g a b) : w.cell? ⟨g, 0, none⟩ = some a := cell_of_row w g 0 _ _ (0, 0) h
theorem Two.c1 (h : Two w g a b) : w.cell? ⟨g, 1, none⟩ = some b := cell_of_row w g 1 _ _ (0, 0) h
theorem Two.fr (h : Two w g a b) (o : Nat) : w.frozen? ⟨g, o, none⟩ = false := by unfold Two at h; simp [World.frozen?, h]
theorem Two.lt (h : Two w g a b) : g < w.heap.size := World.block_lt_of_cell? w _ h.c0
theorem Two.below {B : Nat} (h : Two w g a b) (hb : Below B w w') (hg : g < B) : Two w' g a b := (hb.block g hg).trans h
theorem Two.set2 (h : Two w g a b) : Two ((w.setCell ⟨g, 0, none⟩ a').setCell ⟨g, 1, none⟩ b') g a' b' := by
  unfold Two at *
  simp [World.setCell, Array.getElem?_modify, h]
theorem Two.set1 (h : Two w g a b) : Two (w.setCell ⟨g, 1, none⟩ b') g a b' := by
  unfold Two at *
  simp [World.setCell, Array.getElem?_modify, h]
theorem Two.far {p : Addr} {u : Value} (h : Two w g a b) (hp : g ≠ p.block) : Two (w.setCell p u) g a b := (Below.heap_setCell w p u g hp).trans h
theorem Two.drew (h : Two w g a b) : Two w.drew g a b := h
/-- Two blocks that were laid, behind a call that keeps what was there. -/
theorem two_new {x y u v : Value} {w1 : World} (hb : Below ((w.alloc (.cells #[x, y] 77)).alloc (.cells #[u, v] 77)).heap.size ((w.alloc (.cells #[x, y] 77)).alloc (.cells #[u, v] 77)) w1) :
    Two w1 w.heap.size x y ∧ Two w1 (w.heap.size + 1) u v ∧ Below w.heap.size w w1 := by
  have h1 : Two ((w.alloc (.cells #[x, y] 77)).alloc (.cells #[u, v] 77)) w.heap.size x y :=
    (Below.heap_alloc _ _ _ (by simp)).trans (heap_alloc_new w _)
  have h2 : Two ((w.alloc (.cells #[x, y] 77)).alloc (.cells #[u, v] 77)) (w.heap.size + 1) u v := by
    have := heap_alloc_new (w.alloc (.cells #[x, y] 77)) (.cells #[u, v] 77)
    simpa [Two] using this
  exact ⟨h1.below hb h1.lt, h2.below hb h2.lt, (((Below.refl _ _).alloc (Nat.le_refl _) _).alloc (by simp) _).trans (hb.mono (by simp; omega))⟩
end

set_option maxRecDepth 100000 in
set_option maxHeartbeats 1000000 in
theorem refRead32 (l : List UInt8) (e : Int) (w : World) :
    Calls Try.prog 40 #[RV l e] w fun en w' => en = .returned (.tuple #[RV (rdN 4 (l, e)).1.1 (rdN 4 (l, e)).1.2, .int .u32 ((rdN 4 (l, e)).2 : Int)]) ∧ Below w.heap.size w w' := by
  have HC := Lib.hid (fun W => refRaw l e 4 W (by omega))
  have hrl := rdRaw_len 4 (l, e)
  rw [rdN_raw]
  generalize rdRaw 4 (l, e) = r at *
  obtain ⟨⟨l', e'⟩, b⟩ := r
  simp only at hrl
  have hnb : num b < 4294967296 := by
    have h1 := num_lt b
    have := Nat.pow_le_pow_right (n := 256) (by omega) hrl
    omega
  have wr : IntKind.u32.wrap (num b : Int) = (num b : Int) := by rw [IntKind.wrap_u32]; omega
  have Hrl := Lib.hid hrl
  unfold RV at *
  go_enter Try.func40, Try.ntmps40
  go_wp2_with fail
  refine (HC.out _).mono ?_
  rintro en w1 ⟨rfl, hb1⟩
  obtain ⟨t1, t2, hbb⟩ := two_new hb1
  have T1 := Lib.hid t1
  have T2 := Lib.hid t2
  have HB1 := Lib.hid hbb
  have c0 := t1.c0
  have c1 := t1.c1
  have f0 := t1.fr 0
  have f1 := t1.fr 1
  clear t1 t2 hbb hb1
  go_wp2_with fail
  have T1' : Hid (Two ((w1.setCell ⟨w.heap.size, 0, none⟩ (.string (txt l'))).setCell ⟨w.heap.size, 1, none⟩ (.int .i64 e')) w.heap.size (.string (txt l')) (.int .i64 e')) := T1.out.set2
  have T2' : Hid (Two ((w1.setCell ⟨w.heap.size, 0, none⟩ (.string (txt l'))).setCell ⟨w.heap.size, 1, none⟩ (.int .i64 e')) (w.heap.size + 1) _ _) := (T2.out.far (by simp)).far (by simp)
  have HB2 : Hid (Below w.heap.size w ((w1.setCell ⟨w.heap.size, 0, none⟩ (.string (txt l'))).setCell ⟨w.heap.size, 1, none⟩ (.int .i64 e'))) := (HB1.out.setCell (by simp) _).setCell (by simp) _
  clear c0 c1 f0 f1 T1 T2 HB1
  generalize (w1.setCell ⟨w.heap.size, 0, none⟩ (.string (txt l'))).setCell ⟨w.heap.size, 1, none⟩ (.int .i64 e') = w2 at *
  have d0 := T1'.out.c0
  have d1 := T1'.out.c1
  have g0 := T2'.out.c0
  have g1 := T2'.out.c1
  have m0 := T2'.out.fr 0
  have m1 := T2'.out.fr 1
  go_region_held3 (fun W => W.cell? ⟨w.heap.size, 0, none⟩ = some (.string (txt l')) ∧ W.cell? ⟨w.heap.size, 1, none⟩ = some (.int .i64 e'))
    (first | go_keep | exact ⟨d0, d1⟩)
    (first
      | (go_at_call 51
         refine (refNumber b _ (by have := Hrl.out; omega)).mono ?_
         rintro en w3 ⟨rfl, rfl⟩))
  go_wp2_with fail
  refine bodyPost_ret (v := .tuple #[.agg #[.string (txt l'), .int .i64 e'], .int .u32 (num b)]) (by simp [results, Try.results40, go_sem, g0, g1]) rfl ⟨rfl, ?_⟩
  exact (HB2.out.drew.setCell (by simp) _).setCell (by simp) _

set_option maxRecDepth 100000 in
set_option maxHeartbeats 1000000 in
theorem refRead64 (l : List UInt8) (e : Int) (w : World) :
    Calls Try.prog 41 #[RV l e] w fun en w' => en = .returned (.tuple #[RV (rdN 8 (l, e)).1.1 (rdN 8 (l, e)).1.2, .int .u64 ((rdN 8 (l, e)).2 : Int)]) ∧ Below w.heap.size w w' := by
  have HC := Lib.hid (fun W => refRaw l e 8 W (by omega))
  have hrl := rdRaw_len 8 (l, e)
  rw [rdN_raw]
  generalize rdRaw 8 (l, e) = r at *
  obtain ⟨⟨l', e'⟩, b⟩ := r
  simp only at hrl
  have Hrl := Lib.hid hrl
  unfold RV at *
  go_enter Try.func41, Try.ntmps41
  go_wp2_with fail
  refine (HC.out _).mono ?_
  rintro en w1 ⟨rfl, hb1⟩
  obtain ⟨t1, t2, hbb⟩ := two_new hb1
  have T1 := Lib.hid t1
  have T2 := Lib.hid t2
  have HB1 := Lib.hid hbb
  have c0 := t1.c0
  have c1 := t1.c1
  have f0 := t1.fr 0
  have f1 := t1.fr 1
  clear t1 t2 hbb hb1
  go_wp2_with fail
  have T1' : Hid (Two ((w1.setCell ⟨w.heap.size, 0, none⟩ (.string (txt l'))).setCell ⟨w.heap.size, 1, none⟩ (.int .i64 e')) w.heap.size (.string (txt l')) (.int .i64 e')) := T1.out.set2
  have T2' : Hid (Two ((w1.setCell ⟨w.heap.size, 0, none⟩ (.string (txt l'))).setCell ⟨w.heap.size, 1, none⟩ (.int .i64 e')) (w.heap.size + 1) _ _) := (T2.out.far (by simp)).far (by simp)
  have HB2 : Hid (Below w.heap.size w ((w1.setCell ⟨w.heap.size, 0, none⟩ (.string (txt l'))).setCell ⟨w.heap.size, 1, none⟩ (.int .i64 e'))) := (HB1.out.setCell (by simp) _).setCell (by simp) _
  clear c0 c1 f0 f1 T1 T2 HB1
  generalize (w1.setCell ⟨w.heap.size, 0, none⟩ (.string (txt l'))).setCell ⟨w.heap.size, 1, none⟩ (.int .i64 e') = w2 at *
  have d0 := T1'.out.c0
  have d1 := T1'.out.c1
  have g0 := T2'.out.c0
  have g1 := T2'.out.c1
  have m0 := T2'.out.fr 0
  have m1 := T2'.out.fr 1
  go_region_held3 (fun W => W.cell? ⟨w.heap.size, 0, none⟩ = some (.string (txt l')) ∧ W.cell? ⟨w.heap.size, 1, none⟩ = some (.int .i64 e'))
    (first | go_keep | exact ⟨d0, d1⟩)
    (first
      | (go_at_call 51
         refine (refNumber b _ (by have := Hrl.out; omega)).mono ?_
         rintro en w3 ⟨rfl, rfl⟩))
  go_wp2_with fail
  refine bodyPost_ret (v := .tuple #[.agg #[.string (txt l'), .int .i64 e'], .int .u64 (num b)]) (by simp [results, Try.results41, go_sem, g0, g1]) rfl ⟨rfl, ?_⟩
  exact (HB2.out.drew.setCell (by simp) _).setCell (by simp) _


set_option maxRecDepth 100000 in
set_option maxHeartbeats 1000000 in
theorem refReadBool (l : List UInt8) (e : Int) (w : World) :
    Calls Try.prog 39 #[RV l e] w fun en w' => en = .returned (.tuple #[RV (rdB (l, e)).1.1 (rdB (l, e)).1.2, .bool (rdB (l, e)).2]) ∧ Below w.heap.size w w' := by
  have HC := Lib.hid (fun W => refRead32 l e W)
  have hrb : rdB (l, e) = if 1 < (rdN 4 (l, e)).2 then (((rdN 4 (l, e)).1.1, 11), false) else ((rdN 4 (l, e)).1, (rdN 4 (l, e)).2 == 1) := rfl
  rw [hrb]
  clear hrb
  generalize rdN 4 (l, e) = r at *
  obtain ⟨⟨l', e'⟩, x⟩ := r
  simp only
  unfold RV at *
  by_cases hx : 1 < x
  · rw [if_pos hx]
    have tt : decide ((1 : Int) < (x : Int)) = true := by simp; omega
    clear hx
    go_enter Try.func39, Try.ntmps39
    go_wp2_with fail
    refine (HC.out _).mono ?_
    rintro en w1 ⟨rfl, hb1⟩
    obtain ⟨t1, t2, hbb⟩ := two_new hb1
    have T1 := Lib.hid t1
    have T2 := Lib.hid t2
    have HB1 := Lib.hid hbb
    have c0 := t1.c0
    have c1 := t1.c1
    have f0 := t1.fr 0
    have f1 := t1.fr 1
    clear t1 t2 hbb hb1
    go_upto_region 3 with (fail)
    have T1' : Hid (Two ((w1.setCell ⟨w.heap.size, 0, none⟩ (.string (txt l'))).setCell ⟨w.heap.size, 1, none⟩ (.int .i64 e')) w.heap.size (.string (txt l')) (.int .i64 e')) := T1.out.set2
    have T2' : Hid (Two ((w1.setCell ⟨w.heap.size, 0, none⟩ (.string (txt l'))).setCell ⟨w.heap.size, 1, none⟩ (.int .i64 e')) (w.heap.size + 1) _ _) := (T2.out.far (by simp)).far (by simp)
    have HB2 : Hid (Below w.heap.size w ((w1.setCell ⟨w.heap.size, 0, none⟩ (.string (txt l'))).setCell ⟨w.heap.size, 1, none⟩ (.int .i64 e'))) := (HB1.out.setCell (by simp) _).setCell (by simp) _
    clear c0 c1 f0 f1 T1 T2 HB1
    generalize (w1.setCell ⟨w.heap.size, 0, none⟩ (.string (txt l'))).setCell ⟨w.heap.size, 1, none⟩ (.int .i64 e') = w2 at *
    have d0 := T1'.out.c0
    have d1 := T1'.out.c1
    have f1 := T1'.out.fr 1
    have g0 := T2'.out.c0
    have g1 := T2'.out.c1
    have m0 := T2'.out.fr 0
    have m1 := T2'.out.fr 1
    go_wp2_with fail
    refine bodyPost_ret (v := .tuple #[.agg #[.string (txt l'), .int .i64 11], .bool false]) (by simp [results, Try.results39, go_sem, g0, g1]) rfl ⟨rfl, ?_⟩
    repeat (first | exact HB2.out | refine Below.setCell ?_ (by simp) _)
  · rw [if_neg hx]
    have hx01 : x = 0 ∨ x = 1 := by omega
    clear hx
    rcases hx01 with rfl | rfl
    all_goals
      go_enter Try.func39, Try.ntmps39
      go_wp2_with fail
      refine (HC.out _).mono ?_
      rintro en w1 ⟨rfl, hb1⟩
      obtain ⟨t1, t2, hbb⟩ := two_new hb1
      have HB1 := Lib.hid hbb
      have c0 := t1.c0
      have c1 := t1.c1
      have f0 := t1.fr 0
      have f1 := t1.fr 1
      have g0 := t2.c0
      have g1 := t2.c1
      have m0 := t2.fr 0
      have m1 := t2.fr 1
      clear t1 t2 hbb hb1
      go_wp2_with fail
      refine bodyPost_ret (v := .tuple #[.agg #[.string (txt l'), .int .i64 e'], .bool _]) (by simp [results, Try.results39, go_sem, g0, g1]) rfl ⟨rfl, ?_⟩
      repeat (first | exact HB1.out | refine Below.setCell ?_ (by simp) _)

theorem txt_toList (l : List UInt8) : (txt l).toList = l := by
  rw [ByteArray.toList_eq]
  rfl
set_option maxRecDepth 100000 in
set_option maxHeartbeats 1000000 in
theorem refEnd (l : List UInt8) (e : Int) (w : World) :
    Calls Try.prog 42 #[RV l e] w fun en w' => en = .returned (.int .i64 (endOf l e)) ∧ Below w.heap.size w w' := by
  unfold RV
  have hb : Below w.heap.size w (w.alloc (.cells #[.string (txt l), .int .i64 e] 77)) := (Below.refl _ _).alloc (Nat.le_refl _) _
  have HB := Lib.hid hb
  clear hb
  by_cases he : e = 0
  · subst he
    by_cases hl : 0 < l.length
    · have Hf : Hid (endOf l 0 = 12) := if_pos ⟨rfl, hl⟩
      have ht : (txt l).toList.isEmpty = false := by rw [txt_toList]; cases l with | nil => simp at hl | cons => rfl
      go_enter Try.func42, Try.ntmps42
      go_wp2_with fail
      go_ret
      exact ⟨ret_int Hf.out.symm, HB.out⟩
    · have Hf : Hid (endOf l 0 = 0) := if_neg (fun h => hl h.2)
      have ht : (txt l).toList.isEmpty = true := by rw [txt_toList]; cases l with | nil => rfl | cons => simp at hl
      go_enter Try.func42, Try.ntmps42
      go_wp2_with fail
      go_ret
      exact ⟨ret_int Hf.out.symm, HB.out⟩
  · have Hf : Hid (endOf l e = e) := if_neg (fun h => he h.1)
    have he' : (e == 0) = false := by simp [he]
    clear he
    go_enter Try.func42, Try.ntmps42
    go_wp2_with fail
    go_ret
    exact ⟨ret_int Hf.out.symm, HB.out⟩
end Go.Proofs.Ytjionpkflpnejaa
