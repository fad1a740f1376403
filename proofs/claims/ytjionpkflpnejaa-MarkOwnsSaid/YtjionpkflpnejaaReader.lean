
/-
  Contracts of layer 1's Reader: NewReader, Err, Left, End, take, readNumber.
-/
import Derived.Test.YtjionpkflpnejaaWriter2
import Derived.Deep.QuietTactic
import Derived.BigQuiet
import Derived.Laws.BitsAllLaws
namespace Go.Proofs.Ytjionpkflpnejaa
open Go.RowKit

/-- The slice lies in a block of bytes. -/
def BT (w : World) (A : Option Addr) : Prop := ∀ ad, A = some ad → ∃ cs fr, w.heap[ad.block]? = some (.cells cs 5 fr)
theorem BT.lt {w : World} {A : Option Addr} (h : BT w A) (ad : Addr) (ha : A = some ad) : ad.block < w.heap.size := by
  obtain ⟨cs, fr, h1⟩ := h ad ha
  rcases Nat.lt_or_ge ad.block w.heap.size with hlt | hge
  · exact hlt
  · rw [Array.getElem?_eq_none hge] at h1; cases h1
theorem BT.keep {w w' : World} {A : Option Addr} (h : BT w A) (hb : ∀ ad, A = some ad → w'.heap[ad.block]? = w.heap[ad.block]?) : BT w' A := fun ad ha => by
  obtain ⟨cs, fr, h1⟩ := h ad ha
  exact ⟨cs, fr, (hb ad ha).trans h1⟩
theorem BT.ne {w : World} {A : Option Addr} (h : BT w A) {g : Nat} {cs : Array Value} {t : TypeId} {fr : Nat × Nat} (hg : w.heap[g]? = some (.cells cs t fr)) (ht : t ≠ 5) (ad : Addr) (ha : A = some ad) : ad.block ≠ g := by
  rintro rfl
  obtain ⟨cs', fr', h1⟩ := h ad ha
  rw [hg] at h1
  injection h1 with h1
  injection h1 with _ h1 _
  exact ht h1
theorem BT.of_own {w : World} {base : Nat} {A : Option Addr} {n c : Nat} {xs : List Value} (h : w.ownsRow base 5 1 (.slice A n c) n xs) : BT w A := fun ad ha => by
  rcases h.2 with ⟨h1, _⟩ | ⟨g, cap, cur, h1, _, h2, _⟩
  · injection h1 with h1; rw [h1] at ha; cases ha
  · injection h1 with h1
    rw [h1] at ha
    injection ha with ha
    subst ha
    exact ⟨cur, _, h2⟩
theorem BT.add {w : World} {A : Option Addr} (h : BT w A) (k : Nat) : BT w (A.map (·.add k)) := fun ad ha => by
  rcases A with _ | a
  · cases ha
  · simp only [Option.map_some, Option.some.injEq] at ha
    have he : ad.block = a.block := by rw [← ha]; unfold Addr.add; split <;> rfl
    rw [he]
    exact h a rfl
/-- A Reader in block q has l left, and the first error e. -/
def RdAt (w : World) (q : Nat) (l : List UInt8) (e : Int) (A : Option Addr) (c : Nat) : Prop :=
  w.heap[q]? = some (.cells #[.slice A l.length c, .int .i64 e] 91 (0, 0)) ∧ l.length ≤ c ∧ l.length ≤ 3000000 ∧ BS w A l.length l ∧ BT w A
def Rd (w : World) (q : Nat) (l : List UInt8) (e : Int) : Prop := ∃ A c, RdAt w q l e A c

section
variable {w w' : World} {q : Nat} {l : List UInt8} {e : Int} {A : Option Addr} {c : Nat}
theorem RdAt.cell0 (h : RdAt w q l e A c) : w.cell? ⟨q, 0, none⟩ = some (.slice A l.length c) := cell_of_row w q 0 _ _ (0, 0) h.1
theorem RdAt.cell1 (h : RdAt w q l e A c) : w.cell? ⟨q, 1, none⟩ = some (.int .i64 e) := cell_of_row w q 1 _ _ (0, 0) h.1
theorem RdAt.froz (h : RdAt w q l e A c) (o : Nat) : w.frozen? ⟨q, o, none⟩ = false := by simp [World.frozen?, h.1]
theorem RdAt.lt (h : RdAt w q l e A c) : q < w.heap.size := World.block_lt_of_cell? w _ h.cell0
theorem Rd.lt (h : Rd w q l e) : q < w.heap.size := by obtain ⟨_, _, h⟩ := h; exact h.lt
theorem Rd.len (h : Rd w q l e) : l.length ≤ 3000000 := by obtain ⟨_, _, h⟩ := h; exact h.2.2.1
theorem RdAt.noByte (h : RdAt w q l e A c) : ∀ o z, w.cell? ⟨q, o, none⟩ ≠ some (.int .u8 z) := by
  intro o z hz
  rw [cell_of_row w q o _ _ (0, 0) h.1] at hz
  match o, hz with
  | 0, hz => simp at hz
  | 1, hz => simp at hz
  | o + 2, hz => simp at hz
theorem RdAt.kept (h : RdAt w q l e A c) (hb : Below w.heap.size w w') : RdAt w' q l e A c := ⟨(hb.block q h.lt).trans h.1, h.2.1, h.2.2.1, h.2.2.2.1.below hb, h.2.2.2.2.keep fun ad ha => hb.block _ (h.2.2.2.2.lt ad ha)⟩
theorem Rd.kept (h : Rd w q l e) (hb : Below w.heap.size w w') : Rd w' q l e := by obtain ⟨A, c, h⟩ := h; exact ⟨A, c, h.kept hb⟩
/-- A change of one block that holds no bytes, and of new ones. -/
theorem Rd.off (h : Rd w q l e) {g : Nat} {cs : Array Value} {t : TypeId} {fr : Nat × Nat} (hg : w.heap[g]? = some (.cells cs t fr)) (ht : t ≠ 5) (hq : q ≠ g) (hk : ∀ k, k < w.heap.size → k ≠ g → w'.heap[k]? = w.heap[k]?) : Rd w' q l e := by
  obtain ⟨A, c, h1, h2, h3, h4, h5⟩ := h
  have hqs : q < w.heap.size := by
    rcases Nat.lt_or_ge q w.heap.size with hlt | hge
    · exact hlt
    · rw [Array.getElem?_eq_none hge] at h1; cases h1
  refine ⟨A, c, (hk q hqs hq).trans h1, h2, h3, ⟨h4.1, fun hn => ?_⟩, h5.keep fun ad ha => hk _ (h5.lt ad ha) (h5.ne hg ht ad ha)⟩
  obtain ⟨b, o, rfl, hc⟩ := h4.2 hn
  refine ⟨b, o, rfl, fun j hj => ?_⟩
  rw [← hc j hj]
  exact World.cell?_of_block (hk b (h5.lt _ rfl) (h5.ne hg ht _ rfl))
theorem off_setCell (w : World) (q o : Nat) (u : Value) : w.grownBy (w.setCell ⟨q, o, none⟩ u) (some q) :=
  ⟨rfl, rfl, rfl, by simp [World.setCell], fun k _ hk => Below.heap_setCell w ⟨q, o, none⟩ u k (fun e => hk (by rw [e]))⟩
/-- The error is set. -/
theorem RdAt.setErr (h : RdAt w q l e A c) (e' : Int) : RdAt (w.setCell ⟨q, 1, none⟩ (.int .i64 e')) q l e' A c :=
  ⟨by simp [World.setCell, Array.getElem?_modify, h.1], h.2.1, h.2.2.1, h.2.2.2.1.off h.noByte (fun k hk hne => (off_setCell w q 1 (.int .i64 e')).block k hk (fun e => hne (by injection e))),
    h.2.2.2.2.keep fun ad ha => (off_setCell w q 1 (.int .i64 e')).block _ (h.2.2.2.2.lt ad ha) (fun e => h.2.2.2.2.ne h.1 (by decide) ad ha (by injection e))⟩
/-- What is left is set. -/
theorem RdAt.setLeft (h : RdAt w q l e A c) {A' : Option Addr} {c' n : Nat} {l' : List UInt8} (hn : l'.length = n) (hc : n ≤ c') (hl : n ≤ 3000000) (hb : BS w A' n l') (ht : BT w A') : RdAt (w.setCell ⟨q, 0, none⟩ (.slice A' n c')) q l' e A' c' := by
  subst hn
  exact ⟨by simp [World.setCell, Array.getElem?_modify, h.1], hc, hl, hb.off h.noByte (fun k hk hne => (off_setCell w q 0 (.slice A' l'.length c')).block k hk (fun e => hne (by injection e))),
    ht.keep fun ad ha => (off_setCell w q 0 (.slice A' l'.length c')).block _ (ht.lt ad ha) (fun e => ht.ne h.1 (by decide) ad ha (by injection e))⟩
theorem RdAt.bsLeft (h : RdAt w q l e A c) {A' B : Option Addr} {c' n m : Nat} {l' : List UInt8} (hb : BS w B m l') : BS (w.setCell ⟨q, 0, none⟩ (.slice A' n c')) B m l' :=
  hb.off h.noByte (fun k hk hne => (off_setCell w q 0 (.slice A' n c')).block k hk (fun e => hne (by injection e)))
end

set_option maxHeartbeats 400000 in
theorem newReader_any (A : Option Addr) (n c : Nat) (l : List UInt8) (w : World) (h : BS w A n l) (hn : n ≤ 3000000) :
    Calls Try.prog 34 #[.slice A n c] w fun e w' => ∃ q, e = .returned (.pointer (some ⟨q, 0, none⟩)) ∧ Rd w' q l 0 ∧ Below w.heap.size w w' ∧ w.heap.size ≤ q := by
  have H := Lib.hid h
  clear h
  go_enter Try.func34, Try.ntmps34
  go_wp2_with fail
  refine (clone_any A n c l w H.out hn).mono ?_
  rintro e w1 ⟨A', c', rfl, h1⟩
  have HO := Lib.hid h1
  clear h1
  go_wp2
  go_ret
  obtain ⟨ho, hb⟩ := HO.out
  have hl : l.length = n := H.out.1
  have hc : n ≤ c' := by
    rcases ho.2 with ⟨h1, h2⟩ | ⟨g, cap, cur, h1, _, _, h2, _⟩
    · omega
    · injection h1 with _ _ h1; omega
  subst hl
  refine ⟨w1.heap.size, rfl, ⟨A', c', heap_alloc_new w1 _, hc, hn, (BS.of_own ho).alloc _, (BT.of_own ho).keep fun ad ha => Below.heap_alloc w1 _ _ ((BT.of_own ho).lt ad ha)⟩, hb.alloc hb.size _, hb.size⟩

theorem err_any (w : World) (q : Nat) (l : List UInt8) (e : Int) (h : Rd w q l e) :
    Calls Try.prog 48 #[.pointer (some ⟨q, 0, none⟩)] w fun en w' => en = .returned (.int .i64 e) ∧ w = w' := by
  obtain ⟨A, c, h⟩ := h
  have h1 := h.cell1
  clear h
  go_enter Try.func48, Try.ntmps48
  go_wp2
  go_ret
  exact ⟨rfl, rfl⟩
theorem left_any (w : World) (q : Nat) (l : List UInt8) (e : Int) (h : Rd w q l e) :
    Calls Try.prog 49 #[.pointer (some ⟨q, 0, none⟩)] w fun en w' => en = .returned (.int .i64 l.length) ∧ w = w' := by
  obtain ⟨A, c, h⟩ := h
  have h1 := h.cell0
  clear h
  go_enter Try.func49, Try.ntmps49
  go_wp2
  go_ret
  exact ⟨rfl, rfl⟩
theorem err_nil (w : World) : Calls Try.prog 48 #[.pointer none] w fun en w' => en = .returned (.int .i64 1) ∧ w = w' := by
  go_enter Try.func48, Try.ntmps48
  go_wp2
  go_ret
  exact ⟨rfl, rfl⟩
theorem left_nil (w : World) : Calls Try.prog 49 #[.pointer none] w fun en w' => en = .returned (.int .i64 0) ∧ w = w' := by
  go_enter Try.func49, Try.ntmps49
  go_wp2
  go_ret
  exact ⟨rfl, rfl⟩

/-- What End tells. -/
def endOf (l : List UInt8) (e : Int) : Int := if e = 0 ∧ 0 < l.length then 12 else e
set_option maxHeartbeats 400000 in
theorem end_any (w : World) (q : Nat) (l : List UInt8) (e : Int) (h : Rd w q l e) :
    Calls Try.prog 38 #[.pointer (some ⟨q, 0, none⟩)] w fun en w' => en = .returned (.int .i64 (endOf l e)) ∧ w = w' := by
  have H := Lib.hid h
  clear h
  by_cases he : e = 0
  · subst he
    by_cases hl : 0 < l.length
    · have Hf : Hid (endOf l 0 = 12) := if_pos ⟨rfl, hl⟩
      go_enter Try.func38, Try.ntmps38
      go_wp2_with fail
      refine (err_any w q l 0 H.out).mono ?_
      rintro e w' ⟨rfl, rfl⟩
      go_wp2_with fail
      refine (left_any w q l 0 H.out).mono ?_
      rintro e w' ⟨rfl, rfl⟩
      go_wp2_with fail
      go_ret
      exact ⟨ret_int Hf.out.symm, rfl⟩
    · have Hf : Hid (endOf l 0 = 0) := if_neg (fun h => hl h.2)
      go_enter Try.func38, Try.ntmps38
      go_wp2_with fail
      refine (err_any w q l 0 H.out).mono ?_
      rintro e w' ⟨rfl, rfl⟩
      go_wp2_with fail
      refine (left_any w q l 0 H.out).mono ?_
      rintro e w' ⟨rfl, rfl⟩
      go_wp2_with fail
      refine (err_any w q l 0 H.out).mono ?_
      rintro e w' ⟨rfl, rfl⟩
      go_wp2_with fail
      go_ret
      exact ⟨ret_int Hf.out.symm, rfl⟩
  · have Hf : Hid (endOf l e = e) := if_neg (fun h => he h.1)
    have he' : (e == 0) = false := by simp [he]
    clear he
    go_enter Try.func38, Try.ntmps38
    go_wp2_with fail
    refine (err_any w q l e H.out).mono ?_
    rintro en w' ⟨rfl, rfl⟩
    go_wp2_with fail
    refine (err_any w q l e H.out).mono ?_
    rintro en w' ⟨rfl, rfl⟩
    go_wp2_with fail
    go_ret
    exact ⟨ret_int Hf.out.symm, rfl⟩

set_option maxHeartbeats 400000 in
theorem take_any (w : World) (q : Nat) (l : List UInt8) (e : Int) (k : Nat) (h : Rd w q l e) (hk : k ≤ l.length) :
    Calls Try.prog 52 #[.pointer (some ⟨q, 0, none⟩), .int .i64 k] w fun en w' => ∃ A, en = .returned (.slice A k k) ∧ BS w' A k (l.take k) ∧ Rd w' q (l.drop k) e ∧ w.grownBy w' (some q) := by
  obtain ⟨A, c, h⟩ := h
  have h0 := h.cell0
  have hf := h.froz 0
  have hlc := h.2.1
  have hl3 := h.2.2.1
  have H := Lib.hid h
  clear h
  go_enter Try.func52, Try.ntmps52
  go_wp2
  · have hd := H.out.2.2.2.1.drop hk hlc
    rw [if_pos (by assumption)] at hd
    go_ret
    exact ⟨A, rfl, H.out.bsLeft (H.out.2.2.2.1.take hk), ⟨_, _, H.out.setLeft (by rw [List.length_drop]) (by omega) (by omega) hd H.out.2.2.2.2⟩, off_setCell _ _ _ _⟩
  · have hd := H.out.2.2.2.1.drop hk hlc
    rw [if_neg (by assumption)] at hd
    go_ret
    exact ⟨A, rfl, H.out.bsLeft (H.out.2.2.2.1.take hk), ⟨_, _, H.out.setLeft (by rw [List.length_drop]) (by omega) (by omega) hd (H.out.2.2.2.2.add _)⟩, off_setCell _ _ _ _⟩

/-- The state of a Reader: what is left, the first error. -/
abbrev St := List UInt8 × Int
/-- A number of n bytes is read. -/
def rdN (n : Nat) (s : St) : St × Nat := if s.2 ≠ 0 then (s, 0) else if s.1.length < n then ((s.1, 10), 0) else ((s.1.drop n, 0), num (s.1.take n))
theorem rdN_err (n : Nat) (l : List UInt8) (e : Int) (h : e ≠ 0) : rdN n (l, e) = ((l, e), 0) := if_pos h
theorem rdN_short (n : Nat) (l : List UInt8) (h : l.length < n) : rdN n (l, 0) = ((l, 10), 0) := by simp [rdN, h]
theorem rdN_ok (n : Nat) (l : List UInt8) (h : n ≤ l.length) : rdN n (l, 0) = ((l.drop n, 0), num (l.take n)) := by simp [rdN]; omega
/-- What a reading call leaves: its value, the Reader's new state, all else as it was. -/
def RdPost (w : World) (q : Nat) (v : Value) (s : St) (en : Ending) (w' : World) : Prop := en = .returned v ∧ Rd w' q s.1 s.2 ∧ w.grownBy w' (some q)

theorem mul_or (a b : Nat) (h : b < 256) : a * 256 ||| b = a * 256 + b := by
  have := Nat.two_pow_add_eq_or_of_lt (i := 8) (b := b) (by omega) a
  rw [Nat.mul_comm a 256]
  exact this.symm
theorem shl_or_u32 (a b : Nat) (h : a * 256 < 4294967296) (hb : b < 256) : bits .or .u32 ((a : Int) * 256 % 4294967296) ((b : Int) % 4294967296) = ((a * 256 + b : Nat) : Int) := by
  have e' : (b : Int) % 4294967296 = (b : Int) := by omega
  have e : (a : Int) * 256 % 4294967296 = ((a * 256 : Nat) : Int) := by omega
  rw [e, e', u32_or_nat (a * 256) b h (by omega), mul_or a b hb]
theorem shl_or_u64 (a b : Nat) (h : a * 256 < 18446744073709551616) (hb : b < 256) : bits .or .u64 (IntKind.u64.wrap ((a : Int) * 256)) (IntKind.u64.wrap (b : Int)) = ((a * 256 + b : Nat) : Int) := by
  have e : IntKind.u64.wrap ((a : Int) * 256) = ((a * 256 : Nat) : Int) := by rw [IntKind.wrap_u64]; omega
  have e' : IntKind.u64.wrap (b : Int) = (b : Int) := by rw [IntKind.wrap_u64]; omega
  rw [e, e', u64_or_nat (a * 256) b h (by omega), mul_or a b hb]
theorem num_take_snoc (t : List UInt8) (k : Nat) (h : k < t.length) : num (t.take (k + 1)) = num (t.take k) * 256 + t[k].toNat := by
  rw [List.take_succ_eq_append_getElem h, num_snoc]

set_option maxRecDepth 100000 in
set_option maxHeartbeats 1000000 in
theorem read32 (w : World) (q : Nat) (l : List UInt8) (e : Int) (h : Rd w q l e) :
    Calls Try.prog 46 #[.pointer (some ⟨q, 0, none⟩), .int .i64 4] w (RdPost w q (.int .u32 ((rdN 4 (l, e)).2 : Int)) (rdN 4 (l, e)).1) := by
  have H := Lib.hid h
  clear h
  by_cases he : e = 0
  · subst he
    by_cases hs : l.length < 4
    · rw [rdN_short 4 l hs]
      obtain ⟨A, c, h⟩ := H.out
      have h0 := h.cell0
      have h1 := h.cell1
      have hf := h.froz 1
      have HA := Lib.hid h
      clear h
      go_enter Try.func46, Try.ntmps46
      go_wp2_with fail
      refine (err_any w q l 0 H.out).mono ?_
      rintro en w' ⟨rfl, rfl⟩
      go_wp2_with fail
      go_ret
      exact ⟨rfl, ⟨_, _, HA.out.setErr 10⟩, off_setCell _ _ _ _⟩
    · rw [rdN_ok 4 l (by omega)]
      obtain ⟨A, c, h⟩ := H.out
      have h0 := h.cell0
      clear h
      go_enter Try.func46, Try.ntmps46
      go_wp2_with fail
      refine (err_any w q l 0 H.out).mono ?_
      rintro en w' ⟨rfl, rfl⟩
      go_wp2_with fail
      refine (take_any w q l 0 4 H.out (by omega)).mono ?_
      rintro en w1 ⟨A1, rfl, hbs, hrd, hg⟩
      have HB := Lib.hid hbs
      have HR := Lib.hid hrd
      have HG := Lib.hid hg
      clear hbs hrd hg
      obtain ⟨b, o, rfl, hcs⟩ := HB.out.2 (by omega)
      have ht4 : (l.take 4).length = 4 := HB.out.1
      have HR4 : Hid (Rd w1 q (l.drop 4) 0) := HR
      clear HB HR
      generalize hT : l.take 4 = t at *
      have HT := Lib.hid hT
      have Ht4 := Lib.hid ht4
      have Hcs := Lib.hid hcs
      clear ht4 hcs hT
      go_wp2_with fail
      go_loop [5, 25] (fun x i => ∃ k : Nat, k ≤ 4 ∧ i = .int .i64 k ∧ x = .int .u32 (num (t.take k) : Int)) (fun _ i => 4 - (intOf i).toNat)
      case atStart => exact ⟨0, by omega, rfl, rfl⟩
      case round =>
        obtain ⟨k, hk, rfl, rfl⟩ := hrel
        by_cases hlt : k < 4
        · have hkt : k < t.length := by rw [Ht4.out]; exact hlt
          have hc := Hcs.out k hkt
          have hx := num_lt (t.take k)
          have hkl : (t.take k).length ≤ 3 := by rw [List.length_take]; omega
          have hx3 : num (t.take k) * 256 < 4294967296 := by
            have := Nat.pow_le_pow_right (n := 256) (by omega) hkl
            omega
          have hz : t[k].toNat < 256 := (t[k]).toNat_lt
          have HN := Lib.hid (num_take_snoc t k hkt)
          have HX := Lib.hid (shl_or_u32 (num (t.take k)) t[k].toNat hx3 hz)
          clear hx hx3 hz hkl
          generalize hnx : num (t.take k) = x at *
          clear hnx
          go_wp2
          refine ⟨⟨k + 1, by omega, by go_num, ?_⟩, by simp [intOf]; omega⟩
          rw [HX.out, HN.out]
        · go_wp2
          go_ret
          have : k = 4 := by omega
          subst this
          refine ⟨?_, HR4.out, HG.out⟩
          rw [List.take_of_length_le (by rw [Ht4.out]; omega)]
          rfl
  · rw [rdN_err 4 l e he]
    have he' : (e != 0) = true := by simp [he]
    clear he
    go_enter Try.func46, Try.ntmps46
    go_wp2_with fail
    refine (err_any w q l e H.out).mono ?_
    rintro en w' ⟨rfl, rfl⟩
    go_wp2_with fail
    go_ret
    exact ⟨rfl, H.out, World.grownBy.refl _ _⟩
set_option maxRecDepth 100000 in
set_option maxHeartbeats 1000000 in
theorem read64 (w : World) (q : Nat) (l : List UInt8) (e : Int) (h : Rd w q l e) :
    Calls Try.prog 47 #[.pointer (some ⟨q, 0, none⟩), .int .i64 8] w (RdPost w q (.int .u64 ((rdN 8 (l, e)).2 : Int)) (rdN 8 (l, e)).1) := by
  have H := Lib.hid h
  clear h
  by_cases he : e = 0
  · subst he
    by_cases hs : l.length < 8
    · rw [rdN_short 8 l hs]
      obtain ⟨A, c, h⟩ := H.out
      have h0 := h.cell0
      have h1 := h.cell1
      have hf := h.froz 1
      have HA := Lib.hid h
      clear h
      go_enter Try.func47, Try.ntmps47
      go_wp2_with fail
      refine (err_any w q l 0 H.out).mono ?_
      rintro en w' ⟨rfl, rfl⟩
      go_wp2_with fail
      go_ret
      exact ⟨rfl, ⟨_, _, HA.out.setErr 10⟩, off_setCell _ _ _ _⟩
    · rw [rdN_ok 8 l (by omega)]
      obtain ⟨A, c, h⟩ := H.out
      have h0 := h.cell0
      clear h
      go_enter Try.func47, Try.ntmps47
      go_wp2_with fail
      refine (err_any w q l 0 H.out).mono ?_
      rintro en w' ⟨rfl, rfl⟩
      go_wp2_with fail
      refine (take_any w q l 0 8 H.out (by omega)).mono ?_
      rintro en w1 ⟨A1, rfl, hbs, hrd, hg⟩
      have HB := Lib.hid hbs
      have HR := Lib.hid hrd
      have HG := Lib.hid hg
      clear hbs hrd hg
      obtain ⟨b, o, rfl, hcs⟩ := HB.out.2 (by omega)
      have ht4 : (l.take 8).length = 8 := HB.out.1
      have HR4 : Hid (Rd w1 q (l.drop 8) 0) := HR
      clear HB HR
      generalize hT : l.take 8 = t at *
      have HT := Lib.hid hT
      have Ht4 := Lib.hid ht4
      have Hcs := Lib.hid hcs
      clear ht4 hcs hT
      go_wp2_with fail
      go_loop [5, 25] (fun x i => ∃ k : Nat, k ≤ 8 ∧ i = .int .i64 k ∧ x = .int .u64 (num (t.take k) : Int)) (fun _ i => 8 - (intOf i).toNat)
      case atStart => exact ⟨0, by omega, rfl, rfl⟩
      case round =>
        obtain ⟨k, hk, rfl, rfl⟩ := hrel
        by_cases hlt : k < 8
        · have hkt : k < t.length := by rw [Ht4.out]; exact hlt
          have hc := Hcs.out k hkt
          have hx := num_lt (t.take k)
          have hkl : (t.take k).length ≤ 7 := by rw [List.length_take]; omega
          have hx3 : num (t.take k) * 256 < 18446744073709551616 := by
            have := Nat.pow_le_pow_right (n := 256) (by omega) hkl
            omega
          have hz : t[k].toNat < 256 := (t[k]).toNat_lt
          have HN := Lib.hid (num_take_snoc t k hkt)
          have HX := Lib.hid (shl_or_u64 (num (t.take k)) t[k].toNat hx3 hz)
          clear hx hx3 hz hkl
          generalize hnx : num (t.take k) = x at *
          clear hnx
          go_wp2
          refine ⟨⟨k + 1, by omega, by go_num, ?_⟩, by simp [intOf]; omega⟩
          rw [HX.out, HN.out]
        · go_wp2
          go_ret
          have : k = 8 := by omega
          subst this
          refine ⟨?_, HR4.out, HG.out⟩
          rw [List.take_of_length_le (by rw [Ht4.out]; omega)]
          rfl
  · rw [rdN_err 8 l e he]
    have he' : (e != 0) = true := by simp [he]
    clear he
    go_enter Try.func47, Try.ntmps47
    go_wp2_with fail
    refine (err_any w q l e H.out).mono ?_
    rintro en w' ⟨rfl, rfl⟩
    go_wp2_with fail
    go_ret
    exact ⟨rfl, H.out, World.grownBy.refl _ _⟩

theorem u32r (w : World) (q : Nat) (l : List UInt8) (e : Int) (h : Rd w q l e) :
    Calls Try.prog 36 #[.pointer (some ⟨q, 0, none⟩)] w (RdPost w q (.int .u32 ((rdN 4 (l, e)).2 : Int)) (rdN 4 (l, e)).1) := by
  have H := Lib.hid h
  clear h
  generalize hr : rdN 4 (l, e) = r at *
  have HR := Lib.hid hr
  clear hr
  go_enter Try.func36, Try.ntmps36
  go_wp2_with fail
  refine (read32 w q l e H.out).mono ?_
  rintro en w' ⟨rfl, h1, h2⟩
  rw [HR.out] at h1 ⊢
  have H1 := Lib.hid h1
  have H2 := Lib.hid h2
  clear h1 h2
  go_wp2_with fail
  go_ret
  exact ⟨rfl, H1.out, H2.out⟩
theorem u64r (w : World) (q : Nat) (l : List UInt8) (e : Int) (h : Rd w q l e) :
    Calls Try.prog 37 #[.pointer (some ⟨q, 0, none⟩)] w (RdPost w q (.int .u64 ((rdN 8 (l, e)).2 : Int)) (rdN 8 (l, e)).1) := by
  have H := Lib.hid h
  clear h
  generalize hr : rdN 8 (l, e) = r at *
  have HR := Lib.hid hr
  clear hr
  go_enter Try.func37, Try.ntmps37
  go_wp2_with fail
  refine (read64 w q l e H.out).mono ?_
  rintro en w' ⟨rfl, h1, h2⟩
  rw [HR.out] at h1 ⊢
  have H1 := Lib.hid h1
  have H2 := Lib.hid h2
  clear h1 h2
  go_wp2_with fail
  go_ret
  exact ⟨rfl, H1.out, H2.out⟩
end Go.Proofs.Ytjionpkflpnejaa
