
/-
  Contracts of strings.IndexRune, strings.IndexAny and strings.ContainsAny at the two bytes that part names, for every string, ASCII or not (layer 8).
-/
import Derived.Test.YtbeahhijmgkfhaaShelf
import Derived.Laws.RangeAny
import Derived.Lib.IndexAny
import Derived.Lib.TrimU
import Derived.Deep.LoopGhost
import Derived.BigQuiet
import Derived.Deep.QuietTactic
import Derived.Lib.Hide
import Derived.WalkKit
namespace Go.Proofs.Ytbeahhijmgkfhaa
open Go.RowKit

/-- 0 and '/'. -/
def sep : ByteArray := ⟨#[0, 47]⟩
theorem sep_size : sep.size = 2 := rfl
theorem sep_list : sep.data.toList = [0, 47] := rfl

/-! Runes of a string that is no ASCII. -/
theorem enc_high (c : Nat) (h : 128 ≤ c) (h2 : c ≤ 1114111) : 2 ≤ (Utf8.encode (c : Int)).size ∧ (Utf8.encode (c : Int)).size ≤ 4 ∧ ∀ i (hi : i < (Utf8.encode (c : Int)).size), 128 ≤ ((Utf8.encode (c : Int))[i]).toNat := by
  have main : ∀ d : Nat, 128 ≤ d → d ≤ 1114111 → ∀ u : ByteArray, u = (if d < 0x80 then ⟨#[UInt8.ofNat d]⟩ else if d < 0x800 then ⟨#[UInt8.ofNat (0xC0 + d / 64), UInt8.ofNat (0x80 + d % 64)]⟩
      else if d < 0x10000 then ⟨#[UInt8.ofNat (0xE0 + d / 4096), UInt8.ofNat (0x80 + d / 64 % 64), UInt8.ofNat (0x80 + d % 64)]⟩
      else ⟨#[UInt8.ofNat (0xF0 + d / 262144), UInt8.ofNat (0x80 + d / 4096 % 64), UInt8.ofNat (0x80 + d / 64 % 64), UInt8.ofNat (0x80 + d % 64)]⟩) → 2 ≤ u.size ∧ u.size ≤ 4 ∧ ∀ i (hi : i < u.size), 128 ≤ (u[i]).toNat := by
    intro d hd hd2 u hu
    rw [if_neg (by omega)] at hu
    have hz : ∀ k : Nat, k < 128 → 128 ≤ (UInt8.ofNat (128 + k)).toNat := fun k hk => by simp; omega
    have hk : ∀ k : Nat, 128 ≤ k → k < 256 → 128 ≤ (UInt8.ofNat k).toNat := fun k h1 h2 => by simp; omega
    split at hu
    · subst hu
      refine ⟨?_, ?_, fun i hi => ?_⟩
      · simp [ByteArray.size]
      · simp [ByteArray.size]
      match i, hi with
      | 0, _ => exact hk _ (by omega) (by omega)
      | 1, _ => exact hk _ (by omega) (by omega)
    · split at hu
      · subst hu
        refine ⟨?_, ?_, fun i hi => ?_⟩
        · simp [ByteArray.size]
        · simp [ByteArray.size]
        match i, hi with
        | 0, _ => exact hk _ (by omega) (by omega)
        | 1, _ => exact hk _ (by omega) (by omega)
        | 2, _ => exact hk _ (by omega) (by omega)
      · subst hu
        refine ⟨?_, ?_, fun i hi => ?_⟩
        · simp [ByteArray.size]
        · simp [ByteArray.size]
        match i, hi with
        | 0, _ => exact hk _ (by omega) (by omega)
        | 1, _ => exact hk _ (by omega) (by omega)
        | 2, _ => exact hk _ (by omega) (by omega)
        | 3, _ => exact hk _ (by omega) (by omega)
  refine main (if Utf8.valid (c : Int) then (c : Int).toNat else Utf8.runeError) ?_ ?_ _ rfl
  · split
    · simpa using h
    · decide
  · split
    · simpa using h2
    · decide
/-- What a byte that is no ASCII is part of holds none. -/
theorem decode_span (s : ByteArray) (pos : Nat) (h : pos < s.size) (ha : 128 ≤ (s[pos]'h).toNat) : ∀ j b, pos ≤ j → j < pos + (Utf8.decode s pos).2 → s.data.toList[j]? = some b → 128 ≤ b.toNat := by
  have hg : ∀ k b, s.data.toList[pos + k]? = some b → s.get! (pos + k) = b := by
    intro k b hb
    have hk : pos + k < s.data.toList.length := (List.getElem?_eq_some_iff.1 hb).1
    have hk' : pos + k < s.size := by have := Lib.size_eq s; omega
    have e : s.data.toList[pos + k] = b := (List.getElem?_eq_some_iff.1 hb).2
    have e2 : s.get! (pos + k) = s[pos + k]'hk' := get_at s (pos + k) hk'
    rw [e2, ← e]
    rfl
  have h0 : (s.get! (pos + 0)).toNat = (s[pos]'h).toNat := by rw [get_at s pos h]
  intro j b hj1 hj2 hb
  obtain ⟨k, rfl⟩ : ∃ k, j = pos + k := ⟨j - pos, by omega⟩
  have hgk := hg k b hb
  rw [← hgk]
  have hd : k < (Utf8.decode s pos).2 := by omega
  have hn : ¬ (s.get! (pos + 0)).toNat < 128 := by omega
  have two : ∀ x : Nat, x / 64 = 2 → 128 ≤ x := fun x hx => by omega
  simp only [Utf8.decode, hn, if_false] at hd
  match k with
  | 0 => omega
  | 1 =>
    split at hd
    · rename_i h1
      simp only [Bool.and_eq_true, beq_iff_eq, decide_eq_true_eq] at h1
      exact two _ h1.2.2
    · split at hd
      · rename_i h1
        simp only [Bool.and_eq_true, beq_iff_eq, decide_eq_true_eq] at h1
        exact two _ h1.1.2.2
      · split at hd
        · rename_i h1
          simp only [Bool.and_eq_true, beq_iff_eq, decide_eq_true_eq] at h1
          exact two _ h1.1.1.2.2
        · simp at hd
  | 2 =>
    split at hd
    · split at hd <;> simp at hd
    · split at hd
      · rename_i h1
        simp only [Bool.and_eq_true, beq_iff_eq, decide_eq_true_eq] at h1
        exact two _ h1.2.2
      · split at hd
        · rename_i h1
          simp only [Bool.and_eq_true, beq_iff_eq, decide_eq_true_eq] at h1
          exact two _ h1.1.2.2
        · simp at hd
  | 3 =>
    split at hd
    · split at hd <;> simp at hd
    · split at hd
      · split at hd <;> simp at hd
      · split at hd
        · rename_i h1
          simp only [Bool.and_eq_true, beq_iff_eq, decide_eq_true_eq] at h1
          exact two _ h1.2.2
        · simp at hd
  | k + 4 =>
    split at hd
    · split at hd <;> simp at hd <;> omega
    · split at hd
      · split at hd <;> simp at hd <;> omega
      · split at hd
        · split at hd <;> simp at hd <;> omega
        · simp at hd

theorem ix_any (s : ByteArray) (c : Int) (w : World) (h : s.data.toList = []) : Calls Try.prog 82 #[.string s, .int .u8 c] w fun e w' => e = .returned (.int .i64 (-1)) ∧ w' = w :=
  (Try.strings_IndexByte s c w).mono fun e w' ⟨h1, h2⟩ => ⟨by rw [h1, h]; rfl, h2⟩
set_option maxRecDepth 1000000 in
set_option maxHeartbeats 4000000 in
/-- A rune that is no ASCII isn't one of the two. -/
theorem indexRune_high (r : Nat) (w : World) (h : 128 ≤ r) (h2 : r ≤ 1114111) :
    Calls Try.prog 78 #[.string sep, .int .i32 (r : Int)] w fun e w' => e = .returned (.int .i64 (-1)) ∧ Below w.heap.size w w' := by
  have hr1 : ¬ ((r : Int) < 128) := by omega
  by_cases he : r = 65533
  · subst he
    clear hr1 h h2
    go_enter Try.func78, Try.ntmps78
    go_wp2
    go_loopg [5, 6] 2 (fun g _ _ wx => ∃ i : Nat, i + g = 2 ∧ wx = w.iter sep i)
    case atStart => exact ⟨0, rfl, rfl⟩
    case round =>
      obtain ⟨i, hig, rfl⟩ := hrel
      cases gk with
      | zero =>
        obtain rfl : i = 2 := by omega
        have hnx := fun ty => run_next_end (P := Try.prog) w sep 2 ty (by decide)
        go_wp2
        go_ret
        exact ⟨rfl, (Below.refl _ _).alloc (Nat.le_refl _) _⟩
      | succ g =>
        have hi : i < 2 := by omega
        have hx : (sep[i]'hi).toNat < 128 := by
          rcases (show i = 0 ∨ i = 1 by omega) with rfl | rfl
          · show (0 : UInt8).toNat < 128; decide
          · show (47 : UInt8).toNat < 128; decide
        have hnx := fun ty => run_next_ascii (P := Try.prog) w sep i ty hi hx
        have hne : (((sep[i]'hi).toNat : Int) == 65533) = false := by simp; omega
        generalize (sep[i]'hi).toNat = x at *
        go_wp2
        go_roundg g
        case measure => omega
        case rel => exact ⟨i + 1, by omega, rfl⟩
  · have hd1 : ((r : Int) == 65533) = false := by simp; omega
    by_cases hv : Lib.validRune (r : Int) = true
    · obtain ⟨u1, u2, u3⟩ := enc_high r h h2
      have HE : Hid (Utf8.encode (r : Int) = Utf8.encode (r : Int)) := rfl
      generalize hu : Utf8.encode (r : Int) = u at *
      have hcv : ∀ W, (convert 21 9 (.int .i32 (r : Int))).run Try.prog W = .ok (.string u) W := by
        intro W
        rw [← hu]
        rfl
      clear hu he
      have u3' : (128 : Nat) ≤ (u[u.size - 1]'(by omega)).toNat := u3 _ _
      go_enter Try.func78, Try.ntmps78
      go_wp2_with (go_at_call 83; refine (Try.utf8_ValidRune _ _).mono ?_; rintro e w' ⟨rfl, hw⟩; rw [hw, hv])
      go_step3
      go_wp2
      go_loop [9] (fun i => i = .int .i64 ((u.size : Int) - 1)) (fun _ => 0)
      case atStart => rfl
      case round =>
        subst hrel
        by_cases h2 : u.size = 2
        · have hlt : ((u.size : Int) - 1 < (sep.size : Int)) := by have := sep_size; omega
          have hl : (1 : Nat) < sep.size := by decide
          have hs1 : ((sep[(1 : Nat)]'hl).toNat : Int) = 47 := rfl
          have hu1 : 128 ≤ ((u[(1 : Nat)]'(by omega)).toNat : Int) := by have := u3 1 (by omega); omega
          have hnn : (((sep[(1 : Nat)]'hl).toNat : Int) != ((u[(1 : Nat)]'(by omega)).toNat : Int)) = true := by
            rw [hs1]
            simp
            omega
          clear hs1 u3 u3'
          go_wp2
          go_step3
          go_wp2_with fail
          go_quiet (fail)
          have HW1 : Hid (Below w.heap.size w (w.drewN nq)) := ⟨rfl, rfl, rfl, Nat.le_refl _, fun _ _ => rfl⟩
          generalize w.drewN nq = w1 at *
          go_wp2_with fail
          go_quiet ((go_at_call 82; exact Calls.quiet_of_same (ix_any _ _ _ (by rfl))))
          go_wp2_with fail
          rw [Exit.noGoto_ret]
          go_wp2
          rw [Exit.noGoto_ret]
          go_wp2
          go_ret
          exact ⟨rfl, HW1.out.os, HW1.out.tape, HW1.out.output, HW1.out.size, HW1.out.block⟩
        · have hge : ((sep.size : Int) ≤ (u.size : Int) - 1) := by have := sep_size; omega
          go_wp2
          go_ret
          exact ⟨rfl, Below.refl _ _⟩
    · have hv' : Lib.validRune (r : Int) = false := by simpa using hv
      clear hv
      go_enter Try.func78, Try.ntmps78
      go_wp2_with (go_at_call 83; refine (Try.utf8_ValidRune _ _).mono ?_; rintro e w' ⟨rfl, hw⟩; rw [hw, hv'])
      go_ret
      exact ⟨rfl, Below.refl _ _⟩

/-- A string's next rune, in whatever world. -/
theorem next_in {P : Program} (W : World) (k : Nat) (s : ByteArray) (pos : Nat) (hk : W.heap[k]? = some (.stringIter s pos)) (h : pos < s.size) :
    ∃ W', (∀ ty, (Instr.next (.pointer (some ⟨k, 0, none⟩)) true ty).run P W = .ok (.tuple #[.bool true, .int .i64 pos, .int .i32 (Utf8.decode s pos).1]) W') ∧ W'.heap[k]? = some (.stringIter s (pos + (Utf8.decode s pos).2)) ∧ Below k W W' ∧ W'.heap.size = W.heap.size := by
  have hlt : k < W.heap.size := (Array.getElem?_eq_some_iff.1 hk).1
  refine ⟨{ W with heap := W.heap.setIfInBounds k (.stringIter s (pos + (Utf8.decode s pos).2)) }, fun ty => ?_, ?_, ⟨rfl, rfl, rfl, by simp, fun j hj => ?_⟩, by simp⟩
  · simp only [Instr.next, getObj, setObj, Sem.run_bind, Sem.run, hk, Result.andThen, h, if_true]
    simp [goInt]
  · simp [hlt]
  · have : k ≠ j := by omega
    simp [this]
theorem next_out {P : Program} (W : World) (k : Nat) (s : ByteArray) (pos : Nat) (hk : W.heap[k]? = some (.stringIter s pos)) (h : ¬ pos < s.size) :
    ∀ ty, (Instr.next (.pointer (some ⟨k, 0, none⟩)) true ty).run P W = .ok (.tuple #[.bool false]) W := fun ty => by
  simp [Instr.next, getObj, Sem.run, hk, h]

theorem noAny_span {s : ByteArray} {i : Nat} (h : Lib.NoAny s.data.toList [0, 47] i) (hi : i < s.size) (hx : 128 ≤ (s[i]'hi).toNat) : Lib.NoAny s.data.toList [0, 47] (i + (Utf8.decode s i).2) := by
  intro j b hj hb
  rcases Nat.lt_or_ge j i with h1 | h1
  · exact h j b h1 hb
  · have := decode_span s i hi hx j b h1 hj hb
    simp
    refine ⟨?_, ?_⟩
    · rintro rfl
      exact absurd this (by decide)
    · rintro rfl
      exact absurd this (by decide)
set_option maxRecDepth 1000000 in
set_option maxHeartbeats 4000000 in
theorem indexAny_small (s : ByteArray) (w : World) (h8 : s.size ≤ 8) :
    Calls Try.prog 77 #[.string s, .string sep] w fun e w' => e = .returned (.int .i64 (Lib.indexAny s.data.toList [0, 47])) ∧ Below w.heap.size w w' := by
  have h8z : decide ((8 : Int) < (s.size : Int)) = false := decide_eq_false (by omega)
  have hemp : sep.toList.isEmpty = false := by rw [Lib.toList_data]; rfl
  have hn1 : ((sep.size : Int) == 1) = false := rfl
  go_enter Try.func77, Try.ntmps77
  go_wp2_with (go_at_call 79; refine (Try.strings_shouldUseASCIISet _ _).mono ?_; rintro e w' ⟨rfl, hw⟩; rw [hw, h8z])
  go_loopg [9, 10] s.size (fun g _ _ wx => ∃ i : Nat, s.size - i ≤ g ∧ wx.heap[w.heap.size]? = some (.stringIter s i) ∧ Hid (Below w.heap.size w wx) ∧ Hid (Lib.NoAny s.data.toList [0, 47] i))
  case atStart => exact ⟨0, by omega, World.iter_heap _ _ _, (Below.refl _ _).alloc (Nat.le_refl _) _, Lib.NoAny.zero _ _⟩
  case round =>
    obtain ⟨i, hig, hit, HB, HN⟩ := hrel
    by_cases hi : i < s.size
    · obtain ⟨W', hnx, hit', hbn, hsz⟩ := next_in (P := Try.prog) wr w.heap.size s i hit hi
      have HIT := Lib.hid hit'
      have HB' : Hid (Below w.heap.size w W') := HB.out.trans hbn
      have hklt : w.heap.size < W'.heap.size := (Array.getElem?_eq_some_iff.1 hit').1
      have hxl : s.data.toList[i]? = some (s[i]'hi) := Lib.data_getElem? s i hi
      have HXL := Lib.hid hxl
      clear hit' hbn hit hsz hxl
      by_cases ha : (s[i]'hi).toNat < 128
      · have hde := decode_ascii s i hi ha
        have HD := Lib.hid hde
        rw [hde] at hnx
        have HI2 : Hid (W'.heap[w.heap.size]? = some (.stringIter s (i + 1))) := by have := HIT.out; rw [hde] at this; exact this
        clear hde HIT
        obtain ⟨x, hx⟩ : ∃ x : UInt8, s[i]'hi = x := ⟨_, rfl⟩
        rw [hx] at hnx ha
        have HX2 : Hid (s.data.toList[i]? = some x) := by have := HXL.out; rw [hx] at this; exact this
        clear HXL hx
        have hcon := Lib.contains_iff_indexByte [0, 47] x
        have hback : ((x.toNat : Int)).toNat.toUInt8 = x := by simp
        cases hin : ([0, 47] : List UInt8).contains x
        · rw [hin] at hcon
          have hlt : ¬ ((0 : Int) ≤ Lib.indexByte [0, 47] x) := of_decide_eq_false hcon.symm
          clear hcon
          go_wp2_with (go_at_call 78; refine (Try.strings_IndexRune_ascii _ _ _ (by omega) (by omega)).mono ?_; rintro e w2 ⟨rfl, hw⟩; rw [hw, hback, sep_list])
          go_roundg (s.size - (i + 1))
          case measure => omega
          case rel => exact ⟨i + 1, by omega, HI2.out, HB', HN.out.succ HX2.out hin⟩
        · rw [hin] at hcon
          have hge : (0 : Int) ≤ Lib.indexByte [0, 47] x := of_decide_eq_true hcon.symm
          clear hcon
          go_wp2_with (go_at_call 78; refine (Try.strings_IndexRune_ascii _ _ _ (by omega) (by omega)).mono ?_; rintro e w2 ⟨rfl, hw⟩; rw [hw, hback, sep_list])
          go_ret
          exact ⟨by rw [Lib.indexAny_hit HN.out HX2.out hin]; rfl, HB'.out⟩
      · have HS := Lib.hid (noAny_span HN.out hi (by omega))
        obtain ⟨hd1, hd2⟩ := decode_high s i hi (by omega)
        have hd3 : (Utf8.decode s i).1 ≤ 1114111 := Lib.rune_le s i
        generalize Utf8.decode s i = d at *
        obtain ⟨r, n⟩ := d
        clear ha HXL
        go_wp2_with (go_at_call 78; refine (indexRune_high r _ hd1 hd3).mono ?_; rintro e w2 ⟨rfl, hb2⟩)
        go_roundg (s.size - (i + n))
        case measure => omega
        case rel => exact ⟨i + n, by omega, (hb2.block _ hklt).trans HIT.out, HB'.out.trans (hb2.mono (by omega)), HS.out⟩
    · have hnx := next_out (P := Try.prog) wr w.heap.size s i hit hi
      clear hit
      go_wp2
      go_ret
      refine ⟨?_, HB.out⟩
      rw [Lib.indexAny_none (s := s.data.toList) (fun j b hj hb => HN.out j b (by have := Lib.size_eq s; omega) hb)]
      rfl
theorem hv118 (w : World) : (zeroValue 119).run Try.prog w = .ok (.agg (Array.replicate 256 (.bool false))) w := by
  exact (zero_of_info (P := Try.prog) (t := 119) (n := 256) (by kernel_rfl)).1 w
/-- Is one of the two in these bytes? -/
def parts (l : List UInt8) : Bool := l.any fun b => b == 0 || b == 47
theorem parts_any : ∀ l : List UInt8, decide (0 ≤ Lib.indexAny l [0, 47]) = parts l
  | [] => rfl
  | b :: l => by
    have ih := parts_any l
    have hg := Lib.indexAny_ge [0, 47] l
    have e1 : parts (b :: l) = ((b == 0 || b == 47) || parts l) := rfl
    have e2 : ([0, 47] : List UInt8).contains b = (b == 0 || b == 47) := by simp only [List.contains_cons, List.contains_nil, Bool.or_false]
    rw [e1, ← ih, show Lib.indexAny (b :: l) [0, 47] = (if ([0, 47] : List UInt8).contains b then 0 else if Lib.indexAny l [0, 47] == -1 then -1 else Lib.indexAny l [0, 47] + 1) from rfl, e2]
    cases h : (b == 0 || b == 47)
    · simp only [Bool.false_or, Bool.false_eq_true, if_false]
      split
      · rename_i h1
        have h1' := beq_iff_eq.1 h1
        rw [h1']
      · rename_i h1
        have h1' : ¬ Lib.indexAny l [0, 47] = -1 := fun e => h1 (beq_iff_eq.2 e)
        simp only [decide_eq_decide]
        omega
    · simp
set_option maxHeartbeats 1000000 in
theorem containsAny_any (s : ByteArray) (w : World) (hs : s.size < 4294967281) :
    Calls Try.prog 76 #[.string s, .string sep] w fun e w' => e = .returned (.bool (parts s.data.toList)) ∧ Below w.heap.size w w' := by
  have HC : Hid (∀ W, Calls Try.prog 77 #[.string s, .string sep] W fun e w' => e = .returned (.int .i64 (Lib.indexAny s.data.toList [0, 47])) ∧ Below W.heap.size W w') := by
    intro W
    by_cases h8 : s.size ≤ 8
    · exact indexAny_small s W h8
    · refine (Try.strings_IndexAny_long hv118 s sep W (by decide) (by omega) hs (by decide) (fun j b hj => ?_)).mono fun e w' h => ?_
      · rw [sep_list] at hj
        match j, hj with
        | 0, hj => injection hj with hj; subst hj; decide
        | 1, hj => injection hj with hj; subst hj; decide
        | j + 2, hj => simp at hj
      · rw [h.2]
        exact ⟨h.1, ((Below.refl _ _).alloc (Nat.le_refl _) _).alloc (by simp) _⟩
  rw [← parts_any s.data.toList]
  go_enter Try.func76, Try.ntmps76
  go_wp2_with fail
  refine (HC.out _).mono ?_
  rintro e w1 ⟨rfl, hb⟩
  go_wp2
  go_ret
  exact ⟨rfl, hb⟩
end Go.Proofs.Ytbeahhijmgkfhaa
