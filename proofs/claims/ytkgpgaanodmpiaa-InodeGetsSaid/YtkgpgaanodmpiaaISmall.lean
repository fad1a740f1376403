/-
  Contracts of package inode's small functions: unused, blank, Need (layer 7).
-/
import Derived.Test.YtkgpgaanodmpiaaIMath2
import Derived.Test.YtkgpgaanodmpiaaRefR
import Derived.Deep.RegionHeld
import Derived.IntWalk
namespace Go.Proofs.Ytkgpgaanodmpiaa
open Go.RowKit

/-- What unused tells. -/
def unB (k li m s o v n : Nat) : Bool := k == 0 && li == 0 && m == 0 && s == 0 && (o == 0 && v == 0) && n == 0
theorem or_zero (a b : Nat) : (a ||| b) = 0 ↔ a = 0 ∧ b = 0 := by
  refine ⟨fun h => ⟨?_, ?_⟩, fun h => by rw [h.1, h.2]; rfl⟩
  · have := Nat.left_le_or (n := a) (m := b); omega
  · have := Nat.right_le_or (n := a) (m := b); omega
theorem unB_one (k li m s o v n : Nat) (h : (k ||| li ||| m ||| s) ≠ 0) : unB k li m s o v n = false := by
  unfold unB
  cases hh : (k == 0 && li == 0 && m == 0 && s == 0 && (o == 0 && v == 0) && n == 0)
  · rfl
  · simp only [Bool.and_eq_true, beq_iff_eq] at hh
    obtain ⟨⟨⟨⟨⟨rfl, rfl⟩, rfl⟩, rfl⟩, _⟩, _⟩ := hh
    exact absurd rfl h
theorem unB_two (k li m s o v n : Nat) (h : (o ||| v) ≠ 0) : unB k li m s o v n = false := by
  unfold unB
  cases hh : (k == 0 && li == 0 && m == 0 && s == 0 && (o == 0 && v == 0) && n == 0)
  · rfl
  · simp only [Bool.and_eq_true, beq_iff_eq] at hh
    obtain ⟨⟨_, rfl, rfl⟩, _⟩ := hh
    exact absurd rfl h
theorem unB_all (k li m s o v n : Nat) (h : (k ||| li ||| m ||| s) = 0) (h2 : (o ||| v) = 0) : unB k li m s o v n = ((n : Int) == 0) := by
  obtain ⟨h3, rfl⟩ := (or_zero _ _).1 h
  obtain ⟨h4, rfl⟩ := (or_zero _ _).1 h3
  obtain ⟨rfl, rfl⟩ := (or_zero _ _).1 h4
  obtain ⟨rfl, rfl⟩ := (or_zero _ _).1 h2
  unfold unB
  cases n with
  | zero => rfl
  | succ n => simp; omega

set_option maxRecDepth 100000 in
set_option maxHeartbeats 1000000 in
theorem unused_any (k g li m s c o v : Nat) (A : Option Addr) (n cp : Nat) (w : World) (hk : k < 4294967296) (hl : li < 4294967296) (hm : m < 4294967296) (hs : s < 4294967296) (ho : o < 18446744073709551616) (hv : v < 18446744073709551616) :
    Calls Try.prog 31 #[(.agg #[.int .u32 (k : Int), .int .u32 (g : Int), .int .u32 (li : Int), .int .u32 (m : Int), .int .u32 (s : Int), .int .u64 (c : Int), .int .u64 (o : Int), .int .u64 (v : Int), .slice A n cp])] w fun e w' => e = .returned (.bool (unB k li m s o v n)) ∧ Below w.heap.size w w' := by
  have o1 := u32_or_nat k li hk hl
  have hkl : k ||| li < 4294967296 := Nat.or_lt_two_pow (n := 32) hk hl
  have o2 := u32_or_nat (k ||| li) m hkl hm
  have hklm : k ||| li ||| m < 4294967296 := Nat.or_lt_two_pow (n := 32) hkl hm
  have o3 := u32_or_nat (k ||| li ||| m) s hklm hs
  have o4 := u64_or_nat o v ho hv
  clear hk hl hm hs ho hv hkl hklm
  have HR : Hid (Below w.heap.size w (w.alloc (.cells #[.int .u32 (k : Int), .int .u32 (g : Int), .int .u32 (li : Int), .int .u32 (m : Int), .int .u32 (s : Int), .int .u64 (c : Int), .int .u64 (o : Int), .int .u64 (v : Int), .slice A n cp] 26))) := (Below.refl _ _).alloc (Nat.le_refl _) _
  by_cases h1 : (k ||| li ||| m ||| s) = 0
  · by_cases h2 : (o ||| v) = 0
    · have HU := Lib.hid (unB_all k li m s o v n h1 h2)
      have e1 : (((k ||| li ||| m ||| s : Nat) : Int) == 0) = true := by rw [h1]; rfl
      have e2 : (((o ||| v : Nat) : Int) == 0) = true := by rw [h2]; rfl
      clear h1 h2
      go_enter Try.func31, Try.ntmps31
      go_wp2
      go_ret
      rw [HU.out]; exact ⟨rfl, HR.out⟩
    · have HU := Lib.hid (unB_two k li m s o v n h2)
      have e1 : (((k ||| li ||| m ||| s : Nat) : Int) == 0) = true := by rw [h1]; rfl
      have e2 : (((o ||| v : Nat) : Int) == 0) = false := by simpa using h2
      clear h1 h2
      go_enter Try.func31, Try.ntmps31
      go_wp2
      go_ret
      rw [HU.out]; exact ⟨rfl, HR.out⟩
  · have HU := Lib.hid (unB_one k li m s o v n h1)
    have e1 : (((k ||| li ||| m ||| s : Nat) : Int) == 0) = false := by simpa using h1
    clear h1
    go_enter Try.func31, Try.ntmps31
    go_wp2
    go_ret
    rw [HU.out]; exact ⟨rfl, HR.out⟩

/-- What blank tells. -/
def blB (k g li m s c o v n : Nat) : Bool := unB k li m s o v n && g == 0 && c == 0
set_option maxRecDepth 100000 in
set_option maxHeartbeats 1000000 in
theorem blank_any (k g li m s c o v : Nat) (A : Option Addr) (n cp : Nat) (w : World) (hk : k < 4294967296) (hl : li < 4294967296) (hm : m < 4294967296) (hs : s < 4294967296) (ho : o < 18446744073709551616) (hv : v < 18446744073709551616) :
    Calls Try.prog 20 #[(.agg #[.int .u32 (k : Int), .int .u32 (g : Int), .int .u32 (li : Int), .int .u32 (m : Int), .int .u32 (s : Int), .int .u64 (c : Int), .int .u64 (o : Int), .int .u64 (v : Int), .slice A n cp])] w fun e w' => e = .returned (.bool (blB k g li m s c o v n)) ∧ Below w.heap.size w w' := by
  have HC := fun W => Lib.hid (unused_any k g li m s c o v A n cp W hk hl hm hs ho hv)
  clear hk hl hm hs ho hv
  have hb : blB k g li m s c o v n = (unB k li m s o v n && g == 0 && c == 0) := rfl
  generalize blB k g li m s c o v n = z at *
  generalize unB k li m s o v n = u at *
  subst hb
  go_enter Try.func20, Try.ntmps20
  go_wp2_with fail
  refine ((HC _).out).mono ?_
  rintro e w1 ⟨rfl, hb1⟩
  have HB : Hid (Below w.heap.size w w1) := ((Below.refl _ _).alloc (Nat.le_refl _) _).trans (hb1.mono (by simp))
  have hlt : w.heap.size < w1.heap.size := by have := hb1.size; simp at this; omega
  have hcl : w1.heap[w.heap.size]? = some (.cells #[.int .u32 (k : Int), .int .u32 (g : Int), .int .u32 (li : Int), .int .u32 (m : Int), .int .u32 (s : Int), .int .u64 (c : Int), .int .u64 (o : Int), .int .u64 (v : Int), .slice A n cp] 26 (0, 0)) := (hb1.block _ (by simp)).trans (heap_alloc_new w _)
  have c1 : w1.cell? ⟨w.heap.size, 1, none⟩ = some (.int .u32 (g : Int)) := cell_of_row w1 _ 1 _ _ (0, 0) hcl
  have c5 : w1.cell? ⟨w.heap.size, 5, none⟩ = some (.int .u64 (c : Int)) := cell_of_row w1 _ 5 _ _ (0, 0) hcl
  clear hb1 hcl
  cases u
  · go_wp2
    go_ret
    exact ⟨rfl, HB.out⟩
  · by_cases hg : g = 0
    · subst hg
      by_cases hc : c = 0
      · subst hc
        go_wp2
        go_ret
        exact ⟨rfl, HB.out⟩
      · have e2 : ((c : Int) == 0) = false := by simpa using hc
        have E2 : Hid ((c == 0) = false) := by show _ = _; simpa using hc
        clear hc
        go_wp2
        go_ret
        rw [E2.out]
        exact ⟨rfl, HB.out⟩
    · have e2 : ((g : Int) == 0) = false := by simpa using hg
      have E2 : Hid ((g == 0) = false) := by show _ = _; simpa using hg
      clear hg
      go_wp2
      go_ret
      rw [E2.out]
      exact ⟨rfl, HB.out⟩

/-- How many blocks, of any number. -/
def needI (x : Int) : Nat := if x < 1 then 0 else need x.toNat
set_option maxHeartbeats 1000000 in
theorem need_any (x : Int) (w : World) (h0 : -9223372036854775808 ≤ x) (h1 : x ≤ 9223372036854775807) :
    Calls Try.prog 15 #[.int .i64 x] w fun e w' => e = .returned (.int .i64 (needI x : Int)) ∧ w = w' := by
  by_cases hx : x < 1
  · have HE : Hid (needI x = 0) := if_pos hx
    go_enter Try.func15, Try.ntmps15
    go_wp2
    go_ret
    rw [HE.out]
    exact ⟨rfl, rfl⟩
  · have HE : Hid (needI x = (x.toNat - 1) / 96 + 1) := by show _ = _; unfold needI; rw [if_neg hx, need_pos _ (by omega)]
    go_enter Try.func15, Try.ntmps15
    go_wp2
    go_ret
    rw [HE.out]
    exact ⟨ret_int (by omega), rfl⟩
theorem needI_nat (n : Nat) : needI (n : Int) = need n := by
  unfold needI
  split
  · have : n = 0 := by omega
    subst this
    rfl
  · rw [Int.toNat_natCast]
end Go.Proofs.Ytkgpgaanodmpiaa
