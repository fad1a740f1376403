/-
  Contracts of slices.Concat at two rows of entries, and of package dir's Add and Remove (layer 8).
-/
import Derived.Test.YtcbmdcgaedkfnaaERow
namespace Go.Proofs.Ytcbmdcgaedkfnaa
open Go.RowKit Go.Shelf

/-- How many there are behind k of two rows, and which. -/
def szs (n m k : Nat) : Nat := if k = 0 then 0 else if k = 1 then n else n + m
def acc (a b : List En) (k : Nat) : List En := if k = 0 then [] else if k = 1 then a else a ++ b

set_option maxRecDepth 100000 in
set_option maxHeartbeats 2000000 in
theorem concat_any (A B : Option Addr) (n c m d g : Nat) (xs ys : List En) (w : World) (hg : w.heap[g]? = some (.cells #[.slice A n c, .slice B m d] 24 (0, 0))) (ha : ES w A n xs) (hb : ES w B m ys) (hnm : n + m ≤ 200000000) :
    Calls Try.prog 51 #[.slice (some ⟨g, 0, none⟩) 2 2] w fun e w' => ∃ A' c', e = .returned (.slice A' (n + m) c') ∧ w'.ownsRow w.heap.size 41 4 (.slice A' (n + m) c') (n + m) (ecs (xs ++ ys)) ∧ Below w.heap.size w w' := by
  obtain ⟨i0, hi0, hz0, hz1, hz2⟩ := info_parts info_E
  have HI0 := Lib.hid hi0
  have HZ0 := Lib.hid hz0
  have HZ1 := Lib.hid hz1
  have HZ2 := Lib.hid hz2
  have HA := Lib.hid ha
  have HB := Lib.hid hb
  have HGLT : Hid (g < w.heap.size) := (Array.getElem?_eq_some_iff.1 hg).1
  have k0 : w.cell? ⟨g, 0, none⟩ = some (.slice A n c) := cell_of_row w g 0 _ _ _ hg
  have k1 : w.cell? ⟨g, 1, none⟩ = some (.slice B m d) := cell_of_row w g 1 _ _ _ hg
  have K0 := Lib.hid k0
  have K1 := Lib.hid k1
  clear hi0 hz0 hz1 hz2 ha hb hg
  go_enter Try.func51, Try.ntmps51
  go_wp2
  go_loop [3, 11] (fun s i => ∃ k : Nat, k ≤ 2 ∧ i = .int .i64 k ∧ s = .int .i64 (szs n m k : Nat)) (fun _ i => 2 - (intOf i).toNat)
  case atStart => exact ⟨0, by omega, rfl, rfl⟩
  case round =>
    obtain ⟨k, hk, rfl, rfl⟩ := hrel
    rcases (show k = 0 ∨ k = 1 ∨ k = 2 by omega) with rfl | rfl | rfl
    · have e0 : szs n m 0 = 0 := rfl
      rw [e0]
      have hn0 : ¬ ((n : Int) < 0) := by omega
      go_wp2
      go_round
      case rel => exact ⟨1, by omega, rfl, by show _ = Value.int .i64 ((n : Nat) : Int); simp⟩
      case measure => simp [intOf]
    · have e0 : szs n m 1 = n := rfl
      rw [e0]
      have hn0 : ¬ ((n : Int) + (m : Int) < 0) := by omega
      go_wp2
      go_round
      case rel => exact ⟨2, by omega, rfl, by show _ = Value.int .i64 ((n + m : Nat) : Int); simp⟩
      case measure => simp [intOf]
    · have e0 : szs n m 2 = n + m := rfl
      rw [e0]
      clear k0 k1
      go_wp2_with fail
      refine (grow_any (n + m) w (by omega)).mono ?_
      rintro en w1 ⟨A1, c1, rfl, hown, hbl⟩
      have HO1 := Lib.hid hown
      have HB1 := Lib.hid hbl
      clear hown hbl
      go_wp2_with fail
      go_loopw [6, 27] (fun r i wr => ∃ k : Nat, k ≤ 2 ∧ i = .int .i64 k ∧ ∃ A' c', r = .slice A' (szs n m k) c' ∧ Hid (wr.ownsRow w.heap.size 41 4 (.slice A' (szs n m k) c') (szs n m k) (ecs (acc xs ys k))) ∧ Hid (Below w.heap.size w wr))
        (fun _ i _ => 2 - (intOf i).toNat)
      case atStart => exact ⟨0, by omega, rfl, A1, c1, rfl, HO1.out, HB1.out⟩
      case round =>
        obtain ⟨k, hk, rfl, A2, c2, rfl, HO, HW⟩ := hrel
        rcases (show k = 0 ∨ k = 1 ∨ k = 2 by omega) with rfl | rfl | rfl
        · have e0 : szs n m 0 = 0 := rfl
          have e1 : acc xs ys 0 = [] := rfl
          rw [e0, e1] at HO
          rw [e0]
          clear e1
          have r0 : wr.cell? ⟨g, 0, none⟩ = some (.slice A n c) := (HW.out.cell (p := ⟨g, 0, none⟩) HGLT.out).trans K0.out
          go_wp2_with (first
            | (at_builtin; refine wpList_append_es _ rfl (.tmp 31) (.tmp 32) 24 rfl w.heap.size 41 i0 _ Try.underlying24 HI0.out HZ0.out HZ1.out HZ2.out rfl A2 0 c2 [] rfl HO.out A n c xs rfl (HA.out.below HW.out) (by omega) HW.out.size ?_
               intro A3 c3 w3 ho3 hg3 _
               have HO3 := Lib.hid ho3
               have HW3 := Lib.hid (own_below HW.out HO.out hg3)
               clear ho3 hg3))
          go_roundw
          case rel =>
            refine ⟨1, by omega, rfl, A3, c3, ?_, ?_, HW3.out⟩
            · show _ = Value.slice A3 n c3
              simp
            · have := HO3.out
              rw [Nat.zero_add, List.nil_append] at this
              exact this
          case measure => simp [intOf]
        · have e0 : szs n m 1 = n := rfl
          have e1 : acc xs ys 1 = xs := rfl
          rw [e0, e1] at HO
          rw [e0]
          clear e1
          have r1 : wr.cell? ⟨g, 1, none⟩ = some (.slice B m d) := (HW.out.cell (p := ⟨g, 1, none⟩) HGLT.out).trans K1.out
          go_wp2_with (first
            | (at_builtin; refine wpList_append_es _ rfl (.tmp 31) (.tmp 32) 24 rfl w.heap.size 41 i0 _ Try.underlying24 HI0.out HZ0.out HZ1.out HZ2.out rfl A2 n c2 xs rfl HO.out B m d ys rfl (HB.out.below HW.out) (by omega) HW.out.size ?_
               intro A3 c3 w3 ho3 hg3 _
               have HO3 := Lib.hid ho3
               have HW3 := Lib.hid (own_below HW.out HO.out hg3)
               clear ho3 hg3))
          go_roundw
          case rel => exact ⟨2, by omega, rfl, A3, c3, rfl, HO3.out, HW3.out⟩
          case measure => simp [intOf]
        · have e0 : szs n m 2 = n + m := rfl
          have e1 : acc xs ys 2 = xs ++ ys := rfl
          rw [e0, e1] at HO
          rw [e0]
          clear e1
          go_wp2
          go_ret
          exact ⟨A2, c2, rfl, HO.out, HW.out⟩
end Go.Proofs.Ytcbmdcgaedkfnaa
