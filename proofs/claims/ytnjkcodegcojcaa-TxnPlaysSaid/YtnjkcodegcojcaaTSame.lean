/-
  The law's same of writes that are the same (layer 10).
-/
import Derived.Test.YtnjkcodegcojcaaTRefChg
namespace Go.Proofs.Ytnjkcodegcojcaa
open Go.RowKit

theorem WR.at {W : World} {base : Nat} {A : Option Addr} {c : Nat} {l : List (Nat × List UInt8)} {sl : List Sl} (h : WR W base A c l sl) {k : Nat} (hk : k < l.length) : ∃ b o, ∃ x : Sl, A = some ⟨b, o, none⟩ ∧ W.cell? ⟨b, o + k * 2, none⟩ = some (.int .i64 (l[k].1 : Int)) ∧ W.cell? ⟨b, o + k * 2 + 1, none⟩ = some (.slice x.a x.n x.c) ∧ BS W x.a x.n l[k].2 := by
  obtain ⟨b, o, x, hl, e, _, h1, h2, h3, _, _⟩ := h.ws.at k hk
  refine ⟨b, o, x, e, ?_, h2, ?_⟩
  · rw [h1]; simp
  · simpa using h3
set_option maxRecDepth 100000 in
set_option maxHeartbeats 2000000 in
theorem same_any (A B : Option Addr) (c d b1 b2 : Nat) (l : List (Nat × List UInt8)) (sl : List Sl) (w : World) (h : WR w b1 A c l sl) (g : XR w b2 B d l) (hn : l.length ≤ 1000) :
    Calls Try.prog 17 #[.slice A l.length c, .slice B l.length d] w fun e w' => e = .returned (.bool true) ∧ Below w.heap.size w w' := by
  have HW := Lib.hid h
  have HX := Lib.hid g
  have HN := Lib.hid hn
  clear h g hn
  obtain ⟨n, hl⟩ : ∃ n, l.length = n := ⟨_, rfl⟩
  have HLN := Lib.hid hl
  rw [hl]
  clear hl
  go_enter Try.func17, Try.ntmps17
  go_wp2_with fail
  go_loopw [5] (fun i wr => ∃ k : Nat, k ≤ n ∧ i = .int .i64 k ∧ Hid (Below w.heap.size w wr)) (fun i _ => n - (intOf i).toNat)
  case atStart => exact ⟨0, by omega, rfl, Below.refl _ _⟩
  case round =>
    obtain ⟨k, hk, rfl, HB⟩ := hrel
    rename World => wr
    have hn1 : n ≤ 1000 := by have := HN.out; rw [HLN.out] at this; exact this
    by_cases hlt : k < n
    · have hkl : k < l.length := by rw [HLN.out]; exact hlt
      obtain ⟨ba, oa, x, rfl, g1, g2, g3⟩ := HW.out.at hkl
      obtain ⟨bb, rfl, -, g4, g5⟩ := HX.out.at hkl
      have k1 := (HB.out.cell (p := ⟨ba, oa + k * 2, none⟩) (World.block_lt_of_cell? w _ g1)).trans g1
      have k2 := (HB.out.cell (p := ⟨ba, oa + k * 2 + 1, none⟩) (World.block_lt_of_cell? w _ g2)).trans g2
      have k4 := (HB.out.cell (p := ⟨bb, k * 2, none⟩) (World.block_lt_of_cell? w _ g4)).trans g4
      have k5 := (HB.out.cell (p := ⟨bb, k * 2 + 1, none⟩) (World.block_lt_of_cell? w _ g5)).trans g5
      have cv := run_convert_bs wr.drew x.a x.n x.c _ ((g3.below HB.out).drew)
      clear g1 g2 g3 g4 g5
      generalize l[k].1 = ix at *
      generalize l[k].2 = bx at *
      clear hkl
      go_wp2_with fail
      with_reducible refine wp_region_still_lit (by kernel_rfl) (by kernel_rfl) ?_
      change wpStill _ _ (World.drew _) _ _ _
      iterate 25 (with_reducible refine wpStill_step (fun K hK => ?_); go_simp; with_reducible refine hK _ ?_; clear hK K)
      with_reducible refine wpStill_nil ?_
      go_wp2
      go_roundw
      case rel => exact ⟨k + 1, by omega, by go_num, HB.out.drew⟩
      case measure => simp [intOf]; omega
    · obtain rfl : n = k := by omega
      go_wp2
      go_ret
      exact ⟨rfl, HB.out⟩
end Go.Proofs.Ytnjkcodegcojcaa
