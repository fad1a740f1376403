/-
  Contract of a journal's permits.
-/
import Derived.Test.YtcieahfhpanogaaJPlaces
namespace Go.Proofs.Ytcieahfhpanogaa
open Go.RowKit

section
variable {w : World} {p dp : Nat} {S D : Nat → Prop} {j : J.JS} {d : DS}
theorem rises_drop (nb : Nat) : ∀ (l : List (Int × List UInt8)) (p : Int) (k : Nat) (hk : k < l.length), J.rises nb p (l.drop k) = (decide (p < l[k].1) && decide (l[k].1 < (nb : Int)) && decide (l[k].2.length ≤ 96) && J.rises nb l[k].1 (l.drop (k + 1))) := by
  intro l p k hk
  rw [List.drop_eq_getElem_cons hk]
  rfl
set_option maxRecDepth 100000 in
set_option maxHeartbeats 4000000 in
theorem permits_any (h : JD w p dp S D j d) (X : Nat → Prop) (A : Option Addr) (n c : Nat) (l : List (Int × List UInt8)) (hw : WS w X A n l) (hX : ∀ k, X k → k < w.heap.size) (hn : n ≤ 1000000) :
    Calls Try.prog 29 #[.pointer (some ⟨p, 0, none⟩), .slice A n c] w fun e w' => e = .returned (.bool (J.okW j.nb l)) ∧ Below w.heap.size w w' := by
  have HJ := Lib.hid h
  have HW := Lib.hid hw
  have HX := Lib.hid hX
  have Hn : Hid (l.length = n) := hw.1
  have HN := Lib.hid hn
  obtain ⟨⟨q, bl, hq⟩, -, -⟩ := h
  have HQ := Lib.hid hq
  clear hw hX hq
  by_cases h1 : n < 1
  · have HE : Hid (J.okW j.nb l = false) := by show _ = _; unfold J.okW; rw [Hn.out, decide_eq_false (show ¬ 1 ≤ n by omega)]; rfl
    go_enter Try.func29, Try.ntmps29
    go_wp2
    go_ret
    rw [HE.out]
    exact ⟨rfl, Below.refl _ _⟩
  · by_cases h2 : 100 < n
    · have HE : Hid (J.okW j.nb l = false) := by show _ = _; unfold J.okW; rw [Hn.out, decide_eq_false (show ¬ n ≤ 100 by omega)]; simp
      go_enter Try.func29, Try.ntmps29
      go_wp2
      go_ret
      rw [HE.out]
      exact ⟨rfl, Below.refl _ _⟩
    · have HE : Hid (J.okW j.nb l = J.rises j.nb (-1) l) := by show _ = _; unfold J.okW; rw [Hn.out, decide_eq_true (show 1 ≤ n by omega), decide_eq_true (show n ≤ 100 by omega)]; simp
      go_enter Try.func29, Try.ntmps29
      go_wp2
      go_loopw [5, 18] (fun la i wr => ∃ (k : Nat) (v : Int), k ≤ n ∧ i = .int .i64 k ∧ la = .int .i64 v ∧ Hid (J.rises j.nb (-1) l = J.rises j.nb v (l.drop k)) ∧ Hid (Below w.heap.size w wr)) (fun _ i _ => n - (intOf i).toNat)
      case atStart => exact ⟨0, -1, by omega, rfl, rfl, rfl, Below.refl _ _⟩
      case round =>
        obtain ⟨k, v, hk, rfl, rfl, HR, HBW⟩ := hrel
        by_cases hlt : k < n
        · obtain ⟨b, o, x, hkl, rfl, -, g1, g2, g3, -, -⟩ := (HW.out.keepK ((Keep.of_below HBW.out).mono HX.out)).at k hlt
          have HRD := Lib.hid (rises_drop j.nb l v k hkl)
          have HNW := Lib.hid (WS.news g1 g2)
          have HXN : Hid (l[k].2.length = x.n) := g3.1
          have c2 : wr.cell? ⟨p, 2, none⟩ = some (.slice (some ⟨q, 0, none⟩) j.nb j.nb) := (HQ.out.below HBW.out).cell 2 _ rfl
          have HC2 := Lib.hid c2
          have hplt : p < wr.heap.size := (HQ.out.below HBW.out).plt
          clear g1 g2 g3 c2
          rw [HXN.out] at HRD
          generalize l[k].1 = v' at *
          go_upto_region 7 with (first
            | (refine Did.list rfl (did_load 37 (.tmp 20) rfl ⟨b, o + k * 2, none⟩ rfl _ Try.underlying37 rfl (wv v' x) size_wr HNW.out) ?_)
            | (refine wpList_alloc_at rfl 37 rfl _ zero_wr wr.heap.size rfl ?_
               intro w3 hb3 hw3
               have HB3 := Lib.hid hb3
               have HW3 := Lib.hid hw3
               clear hb3 hw3)
            | (refine wpList_store_any rfl 37 (.tmp 7) (.tmp 21) rfl wr.heap.size (wv v' x).toArray rfl rfl 37 _ HB3.out size_wr rfl (wv_one _ _) ?_
               intro w4 hb4 hs4 hw4
               have HW4 : Hid (Below wr.heap.size wr w4) := HW3.out.trans (Keep.below (hw4.mono fun k hk => by omega))
               have c0 : w4.cell? ⟨wr.heap.size, 0, none⟩ = some (.int .i64 v') := by rw [cell_of_row _ _ _ _ _ _ hb4]; rfl
               have c1 : w4.cell? ⟨wr.heap.size, 1, none⟩ = some (.slice x.a x.n x.c) := by rw [cell_of_row _ _ _ _ _ _ hb4]; rfl
               clear hb4 hs4 hw4))
          have c2 : w4.cell? ⟨p, 2, none⟩ = some (.slice (some ⟨q, 0, none⟩) j.nb j.nb) := (HW4.out.cell (p := ⟨p, 2, none⟩) hplt).trans HC2.out
          have HBW4 : Hid (Below w.heap.size w w4) := HBW.out.trans (HW4.out.mono HBW.out.size)
          by_cases d1 : v' ≤ v
          · have HF : Hid (J.rises j.nb v (l.drop k) = false) := by show _ = _; rw [HRD.out, decide_eq_false (show ¬ v < v' by omega)]; rfl
            have e1 : decide (v' ≤ v) = true := by simpa using d1
            go_wp2_with fail
            with_reducible refine wp_region_still_lit (by kernel_rfl) (by kernel_rfl) ?_
            change wpStill _ _ (World.drew _) _ _ _
            iterate 20 (with_reducible refine wpStill_step (fun K hK => ?_); go_simp; with_reducible refine hK _ ?_; clear hK K)
            with_reducible refine wpStill_nil ?_
            go_wp2
            go_ret
            rw [HE.out, HR.out, HF.out]
            exact ⟨rfl, HBW4.out.drew⟩
          · have e1 : decide (v' ≤ v) = false := by simpa using d1
            by_cases d2 : (j.nb : Int) ≤ v'
            · have HF : Hid (J.rises j.nb v (l.drop k) = false) := by show _ = _; rw [HRD.out, decide_eq_false (show ¬ v' < (j.nb : Int) by omega)]; simp
              have e2 : decide ((j.nb : Int) ≤ v') = true := by simpa using d2
              go_wp2_with fail
              with_reducible refine wp_region_still_lit (by kernel_rfl) (by kernel_rfl) ?_
              change wpStill _ _ (World.drew _) _ _ _
              iterate 20 (with_reducible refine wpStill_step (fun K hK => ?_); go_simp; with_reducible refine hK _ ?_; clear hK K)
              with_reducible refine wpStill_nil ?_
              go_wp2
              go_ret
              rw [HE.out, HR.out, HF.out]
              exact ⟨rfl, HBW4.out.drew⟩
            · have e2 : decide ((j.nb : Int) ≤ v') = false := by simpa using d2
              by_cases d3 : 96 < x.n
              · have HF : Hid (J.rises j.nb v (l.drop k) = false) := by show _ = _; rw [HRD.out, decide_eq_false (show ¬ x.n ≤ 96 by omega)]; simp
                have e3 : decide ((96 : Int) < (x.n : Int)) = true := by simp; omega
                go_wp2_with fail
                with_reducible refine wp_region_still_lit (by kernel_rfl) (by kernel_rfl) ?_
                change wpStill _ _ (World.drew _) _ _ _
                iterate 20 (with_reducible refine wpStill_step (fun K hK => ?_); go_simp; with_reducible refine hK _ ?_; clear hK K)
                with_reducible refine wpStill_nil ?_
                go_wp2
                go_ret
                rw [HE.out, HR.out, HF.out]
                exact ⟨rfl, HBW4.out.drew⟩
              · have HF : Hid (J.rises j.nb v (l.drop k) = J.rises j.nb v' (l.drop (k + 1))) := by show _ = _; rw [HRD.out, decide_eq_true (show v < v' by omega), decide_eq_true (show v' < (j.nb : Int) by omega), decide_eq_true (show x.n ≤ 96 by omega)]; simp
                have e3 : decide ((96 : Int) < (x.n : Int)) = false := by simp; omega
                go_wp2_with fail
                with_reducible refine wp_region_still_lit (by kernel_rfl) (by kernel_rfl) ?_
                change wpStill _ _ (World.drew _) _ _ _
                iterate 20 (with_reducible refine wpStill_step (fun K hK => ?_); go_simp; with_reducible refine hK _ ?_; clear hK K)
                with_reducible refine wpStill_nil ?_
                go_wp2
                go_roundw
                case rel => exact ⟨k + 1, v', by omega, by go_num, rfl, HR.out.trans HF.out, HBW4.out.drew⟩
                case measure => simp [intOf]; omega
        · obtain rfl : k = n := by omega
          go_wp2
          go_ret
          rw [HE.out, HR.out, List.drop_of_length_le (by rw [Hn.out]; exact Nat.le_refl _)]
          exact ⟨rfl, HBW.out⟩
end
end Go.Proofs.Ytcieahfhpanogaa
