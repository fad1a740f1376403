/-
  Contracts of bytes.Clone, as bytes, and of a journal's apply.
-/
import Derived.Test.YtcieahfhpanogaaJPermits
namespace Go.Proofs.Ytcieahfhpanogaa
open Go.RowKit

theorem clone_any (A : Option Addr) (n c : Nat) (l : List UInt8) (w : World) (h : BS w A n l) (hn : n ≤ 1000000) :
    Calls Try.prog 35 #[.slice A n c] w fun e w' => ∃ A' c', e = .returned (.slice A' n c') ∧ BS w' A' n l ∧ n ≤ c' ∧ (∀ ad, A' = some ad → w.heap.size ≤ ad.block) ∧ Below w.heap.size w w' := by
  rcases A with _ | ad
  · have h0 : n = 0 := by
      rcases Nat.eq_zero_or_pos n with h0 | h0
      · exact h0
      · obtain ⟨b, o, h, _⟩ := h.2 h0
        cases h
    subst h0
    obtain rfl : l = [] := List.eq_nil_of_length_eq_zero h.1
    refine (Try.bytes_Clone_nil 0 c w).mono ?_
    rintro e w' ⟨rfl, rfl⟩
    exact ⟨none, 0, rfl, BS.nil, Nat.le_refl _, fun ad e => by (cases e), Below.refl _ _⟩
  · have hl := h.1
    refine (Try.bytes_Clone_at ad n c (l.map fun b => (b.toNat : Int)) w (by simpa using hl) (by omega) (fun i hi => ?_)).mono ?_
    · rw [h.news rfl i (.int .u8 ((l[i]'(by omega)).toNat : Int)) (bc_get l i (by omega))]
      simp [hl, hi]
    · rintro e w' ⟨v, rfl, ho, _, hb⟩
      have e1 : ((l.map fun b => (b.toNat : Int)).map (Value.int .u8)) = bc l := by simp [bc]
      rw [e1] at ho
      have hv : ∃ A' c', v = .slice A' n c' := by
        rcases ho.2 with ⟨h6, h7⟩ | ⟨g, cap, cur, h6, _⟩
        · exact ⟨none, 0, by rw [h6, h7]⟩
        · exact ⟨_, _, h6⟩
      obtain ⟨A', c', rfl⟩ := hv
      have hO : Own w w' A' n c' l := ⟨ho, hb⟩
      exact ⟨A', c', rfl, hO.bs, hO.cap, hO.new, hb⟩

theorem size_still (A : Option Addr) (n c : Nat) (w : World) (hn : n ≤ 1000000) : Calls Try.prog 30 #[.slice A n c] w fun e w' => e = .returned (.int .i64 ((n + 1 : Nat) : Int)) ∧ w' = w :=
  (size_any A n c w hn).mono fun _ _ h => ⟨h.1, h.2.symm⟩
section
variable {w : World} {p dp : Nat} {S D : Nat → Prop} {j : J.JS} {d : DS}
theorem apl_take (l : List (Int × List UInt8)) (B : Nat → List UInt8) (k : Nat) (hk : k < l.length) (i : Nat) : J.apl (J.asChg (l.take (k + 1))) B i = if l[k].1.toNat = i then l[k].2 else J.apl (J.asChg (l.take k)) B i := by
  rw [List.take_succ_eq_append_getElem hk]
  unfold J.asChg
  rw [List.map_append]
  exact J.apl_snoc _ _ _ _

set_option maxRecDepth 100000 in
set_option maxHeartbeats 4000000 in
theorem apply_any (h : JD w p dp S D j d) (hl4 : 4 ≤ j.log) (hl : j.log ≤ 200) (hpl : j.place < j.log) (hus : j.used ≤ 400) (hsq : j.seq + 1 < 18446744073709551616) (X : Nat → Prop) (A : Option Addr) (n c : Nat) (l : List (Int × List UInt8)) (hw : WS w X A n l) (hX : ∀ k, X k → k < w.heap.size ∧ ¬ S k) (hn : n ≤ 1000) (hok : ∀ x ∈ l, 0 ≤ x.1 ∧ x.1 < (j.nb : Int) ∧ x.2.length ≤ 96) :
    Calls Try.prog 32 #[.pointer (some ⟨p, 0, none⟩), .slice A n c] w fun e w' => (∃ v, e = .returned v) ∧ JStep p dp S D (j.on (J.asChg l) j.err) d w w' := by
  have HJ := Lib.hid h
  have HW := Lib.hid hw
  have HX := Lib.hid hX
  have HOK := Lib.hid hok
  have Hn : Hid (l.length = n) := hw.1
  clear h hw hX hok
  go_enter Try.func32, Try.ntmps32
  go_wp2
  go_loopw [8] (fun i wr => ∃ k : Nat, k ≤ n ∧ i = .int .i64 k ∧ Hid (JStep p dp S D { j with B := J.apl (J.asChg (l.take k)) j.B } d w wr) ∧ Hid (Fr S w wr)) (fun i _ => n - (intOf i).toNat)
  case atStart => exact ⟨0, by omega, rfl, HJ.out.stay (Below.refl _ _), Fr.refl _ _⟩
  case round =>
    obtain ⟨k, hk, rfl, HST, HFS⟩ := hrel
    by_cases hlt : k < n
    · obtain ⟨S1, D1, hJ1, hf1, hS1, hD1⟩ := HST.out
      have HJ1 := Lib.hid hJ1
      have HF1 := Lib.hid hf1
      have HS1 := Lib.hid hS1
      have HD1 := Lib.hid hD1
      obtain ⟨b, o, x, hkl, rfl, -, g1, g2, g3, -, -⟩ := (HW.out.fr HFS.out HX.out).at k hlt
      have HAT := Lib.hid (apl_take l j.B k hkl)
      obtain ⟨o1, o2, o3⟩ := HOK.out _ (List.getElem_mem hkl)
      have HNW := Lib.hid (WS.news g1 g2)
      have HB3 := Lib.hid g3
      have Hxn : Hid (x.n ≤ 96) := by show _ ≤ _; rw [← g3.1]; exact o3
      clear g1 g2 g3 hJ1 hf1 hS1 hD1 HST o3
      generalize l[k].1 = v at *
      generalize l[k].2 = body at *
      obtain ⟨i, rfl⟩ := Int.eq_ofNat_of_zero_le o1
      go_upto_region 3 with (first
        | (refine Did.list rfl (did_load 37 (.tmp 10) rfl ⟨b, o + k * 2, none⟩ rfl _ Try.underlying37 rfl (wv i x) size_wr HNW.out) ?_)
        | (refine wpList_alloc_at rfl 37 rfl _ zero_wr wr.heap.size rfl ?_
           intro w3 hb3 hw3
           have HBB3 := Lib.hid hb3
           have HW3 := Lib.hid hw3
           clear hb3 hw3)
        | (refine wpList_store_any rfl 37 (.tmp 5) (.tmp 11) rfl wr.heap.size (wv i x).toArray rfl rfl 37 _ HBB3.out size_wr rfl (wv_one _ _) ?_
           intro w4 hb4 hs4 hw4
           have HW4 : Hid (Below wr.heap.size wr w4) := HW3.out.trans (Keep.below (hw4.mono fun k hk => by omega))
           have c0 : w4.cell? ⟨wr.heap.size, 0, none⟩ = some (.int .i64 (i : Int)) := by rw [cell_of_row _ _ _ _ _ _ hb4]; rfl
           have c1 : w4.cell? ⟨wr.heap.size, 1, none⟩ = some (.slice x.a x.n x.c) := by rw [cell_of_row _ _ _ _ _ _ hb4]; rfl
           clear hb4 hs4 hw4))
      have HJ4 := Lib.hid (HJ1.out.below HW4.out)
      obtain ⟨⟨q4, bl4, hq4⟩, hdk4, hap4⟩ := HJ4.out
      have h2 : w4.cell? ⟨p, 2, none⟩ = some (.slice (some ⟨q4, 0, none⟩) j.nb j.nb) := hq4.cell 2 _ rfl
      have HQ4 := Lib.hid hq4
      have HDK4 := Lib.hid hdk4
      have HAP4 := Lib.hid hap4
      have hi4 : i < bl4.length := by rw [hq4.len]; show i < j.nb; omega
      clear hq4 hdk4 hap4
      have HP4 : Hid (p < w4.heap.size ∧ wr.heap.size < w4.heap.size) := ⟨HQ4.out.plt, World.block_lt_of_cell? w4 _ c0⟩
      have HQd : Hid (Jq w4.drew p dp q4 bl4 S1 _) := HQ4.out.drew
      have HBd : Hid (BS w4.drew x.a x.n body) := (HB3.out.below HW4.out).drew
      have HNQ : Hid (wr.heap.size ≠ q4) := fun e => by
        have h1 := HQ4.out.lt
        have h2 := HJ1.out.lt _ (.inl HQ4.out.sq)
        omega
      have HH2 := Lib.hid h2
      have HH0 := Lib.hid c0
      have HH1 := Lib.hid c1
      go_wp2_with fail
      go_region_held3 (fun W => W.cell? ⟨p, 2, none⟩ = some (.slice (some ⟨q4, 0, none⟩) j.nb j.nb) ∧ W.cell? ⟨wr.heap.size, 0, none⟩ = some (.int .i64 (i : Int)) ∧ W.cell? ⟨wr.heap.size, 1, none⟩ = some (.slice x.a x.n x.c))
        (first | exact ⟨h2, c0, c1⟩ | exact HS5.out | exact HS6.out)
        (first
          | (go_at_call 35
             refine (clone_any x.a x.n x.c body w4.drew HBd.out (by have := Hxn.out; omega)).mono ?_
             rintro e w5 ⟨A5, c5, rfl, hb5, hc5, hn5, hw5⟩
             have HB5 := Lib.hid hb5
             have HC5 := Lib.hid hc5
             have HN5 := Lib.hid hn5
             have HW5 : Hid (Below w4.heap.size w4 w5) := (Below.refl _ _).drew.trans hw5
             have HQ5 := Lib.hid (HQd.out.below hw5)
             have HS5 : Hid (w5.cell? ⟨p, 2, none⟩ = some (.slice (some ⟨q4, 0, none⟩) j.nb j.nb) ∧ w5.cell? ⟨wr.heap.size, 0, none⟩ = some (.int .i64 (i : Int)) ∧ w5.cell? ⟨wr.heap.size, 1, none⟩ = some (.slice x.a x.n x.c)) :=
               ⟨(HW5.out.cell (p := ⟨p, 2, none⟩) HP4.out.1).trans HH2.out, (HW5.out.cell (p := ⟨wr.heap.size, 0, none⟩) HP4.out.2).trans HH0.out, (HW5.out.cell (p := ⟨wr.heap.size, 1, none⟩) HP4.out.2).trans HH1.out⟩
             have HS6 : Hid ((w5.setCell ⟨q4, i, none⟩ (.slice A5 x.n c5)).cell? ⟨p, 2, none⟩ = some (.slice (some ⟨q4, 0, none⟩) j.nb j.nb) ∧ (w5.setCell ⟨q4, i, none⟩ (.slice A5 x.n c5)).cell? ⟨wr.heap.size, 0, none⟩ = some (.int .i64 (i : Int)) ∧ (w5.setCell ⟨q4, i, none⟩ (.slice A5 x.n c5)).cell? ⟨wr.heap.size, 1, none⟩ = some (.slice x.a x.n x.c)) :=
               ⟨(World.cell?_of_block (a := ⟨p, 2, none⟩) (Below.heap_setCell w5 ⟨q4, i, none⟩ _ p (Ne.symm HQ5.out.ne))).trans HS5.out.1, (World.cell?_of_block (a := ⟨wr.heap.size, 0, none⟩) (Below.heap_setCell w5 ⟨q4, i, none⟩ _ wr.heap.size HNQ.out)).trans HS5.out.2.1, (World.cell?_of_block (a := ⟨wr.heap.size, 1, none⟩) (Below.heap_setCell w5 ⟨q4, i, none⟩ _ wr.heap.size HNQ.out)).trans HS5.out.2.2⟩
             have hrow := HQ5.out.row i hi4
             have hfrow := HQ5.out.frow i
             clear hb5 hc5 hn5 hw5))
      go_wp2
      refine ⟨⟨k + 1, by omega, by go_num, ?_, ?_⟩, by simp [intOf]; omega⟩
      · show JStep _ _ _ _ _ _ _ _
        have hBB : Below wr.heap.size wr w5 := HW4.out.trans (HW5.out.mono HW4.out.size)
        obtain ⟨g1, g2⟩ := HQ5.out.set i ⟨A5, x.n, c5⟩ body HB5.out HC5.out (fun g => wr.heap.size ≤ g ∧ g < w5.heap.size) (fun _ h => h.2) (fun h0 ad e => ⟨Nat.le_trans HW4.out.size (HN5.out ad e), HB5.out.lt_block h0 ad e⟩)
        have hwr : ∀ g, S1 g ∨ D1 g → g < wr.heap.size := HJ1.out.lt
        have hJ5 : JStep p dp S1 D1 { j with B := fun g => if i = g then body else J.apl (J.asChg (l.take k)) j.B g } d wr (w5.setCell ⟨q4, i, none⟩ (.slice A5 x.n c5)) := by
          refine ⟨fun g => S1 g ∨ (wr.heap.size ≤ g ∧ g < w5.heap.size), D1, ⟨⟨q4, _, g1⟩, (HDK4.out.below HW5.out).keep g2 (fun g hg hg' => HAP4.out g hg' hg), fun g hg hg' => ?_⟩, ?_, fun g hg => hg.imp id (·.1), fun g hg => .inl hg⟩
          · rcases hg with hg | hg
            · exact HAP4.out g hg hg'
            · have := hwr g (.inr hg'); omega
          · exact (Fr.of_below hBB).trans g2 (fun g hg => .inl (.inl hg))
        refine (JStep.trans HF1.out HS1.out HD1.out hJ5).congr _ fun g hg => ?_
        show J.apl (J.asChg (l.take (k + 1))) j.B g = if i = g then body else J.apl (J.asChg (l.take k)) j.B g
        rw [HAT.out g]
        simp
      · have hBB : Below wr.heap.size wr w5 := HW4.out.trans (HW5.out.mono HW4.out.size)
        have g2 : Fr S1 w5 (w5.setCell ⟨q4, i, none⟩ (.slice A5 x.n c5)) := (Fr.refl S1 w5).setCell (p := ⟨q4, i, none⟩) (fun h' => h'.2 HQ5.out.sq) _
        exact HFS.out.trans ((Fr.of_below hBB).trans g2 (fun g hg => .inl hg)) (fun g hg => HS1.out g hg)
    · obtain rfl : k = n := by omega
      obtain ⟨S1, D1, hJ1, hf1, hS1, hD1⟩ := HST.out
      have HJ1 := Lib.hid hJ1
      have HF1 := Lib.hid hf1
      have HS1 := Lib.hid hS1
      have HD1 := Lib.hid hD1
      obtain ⟨_, c1, c3, c4, c5, _, hfz⟩ := hJ1.cell
      dsimp only at c1 c3 c4 c5
      have z3 := hfz 3
      have z4 := hfz 4
      have z5 := hfz 5
      clear hJ1 hf1 hS1 hD1 hfz
      go_upto_region 6 with (fail)
      obtain ⟨jA, fA⟩ := HJ1.out.put (j' := { j with B := J.apl (J.asChg (l.take k)) j.B, seq := j.seq + 1 }) 3 (.int .u64 ((j.seq : Int) + 1)) (fun q => rfl) rfl rfl
      have HJA := Lib.hid jA
      have HFA := Lib.hid fA
      clear jA fA c1 c3 c4 c5 z3 z4 z5
      generalize wr.setCell ⟨p, 3, none⟩ (.int .u64 ((j.seq : Int) + 1)) = w6 at *
      obtain ⟨_, c1, _, c4, c5, _, hfz⟩ := HJA.out.cell
      dsimp only at c1 c4 c5
      have z4 := hfz 4
      have z5 := hfz 5
      clear hfz
      have hmod : ((j.place : Int) + ((k : Int) + 1)).tmod (j.log : Int) = ((((j.place + k + 1) % j.log : Nat)) : Int) := by
        rw [Int.tmod_eq_emod_of_nonneg (by omega)]
        push_cast
        rw [Int.add_assoc]
      have hz0 : ¬ j.log = 0 := by omega
      have hwp : IntKind.i64.wrap ((j.place : Int) + ((k : Int) + 1)) = (j.place : Int) + ((k : Int) + 1) := by rw [IntKind.wrap_i64]; omega
      with_reducible refine wp_region_still_tail 15 (by kernel_rfl) (by kernel_rfl) ?_
      simp only [List.take_succ_cons, List.take_zero, List.drop_succ_cons, List.drop_zero]
      change wpStill _ _ (World.drew _) _ _ _
      iterate 6 still_step
      still_call (size_still A k c w6.drew (by omega))
      change wpStill _ _ (World.drew _) _ _ _
      iterate 8 still_step
      refine wpStill_nil ?_
      change wpList _ _ _ _ _ (World.drew _)
      go_upto_region 7 with (fail)
      obtain ⟨jB, fB⟩ := HJA.out.put (j' := { j with B := J.apl (J.asChg (l.take k)) j.B, seq := j.seq + 1, place := (j.place + k + 1) % j.log }) 4 (.int .i64 (((j.place : Int) + (k : Int) + 1) % (j.log : Int))) (fun q => by simp [jc]) rfl rfl
      have HJB := Lib.hid (jB.drewN 1)
      have HFB : Hid (Fr S1 w6 ((w6.setCell ⟨p, 4, none⟩ (.int .i64 (((j.place : Int) + (k : Int) + 1) % (j.log : Int)))).drewN 1)) := fB.drewN 1
      clear jB fB c1 c4 c5 z4 z5 hmod hwp
      change Code.wp _ _ _ _ (World.drewN (w6.setCell ⟨p, 4, none⟩ (.int .i64 (((j.place : Int) + (k : Int) + 1) % (j.log : Int)))) 1)
      generalize (w6.setCell ⟨p, 4, none⟩ (.int .i64 (((j.place : Int) + (k : Int) + 1) % (j.log : Int)))).drewN 1 = w7 at *
      obtain ⟨_, _, _, _, c5, _, hfz⟩ := HJB.out.cell
      dsimp only at c5
      have z5 := hfz 5
      clear hfz
      have hwp : IntKind.i64.wrap ((j.used : Int) + ((k : Int) + 1)) = (j.used : Int) + ((k : Int) + 1) := by rw [IntKind.wrap_i64]; omega
      with_reducible refine wp_region_still_tail 9 (by kernel_rfl) (by kernel_rfl) ?_
      simp only [List.take_succ_cons, List.take_zero, List.drop_succ_cons, List.drop_zero]
      change wpStill _ _ (World.drew _) _ _ _
      iterate 5 still_step
      still_call (size_still A k c w7.drew (by omega))
      change wpStill _ _ (World.drew _) _ _ _
      iterate 3 still_step
      refine wpStill_nil ?_
      change wpList _ _ _ _ _ (World.drew _)
      go_wp2
      go_end0
      refine ⟨⟨_, rfl⟩, ?_⟩
      obtain ⟨jC, fC⟩ := HJB.out.put (j' := { j with B := J.apl (J.asChg (l.take k)) j.B, seq := j.seq + 1, place := (j.place + k + 1) % j.log, used := j.used + k + 1 }) 5 (.int .i64 ((j.used : Int) + ((k : Int) + 1))) (fun q => by simp [jc]; omega) rfl rfl
      have e : j.on (J.asChg l) j.err = { j with B := J.apl (J.asChg (l.take k)) j.B, seq := j.seq + 1, place := (j.place + k + 1) % j.log, used := j.used + k + 1 } := by
        have h1 : l.take k = l := List.take_of_length_le (by rw [Hn.out]; exact Nat.le_refl _)
        unfold J.JS.on
        rw [h1, J.asChg_length, Hn.out]
      rw [e]
      refine JStep.drewN (n := 1) ?_
      refine JStep.trans HF1.out HS1.out HD1.out ⟨S1, D1, jC, ?_, fun _ h => .inl h, fun _ h => .inl h⟩
      exact ((HFA.out.trans HFB.out fun _ h => .inl h).trans fC fun _ h => .inl h).mono fun _ h => .inl h
end
end Go.Proofs.Ytcieahfhpanogaa
