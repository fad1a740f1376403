/-
  Contracts of a journal's loadHomes and loadSuper.
-/
import Derived.Test.YtcieahfhpanogaaJSave
namespace Go.Proofs.Ytcieahfhpanogaa
open Go.RowKit

theorem Jq.congr {w : World} {p dp q : Nat} {bl : List Sl} {S : Nat → Prop} {j : J.JS} (h : Jq w p dp q bl S j) (B' : Nat → List UInt8) (hB : ∀ i, i < j.nb → B' i = j.B i) : Jq w p dp q bl S { j with B := B' } :=
  ⟨h.lt, h.sp, h.sq, h.cells, h.rows, h.len, fun i hi => by show BS w _ _ (B' i); rw [hB i (by rw [← h.len]; exact hi)]; exact h.bs i hi, h.cap, h.own⟩
theorem JStep.congr {p dp : Nat} {S D : Nat → Prop} {j : J.JS} {d : DS} {w w' : World} (h : JStep p dp S D j d w w') (B' : Nat → List UInt8) (hB : ∀ i, i < j.nb → B' i = j.B i) : JStep p dp S D { j with B := B' } d w w' := by
  obtain ⟨S', D', ⟨⟨q, bl, hq⟩, hd, ha⟩, h2⟩ := h
  exact ⟨S', D', ⟨⟨q, bl, hq.congr B' hB⟩, hd, ha⟩, h2⟩
theorem JD.drewN {w : World} {p dp : Nat} {S D : Nat → Prop} {j : J.JS} {d : DS} (h : JD w p dp S D j d) (n : Nat) : JD (w.drewN n) p dp S D j d := h.below ((Keep.refl _ w).drewN n).below
theorem JStep.drewN {p dp : Nat} {S D : Nat → Prop} {j : J.JS} {d : DS} {w w' : World} (h : JStep p dp S D j d w w') (n : Nat) : JStep p dp S D j d w (w'.drewN n) := by
  obtain ⟨S', D', h1, h2, h3, h4⟩ := h
  exact ⟨S', D', h1.drewN n, h2.drewN n, h3, h4⟩
theorem frm_up {d : DS} {i : Nat} (hd : d.down = false) (hi : i < d.n) : frm d (i : Int) = getF (d.read i) := by
  unfold frm
  rw [if_pos (refus_ok hd (by omega) (by omega))]
theorem Fm.zero_k : Fm.zero.k = 0 := rfl
/-- The frame of a kind, by what Get answers alone. -/
theorem fr_eq (G : J.Con) (p : Nat) (k : UInt8) (hk : k ≠ 0) : J.fr G p k = if (getF (G p)).k = k then some (getF (G p)) else none := by
  unfold J.fr
  by_cases h : getE (G p) = 0
  · simp [h]
  · have : (getF (G p)).k ≠ k := by rw [getF_no h]; exact fun e => hk e.symm
    simp [h, this]
theorem hom_eq (G : J.Con) (log i : Nat) : J.hom G log i = if ((getF (G ((1 + log + i : Nat) : Int))).k.toNat : Int) = 1 ∧ ((getF (G ((1 + log + i : Nat) : Int))).a : Int) = (i : Int) ∧ ((getF (G ((1 + log + i : Nat) : Int))).b.length : Int) ≤ 96 then (getF (G ((1 + log + i : Nat) : Int))).b else [] := by
  unfold J.hom
  rw [fr_eq _ _ _ (by decide)]
  generalize getF (G ((1 + log + i : Nat) : Int)) = f
  have e1 : f.k = 1 ↔ (f.k.toNat : Int) = 1 := ⟨fun h => by rw [h]; rfl, fun h => UInt8.toNat_inj.1 (by have : (1 : UInt8).toNat = 1 := rfl; omega)⟩
  by_cases h1 : f.k = 1
  · rw [if_pos h1]
    dsimp only
    by_cases h2 : f.a = i ∧ f.b.length ≤ 96
    · rw [if_pos h2, if_pos ⟨e1.1 h1, by omega, by omega⟩]
    · rw [if_neg h2, if_neg (fun h => h2 ⟨by omega, by omega⟩)]
  · rw [if_neg h1, if_neg (fun h => h1 (e1.2 h.1))]
theorem getF_a (l : List UInt8) : (getF l).a < 4294967296 := by
  by_cases h : getE l = 0
  · exact (put_get l h).1.a
  · rw [getF_no h]; show 0 < _; omega
theorem getF_s (l : List UInt8) : (getF l).s < 18446744073709551616 := by
  by_cases h : getE l = 0
  · exact (put_get l h).1.s
  · rw [getF_no h]; show 0 < _; omega
theorem getF_b (l : List UInt8) : (getF l).b.length ≤ 108 := by
  by_cases h : getE l = 0
  · exact (put_get l h).1.b
  · rw [getF_no h]; show 0 ≤ _; omega

section
variable {w : World} {p dp : Nat} {S D : Nat → Prop} {j : J.JS} {d : DS}
/-- The homes of the first k blocks are loaded. -/
def homsTo (G : J.Con) (log k : Nat) : Nat → List UInt8 := fun i => if i < k then J.hom G log i else []

set_option maxRecDepth 100000 in
set_option maxHeartbeats 2000000 in
theorem loadHomes_any (h : JD w p dp S D j d) (hs : d.pend.length ≤ 1000000) (hl : j.log ≤ 200) (hnb : j.nb ≤ 400) (hup : d.down = false) (hN : 1 + j.log + j.nb ≤ d.n) (h0 : j.B = homsTo d.read j.log 0) :
    Calls Try.prog 25 #[.pointer (some ⟨p, 0, none⟩)] w fun e w' => (∃ v, e = .returned v) ∧ JStep p dp S D { j with B := J.hom d.read j.log } d w w' := by
  have HJ := Lib.hid h
  have HN := Lib.hid hN
  have HU := Lib.hid hup
  have H0 := Lib.hid h0
  obtain ⟨⟨q, bl, hq⟩, _, _⟩ := h
  have h2 : w.cell? ⟨p, 2, none⟩ = some (.slice (some ⟨q, 0, none⟩) j.nb j.nb) := hq.cell 2 _ rfl
  clear hN hup h0 hq
  go_enter Try.func25, Try.ntmps25
  go_wp2
  clear h2
  go_loopw [9] (fun i wr => ∃ k : Nat, k ≤ j.nb ∧ i = .int .i64 k ∧ Hid (JStep p dp S D { j with B := homsTo d.read j.log k } d w wr)) (fun i _ => j.nb - (intOf i).toNat)
  case atStart =>
    refine ⟨0, by omega, rfl, ?_⟩
    show JStep _ _ _ _ _ _ _ _
    rw [← H0.out]
    exact HJ.out.stay (Below.refl _ _)
  case round =>
    obtain ⟨k, hk, rfl, HST⟩ := hrel
    by_cases hlt : k < j.nb
    · obtain ⟨S1, D1, hJ1, hf1, hS1, hD1⟩ := HST.out
      have HJ1 := Lib.hid hJ1
      have HF1 := Lib.hid hf1
      have HS1 := Lib.hid hS1
      have HD1 := Lib.hid hD1
      clear hJ1 hf1 hS1 hD1 HST
      go_wp2_with fail
      refine (home_any HJ1.out k hl (by omega)).mono ?_
      rintro e w' ⟨rfl, rfl⟩
      go_wp2_with fail
      refine (frame_any HJ1.out hs _).mono ?_
      rintro e w2 ⟨A2, n2, c2, rfl, hb2, hc2, hn2, hw2⟩
      have HFR : Hid (frm d (1 + (j.log : Int) + (k : Int)) = getF (d.read ((1 + j.log + k : Nat) : Int))) := by
        show _ = _
        have := frm_up (d := d) (i := 1 + j.log + k) HU.out (by have := HN.out; omega)
        push_cast at this ⊢
        exact this
      rw [HFR.out] at hb2 ⊢
      have HHM := Lib.hid (hom_eq d.read j.log k)
      have hfa := getF_a (d.read ((1 + j.log + k : Nat) : Int))
      generalize getF (d.read ((1 + j.log + k : Nat) : Int)) = f at *
      have HJ2 := Lib.hid (HJ1.out.below hw2)
      have HB2 := Lib.hid hb2
      have HC2 := Lib.hid hc2
      have HN2 := Lib.hid hn2
      have HW2 := Lib.hid hw2
      have Hn2 : Hid (f.b.length = n2) := hb2.1
      clear hb2 hc2 hn2 hw2 HFR
      go_upto_region 4 with (first
        | (refine wpList_alloc_at rfl 76 rfl _ zero_frame w2.heap.size rfl ?_
           intro w3 hb3 hw3
           have HB3 := Lib.hid hb3
           have HW3 := Lib.hid hw3
           clear hb3 hw3)
        | (refine wpList_store_any rfl 76 (.tmp 3) (.tmp 16) rfl w2.heap.size (fv f A2 n2 c2) rfl rfl 76 _ HB3.out (fv_size _ _ _ _) rfl (fv_one _ _ _ _) ?_
           intro w4 hb4 hs4 hw4
           have HB4 := Lib.hid hb4
           have HW4 : Hid (Below w2.heap.size w2 w4) := HW3.out.trans (Keep.below (hw4.mono fun k hk => by omega))
           clear hb4 hs4 hw4))
      have HJ4 := Lib.hid (HJ2.out.below HW4.out)
      have HBB : Hid (Below wr.heap.size wr w4) := HW2.out.trans (HW4.out.mono HW2.out.size)
      have g0 : w4.cell? ⟨w2.heap.size, 0, none⟩ = some (.int .i64 (f.k.toNat : Int)) := by rw [cell_of_row _ _ _ _ _ _ HB4.out]; rfl
      have g4 : w4.cell? ⟨w2.heap.size, 4, none⟩ = some (.int .u32 (f.a : Int)) := by rw [cell_of_row _ _ _ _ _ _ HB4.out]; rfl
      have g5 : w4.cell? ⟨w2.heap.size, 5, none⟩ = some (.slice A2 n2 c2) := by rw [cell_of_row _ _ _ _ _ _ HB4.out]; rfl
      have hcv : IntKind.u32.wrap (k : Int) = (k : Int) := by rw [IntKind.wrap_u32]; omega
      have HNEXT : Hid (∀ i, i < j.nb → homsTo d.read j.log (k + 1) i = if k = i then J.hom d.read j.log k else homsTo d.read j.log k i) := fun i _ => by
        unfold homsTo
        by_cases e : k = i
        · subst e
          simp
        · by_cases h : i < k
          · rw [if_pos (by omega), if_neg e, if_pos h]
          · rw [if_neg (by omega), if_neg e, if_neg h]
      have HSTAY : Hid (J.hom d.read j.log k = [] → JStep p dp S D { j with B := homsTo d.read j.log (k + 1) } d w w4) := fun h0 => by
        refine (JStep.trans HF1.out HS1.out HD1.out (HJ1.out.stay HBB.out)).congr _ fun i hi => ?_
        show homsTo d.read j.log (k + 1) i = homsTo d.read j.log k i
        rw [HNEXT.out i hi, h0]
        by_cases e : k = i
        · rw [if_pos e]
          unfold homsTo
          rw [if_neg (by omega)]
        · rw [if_neg e]
      clear HW3 HB3
      by_cases c1 : (f.k.toNat : Int) = 1
      · by_cases c2' : (f.a : Int) = (k : Int)
        · by_cases c3 : (n2 : Int) ≤ 96
          · have HE : Hid (J.hom d.read j.log k = f.b) := by show _ = _; rw [HHM.out, if_pos ⟨c1, c2', by rw [Hn2.out]; exact c3⟩]
            clear HHM HSTAY
            obtain ⟨⟨q4, bl4, hq4⟩, hdk4, hap4⟩ := HJ4.out
            have h2 : w4.cell? ⟨p, 2, none⟩ = some (.slice (some ⟨q4, 0, none⟩) j.nb j.nb) := hq4.cell 2 _ rfl
            have HQ4 := Lib.hid hq4
            have HDK4 := Lib.hid hdk4
            have HAP4 := Lib.hid hap4
            have hk4 : k < bl4.length := by rw [hq4.len]; exact hlt
            have hrow := hq4.row k hk4
            have hfrow := hq4.frow k
            clear hq4 hdk4 hap4
            go_wp2_with fail
            refine wp_region_still_tail 8 (by kernel_rfl) (by kernel_rfl) ?_
            simp only [List.take_succ_cons, List.take_zero, List.drop_succ_cons, List.drop_zero]
            change wpStill _ _ (World.drew _) _ _ _
            iterate 8 still_step
            refine wpStill_nil ?_
            change wpList _ _ _ _ _ (World.drew _)
            go_wp2
            refine ⟨⟨k + 1, by omega, by go_num, ?_⟩, by simp [intOf]; omega⟩
            show JStep _ _ _ _ _ _ _ _
            have hB4 : BS w4 A2 n2 f.b := HB2.out.below HW4.out
            obtain ⟨g1, g2⟩ := HQ4.out.set k ⟨A2, n2, c2⟩ f.b hB4 HC2.out (fun g => wr.heap.size ≤ g ∧ g < w4.heap.size) (fun _ h => h.2) (fun h0 ad e => ⟨HN2.out ad e, hB4.lt_block h0 ad e⟩)
            have hwr : ∀ g, S1 g ∨ D1 g → g < wr.heap.size := HJ1.out.lt
            have hJ5 : JStep p dp S1 D1 { j with B := fun i => if k = i then f.b else homsTo d.read j.log k i } d wr (w4.setCell ⟨q4, k, none⟩ (.slice A2 n2 c2)).drew := by
              refine ⟨fun g => S1 g ∨ (wr.heap.size ≤ g ∧ g < w4.heap.size), D1, ⟨⟨q4, _, g1.drew⟩, (HDK4.out.keep g2 (fun g hg hg' => HAP4.out g hg' hg)).below (Below.refl _ _).drew, fun g hg hg' => ?_⟩, ?_, fun g hg => hg.imp id (·.1), fun g hg => .inl hg⟩
              · rcases hg with hg | hg
                · exact HAP4.out g hg hg'
                · have := hwr g (.inr hg'); omega
              · exact (Fr.of_below HBB.out).trans (g2.trans (Fr.of_below (S := S1) (Below.refl _ _).drew) (fun _ h => .inl h)) (fun g hg => .inl (.inl hg))
            refine (JStep.trans HF1.out HS1.out HD1.out hJ5).congr _ fun i hi => ?_
            show homsTo d.read j.log (k + 1) i = if k = i then f.b else homsTo d.read j.log k i
            rw [HNEXT.out i hi, HE.out]
          · have h0 : J.hom d.read j.log k = [] := by rw [HHM.out, if_neg (fun h => c3 (by rw [← Hn2.out]; exact h.2.2))]
            have HST4 := Lib.hid (HSTAY.out h0)
            clear h0 HHM HSTAY
            go_wp2
            go_roundw
            case rel => exact ⟨k + 1, by omega, by go_num, HST4⟩
            case measure => simp [intOf]; omega
        · have h0 : J.hom d.read j.log k = [] := by rw [HHM.out, if_neg (fun h => c2' h.2.1)]
          have HST4 := Lib.hid (HSTAY.out h0)
          clear h0 HHM HSTAY
          go_wp2
          go_roundw
          case rel => exact ⟨k + 1, by omega, by go_num, HST4⟩
          case measure => simp [intOf]; omega
      · have h0 : J.hom d.read j.log k = [] := by rw [HHM.out, if_neg (fun h => c1 h.1)]
        have HST4 := Lib.hid (HSTAY.out h0)
        clear h0 HHM HSTAY
        go_wp2
        go_roundw
        case rel => exact ⟨k + 1, by omega, by go_num, HST4⟩
        case measure => simp [intOf]; omega
    · obtain rfl : k = j.nb := by omega
      go_wp2
      go_end0
      refine ⟨⟨_, rfl⟩, HST.out.congr _ fun i hi => ?_⟩
      show J.hom d.read j.log i = homsTo d.read j.log j.nb i
      unfold homsTo
      rw [if_pos (show i < j.nb from hi)]

/-- What the superblock says. -/
theorem sup_eq (G : J.Con) (log : Nat) : J.sup G log = if ((getF (G 0)).k.toNat : Int) = 4 ∧ ((getF (G 0)).a : Int) < (log : Int) then ((getF (G 0)).s, (getF (G 0)).a) else (0, 0) := by
  unfold J.sup
  rw [fr_eq _ _ _ (by decide)]
  show (match (if (getF (G 0)).k = 4 then some (getF (G 0)) else none) with | some f => if f.a < log then (f.s, f.a) else (0, 0) | none => (0, 0)) = _
  generalize getF (G 0) = f
  have e1 : f.k = 4 ↔ (f.k.toNat : Int) = 4 := ⟨fun h => by rw [h]; rfl, fun h => UInt8.toNat_inj.1 (by have : (4 : UInt8).toNat = 4 := rfl; omega)⟩
  by_cases h1 : f.k = 4
  · rw [if_pos h1]
    dsimp only
    by_cases h2 : f.a < log
    · rw [if_pos h2, if_pos ⟨e1.1 h1, by omega⟩]
    · rw [if_neg h2, if_neg (fun h => h2 (by omega))]
  · rw [if_neg h1, if_neg (fun h => h1 (e1.2 h.1))]

set_option maxRecDepth 100000 in
set_option maxHeartbeats 2000000 in
theorem loadSuper_any (h : JD w p dp S D j d) (hs : d.pend.length ≤ 1000000) (hl : j.log ≤ 200) (hup : d.down = false) (hN : 0 < d.n) (h0 : j.seq = 0 ∧ j.place = 0) :
    Calls Try.prog 26 #[.pointer (some ⟨p, 0, none⟩)] w fun e w' => (∃ v, e = .returned v) ∧ JStep p dp S D { j with seq := (J.sup d.read j.log).1, place := (J.sup d.read j.log).2 } d w w' := by
  have HJ := Lib.hid h
  have H0 := Lib.hid h0
  have HFR : Hid (frm d 0 = getF (d.read 0)) := frm_up (d := d) (i := 0) hup hN
  have HSP := Lib.hid (sup_eq d.read j.log)
  clear h h0 hup hN
  go_enter Try.func26, Try.ntmps26
  go_wp2_with fail
  refine (frame_any HJ.out hs _).mono ?_
  rintro e w2 ⟨A2, n2, c2, rfl, hb2, hc2, hn2, hw2⟩
  rw [HFR.out]
  have hfa := getF_a (d.read 0)
  have hfs := getF_s (d.read 0)
  generalize getF (d.read 0) = f at *
  have HJ2 := Lib.hid (HJ.out.below hw2)
  have HW2 := Lib.hid hw2
  clear hb2 hc2 hn2 hw2 HFR
  go_upto_region 1 with (first
    | (refine wpList_alloc_at rfl 76 rfl _ zero_frame w2.heap.size rfl ?_
       intro w3 hb3 hw3
       have HB3 := Lib.hid hb3
       have HW3 := Lib.hid hw3
       clear hb3 hw3)
    | (refine wpList_store_any rfl 76 (.tmp 2) (.tmp 4) rfl w2.heap.size (fv f A2 n2 c2) rfl rfl 76 _ HB3.out (fv_size _ _ _ _) rfl (fv_one _ _ _ _) ?_
       intro w4 hb4 hs4 hw4
       have HB4 := Lib.hid hb4
       have HW4 : Hid (Below w2.heap.size w2 w4) := HW3.out.trans (Keep.below (hw4.mono fun k hk => by omega))
       clear hb4 hs4 hw4))
  have HJ4 := Lib.hid (HJ2.out.below HW4.out)
  have HBB : Hid (Below w.heap.size w w4) := HW2.out.trans (HW4.out.mono HW2.out.size)
  have HNE : Hid (¬ w2.heap.size = p) := fun e => by have := HJ2.out.plt; omega
  have g0 : w4.cell? ⟨w2.heap.size, 0, none⟩ = some (.int .i64 (f.k.toNat : Int)) := by rw [cell_of_row _ _ _ _ _ _ HB4.out]; rfl
  have g3 : w4.cell? ⟨w2.heap.size, 3, none⟩ = some (.int .u64 (f.s : Int)) := by rw [cell_of_row _ _ _ _ _ _ HB4.out]; rfl
  have g4 : w4.cell? ⟨w2.heap.size, 4, none⟩ = some (.int .u32 (f.a : Int)) := by rw [cell_of_row _ _ _ _ _ _ HB4.out]; rfl
  obtain ⟨_, h1, h3, h4, _, _, hfz⟩ := HJ4.out.cell
  have hz3 := hfz 3
  have hz4 := hfz 4
  have hcv : IntKind.u32.wrap (j.log : Int) = (j.log : Int) := by rw [IntKind.wrap_u32]; omega
  have hca : IntKind.i64.wrap (f.a : Int) = (f.a : Int) := by rw [IntKind.wrap_i64]; omega
  clear hfz HB3 HW3
  have HSTAY : Hid (J.sup d.read j.log = (0, 0) → JStep p dp S D { j with seq := (J.sup d.read j.log).1, place := (J.sup d.read j.log).2 } d w w4) := fun h => by
    rw [h]
    have : ({ j with seq := 0, place := 0 } : J.JS) = j := by
      obtain ⟨e1, e2⟩ := H0.out
      cases j
      dsimp only at *
      subst e1 e2
      rfl
    rw [this]
    exact HJ.out.stay HBB.out
  by_cases c1 : (f.k.toNat : Int) = 4
  · by_cases c2' : (f.a : Int) < (j.log : Int)
    · have HE : Hid (J.sup d.read j.log = (f.s, f.a)) := by show _ = _; rw [HSP.out, if_pos ⟨c1, c2'⟩]
      have hd : decide ((f.a : Int) < (j.log : Int)) = true := by simpa using c2'
      clear HSP HSTAY
      go_wp2_with fail
      go_quiet (fail)
      go_wp2
      go_end0
      refine ⟨⟨_, rfl⟩, ?_⟩
      rw [HE.out]
      obtain ⟨k1, k2⟩ := (HJ4.out.drewN nq).put (j' := { j with seq := f.s }) 3 (.int .u64 (f.s : Int)) (fun q => rfl) rfl rfl
      obtain ⟨k3, k4⟩ := k1.put (j' := { j with seq := f.s, place := f.a }) 4 (.int .i64 (f.a : Int)) (fun q => rfl) rfl rfl
      exact ⟨S, D, k3, ((Fr.of_below (S := fun k => S k ∨ D k) ((Keep.of_below HBB.out).drewN nq).below).trans k2 (fun _ h => .inl (.inl h))).trans k4 (fun _ h => .inl (.inl h)), fun _ h => .inl h, fun _ h => .inl h⟩
    · have h0 : J.sup d.read j.log = (0, 0) := by rw [HSP.out, if_neg (fun h => c2' h.2)]
      have HST4 := Lib.hid (HSTAY.out h0)
      have hd : decide ((f.a : Int) < (j.log : Int)) = false := by simpa using c2'
      clear h0 HSP HSTAY
      go_wp2_with fail
      go_quiet (fail)
      go_wp2
      go_end0
      exact ⟨⟨_, rfl⟩, HST4.out.drewN _⟩
  · have h0 : J.sup d.read j.log = (0, 0) := by rw [HSP.out, if_neg (fun h => c1 h.1)]
    have HST4 := Lib.hid (HSTAY.out h0)
    have hd : ((f.k.toNat : Int) == 4) = false := by simpa using c1
    clear h0 HSP HSTAY
    go_wp2_with fail
    go_quiet (fail)
    go_wp2
    go_end0
    exact ⟨⟨_, rfl⟩, HST4.out.drewN _⟩
end
end Go.Proofs.Ytcieahfhpanogaa
