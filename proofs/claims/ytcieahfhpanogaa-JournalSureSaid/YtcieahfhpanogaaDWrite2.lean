/-
  Contracts of Write where it doesn't write, and of Flush (layer 3).
-/
import Derived.Test.YtcieahfhpanogaaDWrite
import Derived.StillTailTactics
namespace Go.Proofs.Ytcieahfhpanogaa
open Go.RowKit

set_option maxHeartbeats 400000 in
theorem write_no (p : Nat) (S : Nat → Prop) (s : DS) (i : Int) (A : Option Addr) (n c : Nat) (w : World) (h : Dk w p S s) (hr : refus s i ≠ 0) :
    Calls Try.prog 47 #[.pointer (some ⟨p, 0, none⟩), .int .i64 i, .slice A n c] w fun e w' => e = .returned (.int .i64 (refus s i)) ∧ w = w' := by
  go_enter Try.func47, Try.ntmps47
  go_wp2_with fail
  refine (refusal_any p S s i w h).mono ?_
  rintro e w' ⟨rfl, rfl⟩
  go_wp2
  go_ret
  exact ⟨rfl, rfl⟩
set_option maxHeartbeats 400000 in
theorem write_arg (p : Nat) (S : Nat → Prop) (s : DS) (i : Int) (A : Option Addr) (n c : Nat) (w : World) (h : Dk w p S s) (hr : refus s i = 0) (hn : n ≠ 128) :
    Calls Try.prog 47 #[.pointer (some ⟨p, 0, none⟩), .int .i64 i, .slice A n c] w fun e w' => e = .returned (.int .i64 1) ∧ w = w' := by
  have HD := Lib.hid h
  have HR := Lib.hid hr
  have hn' : ¬ (n : Int) = 128 := by omega
  clear h hr
  go_enter Try.func47, Try.ntmps47
  go_wp2_with fail
  refine (refusal_any p S s i w HD.out).mono ?_
  rintro e w' ⟨rfl, rfl⟩
  rw [HR.out]
  go_wp2
  go_ret
  exact ⟨rfl, rfl⟩
set_option maxHeartbeats 400000 in
theorem write_down (p : Nat) (S : Nat → Prop) (s : DS) (i : Int) (A : Option Addr) (c : Nat) (w : World) (h : Dk w p S s) (hr : refus s i = 0) (hcd : s.count.down = true) :
    Calls Try.prog 47 #[.pointer (some ⟨p, 0, none⟩), .int .i64 i, .slice A 128 c] w fun e w' => e = .returned (.int .i64 20) ∧ Dk w' p S s.count ∧ Fr S w w' := by
  have HD := Lib.hid h
  have HR := Lib.hid hr
  have HC := Lib.hid hcd
  clear h hr hcd
  go_enter Try.func47, Try.ntmps47
  go_wp2_with fail
  refine (refusal_any p S s i w HD.out).mono ?_
  rintro e w' ⟨rfl, rfl⟩
  rw [HR.out]
  go_wp2_with fail
  refine (stopsNow_any p S s w HD.out).mono ?_
  rintro e w1 ⟨rfl, hd1, hf1⟩
  rw [HC.out]
  have HD1 := Lib.hid hd1
  have HF1 := Lib.hid hf1
  clear hd1 hf1
  go_wp2
  go_ret
  exact ⟨rfl, HD1.out, HF1.out⟩
set_option maxHeartbeats 400000 in
theorem write_nil (i : Int) (A : Option Addr) (n c : Nat) (w : World) : Calls Try.prog 47 #[.pointer none, .int .i64 i, .slice A n c] w fun e w' => e = .returned (.int .i64 1) ∧ w = w' := by
  go_enter Try.func47, Try.ntmps47
  go_wp2_with fail
  refine (refusal_nil i w).mono ?_
  rintro e w' ⟨rfl, rfl⟩
  go_wp2
  go_ret
  exact ⟨rfl, rfl⟩

set_option maxHeartbeats 400000 in
theorem flush_nil (w : World) : Calls Try.prog 48 #[.pointer none] w fun e w' => e = .returned (.int .i64 1) ∧ w = w' := by
  go_enter Try.func48, Try.ntmps48
  go_wp2_with fail
  refine (failure_nil w).mono ?_
  rintro e w' ⟨rfl, rfl⟩
  go_wp2
  go_ret
  exact ⟨rfl, rfl⟩
set_option maxHeartbeats 400000 in
theorem flush_no (p : Nat) (S : Nat → Prop) (s : DS) (w : World) (h : Dk w p S s) (hd : s.down = true) : Calls Try.prog 48 #[.pointer (some ⟨p, 0, none⟩)] w fun e w' => e = .returned (.int .i64 20) ∧ w = w' := by
  have HF : Hid ((if s.down then (20 : Int) else 0) = 20) := by show _ = _; rw [hd]; rfl
  have HD := Lib.hid h
  clear h hd
  go_enter Try.func48, Try.ntmps48
  go_wp2_with fail
  refine (failure_any p S s w HD.out).mono ?_
  rintro e w' ⟨rfl, rfl⟩
  rw [HF.out]
  go_wp2
  go_ret
  exact ⟨rfl, rfl⟩
set_option maxHeartbeats 400000 in
theorem flush_down (p : Nat) (S : Nat → Prop) (s : DS) (w : World) (h : Dk w p S s) (hd : s.down = false) (hcd : s.count.down = true) :
    Calls Try.prog 48 #[.pointer (some ⟨p, 0, none⟩)] w fun e w' => e = .returned (.int .i64 20) ∧ Dk w' p S s.count ∧ Fr S w w' := by
  have HF : Hid ((if s.down then (20 : Int) else 0) = 0) := by show _ = _; rw [hd]; rfl
  have HD := Lib.hid h
  have HC := Lib.hid hcd
  clear h hd hcd
  go_enter Try.func48, Try.ntmps48
  go_wp2_with fail
  refine (failure_any p S s w HD.out).mono ?_
  rintro e w' ⟨rfl, rfl⟩
  rw [HF.out]
  go_wp2_with fail
  refine (stopsNow_any p S s w HD.out).mono ?_
  rintro e w1 ⟨rfl, hd1, hf1⟩
  rw [HC.out]
  have HD1 := Lib.hid hd1
  have HF1 := Lib.hid hf1
  clear hd1 hf1
  go_wp2
  go_ret
  exact ⟨rfl, HD1.out, HF1.out⟩

/-- The first k writes are done. -/
def DS.done (s : DS) (k : Nat) : DS := { s with F := fun i => rd (s.pend.take k) i (s.F i) }
theorem DS.done_zero (s : DS) : s.done 0 = s := rfl
theorem DS.done_ok {s : DS} (h : s.ok) (k : Nat) : (s.done k).ok := ⟨h.1, fun i => rd_len _ (fun x hx => h.1 x (List.mem_of_mem_take hx)) i _ (h.2.1 i), h.2.2⟩
/-- Flushed. -/
def DS.flushed (s : DS) : DS := { s with F := s.read, pend := [] }

/-- A write into the map. -/
theorem Dk.stored {w : World} {p : Nat} {S : Nat → Prop} {s : DS} (h : Dk w p S s) : ∃ b A c, w.cell? ⟨p, 1, none⟩ = some (.map (some b)) ∧ IsMap w b zs s.F ∧ w.cell? ⟨p, 2, none⟩ = some (.slice A s.pend.length c) ∧ w.ownsRow 0 70 129 (.slice A s.pend.length c) s.pend.length (pc s.pend) ∧
    ∀ w' F', w.grownBy w' (some b) → IsMap w' b zs F' → (∀ i, (F' i).length = 128) → Dk w' p S { s with F := F' } ∧ Fr S w w' ∧ w'.cell? ⟨p, 1, none⟩ = some (.map (some b)) ∧ w'.cell? ⟨p, 2, none⟩ = some (.slice A s.pend.length c) := by
  obtain ⟨hok, hlt, hSp, b, A, c, hSb, hSv, hm, ho, hc⟩ := h
  refine ⟨b, A, c, by rw [cell_of_row _ _ _ _ _ _ hc]; rfl, hm, by rw [cell_of_row _ _ _ _ _ _ hc]; rfl, ho, fun w' F' hg hm' hF' => ?_⟩
  have hbp : p ≠ b := by
    rintro rfl
    obtain ⟨es, cl, hmb, _⟩ := hm
    rw [hc] at hmb
    cases hmb
  have hc' : w'.heap[p]? = _ := (hg.block p (hlt p hSp) (fun e => hbp (by simpa using e))).trans hc
  have hfr : Fr S w w' := ⟨hg.os, hg.tape, hg.output, hg.size, fun k hk => hg.block k hk.1 (fun e => hk.2 ((show k = b by simpa using e) ▸ hSb.1))⟩
  refine ⟨⟨⟨hok.1, hF', hok.2.2⟩, fun k hk => Nat.lt_of_lt_of_le (hlt k hk) hg.size, hSp, b, A, c, hSb, hSv, hm', ?_, hc'⟩, hfr, by rw [cell_of_row _ _ _ _ _ _ hc']; rfl, by rw [cell_of_row _ _ _ _ _ _ hc']; rfl⟩
  refine ⟨ho.1, ?_⟩
  rcases ho.2 with h0 | ⟨g, cap, cur, h1, h2, h3, h4⟩
  · exact .inl h0
  · have hgb : g ≠ b := by
      rintro rfl
      obtain ⟨es, cl, hmb, _⟩ := hm
      rw [h3] at hmb
      cases hmb
    exact .inr ⟨g, cap, cur, h1, h2, (hg.block g (hlt g (hSv g (by rw [h1]; rfl))) (fun e => hgb (by simpa using e))).trans h3, h4⟩

/-- The writes that wait are struck. -/
theorem Dk.cleared {w : World} {p : Nat} {S : Nat → Prop} {s : DS} (h : Dk w p S s) : Dk (w.setCell ⟨p, 2, none⟩ (.slice none 0 0)) p S { s with pend := [] } ∧ Fr S w (w.setCell ⟨p, 2, none⟩ (.slice none 0 0)) := by
  obtain ⟨hok, hlt, hSp, b, A, c, hb, hv, hm, ho, hc⟩ := h
  have e := setCell_eq_setRow w p 2 _ _ _ (.slice none 0 0) hc
  have hfr : Fr S w (w.setCell ⟨p, 2, none⟩ (.slice none 0 0)) := (Fr.refl S w).setCell (p := ⟨p, 2, none⟩) (fun h => h.2 hSp) _
  have hbp : b ≠ p := by
    rintro rfl
    obtain ⟨es, cl, hmb, _⟩ := hm
    rw [hc] at hmb
    cases hmb
  refine ⟨⟨⟨by simp, hok.2⟩, fun k hk => Nat.lt_of_lt_of_le (hlt k hk) hfr.size, hSp, b, none, 0, hb, (by intro k hk; cases hk), hm.keep (Below.heap_setCell w ⟨p, 2, none⟩ _ b hbp), World.ownsRow_nil _ _ _ _, ?_⟩, hfr⟩
  rw [e]
  exact setRow_heap w p _ _ _ _ hc

theorem wpStill_did {P : Program} {ops : Array Oper} {w : World} {Q : Act → Prop} {o : Oper} {rest : List Oper} {a : Act} {v : Value} (hg : o.guard = none) (h : Did P o a w v w) (hK : wpStill P ops w Q rest (a.put o.dst v)) : wpStill P ops w Q (o :: rest) a := by
  have hw : Region.wanted o (yielded ops a.tmps) = true := by simp [Region.wanted, hg]
  unfold wpStill
  rw [if_pos hw]
  unfold Oper.still
  rcases h with h | ⟨h, rfl⟩
  · rw [h]; exact ⟨rfl, hK⟩
  · rw [h]; exact ⟨rfl, hK⟩

/-- m[i] = l, the world under a name of its own. -/
theorem wpList_update_any {P : Program} {o : Oper} {a : Act} {w : World} {ops : Array Oper} {rest : List Oper} {Q : Exit → Act → World → Prop} {b : Nat} {z : List UInt8} {F : Int → List UInt8} (hgd : o.guard = none) (h : IsMap w b z F) (t k e : TypeId) (m x y : Operand) (ho : o.op = .mapUpdate t m x y)
    (ht : P.underlying t = some (.map k e)) (hk : P.underlying k = some (.int .i64)) (i : Int) (l : List UInt8) (hm : a.eval m = .map (some b)) (hx : a.eval x = .int .i64 i) (hy : a.eval y = .agg (bc l).toArray)
    (hK : ∀ w', IsMap w' b z (fun j => if j = i then l else F j) → w.grownBy w' (some b) → w'.heap.size = w.heap.size → wpList P ops Q rest (a.put o.dst undef) w') : wpList P ops Q (o :: rest) a w := by
  obtain ⟨w', hd, h1, h2, h3⟩ := h.did_update (P := P) (o := o) (a := a) m x y ho ht hk i l hm hx hy
  exact hd.list hgd (hK w' h1 h2 h3)
theorem DS.done_step {s : DS} {k : Nat} (hk : k < s.pend.length) : (fun j => if j = s.pend[k].1 then s.pend[k].2 else (s.done k).F j) = (s.done (k + 1)).F := by
  funext j
  show _ = rd (s.pend.take (k + 1)) j (s.F j)
  rw [rd_step hk]
  by_cases e : j = s.pend[k].1
  · rw [if_pos e, if_pos e.symm]
  · rw [if_neg e, if_neg (fun h => e h.symm)]
    rfl
theorem cells_zw : (Value.agg (.int .i64 0 :: bc zs).toArray).cells.size = 129 := by simp [Value.cells, bc_length, zs_len]

set_option maxRecDepth 100000 in
set_option maxHeartbeats 1000000 in
theorem flush_up (p : Nat) (S : Nat → Prop) (s : DS) (w : World) (h : Dk w p S s) (hs : s.pend.length ≤ 1000000) (hd : s.down = false) (hcd : s.count.down = false) :
    Calls Try.prog 48 #[.pointer (some ⟨p, 0, none⟩)] w fun e w' => e = .returned (.int .i64 0) ∧ Dk w' p S s.count.flushed ∧ Fr S w w' := by
  have HF : Hid ((if s.down then (20 : Int) else 0) = 0) := by show _ = _; rw [hd]; rfl
  have HD := Lib.hid h
  have HC := Lib.hid hcd
  clear h hd hcd
  go_enter Try.func48, Try.ntmps48
  go_wp2_with fail
  refine (failure_any p S s w HD.out).mono ?_
  rintro e w' ⟨rfl, rfl⟩
  rw [HF.out]
  go_wp2_with fail
  refine (stopsNow_any p S s w HD.out).mono ?_
  rintro e w1 ⟨rfl, hd1, hf1⟩
  rw [HC.out]
  have hs1 : s.count.pend.length ≤ 1000000 := by rw [DS.count_pend]; exact hs
  obtain ⟨s1, hs1e⟩ : ∃ s1, s.count = s1 := ⟨_, rfl⟩
  rw [hs1e] at HC hd1 hs1
  have HS1E := Lib.hid hs1e
  clear hs1e
  have HD1 := Lib.hid hd1
  have HF1 := Lib.hid hf1
  obtain ⟨b, A, c, h1, hm, h2, ho, hst⟩ := hd1.stored
  clear hd1 hf1 h1 hm ho hst
  go_wp2
  go_loopw [18] (fun i wr => ∃ k : Nat, k ≤ s1.pend.length ∧ i = .int .i64 k ∧ Hid (Dk wr p S (s1.done k)) ∧ Hid (Fr S w1 wr) ∧ Hid (wr.cell? ⟨p, 2, none⟩ = some (.slice A s1.pend.length c))) (fun i _ => s1.pend.length - (intOf i).toNat)
  case atStart => exact ⟨0, by omega, rfl, HD1, Fr.refl _ _, h2⟩
  case round =>
    clear h2
    obtain ⟨k, hk, rfl, HDK, HFK, HC2⟩ := hrel
    by_cases hlt : k < s1.pend.length
    · obtain ⟨b', A', c', h1', hm', h2', ho', hst'⟩ := HDK.out.stored
      obtain ⟨rfl, rfl⟩ : A = A' ∧ c = c' := by
        have := HC2.out.symm.trans h2'
        simp only [Option.some.injEq, Value.slice.injEq] at this
        exact ⟨this.1, this.2.2⟩
      obtain ⟨g, rfl, hc1, hc2, hc3⟩ := pend_cell HDK.out.1.1 ho' k hlt
      have HALL := Lib.hid hc3
      have HLB : Hid ((s1.pend[k].2).length = 128) := HDK.out.1.1 _ (List.getElem_mem hlt)
      have HST := Lib.hid (DS.done_step hlt)
      clear h1' hm' h2' ho' hst' hc1 hc2 hc3
      change Hid (∀ j u, (Value.int .i64 s1.pend[k].1 :: bc s1.pend[k].2)[j]? = some u → _) at HALL
      generalize s1.pend[k].1 = at_ at *
      generalize s1.pend[k].2 = B at *
      have HSZ : Hid ((Try.prog.info? 70).map (·.size) = some (Value.int .i64 at_ :: bc B).length) := by show _ = _; rw [size_write, List.length_cons, bc_length, HLB.out]
      have HSA : Hid ((Try.prog.info? 70).map (·.size) = some (Value.int .i64 at_ :: bc B).toArray.size) := by show _ = _; rw [List.size_toArray]; exact HSZ.out
      have HZA : Hid ((Value.agg (.int .i64 0 :: bc zs).toArray).cells.size = (Value.int .i64 at_ :: bc B).toArray.size) := by show _ = _; rw [cells_zw]; simp [bc_length, HLB.out]
      go_wp2_with (first
        | (refine Did.list rfl (did_load 70 (.tmp 20) rfl ⟨g, k * 129, none⟩ rfl _ Try.underlying70 rfl (Value.int .i64 at_ :: bc B) HSZ.out HALL.out) ?_)
        | (refine wpList_alloc_any rfl 70 rfl _ zero_write ?_; intro w2 hb2 hs2 hw2; have HB2 := Lib.hid hb2; have HS2 := Lib.hid hs2; have HW2 := Lib.hid hw2; clear hb2 hs2 hw2)
        | (refine wpList_store_any rfl 70 (.tmp 5) (.tmp 21) rfl wr.heap.size (Value.int .i64 at_ :: bc B).toArray rfl rfl 70 _ HB2.out HSA.out HZA.out (wr_all at_ B) ?_
           intro w3 hb3 hs3 hw3
           have HB3 := Lib.hid hb3
           have HS3 := Lib.hid hs3
           have HW3 := Lib.hid hw3
           clear hb3 hs3 hw3))
      have HW : Hid (Below wr.heap.size wr w3) := HW2.out.trans (Keep.below (HW3.out.mono fun k' hk' => by omega))
      have HD3 : Hid (Dk w3.drew p S (s1.done k)) := HDK.out.below (HW.out.drew)
      obtain ⟨b3, A3, c3, h13, hm3, h23, ho3, hst3⟩ := HD3.out.stored
      have HM3 := Lib.hid hm3
      have H23 := Lib.hid h23
      have HST3 := Lib.hid hst3
      have hcl : w3.cell? ⟨wr.heap.size, 0, none⟩ = some (.int .i64 at_) := by rw [cell_of_row _ _ _ _ _ _ HB3.out]; rfl
      have h13' : w3.cell? ⟨p, 1, none⟩ = some (.map (some b3)) := h13
      have HSS : Hid ((Try.prog.info? 68).map (·.size) = some (bc B).length) := by show _ = _; rw [size_sector, bc_length, HLB.out]
      have HNB : Hid (∀ j u, (bc B)[j]? = some u → w3.drew.cell? ((⟨wr.heap.size, 1, none⟩ : Addr).add j) = some u) := fun j u hu => by
        rw [add_plain]
        have := World.news_of_block HB3.out (j + 1) u (by simpa using hu)
        rw [add_plain] at this
        rwa [show 1 + j = 0 + (j + 1) by omega]
      clear h13 hm3 h23 ho3 hst3
      refine wp_region_still_tail 8 (by kernel_rfl) (by kernel_rfl) ?_
      simp only [List.take_succ_cons, List.take_zero, List.drop_succ_cons, List.drop_zero]
      change wpStill _ _ (World.drew _) _ _ _
      iterate 7 still_step
      refine wpStill_did rfl (did_load 68 (.tmp 28) rfl ⟨wr.heap.size, 1, none⟩ rfl _ Try.underlying68 rfl (bc B) HSS.out HNB.out) ?_
      refine wpStill_nil ?_
      change wpList _ _ _ _ _ (World.drew _)
      go_frame
      go_wp2_with (refine wpList_update_any rfl HM3.out 54 3 68 (.tmp 25) (.tmp 27) (.tmp 29) rfl Try.underlying54 Try.underlying3 at_ B rfl rfl rfl ?_
                   rw [HST.out]
                   intro w4 hm4 hg4 hs4
                   obtain ⟨hd4, hf4, h14, h24⟩ := HST3.out w4 _ hg4 hm4 (DS.done_ok HD1.out.1 (k + 1)).2.1
                   have HD4 := Lib.hid hd4
                   have HF4 := Lib.hid hf4
                   have H24 := Lib.hid h24
                   clear hm4 hg4 hs4 hd4 hf4 h14 h24)
      go_roundw
      case rel =>
        refine ⟨k + 1, by omega, by go_num, HD4, ?_, ?_⟩
        · exact HFK.out.trans ((Fr.of_below (S := S) HW.out.drew).trans HF4.out fun k hk => .inl hk) fun k hk => .inl hk
        · show _ = _
          rw [H24.out]
          have h5 : w3.cell? ⟨p, 2, none⟩ = wr.cell? ⟨p, 2, none⟩ := HW.out.cell (p := ⟨p, 2, none⟩) HDK.out.lt
          have h6 : w3.cell? ⟨p, 2, none⟩ = _ := H23.out
          rw [← h6, h5]
          exact HC2.out
      case measure => simp [intOf]; omega
    · have HK : Hid (k = s1.pend.length) := by show _ = _; omega
      have hcell := HC2.out
      have hfro := HDK.out.froz 2
      have HDC := Lib.hid HDK.out.cleared
      go_wp2
      go_ret
      refine ⟨rfl, ?_, HF1.out.trans (HFK.out.trans HDC.out.2 fun k hk => .inl hk) fun k hk => .inl hk⟩
      have e : ({ s1.done k with pend := [] } : DS) = s.count.flushed := by
        rw [HS1E.out, HK.out]
        unfold DS.done DS.flushed DS.read
        rw [List.take_length]
      rw [← e]
      exact HDC.out.1
end Go.Proofs.Ytcieahfhpanogaa
