/-
  Contracts of content and Read (layer 3).
-/
import Derived.Test.YtcieahfhpanogaaDStop
namespace Go.Proofs.Ytcieahfhpanogaa
open Go.RowKit

theorem zero_sector : (Try.prog.info? 68).bind (·.zero) = some (.agg (bc zs).toArray) := by kernel_rfl
theorem size_sector : (Try.prog.info? 68).map (·.size) = some 128 := by kernel_rfl
theorem size_write : (Try.prog.info? 70).map (·.size) = some 129 := by kernel_rfl

theorem cells_zs : (Value.agg (bc zs).toArray).cells.size = 128 := by simp [Value.cells, bc_length, zs_len]
/-- What sector i reads as, behind writes. -/
def rd (l : List (Int × List UInt8)) (i : Int) (d : List UInt8) : List UInt8 := l.foldl (fun acc x => if x.1 = i then x.2 else acc) d
theorem rd_snoc (l : List (Int × List UInt8)) (x : Int × List UInt8) (i : Int) (d : List UInt8) : rd (l ++ [x]) i d = if x.1 = i then x.2 else rd l i d := by simp [rd, List.foldl_append]
theorem rd_len (l : List (Int × List UInt8)) (h : ∀ x ∈ l, x.2.length = 128) (i : Int) (d : List UInt8) (hd : d.length = 128) : (rd l i d).length = 128 := by
  induction l generalizing d with
  | nil => exact hd
  | cons x l ih =>
    show (rd l i _).length = 128
    refine ih (fun y hy => h y (by simp [hy])) _ ?_
    show (if x.1 = i then x.2 else d).length = 128
    split
    · exact h x (by simp)
    · exact hd
def DS.read (s : DS) (i : Int) : List UInt8 := rd s.pend i (s.F i)
theorem rd_step {l : List (Int × List UInt8)} {k : Nat} (hk : k < l.length) (i : Int) (d : List UInt8) : rd (l.take (k + 1)) i d = if l[k].1 = i then l[k].2 else rd (l.take k) i d := by
  rw [List.take_succ_eq_append_getElem hk, rd_snoc]

/-- Where the k-th write lies. -/
theorem pend_cell {w : World} {A : Option Addr} {c : Nat} {l : List (Int × List UInt8)} (hl : ∀ x ∈ l, x.2.length = 128) (h : w.ownsRow 0 70 129 (.slice A l.length c) l.length (pc l)) (k : Nat) (hk : k < l.length) :
    ∃ g, A = some ⟨g, 0, none⟩ ∧ w.cell? ⟨g, k * 129, none⟩ = some (.int .i64 l[k].1) ∧ (∀ j u, (bc l[k].2)[j]? = some u → w.cell? ((⟨g, k * 129 + 1, none⟩ : Addr).add j) = some u) ∧
      (∀ j u, (Value.int .i64 l[k].1 :: bc l[k].2)[j]? = some u → w.cell? ((⟨g, k * 129, none⟩ : Addr).add j) = some u) := by
  obtain ⟨g, cap, hv, _⟩ := h.form (by omega)
  injection hv with hA _ _
  subst hA
  have hlk := hl _ (List.getElem_mem hk)
  have hcell : ∀ j, j < 129 → ∀ u, (Value.int .i64 l[k].1 :: bc l[k].2)[j]? = some u → w.cell? ⟨g, k * 129 + j, none⟩ = some u := by
    intro j hj u hu
    have h1 := h.cells (g := g) rfl (k * 129 + j) u (by rw [pc_get l hl k hk j hj]; exact hu)
    rwa [add_plain, Nat.zero_add] at h1
  have hj : ∀ j u, (Value.int .i64 l[k].1 :: bc l[k].2)[j]? = some u → j < 129 := by
    intro j u hu
    have := (List.getElem?_eq_some_iff.1 hu).1
    simp [bc_length, hlk] at this
    omega
  refine ⟨g, rfl, hcell 0 (by omega) _ rfl, fun j u hu => ?_, fun j u hu => ?_⟩
  · rw [add_plain]
    have := hcell (j + 1) (hj (j + 1) u (by simpa using hu)) u (by simpa using hu)
    rwa [show k * 129 + (j + 1) = k * 129 + 1 + j by omega] at this
  · rw [add_plain]
    exact hcell j (hj j u hu) u hu

set_option maxRecDepth 100000 in
set_option maxHeartbeats 1000000 in
theorem content_any (p : Nat) (S : Nat → Prop) (s : DS) (i : Int) (w : World) (h : Dk w p S s) (hs : s.pend.length ≤ 1000000) :
    Calls Try.prog 62 #[.pointer (some ⟨p, 0, none⟩), .int .i64 i] w fun e w' => e = .returned (.agg (bc (s.read i)).toArray) ∧ Below w.heap.size w w' := by
  have hplt := h.lt
  have HOK := Lib.hid h.1
  have HR : Hid ((s.read i).length = 128) := rd_len _ h.1.1 i _ (h.1.2.1 i)
  have HD := Lib.hid h
  clear h
  go_enter Try.func62, Try.ntmps62
  go_wp2_with (refine wpList_alloc_any rfl 68 rfl _ zero_sector ?_; intro w1 hb1 hs1 hw1; have HB1 := Lib.hid hb1; have HS1 := Lib.hid hs1; have HW1 := Lib.hid hw1; clear hb1 hs1 hw1; obtain ⟨b, A, c, hm, ho, h0, h1, h2, h3, h4⟩ := (HD.out.below HW1.out).cells; have HM := Lib.hid hm; have HO := Lib.hid ho; clear hm ho h0 h3 h4)
  go_loop [5] (fun k => ∃ m : Nat, m ≤ s.pend.length ∧ k = .int .i64 ((m : Int) - 1) ∧ Hid (s.read i = rd (s.pend.take m) i (s.F i))) (fun k => (intOf k + 1).toNat)
  case atStart => exact ⟨s.pend.length, Nat.le_refl _, rfl, by show _ = _; rw [List.take_length]; rfl⟩
  case round =>
    obtain ⟨m, hm, rfl, HI⟩ := hrel
    by_cases hlt : 0 < m
    · obtain ⟨k, rfl⟩ : ∃ k, m = k + 1 := ⟨m - 1, by omega⟩
      have hk : k < s.pend.length := by omega
      obtain ⟨g, rfl, hc1, hc2, hc3⟩ := pend_cell HOK.out.1 HO.out k hk
      have HC2 := Lib.hid hc2
      have HST := Lib.hid (rd_step hk i (s.F i))
      have hik : ((k + 1 : Nat) : Int) - 1 = (k : Int) := by omega
      clear hc2 hc3
      rw [hik]
      clear hik
      by_cases hat : s.pend[k].1 = i
      · have HL : Hid ((bc s.pend[k].2).length = 128) := by show _ = _; rw [bc_length]; exact HOK.out.1 _ (List.getElem_mem hk)
        have HE : Hid (s.read i = s.pend[k].2) := by show _ = _; rw [HI.out, HST.out, if_pos hat]
        generalize s.pend[k].2 = B at *
        have HZ : Hid ((Value.agg (bc zs).toArray).cells.size = (bc B).toArray.size) := by show _ = _; rw [cells_zs, List.size_toArray, HL.out]
        go_wp2_with (first
          | (refine Did.list rfl (did_load 68 (.tmp 32) rfl ⟨g, k * 129 + 1, none⟩ rfl _ Try.underlying68 rfl (bc B) (by rw [size_sector, HL.out]) HC2.out) ?_)
          | (refine wpList_store_any rfl 68 (.tmp 4) (.tmp 33) rfl w.heap.size (bc B).toArray rfl rfl 68 _ HB1.out (by rw [size_sector, List.size_toArray, HL.out]) HZ.out (bc_all B) ?_
             intro w2 hb2 hs2 hw2
             have HB2 := Lib.hid hb2
             have HW2 := Lib.hid hw2
             clear hb2 hs2 hw2))
        refine bodyPost_ret (v := .agg (bc B).toArray) (results_cell_row rfl _ w2 w.heap.size 68 _ _ _ (by rfl) HB2.out Try.underlying68 rfl (by rw [size_sector, List.size_toArray, HL.out])) rfl ⟨by rw [HE.out], ?_⟩
        exact HW1.out.trans (Keep.below (HW2.out.mono fun k' hk' => by omega))
      · go_wp2_with fail
        go_round
        case rel => exact ⟨k, by omega, rfl, by show _ = _; rw [HI.out, HST.out, if_neg hat]⟩
        case measure => simp [intOf]
    · obtain rfl : m = 0 := by omega
      have HL : Hid ((bc (s.F i)).length = 128) := by show _ = _; rw [bc_length]; exact HOK.out.2.1 i
      have HE : Hid (s.read i = s.F i) := by show _ = _; rw [HI.out]; rfl
      have HZ : Hid ((Value.agg (bc zs).toArray).cells.size = (bc (s.F i)).toArray.size) := by show _ = _; rw [cells_zs, List.size_toArray, HL.out]
      clear hlt HI
      go_wp2_with (first
        | (refine Did.list rfl (HM.out.did_lookup (.tmp 37) (.tmp 38) rfl Try.underlying54 Try.underlying3 zero_sector i rfl rfl) ?_)
        | (refine wpList_store_any rfl 68 (.tmp 4) (.tmp 39) rfl w.heap.size (bc (s.F i)).toArray rfl rfl 68 _ HB1.out (by rw [size_sector, List.size_toArray, HL.out]) HZ.out (bc_all _) ?_
           intro w2 hb2 hs2 hw2
           have HB2 := Lib.hid hb2
           have HW2 := Lib.hid hw2
           clear hb2 hs2 hw2))
      refine bodyPost_ret (v := .agg (bc (s.F i)).toArray) (results_cell_row rfl _ w2 w.heap.size 68 _ _ _ (by rfl) HB2.out Try.underlying68 rfl (by rw [size_sector, List.size_toArray, HL.out])) rfl ⟨by rw [HE.out], ?_⟩
      exact HW1.out.trans (Keep.below (HW2.out.mono fun k' hk' => by omega))

theorem refus_ok {s : DS} {i : Int} (hd : s.down = false) (h0 : 0 ≤ i) (hn : i < (s.n : Int)) : refus s i = 0 := by
  simp [refus, hd]
  omega
theorem refus_cases (s : DS) (i : Int) : refus s i = 0 ∨ (refus s i ≠ 0 ∧ (refus s i = 20 ∨ refus s i = 15)) := by
  unfold refus
  split
  · simp
  · split
    · simp
    · simp

set_option maxRecDepth 100000 in
set_option maxHeartbeats 1000000 in
theorem read_any (p : Nat) (S : Nat → Prop) (s : DS) (i : Int) (w : World) (h : Dk w p S s) (hs : s.pend.length ≤ 1000000) (hr : refus s i = 0) :
    Calls Try.prog 49 #[.pointer (some ⟨p, 0, none⟩), .int .i64 i] w fun e w' =>
      ∃ g, e = .returned (.tuple #[.slice (some ⟨g, 0, none⟩) 128 128, .int .i64 0]) ∧ w'.heap[g]? = some (.cells (bc (s.read i)).toArray 68 (0, 0)) ∧ w.heap.size ≤ g ∧ Below w.heap.size w w' := by
  have HL : Hid ((bc (s.read i)).length = 128) := by show _ = _; rw [bc_length]; exact rd_len _ h.1.1 i _ (h.1.2.1 i)
  have HD := Lib.hid h
  have HR := Lib.hid hr
  clear h hr
  go_enter Try.func49, Try.ntmps49
  go_wp2_with fail
  refine (refusal_any p S s i w HD.out).mono ?_
  rintro e w' ⟨rfl, rfl⟩
  rw [HR.out]
  go_wp2_with fail
  refine (content_any p S s i w HD.out hs).mono ?_
  rintro e w1 ⟨rfl, hw1⟩
  have HW1 := Lib.hid hw1
  have HZ : Hid ((Value.agg (bc zs).toArray).cells.size = (bc (s.read i)).toArray.size) := by show _ = _; rw [cells_zs, List.size_toArray, HL.out]
  clear hw1
  go_wp2_with (first
    | (refine wpList_alloc_any rfl 68 rfl _ zero_sector ?_; intro w2 hb2 hs2 hw2; have HB2 := Lib.hid hb2; have HW2 := Lib.hid hw2; clear hb2 hs2 hw2)
    | (refine wpList_store_any rfl 68 (.tmp 7) (.tmp 16) rfl w1.heap.size (bc (s.read i)).toArray rfl rfl 68 _ HB2.out (by rw [size_sector, List.size_toArray, HL.out]) HZ.out (bc_all _) ?_
       intro w3 hb3 hs3 hw3
       have HB3 := Lib.hid hb3
       have HW3 := Lib.hid hw3
       clear hb3 hs3 hw3))
  go_ret2
  exact ⟨w1.heap.size, rfl, HB3.out, HW1.out.size, HW1.out.trans ((HW2.out.mono HW1.out.size).trans (Keep.below (HW3.out.mono fun k' hk' => by have := HW1.out.size; omega)))⟩
set_option maxHeartbeats 400000 in
theorem read_no (p : Nat) (S : Nat → Prop) (s : DS) (i : Int) (w : World) (h : Dk w p S s) (hr : refus s i ≠ 0) :
    Calls Try.prog 49 #[.pointer (some ⟨p, 0, none⟩), .int .i64 i] w fun e w' => e = .returned (.tuple #[.slice none 0 0, .int .i64 (refus s i)]) ∧ w = w' := by
  go_enter Try.func49, Try.ntmps49
  go_wp2_with fail
  refine (refusal_any p S s i w h).mono ?_
  rintro e w' ⟨rfl, rfl⟩
  go_wp2
  go_ret2
  exact ⟨rfl, rfl⟩
set_option maxHeartbeats 400000 in
theorem refusal_nil (i : Int) (w : World) : Calls Try.prog 59 #[.pointer none, .int .i64 i] w fun e w' => e = .returned (.int .i64 1) ∧ w = w' := by
  go_enter Try.func59, Try.ntmps59
  go_wp2_with fail
  refine (failure_nil w).mono ?_
  rintro e w' ⟨rfl, rfl⟩
  go_wp2
  go_ret
  exact ⟨rfl, rfl⟩
set_option maxHeartbeats 400000 in
theorem read_nil (i : Int) (w : World) : Calls Try.prog 49 #[.pointer none, .int .i64 i] w fun e w' => e = .returned (.tuple #[.slice none 0 0, .int .i64 1]) ∧ w = w' := by
  go_enter Try.func49, Try.ntmps49
  go_wp2_with fail
  refine (refusal_nil i w).mono ?_
  rintro e w' ⟨rfl, rfl⟩
  go_wp2
  go_ret2
  exact ⟨rfl, rfl⟩
end Go.Proofs.Ytcieahfhpanogaa
