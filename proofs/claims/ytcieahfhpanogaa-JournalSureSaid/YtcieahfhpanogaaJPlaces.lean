/-
  Contract of a journal's places; make of cells.
-/
import Derived.Test.YtcieahfhpanogaaJTake
namespace Go.Proofs.Ytcieahfhpanogaa
open Go.RowKit

theorem made_one (z : Value) (hz : z.cells = #[z]) (n : Nat) : madeCells z.cells (n * 1) = (List.replicate n z).toArray := by
  apply Array.ext'
  rw [hz]
  simp [madeCells, Nat.mod_one]
  rw [List.eq_replicate_iff]
  simp
/-- make of cells, the world under a name of its own. -/
theorem wpList_make_cells {P : Program} {o : Oper} {a : Act} {w : World} {ops : Array Oper} {rest : List Oper} {Q : Exit → Act → World → Prop} (hgd : o.guard = none) (t e : TypeId) (z : Value) (by_ : Nat) (l c : Operand) (ho : o.op = .makeSlice t l c) (ht : P.underlying t = some (.slice e))
    (hinf : (P.info? e).map (fun i => (i.zero, i.size, i.bytes)) = some (some z, 1, by_)) (hz1 : z.cells = #[z]) (hby : by_ ≤ 24) (n : Nat) (hl : a.eval l = .int .i64 (n : Int)) (hc : a.eval c = .int .i64 (n : Int)) (hn : n ≤ 1000000) (g : Nat) (hg : w.heap.size = g)
    (h : ∀ w', w'.heap[g]? = some (.cells (List.replicate n z).toArray e (0, 0)) → Below w.heap.size w w' → wpList P ops Q rest (a.put o.dst (.slice (some ⟨g, 0, none⟩) n n)) w') : wpList P ops Q (o :: rest) a w := by
  subst hg
  obtain ⟨i, hi, hz, hs, hb⟩ := info_parts hinf
  have hr := run_makeSlice (P := P) w t e i z ht hi hz .i64 .i64 (n : Int) (n : Int) (by omega) (by omega) (by rw [hs]; simp; omega) (by rw [hb]; have h1 : by_ * n ≤ 24 * n := Nat.mul_le_mul_right _ hby; have h2 := Int.ofNat_le.2 h1; push_cast at h2; rw [Int.mul_comm] at h2; omega) (by omega)
  rw [hs, Int.toNat_natCast, made_one z hz1] at hr
  refine Did.list hgd (v := .slice (some ⟨w.heap.size, 0, none⟩) n n) (w' := w.alloc (.cells (List.replicate n z).toArray e)) (.inl ?_) (h _ (heap_alloc_new w _) ((Below.refl _ _).alloc (Nat.le_refl _) _))
  unfold execOp
  simp only [ho, hl, hc, Sem.run_bind, hr, Result.andThen_ok]
  rfl
theorem infos_int : (Try.prog.info? 3).map (fun i => (i.zero, i.size, i.bytes)) = some (some (.int .i64 0), 1, 8) := by kernel_rfl
theorem infos_sl : (Try.prog.info? 23).map (fun i => (i.zero, i.size, i.bytes)) = some (some (.slice none 0 0), 1, 24) := by kernel_rfl
/-- A write as cells. -/
def wv (i : Int) (x : Sl) : List Value := [.int .i64 i, .slice x.a x.n x.c]
theorem size_wr : (Try.prog.info? 37).map (·.size) = some 2 := by kernel_rfl
theorem zero_wr : (Try.prog.info? 37).bind (·.zero) = some (.agg (wv 0 ⟨none, 0, 0⟩).toArray) := by kernel_rfl
theorem wv_one (i : Int) (x : Sl) : (wv i x).toArray.all (·.oneCell') = true := by simp [wv, Value.oneCell']
theorem WS.news {w : World} {b o : Nat} {i : Int} {x : Sl} (h1 : w.cell? ⟨b, o, none⟩ = some (.int .i64 i)) (h2 : w.cell? ⟨b, o + 1, none⟩ = some (.slice x.a x.n x.c)) : ∀ j u, (wv i x)[j]? = some u → w.cell? ((⟨b, o, none⟩ : Addr).add j) = some u := by
  intro j u hu
  rw [add_plain]
  match j with
  | 0 => simp [wv] at hu; subst hu; exact h1
  | 1 => simp [wv] at hu; subst hu; exact h2
  | n + 2 => simp [wv] at hu

/-- A new block of numbers, the first k of them those of l. -/
def atTo (l : List (Int × List UInt8)) (n k : Nat) : List Value := (l.take k).map (fun x => Value.int .i64 x.1) ++ List.replicate (n - k) (.int .i64 0)
theorem atTo_step {l : List (Int × List UInt8)} {n k : Nat} (hn : l.length = n) (hk : k < n) : (atTo l n k).toArray.setIfInBounds k (.int .i64 (l[k]'(by omega)).1) = (atTo l n (k + 1)).toArray := by
  have h1 : ((l.take k).map (fun x => Value.int .i64 x.1)).length = k := by simp; omega
  unfold atTo
  rw [List.setIfInBounds_toArray, List.set_append_right _ _ (by omega), h1, Nat.sub_self, List.take_succ_eq_append_getElem (by omega), show n - k = (n - (k + 1)) + 1 by omega, List.replicate_succ]
  simp only [List.map_append, List.map_cons, List.map_nil, List.append_assoc, List.cons_append, List.nil_append, List.set_cons_zero]

section
set_option maxRecDepth 100000 in
set_option maxHeartbeats 2000000 in
theorem places_any (w : World) (X : Nat → Prop) (A : Option Addr) (n c : Nat) (l : List (Int × List UInt8)) (h : WS w X A n l) (hX : ∀ k, X k → k < w.heap.size) (hn : n ≤ 1000) :
    Calls Try.prog 33 #[.slice A n c] w fun e w' => e = .returned (.slice (some ⟨w.heap.size, 0, none⟩) n n) ∧ w'.heap[w.heap.size]? = some (.cells (l.map fun x => Value.int .i64 x.1).toArray 3 (0, 0)) ∧ Below w.heap.size w w' := by
  have HW := Lib.hid h
  have HX := Lib.hid hX
  have Hn : Hid (l.length = n) := h.1
  clear h hX
  go_enter Try.func33, Try.ntmps33
  go_wp2_with (first
    | (refine wpList_make_cells rfl 52 3 (.int .i64 0) 8 (.tmp 7) (.tmp 7) rfl Try.underlying52 infos_int rfl (by omega) n rfl rfl (by omega) w.heap.size rfl ?_
       intro w1 hb1 hw1
       have HB1 := Lib.hid hb1
       have HW1 := Lib.hid hw1
       clear hb1 hw1))
  go_loopw [11] (fun i wr => ∃ k : Nat, k ≤ n ∧ i = .int .i64 k ∧ Hid (wr.heap[w.heap.size]? = some (.cells (atTo l n k).toArray 3 (0, 0))) ∧ Hid (Below w.heap.size w wr)) (fun i _ => n - (intOf i).toNat)
  case atStart =>
    refine ⟨0, by omega, rfl, ?_, HW1⟩
    show _ = _
    rw [HB1.out]
    simp [atTo]
  case round =>
    obtain ⟨k, hk, rfl, HB, HBW⟩ := hrel
    clear HB1 HW1
    by_cases hlt : k < n
    · obtain ⟨b, o, x, hkl, rfl, _, h1, h2, _, _, _⟩ := (HW.out.keepK ((Keep.of_below HBW.out).mono HX.out)).at k hlt
      have HST := Lib.hid (atTo_step Hn.out hlt)
      have HNW := Lib.hid (WS.news h1 h2)
      clear h1 h2
      have hgl : w.heap.size < wr.heap.size := (Array.getElem?_eq_some_iff.1 HB.out).1
      generalize l[k].1 = v at *
      go_wp2_with (first
        | (refine Did.list rfl (did_load 37 (.tmp 14) rfl ⟨b, o + k * 2, none⟩ rfl _ Try.underlying37 rfl (wv v x) size_wr HNW.out) ?_)
        | (refine wpList_alloc_at rfl 37 rfl _ zero_wr wr.heap.size rfl ?_
           intro w3 hb3 hw3
           have HB3 := Lib.hid hb3
           have HW3 := Lib.hid hw3
           clear hb3 hw3)
        | (refine wpList_store_any rfl 37 (.tmp 5) (.tmp 15) rfl wr.heap.size (wv v x).toArray rfl rfl 37 _ HB3.out size_wr rfl (wv_one _ _) ?_
           intro w4 hb4 hs4 hw4
           have HW4 : Hid (Below wr.heap.size wr w4) := HW3.out.trans (Keep.below (hw4.mono fun k hk => by omega))
           have c0 : w4.cell? ⟨wr.heap.size, 0, none⟩ = some (.int .i64 v) := by rw [cell_of_row _ _ _ _ _ _ hb4]; rfl
           have HB4 : Hid (w4.heap[w.heap.size]? = some (.cells (atTo l n k).toArray 3 (0, 0))) := (HW4.out.block _ hgl).trans HB.out
           have c1 : w4.cell? ⟨w.heap.size, k, none⟩ = some (.int .i64 0) := by
             rw [cell_of_row _ _ _ _ _ _ HB4.out]
             simp only [List.getElem?_toArray, atTo]
             rw [List.getElem?_append_right (by simp; omega), List.getElem?_replicate]
             simp [Hn.out]
             omega
           have c2 : w4.frozen? ⟨w.heap.size, k, none⟩ = false := by simp [World.frozen?, HB4.out]
           clear hb4 hs4 hw4))
      refine ⟨⟨k + 1, by omega, by go_num, ?_, ?_⟩, by simp [intOf]; omega⟩
      · show _ = _
        rw [setCell_eq_setRow _ _ _ _ _ _ _ HB4.out, HST.out]
        exact setRow_heap _ _ _ _ _ _ HB4.out
      · exact ((HBW.out.trans (HW4.out.mono HBW.out.size))).setCell (p := ⟨w.heap.size, k, none⟩) (Nat.le_refl _) _
    · obtain rfl : k = n := by omega
      go_wp2
      go_ret
      refine ⟨rfl, ?_, HBW.out⟩
      rw [HB.out]
      unfold atTo
      rw [List.take_of_length_le (by rw [Hn.out]; exact Nat.le_refl _), Nat.sub_self]
      simp
end

end Go.Proofs.Ytcieahfhpanogaa
