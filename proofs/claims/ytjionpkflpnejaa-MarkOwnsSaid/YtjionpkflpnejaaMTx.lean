/-
  Contracts of package mark's Load and Save (layer 15); blocks that are made.
-/
import Derived.Test.YtjionpkflpnejaaMGet
import Derived.Test.YtjionpkflpnejaaTChanges
namespace Go.Proofs.Ytjionpkflpnejaa
open Go.RowKit Go.Shelf

/-- Blocks of slices of bytes, just made. -/
theorem RI.made (w : World) (n : Nat) : RI (w.alloc (.cells (Array.replicate n (.slice none 0 0)) 27)) (some ⟨w.heap.size, 0, none⟩) n (List.replicate n []) := by
  refine ⟨List.length_replicate, fun hn => ⟨w.heap.size, 0, rfl, fun k hk => ⟨⟨none, 0, 0⟩, ?_, ?_, Nat.zero_le _⟩⟩⟩
  · rw [Nat.zero_add, cell_of_row _ _ _ _ _ _ (heap_alloc_new w _)]
    simp [hk]
  · have : (List.replicate n ([] : List UInt8)).getD k [] = [] := by simp [List.getD, hk]
    rw [this]
    exact BS.nil
theorem run_make_rows (w : World) (n : Nat) (hn : n ≤ 1000000) : (Instr.makeSlice 37 (.int .i64 (n : Int)) (.int .i64 (n : Int))).run Try.prog w = .ok (.slice (some ⟨w.heap.size, 0, none⟩) n n) (w.alloc (.cells (Array.replicate n (.slice none 0 0)) 27)) := by
  obtain ⟨ii, hii, hiz, his, hib⟩ := info_parts info_rows
  have hr := run_makeSlice (P := Try.prog) w 37 27 ii (.slice none 0 0) Try.underlying37 hii hiz .i64 .i64 (n : Int) (n : Int) (by omega) (by omega) (by rw [his]; simp; omega) (by rw [hib]; omega) (by omega)
  simp only [Int.toNat_natCast, his, Nat.mul_one] at hr
  rw [hr, madeCells_rows]
section
variable {w : World} {p m : Nat} {x : Sl} {S : Nat → Prop} {X : TX}
set_option maxRecDepth 100000 in
set_option maxHeartbeats 1000000 in
theorem loadM_any (h : Tq w p m x S X) (hn : 0 < x.n) (hl : (X.get 0).length ≤ 2000) :
    Calls Try.prog 13 #[.pointer (some ⟨p, 0, none⟩)] w fun e w' => e = .returned (.tuple #[.agg (mc (Mk.got (X.get 0))).toArray, .int .i64 (Mk.err (X.get 0))]) ∧ Below w.heap.size w w' := by
  have HT := Lib.hid h
  have HL := Lib.hid hl
  have HG : Hid (∀ W, Tq W p m x S X → Calls Try.prog 29 #[.pointer (some ⟨p, 0, none⟩), .int .i64 0] W (GotB W (X.get 0))) := fun W hW => get_ok hW 0 hn
  clear h hl hn
  generalize X.get 0 = l at *
  go_enter Try.func13, Try.ntmps13
  go_upto_region 1 with (refine wpList_alloc_any rfl 25 rfl _ zero_Mk ?_; intro w1 hb1 hs1 hw1)
  have HB1 : Hid (Bw w1 w.heap.size (mc Mk.zero) 25) := hb1
  have HW1 := Lib.hid hw1
  have HT1 := Lib.hid (HT.out.below hw1)
  clear hb1 hs1 hw1 HT
  go_wp2_with fail
  refine (HG.out _ HT1.out).mono ?_
  rintro e w2 ⟨A, n, c, rfl, hbs, -, -, -, hb, -⟩
  have HX := Lib.hid hbs
  have HB2 := Lib.hid (HB1.out.below hb)
  have HW2 := Lib.hid (HW1.out.trans (hb.mono HW1.out.size))
  clear hbs hb HB1 HW1 HT1 HG
  go_wp2_with fail
  refine (getM_any l A n c w2 HX.out (by have := HX.out.1; have := HL.out; omega)).mono ?_
  rintro e w3 ⟨rfl, hb⟩
  have HB3 := Lib.hid (HB2.out.below hb)
  have HW3 := Lib.hid (HW2.out.trans (hb.mono HW2.out.size))
  clear hb HB2 HW2
  go_wp2_with (refine wpList_store_part rfl 25 (.tmp 2) (.tmp 7) rfl w.heap.size 0 (mc (Mk.got l)) rfl rfl 25 _ HB3.out size_Mk (by simp [mc]) (mc_one _) ?_
               intro y hb _ hk
               have HB := Lib.hid hb
               have HK := Lib.hid hk
               clear hb hk)
  exact bodyPost_ret (results_cell rfl _ y w.heap.size (.int .i64 (Mk.err l)) HB.out size_Mk (by rfl) (by rfl) Try.underlying25) rfl ⟨rfl, HW3.out.trans (HK.out.below2 (fun k hk => by omega))⟩
set_option maxRecDepth 100000 in
set_option maxHeartbeats 1000000 in
theorem saveM_any (h : Tq w p m x S X) (hn : 0 < x.n) (hS : ∀ k, w.heap.size ≤ k → S k) (s : Ms) (hw : s.Wide) :
    Calls Try.prog 12 #[.pointer (some ⟨p, 0, none⟩), .agg (mc s).toArray] w fun e w' => e = .returned (.int .i64 (Mk.chkM s)) ∧ Tq w' p m x S (if Mk.okM s = true then X.put 0 (Mk.put s) else X) ∧ ∀ B, B ≤ w.heap.size → B ≤ m → Below B w w' := by
  have HT := Lib.hid h
  have HP : Hid (∀ W, (∀ k, W.heap.size ≤ k → S k) → Tq W p m x S X → ∀ A n c, BS W A n (Mk.put s) → (Mk.put s).length ≤ 96 → Calls Try.prog 28 #[.pointer (some ⟨p, 0, none⟩), .int .i64 0, .slice A n c] W (TPutQ W p m x S (X.put 0 (Mk.put s)) 0)) := fun W hSW hW A n c hb hl => by
    have h1 := tput_any hW hSW 0 A n c (Mk.put s) hb
    rw [show TX.perr x.n 0 (Mk.put s) = 0 from TX.perr_ok (hasB_nat hn) hl, show X.putI x.n 0 (Mk.put s) = X.put 0 (Mk.put s) from TX.putI_ok hn hl] at h1
    exact h1
  have HPM : Hid (∀ W, Calls Try.prog 8 #[.agg (mc s).toArray] W (PutQ (Mk.put s) (Mk.chkM s) W)) := fun W => putM_any s W hw
  have HL : Hid (Mk.okM s = true → (Mk.put s).length ≤ 96) := fun h => by rw [Mk.put_length s h]; split <;> omega
  have HS := Lib.hid hS
  obtain ⟨Z, hZ⟩ : ∃ Z : TX, (if Mk.okM s = true then X.put 0 (Mk.put s) else X) = Z := ⟨_, rfl⟩
  have HZ := Lib.hid hZ
  rw [hZ]
  clear h hn hS hw hZ
  go_enter Try.func12, Try.ntmps12
  go_upto_region 1 with fail
  have HB0 : Hid (Bw (w.alloc (.cells (mc s).toArray 25)) w.heap.size (mc s) 25) := heap_alloc_new w _
  have HW0 : Hid (Below w.heap.size w (w.alloc (.cells (mc s).toArray 25))) := (Below.refl _ w).alloc (Nat.le_refl _) _
  generalize w.alloc (.cells (mc s).toArray 25) = w0 at *
  go_wp2_with (refine wpList_load_part rfl 25 (.tmp 3) rfl _ 0 rfl _ Try.underlying25 rfl (mc s) 25 _ HB0.out size_Mk (fun j u hu => by rw [Nat.zero_add]; exact hu) ?_)
  refine (HPM.out w0).mono ?_
  rintro e w1 ⟨A, n, c, rfl, hown⟩
  have HX := Lib.hid hown.bs
  have HW1 := Lib.hid (HW0.out.trans (hown.2.mono HW0.out.size))
  have HT1 := Lib.hid (HT.out.below HW1.out)
  clear hown HB0 HW0 HPM
  by_cases hok : Mk.okM s = true
  rotate_left
  · rw [show Mk.chkM s = 1 from if_neg hok]
    have HI : Hid (Z = X) := HZ.out.symm.trans (if_neg hok)
    have HE : Hid (Mk.chkM s = 1) := if_neg hok
    clear hok
    go_wp2_with fail
    go_ret
    rw [HI.out, HE.out]
    exact ⟨rfl, HT1.out, fun B hB _ => HW1.out.mono hB⟩
  rw [show Mk.chkM s = 0 from if_pos hok]
  have HI : Hid (Z = X.put 0 (Mk.put s)) := HZ.out.symm.trans (if_pos hok)
  have HE : Hid (Mk.chkM s = 0) := if_pos hok
  have hl := HL.out hok
  clear hok HL
  go_wp2_with fail
  refine (HP.out w1 (fun k hk => HS.out k (Nat.le_trans HW1.out.size hk)) HT1.out A n c HX.out hl).mono ?_
  rintro e w2 ⟨rfl, h1, h2⟩
  have HT2 := Lib.hid h1
  have HC := Lib.hid h2
  clear h1 h2
  go_wp2_with fail
  go_ret
  rw [HI.out, HE.out]
  exact ⟨rfl, HT2.out, fun B hB hm => (HW1.out.mono hB).trans (HC.out.below (Nat.le_trans hB HW1.out.size) (fun k hk => by rw [hk]; exact hm))⟩
end
end Go.Proofs.Ytjionpkflpnejaa
