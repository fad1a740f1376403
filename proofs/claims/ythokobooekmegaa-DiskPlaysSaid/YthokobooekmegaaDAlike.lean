/-
  Is a disk the document's? (The law's own helper.)
-/
import Derived.Test.YthokobooekmegaaDRef8
import Derived.BigQuiet
import Derived.Deep.QuietTactic
namespace Go.Proofs.Ythokobooekmegaa
open Go.RowKit

theorem heap_drewN (w : World) (n : Nat) : (w.drewN n).heap = w.heap := rfl
theorem Dk.drewN {w : World} {p : Nat} {S : Nat → Prop} {s : DS} (h : Dk w p S s) (n : Nat) : Dk (w.drewN n) p S s := h
theorem alike_start {w : World} {p : Nat} {S : Nat → Prop} {s : DS} (h : Dk w p S s) (o : Obj) : Dk (w.alloc o) p S s := h.below ((Below.refl _ _).alloc (Nat.le_refl _) _)

/-- What stands while they are compared. -/
def AI (w : World) (p : Nat) (S : Nat → Prop) (AL AW : Option Addr) (cL cW : Nat) (s : DS) (W : World) : Prop :=
  Dk W p S s ∧ RefD W AL AW cW s ∧ W.heap[w.heap.size]? = some (.cells #[.slice AL s.n cL, .slice AW s.pend.length cW, .int .i64 (nrm s.left), .bool s.down] 31 (0, 0)) ∧ Below w.heap.size w W
theorem AI.below {w W W' : World} {p : Nat} {S : Nat → Prop} {AL AW : Option Addr} {cL cW : Nat} {s : DS} (h : AI w p S AL AW cL cW s W) (hb : Below W.heap.size W W') : AI w p S AL AW cL cW s W' :=
  ⟨h.1.below hb, h.2.1.below hb, (hb.block _ (Array.getElem?_eq_some_iff.1 h.2.2.1).1).trans h.2.2.1, h.2.2.2.trans (hb.mono h.2.2.2.size)⟩
theorem AI.drewN {w W : World} {p : Nat} {S : Nat → Prop} {AL AW : Option Addr} {cL cW : Nat} {s : DS} (h : AI w p S AL AW cL cW s W) (n : Nat) : AI w p S AL AW cL cW s (W.drewN n) := ⟨h.1, h.2.1, h.2.2.1, ⟨h.2.2.2.os, h.2.2.2.tape, h.2.2.2.output, h.2.2.2.size, h.2.2.2.block⟩⟩
theorem refus_in {s : DS} {i : Int} (h : refus s i = 0) : 0 ≤ i ∧ i < (s.n : Int) := by
  unfold refus at h
  split at h
  · omega
  · split at h
    · omega
    · omega

set_option maxRecDepth 100000 in
set_option maxHeartbeats 2000000 in
theorem alike_any (p : Nat) (S : Nat → Prop) (AL AW : Option Addr) (cL cW : Nat) (s : DS) (w : World) (h : Dk w p S s) (hr : RefD w AL AW cW s) (hs : s.pend.length ≤ 1000000) :
    Calls Try.prog 22 #[.pointer (some ⟨p, 0, none⟩), dv AL cL AW cW s] w fun e w' => e = .returned (.bool true) ∧ Below w.heap.size w w' := by
  have hn : s.n ≤ 65536 := h.1.2.2.1
  have HBW : Hid (Below w.heap.size w (w.alloc (.cells #[.slice AL s.n cL, .slice AW s.pend.length cW, .int .i64 (nrm s.left), .bool s.down] 31))) := (Below.refl _ _).alloc (Nat.le_refl _) _
  have HD := Lib.hid (h.below HBW.out)
  have HR := Lib.hid (hr.below HBW.out)
  have HNW := Lib.hid (heap_alloc_new w (.cells #[.slice AL s.n cL, .slice AW s.pend.length cW, .int .i64 (nrm s.left), .bool s.down] 31))
  have HU := Lib.hid (fun i W (hR : refus s i ≠ 0) => readR_no AL AW cL cW s i W hR)
  have HV := Lib.hid (fun i W (h : RefD W AL AW cW s) hr h0 hin => readR_any AL AW cL cW s i W h hs hr h0 hin)
  clear h hr
  unfold dv at *
  go_enter Try.func22, Try.ntmps22
  generalize hW : w.alloc (.cells #[.slice AL s.n cL, .slice AW s.pend.length cW, .int .i64 (nrm s.left), .bool s.down] 31) = W at HBW HD HR HNW
  go_wp2_with fail
  try rw [hW]
  clear hW
  have k0 : W.cell? ⟨w.heap.size, 0, none⟩ = some (.slice AL s.n cL) := by rw [cell_of_row _ _ _ _ _ _ HNW.out]; rfl
  have k1 : W.cell? ⟨w.heap.size, 1, none⟩ = some (.slice AW s.pend.length cW) := by rw [cell_of_row _ _ _ _ _ _ HNW.out]; rfl
  have k3 : W.cell? ⟨w.heap.size, 3, none⟩ = some (.bool s.down) := by rw [cell_of_row _ _ _ _ _ _ HNW.out]; rfl
  go_quiet (first
    | (go_at_call 24; exact (len_any p S s _ (HD.out.drewN _)).mono fun _ _ ⟨h1, h2⟩ => ⟨h1, _, h2.symm⟩)
    | (go_at_call 26; exact (down_any p S s _ (HD.out.drewN _)).mono fun _ _ ⟨h1, h2⟩ => ⟨h1, _, h2.symm⟩)
    | (go_at_call 25; exact (waits_any p S s _ (HD.out.drewN _)).mono fun _ _ ⟨h1, h2⟩ => ⟨h1, _, h2.symm⟩))
  have HI : Hid (AI w p S AL AW cL cW s (W.drewN nq)) := AI.drewN ⟨HD.out, HR.out, HNW.out, HBW.out⟩ nq
  clear HD HR HNW HBW k0 k1 k3
  generalize W.drewN nq = W1 at *
  go_wp2_with fail
  go_loopw [5] (fun i wr => ∃ k : Nat, k ≤ s.n + 2 ∧ i = .int .i64 ((k : Int) - 1) ∧ Hid (AI w p S AL AW cL cW s wr)) (fun i _ => s.n + 2 - (intOf i + 1).toNat)
  case atStart => exact ⟨0, by omega, rfl, HI⟩
  case round =>
    clear HI
    obtain ⟨k, hk, rfl, HI⟩ := hrel
    have k0 : wr.cell? ⟨w.heap.size, 0, none⟩ = some (.slice AL s.n cL) := by rw [cell_of_row _ _ _ _ _ _ HI.out.2.2.1]; rfl
    have hst : ((k : Int) - 1) + 1 = ((k + 1 : Nat) : Int) - 1 := by omega
    by_cases hlt : k < s.n + 2
    · have hle : (k : Int) - 1 ≤ (s.n : Int) := by omega
      obtain ⟨i, hi⟩ : ∃ i : Int, (k : Int) - 1 = i := ⟨_, rfl⟩
      by_cases hr : refus s i = 0
      · obtain ⟨hi0, hin⟩ := refus_in hr
        have HRF := Lib.hid hr
        clear hr
        rw [hi] at hle ⊢
        go_wp2_with fail
        refine (read_any p S s i wr HI.out.1 hs HRF.out).mono ?_
        rintro e w2 ⟨g, rfl, hg2, hgl, hw2⟩
        have HI2 := Lib.hid (HI.out.below hw2)
        have hl2 : (s.read i).length = 128 := rd_len _ HI.out.1.1.1 i _ (HI.out.1.1.2.1 i)
        have hgt : g < w2.heap.size := (Array.getElem?_eq_some_iff.1 hg2).1
        have HBS := Lib.hid (block_BS hg2 hl2)
        clear hg2 hgl hw2 k0
        go_wp2_with (refine wpList_load_row rfl 31 (.tmp 3) rfl w.heap.size rfl 31 #[.slice AL s.n cL, .slice AW s.pend.length cW, .int .i64 (nrm s.left), .bool s.down] (0, 0) _ HI2.out.2.2.1 Try.underlying31 rfl size_D ?_)
        refine (HV.out i _ HI2.out.2.1 HRF.out hi0 hin).mono ?_
        rintro e w3 ⟨rfl, hw3⟩
        have HI3 := Lib.hid (HI2.out.below hw3)
        have hbs3 : BS w3 (some ⟨g, 0, none⟩) 128 (s.read i) := HBS.out.keepK (Keep.of_below hw3) (fun _ ad e => by cases e; exact hgt)
        have v := run_convert_bs w3 (some ⟨g, 0, none⟩) 128 128 (s.read i) hbs3
        clear hw3 hbs3
        go_wp2
        go_roundw
        case rel => exact ⟨k + 1, by omega, by rw [← hst, hi], HI3⟩
        case measure => simp [intOf]; omega
      · have HRF := Lib.hid hr
        clear hr
        rw [hi] at hle ⊢
        go_wp2_with fail
        refine (read_no p S s i wr HI.out.1 HRF.out).mono ?_
        rintro e w2 ⟨rfl, rfl⟩
        go_wp2_with (refine wpList_load_row rfl 31 (.tmp 3) rfl w.heap.size rfl 31 #[.slice AL s.n cL, .slice AW s.pend.length cW, .int .i64 (nrm s.left), .bool s.down] (0, 0) _ HI.out.2.2.1 Try.underlying31 rfl size_D ?_)
        refine (HU.out i _ HRF.out).mono ?_
        rintro e w3 ⟨rfl, hw3⟩
        have HI3 := Lib.hid (HI.out.below hw3)
        have v := run_convert_bs w3 none 0 0 [] BS.nil
        clear hw3 k0
        go_wp2
        go_roundw
        case rel => exact ⟨k + 1, by omega, by rw [← hst, hi], HI3⟩
        case measure => simp [intOf]; omega
    · have hgt : (s.n : Int) < (k : Int) - 1 := by omega
      go_wp2
      go_ret
      exact ⟨rfl, HI.out.2.2.2⟩
end Go.Proofs.Ythokobooekmegaa
