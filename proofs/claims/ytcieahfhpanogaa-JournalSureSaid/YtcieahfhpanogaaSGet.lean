/-
  Contract of layer 4's Get.
-/
import Derived.Test.YtcieahfhpanogaaSPut
import Derived.Deep.QuietTactic
import Derived.BigQuiet
namespace Go.Proofs.Ytcieahfhpanogaa
open Go.RowKit

theorem zero_frame : (Try.prog.info? 76).bind (·.zero) = some (.agg (frc 0 0 0 0 0 none 0 0)) := by kernel_rfl
theorem size_frame : (Try.prog.info? 76).map (·.size) = some 6 := by kernel_rfl
theorem frc_all (k i c s a : Int) (B : Option Addr) (n cap : Nat) : (frc k i c s a B n cap).all (·.oneCell') = true := by simp [frc, Value.oneCell']
theorem built_zero : Try.prog.built 76 [] = some (frc 0 0 0 0 0 none 0 0) := by kernel_rfl
theorem results_fr {t : TypeId} {fs : Array Field} {cs : Array Value} {fn : Func} {p q : Tmp} (h : fn.results = #[.cell p t, .tmp q]) (tmps : Array Value) (w : World) (g : Nat) (v : Value) (hg : w.heap[g]? = some (.cells cs t (0, 0))) (hi : (Try.prog.info? t).map (·.size) = some cs.size)
    (hp : tmps.getD p undef = .pointer (some ⟨g, 0, none⟩)) (hq : tmps.getD q undef = v) (hu : Try.prog.underlying t = some (.struct fs)) : (results fn tmps).run Try.prog w = .ok (.tuple #[.agg cs, v]) w := by
  have hp' : tmps[p]?.getD undef = .pointer (some ⟨g, 0, none⟩) := by simpa using hp
  have hq' : tmps[q]?.getD undef = v := by simpa using hq
  have hl := run_loadVar_row (P := Try.prog) w g t t cs (0, 0) _ hg hu rfl hi
  simp [results, h, hp', hq', asAddr, hl]
/-- A frame as a value. -/
def fv (f : Fm) (B : Option Addr) (n cap : Nat) : Array Value := frc f.k.toNat f.i.toNat f.c.toNat f.s f.a B n cap
/-- What Get answers for the bytes l. -/
def Got (w : World) (l : List UInt8) (e : Ending) (w' : World) : Prop :=
  ∃ B n cap, e = .returned (.tuple #[.agg (fv (getF l) B n cap), .int .i64 (getE l)]) ∧ BS w' B n (getF l).b ∧ Below w.heap.size w w' ∧ (∀ ad, B = some ad → w.heap.size ≤ ad.block) ∧ n ≤ cap
/-- While Get goes: the bytes are as they were, its result lies in block r. -/
structure GS (w : World) (A : Option Addr) (l : List UInt8) (W : World) (r : Nat) : Prop where
  bs : BS W A 128 l
  res : W.heap[r]? = some (.cells (frc 0 0 0 0 0 none 0 0) 76 (0, 0))
  below : Below w.heap.size w W
  lo : w.heap.size ≤ r
theorem GS.step {w W W' : World} {A : Option Addr} {l : List UInt8} {r : Nat} (h : GS w A l W r) (hb : Below W.heap.size W W') : GS w A l W' r :=
  ⟨h.bs.below hb, (hb.block r (Array.getElem?_eq_some_iff.1 h.res).1).trans h.res, h.below.trans (hb.mono h.below.size), h.lo⟩
theorem GS.drewN {w W : World} {A : Option Addr} {l : List UInt8} {r : Nat} (h : GS w A l W r) (k : Nat) : GS w A l (W.drewN k) r := ⟨h.bs.drewN k, h.res, ((Keep.of_below h.below).drewN k).below, h.lo⟩
theorem GS.byte {w W : World} {A : Option Addr} {l : List UInt8} {r : Nat} (h : GS w A l W r) : ∃ b o, A = some ⟨b, o, none⟩ ∧ ∀ j, j < 128 → W.cell? ⟨b, o + j, none⟩ = some (.int .u8 ((l.getD j 0).toNat : Int)) := by
  obtain ⟨b, o, e, hc⟩ := h.bs.2 (by omega)
  have hl := h.bs.1
  refine ⟨b, o, e, fun j hj => ?_⟩
  rw [hc j (by omega), List.getD_eq_getElem?_getD, List.getElem?_eq_getElem (by omega), Option.getD_some]
theorem BS.part {w : World} {b o n : Nat} {l : List UInt8} (h : BS w (some ⟨b, o, none⟩) n l) (i m : Nat) (hm : i + m ≤ n) : BS w (some ⟨b, o + i, none⟩) m ((l.drop i).take m) := by
  have hl := h.1
  refine ⟨by rw [List.length_take, List.length_drop]; omega, fun hn => ⟨b, o + i, rfl, fun j hj => ?_⟩⟩
  obtain ⟨b', o', e, hc⟩ := h.2 (by omega)
  cases e
  rw [List.length_take, List.length_drop] at hj
  rw [Nat.add_assoc, hc (i + j) (by omega)]
  simp
/-- The frame that Get fills lies in block q. -/
structure GQ (w W : World) (r q : Nat) (x : Array Value) : Prop where
  res : W.heap[r]? = some (.cells (frc 0 0 0 0 0 none 0 0) 76 (0, 0))
  fr : W.heap[q]? = some (.cells x 76 (0, 0))
  below : Below w.heap.size w W
  lo : w.heap.size ≤ r
  loq : w.heap.size ≤ q
  ne : r ≠ q
theorem GS.frame {w W : World} {A : Option Addr} {l : List UInt8} {r : Nat} (h : GS w A l W r) (x : Array Value) : GQ w (W.alloc (.cells x 76)).drew r W.heap.size x := by
  have hr := (Array.getElem?_eq_some_iff.1 h.res).1
  exact ⟨(Below.heap_alloc _ _ _ hr).trans h.res, heap_alloc_new W _, (h.below.alloc h.below.size _).drew, h.lo, h.below.size, by omega⟩
theorem GQ.at {w W : World} {r q : Nat} {x : Array Value} (h : GQ w W r q x) (j : Nat) (v : Value) (hv : x[j]? = some v) : W.cell? ⟨q, j, none⟩ = some v ∧ W.frozen? ⟨q, j, none⟩ = false := by
  refine ⟨?_, ?_⟩
  · rw [cell_of_row _ _ _ _ _ _ h.fr]
    exact hv
  · simp [World.frozen?, h.fr]
theorem GQ.set {w W : World} {r q : Nat} {x : Array Value} (h : GQ w W r q x) (j : Nat) (v : Value) : GQ w (W.setCell ⟨q, j, none⟩ v) r q (x.setIfInBounds j v) := by
  refine ⟨(Below.heap_setCell W _ v r h.ne).trans h.res, ?_, h.below.setCell h.loq _, h.lo, h.loq, h.ne⟩
  rw [setCell_eq_setRow _ _ _ _ _ _ _ h.fr, setRow_heap _ _ _ _ _ _ h.fr]
theorem GQ.step {w W W' : World} {r q : Nat} {x : Array Value} (h : GQ w W r q x) (hb : Below W.heap.size W W') : GQ w W' r q x :=
  ⟨(hb.block r (Array.getElem?_eq_some_iff.1 h.res).1).trans h.res, (hb.block q (Array.getElem?_eq_some_iff.1 h.fr).1).trans h.fr, h.below.trans (hb.mono h.below.size), h.lo, h.loq, h.ne⟩
theorem GQ.drew {w W : World} {r q : Nat} {x : Array Value} (h : GQ w W r q x) : GQ w W.drew r q x := ⟨h.res, h.fr, h.below.drew, h.lo, h.loq, h.ne⟩
theorem GQ.keep {w W W' : World} {r q g : Nat} {x : Array Value} (h : GQ w W r q x) (hk : Keep (· ≠ g) W W') (h1 : g ≠ r) (h2 : g ≠ q) (h3 : w.heap.size ≤ g) : GQ w W' r q x :=
  ⟨(hk.block r (Ne.symm h1)).trans h.res, (hk.block q (Ne.symm h2)).trans h.fr, h.below.trans (Keep.below (hk.mono fun k hk => by omega)), h.lo, h.loq, h.ne⟩
/-- Its ways that refuse. -/
theorem Got.no {w w' : World} {l : List UInt8} {e : Int} (he : getE l = e) (h0 : e ≠ 0) (hb : Below w.heap.size w w') : Got w l (.returned (.tuple #[.agg (frc 0 0 0 0 0 none 0 0), .int .i64 e])) w' := by
  subst he
  refine ⟨none, 0, 0, ?_, ?_, hb, fun ad e => by (cases e), Nat.le_refl _⟩
  · rw [getF_no h0]
    rfl
  · rw [getF_no h0]
    exact BS.nil

set_option maxRecDepth 100000 in
set_option maxHeartbeats 2000000 in
theorem get_len (A : Option Addr) (n c : Nat) (l : List UInt8) (w : World) (h : BS w A n l) (h1 : n ≠ 128) :
    Calls Try.prog 50 #[.slice A n c] w (Got w l) := by
  have HE : Hid (getE l = 11) := getE_len (by rw [h.1]; exact h1)
  clear h
  have hd : ((n : Int) != 128) = true := by simp; omega
  go_enter Try.func50, Try.ntmps50
  go_wp2_with (first
    | (refine wpList_alloc_at rfl 76 rfl _ zero_frame w.heap.size rfl ?_
       intro w1 hb1 hw1
       have HB1 := Lib.hid hb1
       have HW1 := Lib.hid hw1
       clear hb1 hw1)
    | (refine Did.list rfl (did_build 76 #[] rfl (frc 0 0 0 0 0 none 0 0) built_zero) ?_)
    | (refine wpList_store_any rfl 76 (.tmp 2) (.tmp 11) rfl w.heap.size (frc 0 0 0 0 0 none 0 0) rfl rfl 76 _ HB1.out size_frame rfl (frc_all _ _ _ _ _ _ _ _) ?_
       intro w2 hb2 hs2 hw2
       have HB2 := Lib.hid hb2
       have HW2 := Lib.hid hw2
       clear hb2 hs2 hw2))
  exact bodyPost_ret (results_fr rfl _ w2 w.heap.size _ HB2.out size_frame (by rfl) (by rfl) Try.underlying76) rfl (Got.no HE.out (by decide) (HW1.out.trans (Keep.below (HW2.out.mono fun k hk => by omega))))

set_option maxRecDepth 100000 in
set_option maxHeartbeats 2000000 in
theorem get_sum (A : Option Addr) (c : Nat) (l : List UInt8) (w : World) (h : BS w A 128 l) (hc : 128 ≤ c) (hr : right l = false) :
    Calls Try.prog 50 #[.slice A 128 c] w (Got w l) := by
  have HE : Hid (getE l = 14) := getE_sum h.1 hr
  have HR := Lib.hid hr
  have HB := Lib.hid h
  clear h hr
  go_enter Try.func50, Try.ntmps50
  go_wp2_with (first
    | (refine wpList_alloc_at rfl 76 rfl _ zero_frame w.heap.size rfl ?_
       intro w1 hb1 hw1
       have HG1 : Hid (GS w A l w1 w.heap.size) := ⟨HB.out.below hw1, hb1, hw1, Nat.le_refl _⟩
       clear hb1 hw1))
  refine (right_any A 128 c l w1 HG1.out.bs (by omega) hc).mono ?_
  rw [HR.out]
  rintro e w2 ⟨rfl, hb2⟩
  have HG2 := Lib.hid (HG1.out.step hb2)
  clear hb2 HG1
  go_wp2_with (first
    | (refine Did.list rfl (did_build 76 #[] rfl (frc 0 0 0 0 0 none 0 0) built_zero) ?_)
    | (refine wpList_store_any rfl 76 (.tmp 2) (.tmp 15) rfl w.heap.size (frc 0 0 0 0 0 none 0 0) rfl rfl 76 _ HG2.out.res size_frame rfl (frc_all _ _ _ _ _ _ _ _) ?_
       intro wz hb hs hw
       have HBZ := Lib.hid hb
       have HWZ : Hid (Below w.heap.size w wz) := HG2.out.below.trans (Keep.below (hw.mono fun k hk => by have := HG2.out.lo; omega))
       clear hb hs hw))
  refine bodyPost_ret (results_fr rfl _ wz w.heap.size _ HBZ.out size_frame (by rfl) (by rfl) Try.underlying76) rfl (Got.no HE.out (by decide) HWZ.out)

set_option maxRecDepth 100000 in
set_option maxHeartbeats 2000000 in
theorem get_kind (A : Option Addr) (c : Nat) (l : List UInt8) (w : World) (h : BS w A 128 l) (hc : 128 ≤ c) (hr : right l = true) (hk : (l.getD 0 0).toNat < 1 ∨ 4 < (l.getD 0 0).toNat ∨ 108 < (l.getD 3 0).toNat) :
    Calls Try.prog 50 #[.slice A 128 c] w (Got w l) := by
  have HE : Hid (getE l = 11) := getE_kind h.1 hr hk
  have HR := Lib.hid hr
  have HB := Lib.hid h
  clear h hr
  go_enter Try.func50, Try.ntmps50
  go_wp2_with (first
    | (refine wpList_alloc_at rfl 76 rfl _ zero_frame w.heap.size rfl ?_
       intro w1 hb1 hw1
       have HG1 : Hid (GS w A l w1 w.heap.size) := ⟨HB.out.below hw1, hb1, hw1, Nat.le_refl _⟩
       clear hb1 hw1))
  refine (right_any A 128 c l w1 HG1.out.bs (by omega) hc).mono ?_
  rw [HR.out]
  rintro e w2 ⟨rfl, hb2⟩
  have HG2 := Lib.hid (HG1.out.step hb2)
  clear hb2 HG1
  obtain ⟨b, o, rfl, hcell⟩ := HG2.out.byte
  have h0 : w2.cell? ⟨b, o, none⟩ = some (.int .u8 ((l.getD 0 0).toNat : Int)) := hcell 0 (by omega)
  have h3 := hcell 3 (by omega)
  clear hcell
  generalize l.getD 0 0 = x0 at *
  generalize l.getD 3 0 = x3 at *
  have b0 := x0.toNat_lt
  have b3 := x3.toNat_lt
  go_wp2_with fail
  go_quiet (fail)
  go_wp2_with fail
  refine (within_one 1 4 _ _ _ _ _ (by simp)).mono ?_
  have HG3 : Hid (GS w (some ⟨b, o, none⟩) l ((w2.drewN nq).alloc (.cells #[.int .i64 (x0.toNat : Int)] 3)) w.heap.size) := (HG2.out.drewN nq).step ((Below.refl _ _).alloc (Nat.le_refl _) _)
  clear HG2
  by_cases hx : 1 ≤ x0.toNat ∧ x0.toNat ≤ 4
  · rw [allIn_one (by omega) (by omega)]
    rintro e w' ⟨rfl, rfl⟩
    have hx3 : decide ((108 : Int) < (x3.toNat : Int)) = true := by simp; omega
    generalize (w2.drewN nq).alloc (.cells #[.int .i64 (x0.toNat : Int)] 3) = w3 at *
    go_wp2_with (first
      | (refine Did.list rfl (did_build 76 #[] rfl (frc 0 0 0 0 0 none 0 0) built_zero) ?_)
      | (refine wpList_store_any rfl 76 (.tmp 2) (.tmp 32) rfl w.heap.size (frc 0 0 0 0 0 none 0 0) rfl rfl 76 _ HG3.out.res size_frame rfl (frc_all _ _ _ _ _ _ _ _) ?_
         intro wz hb hs hw
         have HBZ := Lib.hid hb
         have HWZ : Hid (Below w.heap.size w wz) := HG3.out.below.trans (Keep.below (hw.mono fun k hk => by have := HG3.out.lo; omega))
         clear hb hs hw))
    refine bodyPost_ret (results_fr rfl _ wz w.heap.size _ HBZ.out size_frame (by rfl) (by rfl) Try.underlying76) rfl (Got.no HE.out (by decide) HWZ.out)
  · rw [allIn_one_no (by omega)]
    rintro e w' ⟨rfl, rfl⟩
    generalize (w2.drewN nq).alloc (.cells #[.int .i64 (x0.toNat : Int)] 3) = w3 at *
    go_wp2_with (first
      | (refine Did.list rfl (did_build 76 #[] rfl (frc 0 0 0 0 0 none 0 0) built_zero) ?_)
      | (refine wpList_store_any rfl 76 (.tmp 2) (.tmp 32) rfl w.heap.size (frc 0 0 0 0 0 none 0 0) rfl rfl 76 _ HG3.out.res size_frame rfl (frc_all _ _ _ _ _ _ _ _) ?_
         intro wz hb hs hw
         have HBZ := Lib.hid hb
         have HWZ : Hid (Below w.heap.size w wz) := HG3.out.below.trans (Keep.below (hw.mono fun k hk => by have := HG3.out.lo; omega))
         clear hb hs hw))
    refine bodyPost_ret (results_fr rfl _ wz w.heap.size _ HBZ.out size_frame (by rfl) (by rfl) Try.underlying76) rfl (Got.no HE.out (by decide) HWZ.out)

set_option maxRecDepth 100000 in
set_option maxHeartbeats 2000000 in
theorem get_rest (A : Option Addr) (c : Nat) (l : List UInt8) (w : World) (h : BS w A 128 l) (hc : 128 ≤ c) (hr : right l = true) (hk : ¬ ((l.getD 0 0).toNat < 1 ∨ 4 < (l.getD 0 0).toNat ∨ 108 < (l.getD 3 0).toNat))
    (hz : nought ((l.drop (16 + (l.getD 3 0).toNat)).take (108 - (l.getD 3 0).toNat)) = false) :
    Calls Try.prog 50 #[.slice A 128 c] w (Got w l) := by
  have HE : Hid (getE l = 11) := getE_rest h.1 hr hk hz
  have HR := Lib.hid hr
  have HZ := Lib.hid hz
  have HB := Lib.hid h
  clear h hr hz
  go_enter Try.func50, Try.ntmps50
  go_wp2_with (first
    | (refine wpList_alloc_at rfl 76 rfl _ zero_frame w.heap.size rfl ?_
       intro w1 hb1 hw1
       have HG1 : Hid (GS w A l w1 w.heap.size) := ⟨HB.out.below hw1, hb1, hw1, Nat.le_refl _⟩
       clear hb1 hw1))
  refine (right_any A 128 c l w1 HG1.out.bs (by omega) hc).mono ?_
  rw [HR.out]
  rintro e w2 ⟨rfl, hb2⟩
  have HG2 := Lib.hid (HG1.out.step hb2)
  clear hb2 HG1
  obtain ⟨b, o, rfl, hcell⟩ := HG2.out.byte
  have h0 : w2.cell? ⟨b, o, none⟩ = some (.int .u8 ((l.getD 0 0).toNat : Int)) := hcell 0 (by omega)
  have h3 := hcell 3 (by omega)
  clear hcell
  generalize l.getD 0 0 = x0 at *
  generalize l.getD 3 0 = x3 at *
  have b0 := x0.toNat_lt
  have b3 := x3.toNat_lt
  go_wp2_with fail
  go_quiet (fail)
  go_wp2_with fail
  refine (within_one 1 4 _ _ _ _ _ (by simp)).mono ?_
  have HG3 : Hid (GS w (some ⟨b, o, none⟩) l ((w2.drewN nq).alloc (.cells #[.int .i64 (x0.toNat : Int)] 3)) w.heap.size) := (HG2.out.drewN nq).step ((Below.refl _ _).alloc (Nat.le_refl _) _)
  clear HG2
  rw [allIn_one (by omega) (by omega)]
  rintro e w' ⟨rfl, rfl⟩
  have hx3 : decide ((108 : Int) < (x3.toNat : Int)) = false := by simp; omega
  generalize (w2.drewN nq).alloc (.cells #[.int .i64 (x0.toNat : Int)] 3) = w3 at *
  go_wp2_with fail
  refine (blank_any _ _ _ _ w3 (HG3.out.bs.part (16 + x3.toNat) (124 - (16 + x3.toNat)) (by omega)) (by omega)).mono ?_
  rw [show 124 - (16 + x3.toNat) = 108 - x3.toNat by omega, HZ.out]
  rintro e w' ⟨rfl, rfl⟩
  go_wp2_with (first
    | (refine Did.list rfl (did_build 76 #[] rfl (frc 0 0 0 0 0 none 0 0) built_zero) ?_)
    | (refine wpList_store_any rfl 76 (.tmp 2) (.tmp 40) rfl w.heap.size (frc 0 0 0 0 0 none 0 0) rfl rfl 76 _ HG3.out.res size_frame rfl (frc_all _ _ _ _ _ _ _ _) ?_
       intro wz hb hs hw
       have HBZ := Lib.hid hb
       have HWZ : Hid (Below w.heap.size w wz) := HG3.out.below.trans (Keep.below (hw.mono fun k hk => by have := HG3.out.lo; omega))
       clear hb hs hw))
  refine bodyPost_ret (results_fr rfl _ wz w.heap.size _ HBZ.out size_frame (by rfl) (by rfl) Try.underlying76) rfl (Got.no HE.out (by decide) HWZ.out)

end Go.Proofs.Ytcieahfhpanogaa
