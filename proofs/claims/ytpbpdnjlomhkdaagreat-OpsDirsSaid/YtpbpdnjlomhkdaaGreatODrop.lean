/-
  Contract of drop: an entry that goes, with its thing (layer 13).
-/
import Derived.Test.YtpbpdnjlomhkdaaGreatOMake
namespace Go.Proofs.YtpbpdnjlomhkdaaGreat
open Go.RowKit Go.Shelf

namespace Op
theorem touch_swap (t : TT) (i j : Nat) : touch t [j, i] = touch t [i, j] := by
  have h : (touch t [j, i]).s = (touch t [i, j]).s := by
    funext a
    rw [touch_at, touch_at]
    have : (a ∈ [j, i]) ↔ (a ∈ [i, j]) := by simp [or_comm]
    simp only [this]
  show (⟨(touch t [j, i]).s, bump t, t.rm⟩ : TT) = ⟨(touch t [i, j]).s, bump t, t.rm⟩
  rw [h]
theorem fin_swap (t : TT) (r : Rp) (i j k : Nat) : fin t r [j, i] k = fin t r [i, j] k := by
  unfold fin
  rw [touch_swap]
theorem leave_dt {t : TT} {i : Nat} (h : Dir t i) {nm : List UInt8} {e : En} (hl : look t i nm = some e) (hn : ∀ j, j < 24 → (t.s j).dt.length ≤ 1000000) : ∀ j, j < 24 → ((leave t i nm).s j).dt.length ≤ 1000000 := fun j hj => by
  by_cases e : j = i
  · subst e
    show ((set t j _).s j).dt.length ≤ _
    rw [set_at]
    have := (h.rem hl).2.1
    show (putE (remL (ents t j) nm)).length ≤ _
    omega
  · show ((set t i _).s j).dt.length ≤ _
    rw [set_other t _ e]
    exact hn j hj
theorem unlink_dt {t : TT} {k : Nat} (hn : ∀ j, j < 24 → (t.s j).dt.length ≤ 1000000) : ∀ j, j < 24 → ((unlink t k).s j).dt.length ≤ 1000000 := fun j hj => by
  by_cases e : j = k
  · subst e
    unfold unlink
    rw [set_at]
    split
    · show 0 ≤ _; omega
    · exact hn j hj
  · unfold unlink
    rw [set_other t _ e]
    exact hn j hj
theorem Sound.dts {t : TT} (h : Sound t) : ∀ i, i < 24 → (t.s i).dt.length ≤ 1000000 := fun i hi => by
  have := (Vl.okB_facts (h.inv.may.ok i hi)).2.2
  omega
end Op
section
variable {w0 w w' : World} {p g k : Nat} {t u : Op.TT} {sl : Nat → Sl} {c : Cl} {B : Option Addr} {n d : Nat} {r r' : Rp} {D D' : Option Addr} {m e m' e' : Nat} {E E' : Option Addr} {q f q' f' : Nat}
/-- A change of two, and what is told of it. -/
theorem fin_two (hx : RX w0 w p g k u sl c B n d (Op.rep0 c) none 0 0 none 0 0) {i j : Nat} (hi : i < 24) (hj : j < 24) (hn : ∀ i, i < 24 → (u.s i).dt.length ≤ 1000000) {w1 : World} (hw : w1 = w.alloc (.cells #[.pointer (some ⟨g, i * 9, none⟩), .pointer (some ⟨g, j * 9, none⟩)] 149)) :
    Calls Tryz.prog 112 #[.pointer (some ⟨p, 0, none⟩), .slice (some ⟨w.heap.size, 0, none⟩) 2 2] w1 (ChgX w0 p g k u [i, j] sl c B n d (Op.rep0 c) none 0 0 none 0 0) := by
  subst hw
  have h1 := hx.sx.lt
  have h2 := hx.run.lt
  refine change_any (hx.below (alloc_below w _)) (ptrs_two w g i j) ⟨by omega, by omega⟩ (fun a ha => ?_) (by show 2 ≤ 10; omega) hn
  rcases List.mem_cons.1 ha with h | h
  · rw [h]; exact hi
  · rw [List.mem_singleton.1 h]; exact hj
set_option maxRecDepth 100000 in
set_option maxHeartbeats 2000000 in
theorem drop_any (h : RX w0 w p g k t sl c B n d (Op.rep0 c) none 0 0 none 0 0) (hd : Op.Dir t c.ati) {z : En} (hl : Op.look t c.ati c.nm = some z) {j : Nat} (hj : j < 24) (hn : ∀ i, i < 24 → (t.s i).dt.length ≤ 1000000) :
    Calls Tryz.prog 117 #[.pointer (some ⟨p, 0, none⟩), .pointer (some ⟨g, c.ati * 9, none⟩), .pointer (some ⟨g, j * 9, none⟩)] w (OutQ w0 p g k c B n d (Op.fin (Op.unlink (Op.leave t c.ati c.nm) j) (Op.rep0 c) [c.ati, j] c.ati)) := by
  have HRM := Lib.hid (removeEntry_any h hd hl)
  have HN1 := Lib.hid (Op.leave_dt hd hl hn)
  have HAI := Lib.hid hd.lt
  have q8 := h.cellR 8 _ rfl
  obtain ⟨RR, hRR⟩ : ∃ RR, RR = Op.fin (Op.unlink (Op.leave t c.ati c.nm) j) (Op.rep0 c) [c.ati, j] c.ati := ⟨_, rfl⟩
  rw [← hRR]
  rw [← Op.fin_swap] at hRR
  have HR := Lib.hid hRR
  clear h hd hl hn hRR
  generalize Op.leave t c.ati c.nm = t1 at *
  go_enter Tryz.func117, Tryz.ntmps117
  go_wp2_with fail
  refine HRM.out.mono ?_
  rintro e w1 ⟨rfl, sl1, hx1, _⟩
  have HUN := Lib.hid (unlink_any hx1 hj)
  have HN2 := Lib.hid (Op.unlink_dt (k := j) HN1.out)
  clear hx1 HRM q8 HN1
  generalize Op.unlink t1 j = t2 at *
  go_wp2_with fail
  refine HUN.out.mono ?_
  rintro e w2 ⟨rfl, sl2, hx2, _⟩
  have HCH := Lib.hid (fin_two hx2 hj HAI.out HN2.out rfl)
  clear hx2 HUN HN2
  go_wp2_with fail
  refine HCH.out.mono ?_
  rintro e w10 (⟨rfl, h1, h2⟩ | ⟨rfl, h1, h2⟩)
  rotate_left
  · exact ⟨rfl, .no (HR.out.trans (if_pos h1)) h2⟩
  have HR4 : Hid (RR = .ok (Op.touch t2 [j, c.ati], Op.told (Op.touch t2 [j, c.ati]) (Op.rep0 c) c.ati)) := HR.out.trans (if_neg h1)
  have HRE := Lib.hid (report_any h2 HAI.out)
  clear h1 h2 HCH HR
  generalize Op.touch t2 [j, c.ati] = v at *
  go_wp2_with fail
  refine HRE.out.mono ?_
  rintro e w11 ⟨rfl, h1, h2⟩
  have HX11 := Lib.hid h1
  clear h1 h2 HRE
  go_wp2_with fail
  go_end0
  exact .ok HR4.out HX11.out (RM.none rfl rfl)
end
end Go.Proofs.YtpbpdnjlomhkdaaGreat
