/-
  TxnOwn walked (layer 10).
-/
import Derived.Test.YtnjkcodegcojcaaTTwo
import Derived.Lib.ConvBytes
import Derived.Deep.DeepCutAuto
namespace Go.Proofs.Ytnjkcodegcojcaa
open Go.RowKit

/-- '[]byte(s)' of a text: new bytes that may be written. -/
theorem run_bytes_txt (w : World) (l : List UInt8) : ∃ c w', (convert 9 25 (.string (txt l))).run Try.prog w = .ok (.slice (some ⟨w.heap.size, 0, none⟩) l.length c) w' ∧ BS w' (some ⟨w.heap.size, 0, none⟩) l.length l ∧ Below w.heap.size w w' ∧ l.length ≤ c ∧ (0 < l.length → w'.frozen? ⟨w.heap.size, 0, none⟩ = false) := by
  have hr := Lib.run_convert_string_bytes (P := Try.prog) w 9 25 5 (txt l) Try.underlying9 Try.underlying25 Try.underlying5
  rw [txt_size] at hr
  have hg := grownCap_ge w l.length 0 5
  refine ⟨_, _, hr, ⟨rfl, fun _ => ⟨w.heap.size, 0, rfl, fun j hj => ?_⟩⟩, ⟨rfl, rfl, rfl, ?_, fun k hk => Lib.bytesWorld_at_old w _ _ k hk⟩, hg, fun h0 => ?_⟩
  · rw [Nat.zero_add, Lib.bytesWorld_cell w _ _ j (by rw [txt_size]; exact hj)]
    simp [txt, hj]
  · rw [Lib.bytesWorld_size]
    omega
  · simp only [World.frozen?, Lib.bytesWorld_at_new]
    have hs : (Lib.bytesCells w 5 (txt l)).size ≠ 0 := by
      simp only [Lib.bytesCells, Array.size_append, Array.size_map, Array.size_replicate]
      have : (txt l).data.size = l.length := by simp [txt]
      omega
    simp
    intro h
    exact hs (by rw [h]; rfl)
/-- The two blocks. -/
theorem own_rows {w3 : World} {n ci g : Nat} {b : List UInt8} (hb : BS w3 (some ⟨g, 0, none⟩) n b) (hn : n ≤ 90) : RI (w3.alloc (.cells #[.slice (some ⟨g, 0, none⟩) n ci, .slice none 0 0] 25)) (some ⟨w3.heap.size, 0, none⟩) 2 [b, []] := by
  refine RI.of_block (rl := [⟨some ⟨g, 0, none⟩, n, ci⟩, ⟨none, 0, 0⟩]) (heap_alloc_new w3 (.cells #[.slice (some ⟨g, 0, none⟩) n ci, .slice none 0 0] 25)) rfl rfl fun k hk => ?_
  match k, hk with
  | 0, _ => exact ⟨hb.alloc _, le_big47 (by show n ≤ _; omega)⟩
  | 1, _ => exact ⟨BS.nil, Nat.zero_le _⟩
theorem own_chs {b l : List UInt8} (hl : 0 < l.length) : ((TX.new [b, []]).put 1 l).chs 2 = [(1, l)] := by
  have h1 : ((TX.new [b, []]).put 1 l).chg 1 = true := by
    rw [TX.chg_of (b := l) rfl]
    simp only [decide_eq_true_eq]
    intro h
    have : l = [] := h
    rw [this] at hl
    simp at hl
  have h0 : ((TX.new [b, []]).put 1 l).chg 0 = false := TX.chg_none rfl
  rw [TX.chs_yes h1, TX.chs_no h0]
  rfl
/-- The world of a call under a name, with what is known of it. -/
theorem calls_world {P : Program} {f : FuncId} {args : Array Value} {W : World} {Q : Ending → World → Prop} (I : World → Prop) (h : I W) (k : ∀ W', I W' → Calls P f args W' Q) : Calls P f args W Q := k W h
/-- .. likewise of code. -/
theorem wp_world {P : Program} {c : Code} {a : Act} {W : World} {Q : Exit → Act → World → Prop} (I : World → Prop) (h : I W) (k : ∀ W', I W' → c.wp P Q a W') : c.wp P Q a W := k W h
theorem BS.first {w : World} {A : Option Addr} {n : Nat} {l : List UInt8} (h : BS w A n l) (hn : 0 < n) : ∃ b o z, A = some ⟨b, o, none⟩ ∧ w.cell? ⟨b, o, none⟩ = some (.int .u8 z) ∧ b < w.heap.size := by
  obtain ⟨b, o, e, hj, hc⟩ := h.at hn
  exact ⟨b, o, _, e, by simpa using hc, World.block_lt_of_cell? w _ hc⟩
theorem frozen_setCell {w : World} {a : Addr} {v : Value} {b j : Nat} (h : b ≠ a.block) : (w.setCell a v).frozen? ⟨b, j, none⟩ = w.frozen? ⟨b, j, none⟩ := frozen_of_block (Below.heap_setCell w a v b h)
theorem BS.setCell_off {w : World} {A : Option Addr} {n : Nat} {l : List UInt8} (h : BS w A n l) {a : Addr} (v : Value) (ha : 0 < n → ∀ ad, A = some ad → ad.block ≠ a.block) : BS (w.setCell a v) A n l :=
  ⟨h.1, fun hn => by
    obtain ⟨b, o, e, hc⟩ := h.2 hn
    exact ⟨b, o, e, fun j hj => (World.cell?_of_block (a := ⟨b, o + j, none⟩) (Below.heap_setCell w a v b (ha hn _ e))).trans (hc j hj)⟩⟩
theorem txtB (l : List UInt8) : ((txt l).toList == (txt l).toList) = true := by simp

set_option maxRecDepth 100000 in
set_option maxHeartbeats 4000000 in
theorem own_walk (A B : Option Addr) (n m c d : Nat) (b l : List UInt8) (x : Int) (w : World) (hA : BS w A n b) (hB : BS w B m l) :
    Calls Try.prog 6 #[.slice A n c, .slice B m d, .int .u8 x] w fun e w' => e = .returned (.bool true) ∧ Below w.heap.size w w' := by
  have HA := Lib.hid hA
  have HB := Lib.hid hB
  have HAN : Hid (b.length = n) := hA.1
  have HBN : Hid (l.length = m) := hB.1
  clear hA hB
  by_cases hn0 : n = 0
  · subst hn0
    go_enter Try.func6, Try.ntmps6
    go_wp2_with fail
    refine (awake_any w).mono ?_
    rintro e w1 ⟨rfl, hb1⟩
    have HW1 := Lib.hid hb1
    clear hb1
    go_wp2_with fail
    go_ret
    exact ⟨rfl, HW1.out⟩
  have q0 : ((n : Int) == 0) = false := by simp; omega
  by_cases hm0 : m = 0
  · subst hm0
    go_enter Try.func6, Try.ntmps6
    go_wp2_with fail
    refine (awake_any w).mono ?_
    rintro e w1 ⟨rfl, hb1⟩
    have HW1 := Lib.hid hb1
    clear hb1
    go_wp2_with fail
    go_ret
    exact ⟨rfl, HW1.out⟩
  have q1 : ((m : Int) == 0) = false := by simp; omega
  by_cases hn9 : 90 < n
  · have q2 : decide ((90 : Int) < (n : Int)) = true := by simp; omega
    go_enter Try.func6, Try.ntmps6
    go_wp2_with fail
    refine (awake_any w).mono ?_
    rintro e w1 ⟨rfl, hb1⟩
    have HW1 := Lib.hid hb1
    clear hb1
    go_wp2_with fail
    go_ret
    exact ⟨rfl, HW1.out⟩
  have q2 : decide ((90 : Int) < (n : Int)) = false := by simp; omega
  by_cases hm9 : 90 < m
  · have q3 : decide ((90 : Int) < (m : Int)) = true := by simp; omega
    go_enter Try.func6, Try.ntmps6
    go_wp2_with fail
    refine (awake_any w).mono ?_
    rintro e w1 ⟨rfl, hb1⟩
    have HW1 := Lib.hid hb1
    clear hb1
    go_wp2_with fail
    go_ret
    exact ⟨rfl, HW1.out⟩
  have q3 : decide ((90 : Int) < (m : Int)) = false := by simp; omega
  by_cases hx0 : x = 0
  · subst hx0
    go_enter Try.func6, Try.ntmps6
    go_wp2_with fail
    refine (awake_any w).mono ?_
    rintro e w1 ⟨rfl, hb1⟩
    have HW1 := Lib.hid hb1
    clear hb1
    go_wp2_with fail
    go_ret
    exact ⟨rfl, HW1.out⟩
  have q4 : (x == 0) = false := by simp; omega
  have n0 : 0 < n := by omega
  have m0 : 0 < m := by omega
  have N9 : Hid (n ≤ 90 ∧ m ≤ 90) := ⟨by omega, by omega⟩
  clear hn0 hm0 hn9 hm9 hx0
  go_enter Try.func6, Try.ntmps6
  go_wp2_with fail
  refine (awake_any w).mono ?_
  rintro e w1 ⟨rfl, hb1⟩
  have HW1 := Lib.hid hb1
  clear hb1
  have r1 := run_convert_bs w1 A n c b (HA.out.below HW1.out)
  obtain ⟨ci, w2, r2, hi2, hb2, hc2, hf2⟩ := run_bytes_txt w1 b
  rw [HAN.out] at r2 hi2 hc2 hf2
  have HW2 := Lib.hid (HW1.out.trans (hb2.mono HW1.out.size))
  have r3 := run_convert_bs w2 B m d l (HB.out.below HW2.out)
  obtain ⟨co, w3, r4, hi3, hb3, hc3, hf3⟩ := run_bytes_txt w2 l
  rw [HBN.out] at r4 hi3 hc3 hf3
  have HI2 := Lib.hid hi2
  have HI3 := Lib.hid hi3
  have HW3 := Lib.hid (HW2.out.trans (hb3.mono HW2.out.size))
  have HF2 := Lib.hid (hf2 n0)
  have HF3 := Lib.hid (hf3 m0)
  have HB2 := Lib.hid hb2
  have HB3 := Lib.hid hb3
  clear hi2 hi3 hb2 hb3 hf2 hf3 hc2 hc3
  go_wp2_with fail
  clear r1 r2 r3 r4
  have HW4 : Hid (Below w.heap.size w (w3.alloc (.cells #[.slice (some ⟨w1.heap.size, 0, none⟩) n ci, .slice none 0 0] 25))) := HW3.out.alloc HW3.out.size _
  have HI4 : Hid (BS (w3.alloc (.cells #[.slice (some ⟨w1.heap.size, 0, none⟩) n ci, .slice none 0 0] 25)) (some ⟨w1.heap.size, 0, none⟩) n b) := (HI2.out.below HB3.out).alloc _
  have HJ4 : Hid (BS (w3.alloc (.cells #[.slice (some ⟨w1.heap.size, 0, none⟩) n ci, .slice none 0 0] 25)) (some ⟨w2.heap.size, 0, none⟩) m l) := HI3.out.alloc _
  have hl2 : w1.heap.size < w2.heap.size := HI2.out.lt_block n0 ⟨w1.heap.size, 0, none⟩ rfl
  have hl3 : w2.heap.size < w3.heap.size := HI3.out.lt_block m0 ⟨w2.heap.size, 0, none⟩ rfl
  have HR := Lib.hid (own_rows (ci := ci) (HI2.out.below HB3.out) N9.out.1)
  have HF4 : Hid ((w3.alloc (.cells #[.slice (some ⟨w1.heap.size, 0, none⟩) n ci, .slice none 0 0] 25)).frozen? ⟨w1.heap.size, 0, none⟩ = false) := by
    show _ = _
    rw [frozen_of_block (w := w3) (Below.heap_alloc _ _ _ (by omega)), frozen_of_block (w := w2) (HB3.out.block _ hl2)]
    exact HF2.out
  have HG4 : Hid ((w3.alloc (.cells #[.slice (some ⟨w1.heap.size, 0, none⟩) n ci, .slice none 0 0] 25)).frozen? ⟨w2.heap.size, 0, none⟩ = false) := by
    show _ = _
    rw [frozen_of_block (w := w3) (Below.heap_alloc _ _ _ hl3)]
    exact HF3.out
  have HZ4 : Hid (w3.heap.size < (w3.alloc (.cells #[.slice (some ⟨w1.heap.size, 0, none⟩) n ci, .slice none 0 0] 25)).heap.size) := by show _ < _; rw [World.size_alloc]; omega
  have HL : Hid (w.heap.size ≤ w1.heap.size ∧ w1.heap.size < w2.heap.size ∧ w2.heap.size < w3.heap.size) := ⟨HW1.out.size, hl2, hl3⟩
  clear HB2 HB3 HI2 HI3 HF2 HF3 HW2 HW3 hl2 hl3
  refine (new_any _ 2 2 [b, []] _ HR.out (by omega)).mono ?_
  generalize w3.alloc (.cells #[.slice (some ⟨w1.heap.size, 0, none⟩) n ci, .slice none 0 0] 25) = w4 at *
  rintro e w5 ⟨g, tm, p, rfl, h1, h2, -, -⟩
  have HT5 := Lib.hid h1
  have HW5 := Lib.hid (HW4.out.trans (h2.mono HW4.out.size))
  have HB5 := Lib.hid h2
  clear h1 h2 HR
  obtain ⟨_, _, z1, e1, k1, -⟩ := (HI4.out.below HB5.out).first n0
  cases e1
  have f1 : w5.frozen? ⟨w1.heap.size, 0, none⟩ = false := by
    rw [frozen_of_block (w := w4) (HB5.out.block _ (by have := HL.out; have := HZ4.out; omega))]
    exact HF4.out
  have HK6 : Hid (∀ v, Tq (w5.setCell ⟨w1.heap.size, 0, none⟩ v) p tm ⟨some ⟨g, 0, none⟩, 2, 2⟩ (fun z => w4.heap.size ≤ z) (TX.new [b, []]) ∧ BS (w5.setCell ⟨w1.heap.size, 0, none⟩ v) (some ⟨w2.heap.size, 0, none⟩) m l ∧ Below w.heap.size w (w5.setCell ⟨w1.heap.size, 0, none⟩ v) ∧ (w5.setCell ⟨w1.heap.size, 0, none⟩ v).frozen? ⟨w2.heap.size, 0, none⟩ = false ∧ w4.heap.size ≤ (w5.setCell ⟨w1.heap.size, 0, none⟩ v).heap.size) := fun v => by
    have hL := HL.out
    have hZ := HZ4.out
    refine ⟨HT5.out.keep fun k hk _ => Below.heap_setCell w5 ⟨w1.heap.size, 0, none⟩ v k (by show k ≠ w1.heap.size; omega), (HJ4.out.below HB5.out).setCell_off v (fun _ ad e => by cases e; show w2.heap.size ≠ w1.heap.size; omega), HW5.out.setCell (by show w.heap.size ≤ w1.heap.size; omega) v, ?_, ?_⟩
    · rw [frozen_setCell (by show w2.heap.size ≠ w1.heap.size; omega), frozen_of_block (w := w4) (HB5.out.block _ (by omega))]
      exact HG4.out
    · have := HB5.out.size
      rw [World.size_setCell]
      exact this
  clear HI4 HF4 HT5 HW5
  go_wp2_with fail
  clear k1 f1
  refine calls_world (fun W => Tq W p tm ⟨some ⟨g, 0, none⟩, 2, 2⟩ (fun z => w4.heap.size ≤ z) (TX.new [b, []]) ∧ BS W (some ⟨w2.heap.size, 0, none⟩) m l ∧ Below w.heap.size w W ∧ W.frozen? ⟨w2.heap.size, 0, none⟩ = false ∧ w4.heap.size ≤ W.heap.size) (HK6.out _) (fun w6 h6 => ?_)
  clear HK6 HB5 HJ4 HG4
  obtain ⟨h6a, h6b, h6c, h6d, h6e⟩ := h6
  refine (put_any h6a (fun k hk => Nat.le_trans h6e hk) 1 _ m co l h6b).mono ?_
  rintro e w7 ⟨rfl, h1, h2⟩
  have hl96 : l.length ≤ 96 := by rw [HBN.out]; have := N9.out.2; omega
  rw [show TX.perr (Sl.n ⟨some ⟨g, 0, none⟩, 2, 2⟩) 1 l = 0 from TX.perr_ok rfl hl96]
  rw [show (TX.new [b, []]).putI (Sl.n ⟨some ⟨g, 0, none⟩, 2, 2⟩) 1 l = (TX.new [b, []]).put 1 l from TX.putI_ok (i := 1) (show 1 < 2 by omega) hl96] at h1
  have HT7 := Lib.hid h1
  have HJ7 := Lib.hid (h6b.ch h2)
  have HW7 : Hid (Below w.heap.size w w7) := h6c.trans (h2.below h6c.size fun k hk => by rw [hk]; have := h6a.sm; have := HW4.out.size; omega)
  have f7 : w7.frozen? ⟨w2.heap.size, 0, none⟩ = false := by
    rw [frozen_of_block (w := w6) (h2.1.block _ ⟨h6b.lt_block m0 _ rfl, fun e => by have h9 : w4.heap.size ≤ tm := h6a.sm; have := HL.out; have := HZ4.out; have e' : w2.heap.size = tm := e; omega⟩)]
    exact h6d
  clear h1 h2 h6a h6b h6c h6d h6e hl96
  obtain ⟨_, _, z2, e1, k1, -⟩ := HJ7.out.first m0
  cases e1
  have HK8 : Hid (∀ v, Tq (w7.setCell ⟨w2.heap.size, 0, none⟩ v) p tm ⟨some ⟨g, 0, none⟩, 2, 2⟩ (fun z => w4.heap.size ≤ z) ((TX.new [b, []]).put 1 l) ∧ Below w.heap.size w (w7.setCell ⟨w2.heap.size, 0, none⟩ v)) := fun v => by
    have hL := HL.out
    have hZ := HZ4.out
    exact ⟨HT7.out.keep fun k hk _ => Below.heap_setCell w7 ⟨w2.heap.size, 0, none⟩ v k (by show k ≠ w2.heap.size; omega), HW7.out.setCell (by show w.heap.size ≤ w2.heap.size; omega) v⟩
  clear HT7 HW7 HJ7
  go_wp2_with fail
  clear k1 f7
  refine calls_world (fun W => Tq W p tm ⟨some ⟨g, 0, none⟩, 2, 2⟩ (fun z => w4.heap.size ≤ z) ((TX.new [b, []]).put 1 l) ∧ Below w.heap.size w W) (HK8.out _) (fun w8 h8 => ?_)
  clear HK8
  obtain ⟨h8a, h8b⟩ := h8
  have HT8 := Lib.hid h8a
  have HW8 := Lib.hid h8b
  clear h8a h8b
  refine (get_ok HT8.out 0 (show 0 < 2 by omega)).mono ?_
  rw [show ((TX.new [b, []]).put 1 l).get 0 = b from rfl]
  rintro e w9 ⟨A9, n9, c9, rfl, h1, -, -, h4, h5, h6⟩
  have HP9 := Lib.hid h1
  have HN9 := Lib.hid h4
  have HB9 := Lib.hid h5
  have HF9 := Lib.hid h6
  clear h1 h4 h5 h6
  go_wp2_with fail
  refine (get_ok (HT8.out.below HB9.out) 1 (show 1 < 2 by omega)).mono ?_
  rw [show ((TX.new [b, []]).put 1 l).get 1 = l from rfl]
  rintro e wx ⟨Ax, nx, cx, rfl, h1, -, -, h4, h5, h6⟩
  have HPx := Lib.hid h1
  have HNx := Lib.hid h4
  have HBx := Lib.hid h5
  have HFx := Lib.hid h6
  clear h1 h4 h5 h6
  have HWx : Hid (Below w.heap.size w wx) := HW8.out.trans ((HB9.out.trans (HBx.out.mono HB9.out.size)).mono HW8.out.size)
  have r1 := run_convert_bs wx A9 n9 c9 b (HP9.out.below HBx.out)
  have r2 := run_convert_bs wx Ax nx cx l HPx.out
  have r3 := run_convert_bs wx A n c b (HA.out.below HWx.out)
  have r4 := run_convert_bs wx B m d l (HB.out.below HWx.out)
  go_upto_region 16 with (fail)
  clear r1 r2 r3 r4
  obtain ⟨pb, po, z3, e9, k1, lp⟩ := HP9.out.first (by have := HP9.out.1; have := HAN.out; omega)
  have n1 : 0 < n9 := by have := HP9.out.1; have := HAN.out; omega
  have n2 : 0 < nx := by have := HPx.out.1; have := HBN.out; omega
  obtain ⟨qb, qo, z4, ex, k2, lq⟩ := HPx.out.first n2
  have hp8 : w8.heap.size ≤ pb := HN9.out _ e9
  have hq9 : w9.heap.size ≤ qb := HNx.out _ ex
  have hs8 := HB9.out.size
  have hs9 := HBx.out.size
  have f1 : wx.frozen? ⟨pb, po, none⟩ = false := by rw [frozen_of_block (w := w9) (HBx.out.block _ lp)]; exact HF9.out _ e9 po
  have f2 : wx.frozen? ⟨qb, qo, none⟩ = false := HFx.out _ ex qo
  have k1' : wx.cell? ⟨pb, po, none⟩ = some (.int .u8 z3) := (HBx.out.cell (p := ⟨pb, po, none⟩) lp).trans k1
  have HK : Hid (∀ v u, Tq ((wx.setCell ⟨pb, po, none⟩ v).setCell ⟨qb, qo, none⟩ u) p tm ⟨some ⟨g, 0, none⟩, 2, 2⟩ (fun z => w4.heap.size ≤ z) ((TX.new [b, []]).put 1 l) ∧ Below w.heap.size w ((wx.setCell ⟨pb, po, none⟩ v).setCell ⟨qb, qo, none⟩ u)) := fun v u => by
    have hB : Below w8.heap.size w8 ((wx.setCell ⟨pb, po, none⟩ v).setCell ⟨qb, qo, none⟩ u) := ((HB9.out.trans (HBx.out.mono hs8)).setCell hp8 v).setCell (by show w8.heap.size ≤ qb; omega) u
    exact ⟨HT8.out.below hB, HW8.out.trans (hB.mono HW8.out.size)⟩
  have g1 : ∀ v, (wx.setCell ⟨pb, po, none⟩ v).cell? ⟨qb, qo, none⟩ = some (.int .u8 z4) := fun v => (World.cell?_of_block (a := ⟨qb, qo, none⟩) (Below.heap_setCell wx ⟨pb, po, none⟩ v qb (by show qb ≠ pb; omega))).trans k2
  have g2 : ∀ v, (wx.setCell ⟨pb, po, none⟩ v).frozen? ⟨qb, qo, none⟩ = false := fun v => (frozen_setCell (by show qb ≠ pb; omega)).trans f2
  subst e9 ex
  clear k1 k2 f2 lp lq hp8 hq9 hs8 hs9 HP9 HN9 HB9 HF9 HPx HNx HBx HFx HT8 HW8
  go_wp2_with fail
  refine calls_world (fun W => Tq W p tm ⟨some ⟨g, 0, none⟩, 2, 2⟩ (fun z => w4.heap.size ≤ z) ((TX.new [b, []]).put 1 l) ∧ Below w.heap.size w W) (HK.out _ _) (fun wy hy => ?_)
  clear HK k1' f1 g1 g2 HWx
  obtain ⟨hya, hyb⟩ := hy
  have HTy := Lib.hid hya
  have HWy := Lib.hid hyb
  clear hya hyb
  refine (changes_any HTy.out (by show 2 ≤ _; omega)).mono ?_
  rw [show ((TX.new [b, []]).put 1 l).chs (Sl.n ⟨some ⟨g, 0, none⟩, 2, 2⟩) = [(1, l)] from own_chs (by rw [HBN.out]; exact m0)]
  intro e wz hc
  have hc' : ChgQ wy [(1, l)] e wz := hc
  obtain ⟨Az, cz, slz, rfl, h5, hbz, hsoft⟩ := hc'
  have HBz := Lib.hid hbz
  have HWz := Lib.hid (HWy.out.trans (hbz.mono HWy.out.size))
  have HSZ := Lib.hid hsoft
  obtain ⟨gw, y, rfl, rfl, hgw, k1, k2, k3, -, hown⟩ := h5.one
  have HY := Lib.hid k3
  have HYo := Lib.hid hown
  have HGW : Hid (w.heap.size ≤ gw ∧ wy.heap.size ≤ gw) := ⟨Nat.le_trans HWy.out.size hgw, hgw⟩
  have r2 := run_convert_bs wz.drew y.a y.n y.c l k3.drew
  have r4 := run_convert_bs wz.drew B m d l (HB.out.below HWz.out).drew
  have HS : Hid ((fun W : World => W.cell? ⟨gw, 0, none⟩ = some (.int .i64 1) ∧ W.cell? ⟨gw, 1, none⟩ = some (.slice y.a y.n y.c) ∧ (convert 25 9 (.slice y.a y.n y.c)).run Try.prog W = .ok (.string (txt l)) W ∧ (convert 25 9 (.slice B m d)).run Try.prog W = .ok (.string (txt l)) W) wz.drew) := ⟨k1, k2, r2, r4⟩
  clear hc hbz h5 hsoft k1 k2 k3 hown r2 r4 hgw
  go_wp2_with fail
  refine wp_region_held_drew (S := fun W => W.cell? ⟨gw, 0, none⟩ = some (.int .i64 1) ∧ W.cell? ⟨gw, 1, none⟩ = some (.slice y.a y.n y.c) ∧ (convert 25 9 (.slice y.a y.n y.c)).run Try.prog W = .ok (.string (txt l)) W ∧ (convert 25 9 (.slice B m d)).run Try.prog W = .ok (.string (txt l)) W) (by kernel_rfl) HS.out (fun _ => ?_)
  change wpAnyH _ _ _ _ _ 20 (Array.replicate 20 false) _ _
  refine takeH (i := 0) 98 (.slice (some ⟨gw, 0, none⟩) 1 cz) rfl rfl (by kernel_rfl) (by kernel_rfl) (by kernel_rfl) (fun _ _ _ h => h) (.inl ⟨by rfl, fun W hW => by go_simp⟩) HS.out ?_
  simp only [Act.put, List.setIfInBounds_toArray, List.set_cons_zero, List.set_cons_succ]
  refine takeH (i := 1) 99 (.int .i64 1) rfl rfl (by kernel_rfl) (by kernel_rfl) (by kernel_rfl) (fun _ _ _ h => h) (.inl ⟨by rfl, fun W hW => by go_simp⟩) HS.out ?_
  simp only [Act.put, List.setIfInBounds_toArray, List.set_cons_zero, List.set_cons_succ]
  refine takeH (i := 2) 100 (.bool false) rfl rfl (by kernel_rfl) (by kernel_rfl) (by kernel_rfl) (fun _ _ _ h => h) (.inl ⟨by rfl, fun W hW => by go_simp⟩) HS.out ?_
  simp only [Act.put, List.setIfInBounds_toArray, List.set_cons_zero, List.set_cons_succ]
  refine takeH (i := 3) 101 (.bool false) rfl rfl (by kernel_rfl) (by kernel_rfl) (by kernel_rfl) (fun _ _ _ h => h) (.inl ⟨by rfl, fun W hW => by go_simp⟩) HS.out ?_
  simp only [Act.put, List.setIfInBounds_toArray, List.set_cons_zero, List.set_cons_succ]
  refine takeH (i := 4) 102 (.slice (some ⟨gw, 0, none⟩) 1 cz) rfl rfl (by kernel_rfl) (by kernel_rfl) (by kernel_rfl) (fun _ _ _ h => h) (.inl ⟨by rfl, fun W hW => by go_simp⟩) HS.out ?_
  simp only [Act.put, List.setIfInBounds_toArray, List.set_cons_zero, List.set_cons_succ]
  refine takeH (i := 5) 103 (.pointer (some ⟨gw, 0, none⟩)) rfl rfl (by kernel_rfl) (by kernel_rfl) (by kernel_rfl) (fun _ _ _ h => h) (.inl ⟨by rfl, fun W hW => by go_simp⟩) HS.out ?_
  simp only [Act.put, List.setIfInBounds_toArray, List.set_cons_zero, List.set_cons_succ]
  refine takeH (i := 6) 104 (.pointer (some ⟨gw, 0, none⟩)) rfl rfl (by kernel_rfl) (by kernel_rfl) (by kernel_rfl) (fun _ _ _ h => h) (.inl ⟨by rfl, fun W hW => by go_simp⟩) HS.out ?_
  simp only [Act.put, List.setIfInBounds_toArray, List.set_cons_zero, List.set_cons_succ]
  refine takeH (i := 7) 105 (.int .i64 1) rfl rfl (by kernel_rfl) (by kernel_rfl) (by kernel_rfl) (fun _ _ _ h => h) (.inl ⟨by rfl, fun W hW => by (obtain ⟨hz0, hz1, hz2, hz3⟩ := hW; go_simp)⟩) HS.out ?_
  simp only [Act.put, List.setIfInBounds_toArray, List.set_cons_zero, List.set_cons_succ]
  refine takeH (i := 8) 106 (.bool false) rfl rfl (by kernel_rfl) (by kernel_rfl) (by kernel_rfl) (fun _ _ _ h => h) (.inl ⟨by rfl, fun W hW => by go_simp⟩) HS.out ?_
  simp only [Act.put, List.setIfInBounds_toArray, List.set_cons_zero, List.set_cons_succ]
  refine takeH (i := 9) 107 (.bool false) rfl rfl (by kernel_rfl) (by kernel_rfl) (by kernel_rfl) (fun _ _ _ h => h) (.inl ⟨by rfl, fun W hW => by go_simp⟩) HS.out ?_
  simp only [Act.put, List.setIfInBounds_toArray, List.set_cons_zero, List.set_cons_succ]
  refine takeH (i := 10) 108 (.bool false) rfl rfl (by kernel_rfl) (by kernel_rfl) (by kernel_rfl) (fun _ _ _ h => h) (.inl ⟨by rfl, fun W hW => by go_simp⟩) HS.out ?_
  simp only [Act.put, List.setIfInBounds_toArray, List.set_cons_zero, List.set_cons_succ]
  refine takeH (i := 11) 109 (.slice (some ⟨gw, 0, none⟩) 1 cz) rfl rfl (by kernel_rfl) (by kernel_rfl) (by kernel_rfl) (fun _ _ _ h => h) (.inl ⟨by rfl, fun W hW => by go_simp⟩) HS.out ?_
  simp only [Act.put, List.setIfInBounds_toArray, List.set_cons_zero, List.set_cons_succ]
  refine takeH (i := 12) 110 (.pointer (some ⟨gw, 0, none⟩)) rfl rfl (by kernel_rfl) (by kernel_rfl) (by kernel_rfl) (fun _ _ _ h => h) (.inl ⟨by rfl, fun W hW => by go_simp⟩) HS.out ?_
  simp only [Act.put, List.setIfInBounds_toArray, List.set_cons_zero, List.set_cons_succ]
  refine takeH (i := 13) 111 (.pointer (some ⟨gw, 1, none⟩)) rfl rfl (by kernel_rfl) (by kernel_rfl) (by kernel_rfl) (fun _ _ _ h => h) (.inl ⟨by rfl, fun W hW => by go_simp⟩) HS.out ?_
  simp only [Act.put, List.setIfInBounds_toArray, List.set_cons_zero, List.set_cons_succ]
  refine takeH (i := 14) 112 (.slice y.a y.n y.c) rfl rfl (by kernel_rfl) (by kernel_rfl) (by kernel_rfl) (fun _ _ _ h => h) (.inl ⟨by rfl, fun W hW => by (obtain ⟨hz0, hz1, hz2, hz3⟩ := hW; go_simp)⟩) HS.out ?_
  simp only [Act.put, List.setIfInBounds_toArray, List.set_cons_zero, List.set_cons_succ]
  refine takeH (i := 15) 113 (.string (txt l)) rfl rfl (by kernel_rfl) (by kernel_rfl) (by kernel_rfl) (fun _ _ _ h => h) (.inl ⟨by rfl, fun W hW => by (obtain ⟨hz0, hz1, hz2, hz3⟩ := hW; go_simp)⟩) HS.out ?_
  simp only [Act.put, List.setIfInBounds_toArray, List.set_cons_zero, List.set_cons_succ]
  refine takeH (i := 16) 114 (.slice B m d) rfl rfl (by kernel_rfl) (by kernel_rfl) (by kernel_rfl) (fun _ _ _ h => h) (.inl ⟨by rfl, fun W hW => by go_simp⟩) HS.out ?_
  simp only [Act.put, List.setIfInBounds_toArray, List.set_cons_zero, List.set_cons_succ]
  refine takeH (i := 17) 115 (.string (txt l)) rfl rfl (by kernel_rfl) (by kernel_rfl) (by kernel_rfl) (fun _ _ _ h => h) (.inl ⟨by rfl, fun W hW => by (obtain ⟨hz0, hz1, hz2, hz3⟩ := hW; go_simp)⟩) HS.out ?_
  simp only [Act.put, List.setIfInBounds_toArray, List.set_cons_zero, List.set_cons_succ]
  refine takeH (i := 18) 116 (.bool false) rfl rfl (by kernel_rfl) (by kernel_rfl) (by kernel_rfl) (fun _ _ _ h => h) (.inl ⟨by rfl, fun W hW => by go_simp⟩) HS.out ?_
  simp only [Act.put, List.setIfInBounds_toArray, List.set_cons_zero, List.set_cons_succ]
  refine takeH (i := 19) 117 (.bool false) rfl rfl (by kernel_rfl) (by kernel_rfl) (by kernel_rfl) (fun _ _ _ h => h) (.inl ⟨by rfl, fun W hW => by go_simp⟩) HS.out ?_
  simp only [Act.put, List.setIfInBounds_toArray, List.set_cons_zero, List.set_cons_succ]
  refine wpAnyH_done (by kernel_rfl) ?_ _
  have yn : 0 < y.n := by have := HY.out.1; have := HBN.out; omega
  obtain ⟨yb, yo, z5, ey, j1, -⟩ := HY.out.first yn
  have hyb := HYo.out yn _ ey
  have j2 : wz.drew.frozen? ⟨yb, yo, none⟩ = false := HSZ.out 0 (by simp) yn _ ey yo
  have j3 : wz.drew.cell? ⟨yb, yo, none⟩ = some (.int .u8 z5) := j1
  have j4 := HS.out.2.1
  rw [ey] at j4
  have HK : Hid (∀ v, Tq (wz.drew.setCell ⟨yb, yo, none⟩ v) p tm ⟨some ⟨g, 0, none⟩, 2, 2⟩ (fun z => w4.heap.size ≤ z) ((TX.new [b, []]).put 1 l) ∧ Below w.heap.size w (wz.drew.setCell ⟨yb, yo, none⟩ v)) := fun v => by
    have hB : Below wy.heap.size wy (wz.drew.setCell ⟨yb, yo, none⟩ v) := (HBz.out.drew).setCell hyb v
    exact ⟨HTy.out.below hB, HWy.out.trans (hB.mono HWy.out.size)⟩
  clear hyb j1 HYo HSZ HBz HGW HS HTy HWy HWz HY
  rw [ey]
  go_upto_region 22 with (fail)
  clear j2 j3 j4
  refine wp_world (fun W => Tq W p tm ⟨some ⟨g, 0, none⟩, 2, 2⟩ (fun z => w4.heap.size ≤ z) ((TX.new [b, []]).put 1 l) ∧ Below w.heap.size w W) (HK.out _) (fun wq hq => ?_)
  obtain ⟨hqa, hqb⟩ := hq
  have HT := Lib.hid hqa.drew
  have HW : Hid (Below w.heap.size w wq.drew) := hqb.drew
  clear hqa hqb HK
  have HS : Hid ((fun W : World => (convert 25 9 (.slice A n c)).run Try.prog W = .ok (.string (txt b)) W ∧ (convert 25 9 (.slice B m d)).run Try.prog W = .ok (.string (txt l)) W) wq.drew) := ⟨run_convert_bs _ A n c b (HA.out.below HW.out), run_convert_bs _ B m d l (HB.out.below HW.out)⟩
  refine wp_region_held_drew (S := fun W => (convert 25 9 (.slice A n c)).run Try.prog W = .ok (.string (txt b)) W ∧ (convert 25 9 (.slice B m d)).run Try.prog W = .ok (.string (txt l)) W) (by kernel_rfl) HS.out (fun _ => ?_)
  change wpAnyH _ _ _ _ _ 15 (Array.replicate 15 false) _ _
  refine takeH (i := 0) 127 (.pointer (some ⟨p, 0, none⟩)) rfl rfl (by kernel_rfl) (by kernel_rfl) (by kernel_rfl) (fun _ _ _ h => h) (.inl ⟨by rfl, fun W hW => by go_simp⟩) HS.out ?_
  simp only [Act.put, List.setIfInBounds_toArray, List.set_cons_zero, List.set_cons_succ]
  refine takeH (i := 3) 130 (.slice A n c) rfl rfl (by kernel_rfl) (by kernel_rfl) (by kernel_rfl) (fun _ _ _ h => h) (.inl ⟨by rfl, fun W hW => by go_simp⟩) HS.out ?_
  simp only [Act.put, List.setIfInBounds_toArray, List.set_cons_zero, List.set_cons_succ]
  refine takeH (i := 4) 131 (.string (txt b)) rfl rfl (by kernel_rfl) (by kernel_rfl) (by kernel_rfl) (fun _ _ _ h => h) (.inl ⟨by rfl, fun W hW => by (obtain ⟨hz0, hz1⟩ := hW; go_simp)⟩) HS.out ?_
  simp only [Act.put, List.setIfInBounds_toArray, List.set_cons_zero, List.set_cons_succ]
  refine wpAnyH_ready (rs := [1]) (by kernel_rfl) (by simp) ?_
  refine AllReadyH.cons rfl (fun K hK => ?_) AllReadyH.nil
  go_simp
  refine (get_ok HT.out 0 (show 0 < 2 by omega)).mono ?_
  rw [show ((TX.new [b, []]).put 1 l).get 0 = b from rfl]
  rintro e w9 ⟨A9, n9, c9, rfl, h1, -, -, -, h5, -⟩
  have r1 := run_convert_bs w9 A9 n9 c9 b h1
  have HT9 := Lib.hid (HT.out.below h5)
  have HW9 := Lib.hid (HW.out.trans (h5.mono HW.out.size))
  have HS9 : Hid ((convert 25 9 (.slice A n c)).run Try.prog w9 = .ok (.string (txt b)) w9 ∧ (convert 25 9 (.slice B m d)).run Try.prog w9 = .ok (.string (txt l)) w9) := ⟨run_convert_bs _ A n c b (HA.out.below HW9.out), run_convert_bs _ B m d l (HB.out.below HW9.out)⟩
  refine hK.out _ _ HS9.out fun _ => ?_
  clear hK K h1 h5 HT HW HS
  refine wpAnyH_ready (rs := [2]) (by kernel_rfl) (by simp) ?_
  refine AllReadyH.cons rfl (fun K hK => ?_) AllReadyH.nil
  go_simp
  refine hK.out _ _ HS9.out fun _ => ?_
  clear hK K
  refine wpAnyH_ready (rs := [5]) (by kernel_rfl) (by simp) ?_
  refine AllReadyH.cons rfl (fun K hK => ?_) AllReadyH.nil
  go_simp
  refine hK.out _ _ HS9.out fun _ => ?_
  clear hK K
  refine wpAnyH_ready (rs := [6]) (by kernel_rfl) (by simp) ?_
  refine AllReadyH.cons rfl (fun K hK => ?_) AllReadyH.nil
  go_simp
  refine hK.out _ _ HS9.out fun _ => ?_
  clear hK K
  clear r1
  refine takeH (i := 7) 134 (.pointer (some ⟨p, 0, none⟩)) rfl rfl (by kernel_rfl) (by kernel_rfl) (by kernel_rfl) (fun _ _ _ h => h) (.inl ⟨by rfl, fun W hW => by go_simp⟩) HS9.out ?_
  simp only [Act.put, List.setIfInBounds_toArray, List.set_cons_zero, List.set_cons_succ]
  refine takeH (i := 10) 137 (.slice B m d) rfl rfl (by kernel_rfl) (by kernel_rfl) (by kernel_rfl) (fun _ _ _ h => h) (.inl ⟨by rfl, fun W hW => by go_simp⟩) HS9.out ?_
  simp only [Act.put, List.setIfInBounds_toArray, List.set_cons_zero, List.set_cons_succ]
  refine takeH (i := 11) 138 (.string (txt l)) rfl rfl (by kernel_rfl) (by kernel_rfl) (by kernel_rfl) (fun _ _ _ h => h) (.inl ⟨by rfl, fun W hW => by (obtain ⟨hz0, hz1⟩ := hW; go_simp)⟩) HS9.out ?_
  simp only [Act.put, List.setIfInBounds_toArray, List.set_cons_zero, List.set_cons_succ]
  refine wpAnyH_ready (rs := [8]) (by kernel_rfl) (by simp) ?_
  refine AllReadyH.cons rfl (fun K hK => ?_) AllReadyH.nil
  go_simp
  refine (get_ok HT9.out 1 (show 1 < 2 by omega)).mono ?_
  rw [show ((TX.new [b, []]).put 1 l).get 1 = l from rfl]
  rintro e wx ⟨Ax, nx, cx, rfl, h1, -, -, -, h5, -⟩
  have r1 := run_convert_bs wx Ax nx cx l h1
  have HWx := Lib.hid (HW9.out.trans (h5.mono HW9.out.size))
  have HSx : Hid ((convert 25 9 (.slice A n c)).run Try.prog wx = .ok (.string (txt b)) wx ∧ (convert 25 9 (.slice B m d)).run Try.prog wx = .ok (.string (txt l)) wx) := ⟨run_convert_bs _ A n c b (HA.out.below HWx.out), run_convert_bs _ B m d l (HB.out.below HWx.out)⟩
  refine hK.out _ _ HSx.out fun _ => ?_
  clear hK K h1 h5 HT9 HW9 HS9
  refine wpAnyH_ready (rs := [9]) (by kernel_rfl) (by simp) ?_
  refine AllReadyH.cons rfl (fun K hK => ?_) AllReadyH.nil
  go_simp
  refine hK.out _ _ HSx.out fun _ => ?_
  clear hK K
  refine wpAnyH_ready (rs := [12]) (by kernel_rfl) (by simp) ?_
  refine AllReadyH.cons rfl (fun K hK => ?_) AllReadyH.nil
  go_simp
  refine hK.out _ _ HSx.out fun _ => ?_
  clear hK K
  refine wpAnyH_ready (rs := [13]) (by kernel_rfl) (by simp) ?_
  refine AllReadyH.cons rfl (fun K hK => ?_) AllReadyH.nil
  go_simp
  refine hK.out _ _ HSx.out fun _ => ?_
  clear hK K
  refine wpAnyH_ready (rs := [14]) (by kernel_rfl) (by simp) ?_
  refine AllReadyH.cons rfl (fun K hK => ?_) AllReadyH.nil
  go_simp
  refine hK.out _ _ HSx.out fun _ => ?_
  clear hK K
  refine wpAnyH_done (by kernel_rfl) ?_ _
  go_wp2
  go_ret
  exact ⟨rfl, HWx.out⟩
end Go.Proofs.Ytnjkcodegcojcaa
