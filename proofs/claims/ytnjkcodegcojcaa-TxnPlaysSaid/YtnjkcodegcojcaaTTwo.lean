/-
  Two transactions beside each other; the law's example (layer 10).
-/
import Derived.Test.YtnjkcodegcojcaaTChanges
namespace Go.Proofs.Ytnjkcodegcojcaa
open Go.RowKit

/-- Two transactions, both new behind W0. -/
structure T2 (W0 w : World) (p m : Nat) (x : Sl) (X : TX) (q n : Nat) (y : Sl) (Y : TX) : Prop where
  a : Tq w p m x (fun z => W0.heap.size ≤ z) X
  b : Tq w q n y (fun z => W0.heap.size ≤ z) Y
  bel : Below W0.heap.size W0 w
  np : p ≠ q
  nm : m ≠ n
section
variable {W0 w w' : World} {p m q n : Nat} {x y : Sl} {X Y Z : TX}
theorem T2.below (h : T2 W0 w p m x X q n y Y) (hb : Below w.heap.size w w') : T2 W0 w' p m x X q n y Y := ⟨h.a.below hb, h.b.below hb, h.bel.trans (hb.mono h.bel.size), h.np, h.nm⟩
theorem T2.drew (h : T2 W0 w p m x X q n y Y) : T2 W0 w.drew p m x X q n y Y := h.below (Below.refl _ _).drew
theorem T2.new (h : T2 W0 w p m x X q n y Y) : ∀ k, w.heap.size ≤ k → W0.heap.size ≤ k := fun _ hk => Nat.le_trans h.bel.size hk
theorem T2.qm (h : T2 W0 w p m x X q n y Y) : q ≠ m := fun e => by
  have := h.b.cells
  obtain ⟨es, c, h1, _⟩ := h.a.puts
  rw [← e, this] at h1
  simp at h1
theorem T2.pn (h : T2 W0 w p m x X q n y Y) : p ≠ n := fun e => by
  have := h.a.cells
  obtain ⟨es, c, h1, _⟩ := h.b.puts
  rw [← e, this] at h1
  simp at h1
/-- Behind a Put to the first one, .. -/
theorem T2.puta (h : T2 W0 w p m x X q n y Y) (ht : Tq w' p m x (fun z => W0.heap.size ≤ z) Z) (hc : Ch (· = m) w w') : T2 W0 w' p m x Z q n y Y :=
  ⟨ht, h.b.ch hc h.qm (fun e => h.nm e.symm), h.bel.trans (hc.below h.bel.size fun k hk => by rw [hk]; exact h.a.sm), h.np, h.nm⟩
/-- .. to the second one, .. -/
theorem T2.putb (h : T2 W0 w p m x X q n y Y) (ht : Tq w' q n y (fun z => W0.heap.size ≤ z) Z) (hc : Ch (· = n) w w') : T2 W0 w' p m x X q n y Z :=
  ⟨h.a.ch hc h.pn h.nm, ht, h.bel.trans (hc.below h.bel.size fun k hk => by rw [hk]; exact h.b.sm), h.np, h.nm⟩
/-- .. behind a Take to the first one. -/
theorem T2.taka (h : T2 W0 w p m x X q n y Y) {m' : Nat} (ht : Tq w' p m' x (fun z => W0.heap.size ≤ z) Z) (hc : Ch (· = p) w w') (hm : w.heap.size ≤ m') : T2 W0 w' p m' x Z q n y Y :=
  ⟨ht, h.b.ch hc (fun e => h.np e.symm) (fun e => h.pn e.symm), h.bel.trans (hc.below h.bel.size fun k hk => by rw [hk]; exact h.a.sp), h.np, fun e => by have := h.b.mlt; omega⟩
/-- A fork of it. -/
theorem T2.of_fork (h : Tq w p m x (fun z => W0.heap.size ≤ z) X) (hb : Below W0.heap.size W0 w) {e : Ending} (hf : ForkQ w x (fun z => W0.heap.size ≤ z) X e w') : ∃ q n, e = .returned (.pointer (some ⟨q, 0, none⟩)) ∧ T2 W0 w' p m x X q n x X := by
  obtain ⟨q, n, rfl, h1, h2, h3, h4⟩ := hf
  exact ⟨q, n, rfl, h.below h2, h1, hb.trans (h2.mono hb.size), by have := h.plt; omega, by have := h.mlt; omega⟩
end

/-- Rows in a block. -/
theorem RI.of_block {w : World} {g : Nat} {rl : List Sl} {t : TypeId} {fr : Nat × Nat} {ls : List (List UInt8)} {n : Nat} (h : w.heap[g]? = some (.cells (rl.map Sl.v).toArray t fr)) (hl : ls.length = n) (hr : rl.length = n) (hb : ∀ k (h : k < rl.length), BS w rl[k].a rl[k].n (ls.getD k []) ∧ rl[k].n ≤ big47) : RI w (some ⟨g, 0, none⟩) n ls :=
  ⟨hl, fun _ => ⟨g, 0, rfl, fun k hk => by
    have hk' : k < rl.length := by omega
    refine ⟨rl[k], ?_, (hb k hk').1, (hb k hk').2⟩
    rw [Nat.zero_add, cell_of_row _ _ _ _ _ _ h]
    simp [hk', Sl.v]⟩⟩
/-- Of a row of one write. -/
theorem WR.one {W : World} {base : Nat} {A : Option Addr} {c k : Nat} {b : List UInt8} {sl : List Sl} (h : WR W base A c [(k, b)] sl) : ∃ g, ∃ s : Sl, sl = [s] ∧ A = some ⟨g, 0, none⟩ ∧ base ≤ g ∧ W.cell? ⟨g, 0, none⟩ = some (.int .i64 (k : Int)) ∧ W.cell? ⟨g, 1, none⟩ = some (.slice s.a s.n s.c) ∧ BS W s.a s.n b ∧ s.n ≤ s.c ∧ (0 < s.n → ∀ ad, s.a = some ad → base ≤ ad.block) := by
  obtain ⟨s, rfl⟩ : ∃ s, sl = [s] := by
    have := h.len
    match sl, this with
    | [s], _ => exact ⟨s, rfl⟩
  rcases h.row.2 with ⟨_, h0⟩ | ⟨g, cap, cur, e1, h2, h3, _⟩
  · simp at h0
  · injection e1 with e1
    subst e1
    have cell : ∀ j v, (wv (k : Int) s)[j]? = some v → W.cell? ⟨g, j, none⟩ = some v := fun j v hv => by
      have := h.row.cells (g := g) rfl j v (by simpa [wcs] using hv)
      rwa [add_plain, Nat.zero_add] at this
    exact ⟨g, s, rfl, rfl, h2, cell 0 _ rfl, cell 1 _ rfl, h.bs 0 (by simp), h.cap 0 (by simp), h.own 0 (by simp)⟩

/-- '[]byte("..")': a constant's row. -/
theorem conv_const (W : World) (C : Array Value) (n c B : Nat) (h : B = W.heap.size) : (convert 25 25 (.slice (some ⟨B, 0, none⟩) n c)).run Try.prog (W.alloc (.cells C 5)) = .ok (.slice (some ⟨B, 0, none⟩) n c) (W.alloc (.cells C 5 (C.size, C.size + 1))) := by
  subst h
  exact Lib.run_convert_bytes_const (P := Try.prog) W 25 5 C n c Try.underlying25 Try.underlying5
/-- The blocks of the example. -/
def exL : List (List UInt8) := [[], [97], [98]]
def exX : TX := (TX.new exL).put 2 [120]
theorem exX_chs : exX.chs 3 = [(2, [120])] := by rfl
theorem exY_chs : (exX.put 2 [98]).chs 3 = [] := by rfl
theorem exX_get : exX.get 1 = [97] := by rfl
theorem ex_rows (w : World) : RI (((w.alloc (.cells #[.int .u8 97] 5 (1, 2))).alloc (.cells #[.int .u8 98] 5 (1, 2))).alloc (.cells #[.slice none 0 0, .slice (some ⟨w.heap.size, 0, none⟩) 1 1, .slice (some ⟨w.heap.size + 1, 0, none⟩) 1 1] 25)) (some ⟨w.heap.size + 1 + 1, 0, none⟩) 3 exL := by
  have g := heap_alloc_new ((w.alloc (.cells #[.int .u8 97] 5 (1, 2))).alloc (.cells #[.int .u8 98] 5 (1, 2))) (.cells #[.slice none 0 0, .slice (some ⟨w.heap.size, 0, none⟩) 1 1, .slice (some ⟨w.heap.size + 1, 0, none⟩) 1 1] 25)
  simp only [World.size_alloc] at g
  have b1 : BS (((w.alloc (.cells #[.int .u8 97] 5 (1, 2))).alloc (.cells #[.int .u8 98] 5 (1, 2))).alloc (.cells #[.slice none 0 0, .slice (some ⟨w.heap.size, 0, none⟩) 1 1, .slice (some ⟨w.heap.size + 1, 0, none⟩) 1 1] 25)) (some ⟨w.heap.size, 0, none⟩) 1 [97] :=
    ((BS.of_block (l := [97]) (heap_alloc_new w (.cells #[.int .u8 97] 5 (1, 2)))).alloc _).alloc _
  have b2 : BS (((w.alloc (.cells #[.int .u8 97] 5 (1, 2))).alloc (.cells #[.int .u8 98] 5 (1, 2))).alloc (.cells #[.slice none 0 0, .slice (some ⟨w.heap.size, 0, none⟩) 1 1, .slice (some ⟨w.heap.size + 1, 0, none⟩) 1 1] 25)) (some ⟨w.heap.size + 1, 0, none⟩) 1 [98] := by
    have := heap_alloc_new (w.alloc (.cells #[.int .u8 97] 5 (1, 2))) (.cells #[.int .u8 98] 5 (1, 2))
    rw [World.size_alloc] at this
    exact (BS.of_block (l := [98]) this).alloc _
  refine RI.of_block (rl := [⟨none, 0, 0⟩, ⟨some ⟨w.heap.size, 0, none⟩, 1, 1⟩, ⟨some ⟨w.heap.size + 1, 0, none⟩, 1, 1⟩]) g rfl rfl fun k hk => ?_
  match k, hk with
  | 0, _ => exact ⟨BS.nil, Nat.zero_le _⟩
  | 1, _ => exact ⟨b1, le_big47 (by show 1 ≤ _; omega)⟩
  | 2, _ => exact ⟨b2, le_big47 (by show 1 ≤ _; omega)⟩

set_option maxRecDepth 100000 in
set_option maxHeartbeats 2000000 in
theorem awake_any (w : World) : Calls Try.prog 7 #[] w fun e w' => e = .returned (.bool true) ∧ Below w.heap.size w w' := by
  have HR := Lib.hid (ex_rows w)
  have HB0 : Hid (Below w.heap.size w (((w.alloc (.cells #[.int .u8 97] 5 (1, 2))).alloc (.cells #[.int .u8 98] 5 (1, 2))).alloc (.cells #[.slice none 0 0, .slice (some ⟨w.heap.size, 0, none⟩) 1 1, .slice (some ⟨w.heap.size + 1, 0, none⟩) 1 1] 25))) :=
    (((Below.refl _ _).alloc (Nat.le_refl _) _).alloc (by simp) _).alloc (by simp; omega) _
  have hq := conv_const
  go_enter Try.func7, Try.ntmps7
  go_wp2_with fail
  refine (new_any _ 3 3 exL _ HR.out (by omega)).mono ?_
  rintro e w1 ⟨g, m, p, rfl, h1, h2, -, -⟩
  have HT1 : Hid (Tq w1 p m ⟨some ⟨g, 0, none⟩, 3, 3⟩ (fun z => w.heap.size ≤ z) (TX.new exL)) := h1.mono fun k hk => Nat.le_trans HB0.out.size hk
  have HB1 := Lib.hid (HB0.out.trans (h2.mono HB0.out.size))
  clear h1 h2 HR HB0
  have HTa : Hid (Tq (w1.alloc (.cells #[.int .u8 120] 5 (1, 2))) p m ⟨some ⟨g, 0, none⟩, 3, 3⟩ (fun z => w.heap.size ≤ z) (TX.new exL)) := HT1.out.below ((Below.refl _ _).alloc (Nat.le_refl _) _)
  have HBa : Hid (Below w.heap.size w (w1.alloc (.cells #[.int .u8 120] 5 (1, 2)))) := HB1.out.alloc HB1.out.size _
  have HXa : Hid (BS (w1.alloc (.cells #[.int .u8 120] 5 (1, 2))) (some ⟨w1.heap.size, 0, none⟩) 1 [120]) := BS.of_block (l := [120]) (heap_alloc_new w1 (.cells #[.int .u8 120] 5 (1, 2)))
  go_wp2_with fail
  refine (put_any HTa.out (fun k hk => Nat.le_trans HBa.out.size hk) 2 _ 1 1 [120] HXa.out).mono ?_
  rintro e w2 ⟨rfl, h1, h2⟩
  have HT2 : Hid (Tq w2 p m ⟨some ⟨g, 0, none⟩, 3, 3⟩ (fun z => w.heap.size ≤ z) exX) := h1
  have HB2 : Hid (Below w.heap.size w w2) := HBa.out.trans (h2.below HBa.out.size fun k hk => by rw [hk]; exact HTa.out.sm)
  clear h1 h2 HT1 HB1 HTa HBa HXa
  rw [show TX.perr (Sl.n ⟨some ⟨g, 0, none⟩, 3, 3⟩) 2 [120] = 0 from rfl]
  go_wp2_with fail
  refine (fork_any HT2.out (fun k hk => Nat.le_trans HB2.out.size hk)).mono ?_
  intro e w3 hf
  obtain ⟨q, n, rfl, h3⟩ := T2.of_fork HT2.out HB2.out hf
  have H3 : Hid (T2 w (w3.alloc (.cells #[.int .u8 98] 5 (1, 2))) p m ⟨some ⟨g, 0, none⟩, 3, 3⟩ exX q n ⟨some ⟨g, 0, none⟩, 3, 3⟩ exX) := h3.below ((Below.refl _ _).alloc (Nat.le_refl _) _)
  have HX3 : Hid (BS (w3.alloc (.cells #[.int .u8 98] 5 (1, 2))) (some ⟨w3.heap.size, 0, none⟩) 1 [98]) := BS.of_block (l := [98]) (heap_alloc_new w3 (.cells #[.int .u8 98] 5 (1, 2)))
  clear h3 hf HT2 HB2
  go_wp2_with fail
  refine (put_any H3.out.b H3.out.new 2 _ 1 1 [98] HX3.out).mono ?_
  rintro e w4 ⟨rfl, h1, h2⟩
  have H4 : Hid (T2 w w4 p m ⟨some ⟨g, 0, none⟩, 3, 3⟩ exX q n ⟨some ⟨g, 0, none⟩, 3, 3⟩ (exX.put 2 [98])) := H3.out.putb h1 h2
  clear h1 h2 H3 HX3
  rw [show TX.perr (Sl.n ⟨some ⟨g, 0, none⟩, 3, 3⟩) 2 [98] = 0 from rfl]
  go_wp2_with fail
  refine (changes_any H4.out.a (by show 3 ≤ _; omega)).mono ?_
  intro e w5 hc
  have hc' : ChgQ w4 [(2, [120])] e w5 := hc
  obtain ⟨A5, c5, sl5, rfl, h5, hb5, -⟩ := hc'
  have H5 := Lib.hid (H4.out.below hb5)
  have HW5 := Lib.hid h5
  clear hc h5 hb5 H4
  go_wp2_with fail
  refine (changes_any H5.out.b (by show 3 ≤ _; omega)).mono ?_
  intro e w6 hc
  have hc' : ChgQ w5 [] e w6 := hc
  obtain ⟨A6, c6, sl6, rfl, -, hb6, -⟩ := hc'
  have H6 := Lib.hid (H5.out.below hb6)
  have HW6 := Lib.hid (HW5.out.below hb6)
  clear hc hb6 H5 HW5
  obtain ⟨gw, s, rfl, rfl, -, k1, k2, k3, -, -⟩ := HW6.out.one
  have kc := run_convert_bs w6 s.a s.n s.c [120] k3
  have e120 := txt_toList [120]
  clear k3
  go_wp2_with fail
  refine (get_ok H6.out.a 1 (by show 1 < 3; omega)).mono ?_
  rintro e w7 ⟨A7, n7, c7, rfl, h7, -, -, -, hb7, -⟩
  have H7 := Lib.hid (H6.out.below hb7)
  rw [exX_get] at h7
  have kd := run_convert_bs w7 A7 n7 c7 _ h7
  have e97 := txt_toList [97]
  clear h7 hb7 H6
  go_wp2_with fail
  refine (tlen_any H7.out.a).mono ?_
  rintro e w' ⟨rfl, rfl⟩
  go_wp2_with fail
  refine (put_any H7.out.a H7.out.new 3 none 0 0 [] BS.nil).mono ?_
  rintro e w8 ⟨rfl, h1, h2⟩
  have H8 : Hid (T2 w w8 p m ⟨some ⟨g, 0, none⟩, 3, 3⟩ _ q n ⟨some ⟨g, 0, none⟩, 3, 3⟩ _) := H7.out.puta h1 h2
  clear h1 h2 H7
  rw [show TX.perr (Sl.n ⟨some ⟨g, 0, none⟩, 3, 3⟩) 3 [] = 15 from rfl]
  go_wp2_with fail
  go_ret
  exact ⟨rfl, H8.out.bel⟩
end Go.Proofs.Ytnjkcodegcojcaa
