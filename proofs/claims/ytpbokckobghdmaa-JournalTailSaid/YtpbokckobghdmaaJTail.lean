/-
  The law of the tail.
-/
import Derived.Test.YtpbokckobghdmaaJTailM
import Derived.Test.YtpbokckobghdmaaJIn
import Derived.Deep.RegionHeld
namespace Go.Proofs.Ytpbokckobghdmaa
open Go.RowKit

/-- A journal of the law, on a disk that does not stop. -/
structure TS (w W : World) (p dp : Nat) (S D : Nat → Prop) (j : J.JS) (d : DS) (s t : Nat) (c : List J.Chg) : Prop where
  live : Live W p dp S D j d s t c
  calm : J.Calm d
  n : d.n = 40
  log : j.log = 16
  nb : j.nb = 6
  bel : Below w.heap.size w W
  hS : ∀ k, S k ∨ D k → w.heap.size ≤ k
section
variable {w W W' : World} {p dp q : Nat} {S D S' D' : Nat → Prop} {j j' : J.JS} {d d' : DS} {s t s' t' : Nat} {c c' : List J.Chg}
theorem TS.below (h : TS w W p dp S D j d s t c) (hb : Below W.heap.size W W') : TS w W' p dp S D j d s t c := ⟨h.live.below hb, h.calm, h.n, h.log, h.nb, h.bel.trans (hb.mono h.bel.size), h.hS⟩
theorem TS.step (h : TS w W p dp S D j d s t c) (hl : LStep W W' p dp S D j' d' s' t' c') (h1 : J.Calm d') (h2 : d'.n = d.n) (h3 : j'.log = j.log) (h4 : j'.nb = j.nb) : ∃ S' D', TS w W' p dp S' D' j' d' s' t' c' := by
  obtain ⟨S', D', k1, k2, k3, k4⟩ := hl
  refine ⟨S', D', k1, h1, h2.trans h.n, h3.trans h.log, h4.trans h.nb, h.bel.trans (k2.below h.bel.size h.hS), fun k hk => ?_⟩
  have := h.bel.size
  rcases hk with hk | hk
  · rcases k3 k hk with h5 | h5
    · exact h.hS k (.inl h5)
    · omega
  · rcases k4 k hk with h5 | h5
    · exact h.hS k (.inr h5)
    · omega
theorem below_ws (hb : Below w.heap.size w W) {A : Option Addr} {n : Nat} {l : List (Int × List UInt8)} (hw : WS w (fun k => k < w.heap.size) A n l) : WS W (fun k => k < w.heap.size) A n l := hw.keepK ((Keep.of_below hb).mono fun _ hk => hk)
theorem TS.off (h : TS w W p dp S D j d s t c) : ∀ k, k < w.heap.size → k < W.heap.size ∧ ¬ (S k ∨ D k) := fun k hk => ⟨Nat.lt_of_lt_of_le hk h.bel.size, fun h' => by have := h.hS k h'; omega⟩
/-- A crash, and Open behind it. -/
theorem crash_open {A : Option Addr} {m cp : Nat} {L : List UInt8} (h : JD W p dp S D j d) (hb : Below w.heap.size w W) (hS : ∀ k, S k ∨ D k → w.heap.size ≤ k) (hs : d.pend.length ≤ 1000000) (hL : BS w A m L) (hm : m ≤ maxLen) :
    Calls Try.prog 15 #[.pointer (some ⟨dp, 0, none⟩), .slice A m cp] W fun e W' => (∃ v : Int, e = .returned (.int .i64 v)) ∧ ∃ D', Dk W' dp D' (d.crashed L) ∧ Below w.heap.size w W' ∧ ∀ k, D' k → w.heap.size ≤ k := by
  refine (crash_all dp D d A m cp L W h.dk hs (hL.below hb) (fun h0 ad e hD => ?_) hm).mono ?_
  · have h1 := hS _ (.inr hD)
    have h2 := hL.lt_block h0 ad e
    omega
  rintro e W' ⟨rfl, hst⟩
  obtain ⟨D', k1, k2, -, k4⟩ := h.disk hst
  exact ⟨⟨_, rfl⟩, D', k1.dk, hb.trans (k2.below hb.size hS), fun k hk => (k4 k hk).elim (fun h => hS k (.inr h)) fun h => Nat.le_trans hb.size h⟩
theorem open_ts {B : Nat → List UInt8} {L : List UInt8} (h : Dk W dp D (d.crashed L)) (hb : Below w.heap.size w W) (hD : ∀ k, D k → w.heap.size ≤ k) (hn : d.n = 40) (hi : J.Inv d 16 6 s t c B) (hsq : s + c.length + 1 < 18446744073709551616) :
    Calls Try.prog 11 #[.pointer (some ⟨dp, 0, none⟩), .int .i64 16, .int .i64 6] W fun e W' => ∃ q S' D' j' d', e = .returned (.tuple #[.pointer (some ⟨q, 0, none⟩), .int .i64 0]) ∧ TS w W' q dp S' D' j' d' s t c ∧ (∀ i, i < 6 → j'.B i = B i) ∧ d'.pend.length ≤ 6 ∧ j'.seq = s + c.length := by
  refine (open_live h (by show (0 : Nat) ≤ _; omega) 16 6 (by omega) (by omega) (by omega) (by omega) (by show 1 + 16 + 6 ≤ d.n; omega) (J.crashed_calm _ _) (J.Inv.crash (show 0 < 16 by omega) hi L) hsq).mono ?_
  rintro e W' ⟨q, S9, D9, j9, d9, rfl, hl9, hc9, hn9, hlog9, hnb9, hB9, hp9, hf9, hS9, hD9⟩
  refine ⟨q, S9, D9, j9, d9, rfl, ⟨hl9, hc9, by rw [hn9]; exact hn, hlog9, hnb9, hb.trans (hf9.below hb.size hD), fun k hk => ?_⟩, hB9, ?_, hl9.seq⟩
  · rcases hk with hk | hk
    · exact Nat.le_trans hb.size (hS9 k hk)
    · exact (hD9 k hk).elim (hD k) fun h => Nat.le_trans hb.size h
  · have : d9.pend.length ≤ 0 + 6 := hp9
    omega
/-- A write of the law's argument, in whichever world it is looked at. -/
theorem ws_held {A : Option Addr} {n : Nat} {l : List (Int × List UInt8)} (hw : WS w (fun k => k < w.heap.size) A n l) (k : Nat) (hk : k < n) (hkl : k < l.length) (y : Nat) (hy : (y : Int) = l[k].1) :
    ∃ b o x, A = some ⟨b, o, none⟩ ∧ ∀ W, Below w.heap.size w W → W.cell? ⟨b, o + k * 2, none⟩ = some (.int .i64 (y : Int)) ∧ W.cell? ⟨b, o + k * 2 + 1, none⟩ = some (.slice (Sl.a x) x.n x.c) ∧ (convert 23 9 (.slice x.a x.n x.c)).run Try.prog W = .ok (.string (txt l[k].2)) W := by
  obtain ⟨b, o, x, hkl', e, hX, g1, g2, g3, -, g5⟩ := hw.at k hk
  refine ⟨b, o, x, e, fun W hb => ?_⟩
  have hc : ∀ i, W.cell? ⟨b, i, none⟩ = w.cell? ⟨b, i, none⟩ := fun i => hb.cell (p := ⟨b, i, none⟩) hX
  exact ⟨by rw [hc, g1, hy], by rw [hc, g2], run_convert_bs W _ _ _ _ (g3.below hb)⟩
end
def lT : List (Int × List UInt8) := [(0, [97]), (5, [102])]
set_option maxRecDepth 100000 in
set_option maxHeartbeats 4000000 in
theorem tail_any (w : World) (A0 A1 A2 : Option Addr) (n0 n1 n2 c0 c1 c2 : Nat) (l0 l1 : List (Int × List UInt8)) (pick : List UInt8) (h0 : WI w A0 n0 l0) (h1 : WI w A1 n1 l1) (h2 : BS w A2 n2 pick) (m2 : n2 ≤ maxLen) :
    Calls Try.prog 6 #[.slice A0 n0 c0, .slice A1 n1 c1, .slice A2 n2 c2] w fun e w' => e = .returned (.bool true) ∧ Below w.heap.size w w' := by
  have H0 := Lib.hid h0
  have H1 := Lib.hid h1
  have H2 := Lib.hid h2
  have N0 : Hid (l0.length = n0) := h0.ws.1
  have N1 : Hid (l1.length = n1) := h1.ws.1
  have hn0 : n0 ≤ 9223372036854775807 := h0.few
  have hn1 : n1 ≤ 9223372036854775807 := h1.few
  clear h0 h1 h2
  have M2 := Lib.hid m2
  unfold maxLen at m2
  have kc := fun (w : World) (C : Array Value) (n c : Nat) => Lib.run_convert_bytes_const (P := Try.prog) w 23 5 C n c Try.underlying23 Try.underlying5
  go_enter Try.func6, Try.ntmps6
  go_wp2_with fail
  refine (awake_any w).mono ?_
  rintro e w1 ⟨rfl, hb1⟩
  have HB1 := Lib.hid hb1
  clear hb1
  go_wp2_with fail
  refine (few_any w1 _ A0 n0 c0 l0 (below_ws HB1.out H0.out.ws) hn0 (fun x hx => H0.out.len x hx)).mono ?_
  rintro e w2 ⟨rfl, rfl⟩
  go_wp2_with fail
  refine (few_any w1 _ A1 n1 c1 l1 (below_ws HB1.out H1.out.ws) hn1 (fun x hx => H1.out.len x hx)).mono ?_
  rintro e w2 ⟨rfl, rfl⟩
  cases hf0 : fewB l0 with
  | false =>
    go_wp2
    go_ret
    exact ⟨rfl, HB1.out⟩
  | true =>
  cases hf1 : fewB l1 with
  | false =>
    go_wp2
    go_ret
    exact ⟨rfl, HB1.out⟩
  | true =>
  by_cases a2 : 20 < n2
  · have a2' : (20 : Int) < (n2 : Int) := by omega
    go_wp2
    go_ret
    exact ⟨rfl, HB1.out⟩
  have b2 : ¬ (20 : Int) < (n2 : Int) := by omega
  have hn0 : n0 ≤ 20 := by rw [← N0.out]; exact (fewB_true hf0).1
  have hn1 : n1 ≤ 20 := by rw [← N1.out]; exact (fewB_true hf1).1
  clear hf0 hf1
  go_wp2_with fail
  refine (new_any 40 w1 (by omega) (by omega)).mono ?_
  rintro e w2 ⟨dp, D2, rfl, hd2, hb2, hD2⟩
  have HD2 := Lib.hid hd2
  have HB2 := Lib.hid (HB1.out.trans (hb2.mono HB1.out.size))
  have HN2 : Hid (∀ k, D2 k → w.heap.size ≤ k) := fun k hk => Nat.le_trans HB1.out.size (hD2 k hk)
  clear hd2 hb2 hD2
  generalize w1.heap.size = db at HD2
  go_wp2_with fail
  refine (open_fresh HD2.out 16 6 (by omega) (by omega) (by omega) (by omega) (by omega)).mono ?_
  rintro e w3 ⟨p, S3, D3, j3, rfl, hl3, hg3, hn3, hB3, hf3, hS3, hD3⟩
  have HA : Hid (TS w w3 p dp S3 D3 j3 (DS.new 40 db) 0 0 []) := ⟨hl3, DS.new_calm _ _, rfl, hg3, hn3, HB2.out.trans (hf3.below HB2.out.size HN2.out), fun k hk => hk.elim (fun h => Nat.le_trans HB2.out.size (hS3 k h)) fun h => (hD3 k h).elim (HN2.out k) fun h => Nat.le_trans HB2.out.size h⟩
  have HBB := Lib.hid hB3
  clear hl3 hg3 hn3 hB3 hf3 hS3 hD3 HD2 HB2 HN2
  have kc2 := kc (w3.alloc (.cells #[.int .u8 97] 5 (1, 2))) #[.int .u8 102] 1 1
  simp only [World.size_alloc] at kc2
  go_wp2_with fail
  have HW4 : Hid (Below w3.heap.size w3 (((w3.alloc (.cells #[.int .u8 97] 5 (1, 2))).alloc (.cells #[.int .u8 102] 5 (1, 2))).alloc (.cells #[.int .i64 0, .slice (some ⟨w3.heap.size, 0, none⟩) 1 1, .int .i64 5, .slice (some ⟨w3.heap.size + 1, 0, none⟩) 1 1] 37))) := (((Below.refl _ _).alloc (Nat.le_refl _) _).alloc (by simp only [World.size_alloc]; omega) _).alloc (by simp only [World.size_alloc]; omega) _
  have HWS : Hid (WS (((w3.alloc (.cells #[.int .u8 97] 5 (1, 2))).alloc (.cells #[.int .u8 102] 5 (1, 2))).alloc (.cells #[.int .i64 0, .slice (some ⟨w3.heap.size, 0, none⟩) 1 1, .int .i64 5, .slice (some ⟨w3.heap.size + 1, 0, none⟩) 1 1] 37)) (fun k => w3.heap.size ≤ k ∧ k < w3.heap.size + 3) (some ⟨w3.heap.size + 1 + 1, 0, none⟩) 2 lT) := two_ws w3 0 5 97 102
  have HZ4 : Hid ((((w3.alloc (.cells #[.int .u8 97] 5 (1, 2))).alloc (.cells #[.int .u8 102] 5 (1, 2))).alloc (.cells #[.int .i64 0, .slice (some ⟨w3.heap.size, 0, none⟩) 1 1, .int .i64 5, .slice (some ⟨w3.heap.size + 1, 0, none⟩) 1 1] 37)).heap.size = w3.heap.size + 3) := by show _ = _; simp only [World.size_alloc]
  generalize ((w3.alloc (.cells #[.int .u8 97] 5 (1, 2))).alloc (.cells #[.int .u8 102] 5 (1, 2))).alloc (.cells #[.int .i64 0, .slice (some ⟨w3.heap.size, 0, none⟩) 1 1, .int .i64 5, .slice (some ⟨w3.heap.size + 1, 0, none⟩) 1 1] 37) = w4 at *
  clear kc kc2
  refine ((HA.out.live.below HW4.out).commitUsed HA.out.calm (by have : j3.seq = 0 := HA.out.live.seq; omega) (by show (0 : Nat) ≤ _; omega) _ _ 2 2 lT HWS.out (fun k hk => ⟨by rw [HZ4.out]; exact hk.2, fun h => by have := HA.out.live.jd.lt k h; have := hk.1; omega⟩) (by omega) (by rw [HA.out.nb]; decide) (by have : j3.used = 0 := HA.out.live.inv.used; rw [HA.out.log, this]; decide)).mono ?_
  rintro e w5 ⟨rfl, j5, d5, s5, t5, cs5, l5, q1, q2, q3, q4, q5, q6, q7, q8⟩
  obtain ⟨S5, D5, h5⟩ := (HA.out.below HW4.out).step l5 q1 q2 q3 q4
  have H5 := Lib.hid h5
  have HU5 : Hid (j5.used = 3) := by have h : j3.used = 0 := HA.out.live.inv.used; show _ = _; rw [q7, h]; rfl
  have HS5 : Hid (j5.seq = 1) := by have h : j3.seq = 0 := HA.out.live.seq; show _ = _; omega
  have HP5 : Hid (d5.pend.length ≤ 6) := q8
  have HB5 : Hid (j5.B 0 = [97] ∧ j5.B 5 = [102] ∧ ∀ i, 0 < i → i < 5 → j5.B i = []) := by
    rw [q6]
    refine ⟨rfl, rfl, fun i hi hi5 => ?_⟩
    rw [J.apl_far (by intro x hx; rcases List.mem_cons.1 hx with rfl | hx; exact (by show (0 : Nat) ≠ i; omega); rcases List.mem_cons.1 hx with rfl | hx; exact (by show (5 : Nat) ≠ i; omega); cases hx)]
    exact HBB.out i (by omega)
  clear h5 l5 q1 q2 q3 q4 q5 q6 q7 q8 HWS HW4 HZ4 HA HBB
  go_wp2_with fail
  refine (stop_all dp D5 d5 (n0 : Int) w5 H5.out.live.jd.dk (by omega) (by omega)).mono ?_
  rintro e w6 ⟨⟨v6, rfl⟩, hst6⟩
  obtain ⟨D6, jd6, f6, -, hD6⟩ := H5.out.live.jd.disk hst6
  have HL6 : Hid (Live w6 p dp S5 D6 j5 { d5 with left := (n0 : Int) } s5 t5 cs5) := ⟨jd6, H5.out.live.inv.left _, H5.out.live.err, H5.out.live.room⟩
  have HB6 : Hid (Below w.heap.size w w6) := H5.out.bel.trans (f6.below H5.out.bel.size H5.out.hS)
  have HS6 : Hid (∀ k, S5 k ∨ D6 k → w.heap.size ≤ k) := fun k hk => hk.elim (fun h => H5.out.hS k (.inl h)) fun h => (hD6 k h).elim (fun h => H5.out.hS k (.inr h)) fun h => Nat.le_trans H5.out.bel.size h
  clear hst6 jd6 f6 hD6
  go_wp2_with fail
  cases hok0 : J.okW 6 l0 with
  | false =>
    refine (HL6.out.commitNo (by rw [HS5.out]; omega) (by have := HP5.out; show d5.pend.length ≤ _; omega) _ A0 n0 c0 l0 (below_ws HB6.out H0.out.ws) (fun k hk => ⟨Nat.lt_of_lt_of_le hk HB6.out.size, fun h' => by have := HS6.out k h'; omega⟩) (by omega) (by rw [H5.out.nb]; exact hok0)).mono ?_
    rintro e w7 ⟨rfl, S7, D7, -, f7, -, -⟩
    have HB7 : Hid (Below w.heap.size w w7) := HB6.out.trans (f7.below HB6.out.size HS6.out)
    clear f7
    go_wp2
    go_ret
    exact ⟨rfl, HB7.out⟩
  | true =>
  have HO0 := Lib.hid hok0
  clear hok0
  have HT := Lib.hid (tail_commit H5.out.live.inv H5.out.live.err H5.out.calm.1 (l := l0) (by rw [H5.out.nb]; exact HO0.out) (by have := okW_len HO0.out; have := HU5.out; have := H5.out.log; omega) (by have := H5.out.live.room; omega) (by rw [HS5.out]; omega))
  have HTP : Hid ((J.commitJ { d5 with left := (n0 : Int) } j5 l0).1.pend.length ≤ 100) := by
    have h1 := commitJ_pend l0 { d5 with left := (n0 : Int) } j5
    have h2 : d5.pend.length ≤ 6 := HP5.out
    have h3 := N0.out
    show _ ≤ _
    change _ ≤ d5.pend.length + _ + _ at h1
    omega
  rw [N0.out, H5.out.log, H5.out.nb] at HT
  refine (HL6.out.commit (by rw [HS5.out]; omega) (by have := HP5.out; show d5.pend.length ≤ _; omega) _ A0 n0 c0 l0 (below_ws HB6.out H0.out.ws) (fun k hk => ⟨Nat.lt_of_lt_of_le hk HB6.out.size, fun h' => by have := HS6.out k h'; omega⟩) (by omega)).mono ?_
  rintro e w7 ⟨rfl, S7, D7, jd7, f7, hS7, hD7⟩
  rw [HT.out.1]
  have HJ7 := Lib.hid jd7
  have HI7 := Lib.hid HT.out.2
  clear HT jd7
  have HB7 : Hid (Below w.heap.size w w7) := HB6.out.trans (f7.below HB6.out.size HS6.out)
  have HS7 : Hid (∀ k, S7 k ∨ D7 k → w.heap.size ≤ k) := fun k hk => hk.elim (fun h => (hS7 k h).elim (fun h => HS6.out k (.inl h)) fun h => Nat.le_trans HB6.out.size h) fun h => (hD7 k h).elim (fun h => HS6.out k (.inr h)) fun h => Nat.le_trans HB6.out.size h
  clear f7 hS7 hD7
  generalize (J.commitJ { d5 with left := (n0 : Int) } j5 l0).1 = d7 at *
  generalize (J.commitJ { d5 with left := (n0 : Int) } j5 l0).2.1 = j7 at *
  go_wp2_with fail
  refine (crash_open (cp := c2) HJ7.out HB7.out HS7.out (by have := HTP.out; omega) H2.out M2.out).mono ?_
  rintro e w8 ⟨⟨v8, rfl⟩, D8, hd8, hb8, hD8⟩
  have HD8 := Lib.hid (And.intro hd8 (And.intro hb8 hD8))
  clear hd8 hb8 hD8
  go_wp2_with fail
  have hq5 : s5 + cs5.length = 1 := by rw [← HS5.out]; exact H5.out.live.seq.symm
  refine (open_ts HD8.out.1 HD8.out.2.1 HD8.out.2.2 (HI7.out.2.trans H5.out.n) HI7.out.1 (by omega)).mono ?_
  rintro e w9 ⟨q, S9, D9, j9, d9, rfl, h9, hB9, hp9, hs9⟩
  have H9 := Lib.hid h9
  have HBB9 : Hid (j9.B 0 = [97] ∧ j9.B 5 = [102] ∧ ∀ i, 0 < i → i < 5 → j9.B i = []) := ⟨(hB9 0 (by omega)).trans HB5.out.1, (hB9 5 (by omega)).trans HB5.out.2.1, fun i hi h5 => (hB9 i (by omega)).trans (HB5.out.2.2 i hi h5)⟩
  have HP9 := Lib.hid hp9
  have HS9 : Hid (j9.seq = 1) := hs9.trans hq5
  clear h9 hB9 hp9 hs9 HD8 hq5
  go_wp2_with fail
  refine (seq_any H9.out.live.jd).mono ?_
  rintro e w10 ⟨rfl, rfl⟩
  rw [HS9.out]
  go_wp2_with fail
  refine (readJ_any H9.out.live.jd.jm 0 (by rw [H9.out.nb]; omega) (by rw [HBB9.out.1]; decide)).mono ?_
  rintro e w11 ⟨A11, n11, c11, rfl, hb, -, -, hw⟩
  rw [HBB9.out.1] at hb
  obtain rfl : n11 = 1 := hb.1.symm
  have vv0 := run_convert_bs w11 A11 1 c11 [97] hb
  have ht0 : (txt [97]).toList = [97] := ByteArray.toList_mk _
  have H11 := Lib.hid (H9.out.below hw)
  clear hb hw
  go_wp2_with fail
  clear vv0
  refine (readJ_any H11.out.live.jd.jm 5 (by rw [H11.out.nb]; omega) (by rw [HBB9.out.2.1]; decide)).mono ?_
  rintro e w12 ⟨A12, n12, c12, rfl, hb, -, -, hw⟩
  rw [HBB9.out.2.1] at hb
  obtain rfl : n12 = 1 := hb.1.symm
  have vv5 := run_convert_bs w12 A12 1 c12 [102] hb
  have ht5 : (txt [102]).toList = [102] := ByteArray.toList_mk _
  have H12 := Lib.hid (H11.out.below hw)
  clear hb hw
  go_wp2_with fail
  clear vv5
  refine (readJ_any H12.out.live.jd.jm 1 (by rw [H12.out.nb]; omega) (by rw [(HBB9.out.2.2 1 (by omega) (by omega))]; decide)).mono ?_
  rintro e w13 ⟨A13, n13, c13, rfl, hb, -, -, hw⟩
  rw [(HBB9.out.2.2 1 (by omega) (by omega))] at hb
  obtain rfl : n13 = 0 := hb.1.symm
  have H13 := Lib.hid (H12.out.below hw)
  clear hb hw
  go_wp2_with fail
  refine (readJ_any H13.out.live.jd.jm 2 (by rw [H13.out.nb]; omega) (by rw [(HBB9.out.2.2 2 (by omega) (by omega))]; decide)).mono ?_
  rintro e w14 ⟨A14, n14, c14, rfl, hb, -, -, hw⟩
  rw [(HBB9.out.2.2 2 (by omega) (by omega))] at hb
  obtain rfl : n14 = 0 := hb.1.symm
  have H14 := Lib.hid (H13.out.below hw)
  clear hb hw
  go_wp2_with fail
  refine (readJ_any H14.out.live.jd.jm 3 (by rw [H14.out.nb]; omega) (by rw [(HBB9.out.2.2 3 (by omega) (by omega))]; decide)).mono ?_
  rintro e w15 ⟨A15, n15, c15, rfl, hb, -, -, hw⟩
  rw [(HBB9.out.2.2 3 (by omega) (by omega))] at hb
  obtain rfl : n15 = 0 := hb.1.symm
  have H15 := Lib.hid (H14.out.below hw)
  clear hb hw
  go_wp2_with fail
  refine (readJ_any H15.out.live.jd.jm 4 (by rw [H15.out.nb]; omega) (by rw [(HBB9.out.2.2 4 (by omega) (by omega))]; decide)).mono ?_
  rintro e w16 ⟨A16, n16, c16, rfl, hb, -, -, hw⟩
  rw [(HBB9.out.2.2 4 (by omega) (by omega))] at hb
  obtain rfl : n16 = 0 := hb.1.symm
  have H16 := Lib.hid (H15.out.below hw)
  clear hb hw
  go_wp2_with fail
  cases hok1 : J.okW 6 l1 with
  | false =>
    refine (H16.out.live.commitNo (by rw [HS9.out]; omega) (by have := HP9.out; omega) _ A1 n1 c1 l1 (below_ws H16.out.bel H1.out.ws) H16.out.off (by omega) (by rw [H16.out.nb]; exact hok1)).mono ?_
    rintro e w17 ⟨rfl, l17⟩
    obtain ⟨S17, D17, h17⟩ := H16.out.step l17 H16.out.calm rfl rfl rfl
    have H17 := Lib.hid h17
    clear l17 h17 hok1
    go_wp2_with fail
    refine (crash_open (cp := 0) H17.out.live.jd H17.out.bel H17.out.hS (by have := HP9.out; omega) (BS.nil (A := none)) (by unfold maxLen; omega)).mono ?_
    rintro e w18 ⟨⟨v18, rfl⟩, D18, hd18, hb18, hD18⟩
    have HD18 := Lib.hid (And.intro hd18 (And.intro hb18 hD18))
    clear hd18 hb18 hD18
    go_wp2_with fail
    have hq9 : s5 + cs5.length = 1 := by rw [← HS9.out]; exact H9.out.live.seq.symm
    have hi17 := H17.out.live.inv.inv
    rw [H17.out.log, H17.out.nb] at hi17
    refine (open_ts HD18.out.1 HD18.out.2.1 HD18.out.2.2 H17.out.n hi17 (by omega)).mono ?_
    rintro e w19 ⟨r, S19, D19, j19, d19, rfl, h19, -, -, hs19⟩
    have H19 := Lib.hid h19
    have HS19 : Hid (j19.seq = 1) := hs19.trans hq9
    clear h19 hs19 HD18 hq9 hi17
    go_wp2_with fail
    go_loopw [16] (fun i wr => i = .int .i64 0 ∧ w19 = wr) (fun _ _ => 0)
    case atStart => exact ⟨rfl, rfl⟩
    case round =>
      obtain ⟨rfl, rfl⟩ := hrel
      by_cases hz : (0 : Int) < (n1 : Int)
      · go_wp2_with fail
        refine (seq_any H19.out.live.jd).mono ?_
        rintro e w20 ⟨rfl, rfl⟩
        rw [HS19.out]
        go_wp2
        go_ret
        exact ⟨rfl, H19.out.bel⟩
      · go_wp2_with fail
        refine (seq_any H19.out.live.jd).mono ?_
        rintro e w20 ⟨rfl, rfl⟩
        rw [HS19.out]
        go_wp2
        go_ret
        exact ⟨rfl, H19.out.bel⟩
  | true =>
    have HO1 := Lib.hid hok1
    refine (H16.out.live.commitOk H16.out.calm (by rw [HS9.out]; omega) (by have := HP9.out; omega) _ A1 n1 c1 l1 (below_ws H16.out.bel H1.out.ws) H16.out.off (by omega) (by rw [H16.out.nb]; exact hok1) (by rw [H16.out.log]; have := okW_len hok1; omega)).mono ?_
    rintro e w17 ⟨rfl, j17, d17, s17, t17, cs17, l17, q1, q2, q3, q4, q5, q6, q7⟩
    obtain ⟨S17, D17, h17⟩ := H16.out.step l17 q1 q2 q3 q4
    have H17 := Lib.hid h17
    have HQ17 := Lib.hid (And.intro q5 (And.intro q6 q7))
    clear l17 h17 q1 q2 q3 q4 q5 q6 q7 hok1
    go_wp2_with fail
    refine (crash_open (cp := 0) H17.out.live.jd H17.out.bel H17.out.hS (by have h1 := HQ17.out.2.2; have := HP9.out; have h2 := N1.out; omega) (BS.nil (A := none)) (by unfold maxLen; omega)).mono ?_
    rintro e w18 ⟨⟨v18, rfl⟩, D18, hd18, hb18, hD18⟩
    have HD18 := Lib.hid (And.intro hd18 (And.intro hb18 hD18))
    clear hd18 hb18 hD18
    go_wp2_with fail
    have hq17 : s17 + cs17.length = 2 := by have h1 := H17.out.live.seq; have h2 := HQ17.out.1; have h3 := HS9.out; omega
    have hi17 := H17.out.live.inv.inv
    rw [H17.out.log, H17.out.nb] at hi17
    refine (open_ts HD18.out.1 HD18.out.2.1 HD18.out.2.2 H17.out.n hi17 (by omega)).mono ?_
    rintro e w19 ⟨r, S19, D19, j19, d19, rfl, h19, hB19, -, hs19⟩
    have H19 := Lib.hid h19
    have HS19 : Hid (j19.seq = 2) := hs19.trans hq17
    have HB19 : Hid (∀ k (hk : k < l1.length), j19.B l1[k].1.toNat = l1[k].2) := fun k hk => by
      have h0 := okW_at HO1.out k hk
      rw [hB19 _ (by omega), HQ17.out.2.1]
      exact apl_at HO1.out _ k hk
    clear h19 hs19 hB19 HD18 hq17 hi17
    go_wp2_with fail
    go_loopw [16] (fun i wr => ∃ k : Nat, k ≤ n1 ∧ i = .int .i64 k ∧ Hid (TS w wr r dp S19 D19 j19 d19 s17 t17 cs17)) (fun i _ => n1 - (intOf i).toNat)
    case atStart => exact ⟨0, by omega, rfl, H19.out⟩
    case round =>
      obtain ⟨k, hk, rfl, HI⟩ := hrel
      by_cases hlt : k < n1
      · have hki : (k : Int) < (n1 : Int) := by omega
        have hkl : k < l1.length := by rw [N1.out]; exact hlt
        have HOA := Lib.hid (okW_at HO1.out k hkl)
        obtain ⟨y, HY⟩ : ∃ y : Nat, Hid ((y : Int) = l1[k].1) := ⟨l1[k].1.toNat, by show ((_ : Nat) : Int) = _; have := HOA.out.1; omega⟩
        have HY6 : Hid (y < 6) := by have h1 := HOA.out.2.1; have h2 := HY.out; show _ < _; omega
        have HBY : Hid (j19.B y = l1[k].2) := by
          have h := HB19.out k hkl
          rw [← HY.out, Int.toNat_natCast] at h
          exact h
        obtain ⟨b, o, x, rfl, hx⟩ := ws_held H1.out.ws k hlt hkl y HY.out
        have HX := Lib.hid hx
        have HL96 : Hid ((j19.B y).length ≤ 96) := by show _ ≤ _; rw [HBY.out]; exact HOA.out.2.2
        clear hx
        generalize l1[k].2 = L at *
        go_upto_region 28 with (fail)
        have I0 := Lib.hid (HI.out.below (Below.refl _ _).drew)
        go_region_held (fun W => W.cell? ⟨b, o + k * 2, none⟩ = some (.int .i64 (y : Int)) ∧ W.cell? ⟨b, o + k * 2 + 1, none⟩ = some (.slice x.a x.n x.c) ∧ (convert 23 9 (.slice x.a x.n x.c)).run Try.prog W = .ok (.string (txt L)) W)
          (first | exact HX.out _ I0.out.bel | exact HX.out _ I1.out.bel)
          (first
            | (go_at_call 16
               refine (readJ_any (TS.live (Hid.out (p := TS w _ r dp S19 D19 j19 d19 s17 t17 cs17) (by assumption))).jd.jm y (by rw [HI.out.nb]; exact HY6.out) HL96.out).mono ?_
               rintro e w21 ⟨A7, n7, c7, rfl, hb7, -, -, hw7⟩
               have I1 : Hid (TS w w21 r dp S19 D19 j19 d19 s17 t17 cs17) := TS.below (Hid.out (by assumption)) hw7
               rw [HBY.out] at hb7
               have v7 := run_convert_bs w21 A7 n7 c7 L hb7
               clear hb7 hw7))
        all_goals
          go_wp2
          exact ⟨⟨k + 1, by omega, by go_num, I1.out⟩, by simp only [intOf]; omega⟩
      · go_wp2_with fail
        refine (seq_any HI.out.live.jd).mono ?_
        rintro e w20 ⟨rfl, rfl⟩
        rw [HS19.out]
        go_wp2
        go_ret
        exact ⟨rfl, HI.out.bel⟩
end Go.Proofs.Ytpbokckobghdmaa
