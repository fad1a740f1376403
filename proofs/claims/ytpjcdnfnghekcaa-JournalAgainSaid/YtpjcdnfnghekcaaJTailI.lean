/-
  A journal of the laws of 16 sectors' log and six blocks, on a disk that does not stop; Open behind a crash; a write of an argument.
-/
import Derived.Test.YtpjcdnfnghekcaaJTailM
import Derived.Test.YtpjcdnfnghekcaaJIn
import Derived.Deep.RegionHeld
namespace Go.Proofs.Ytpjcdnfnghekcaa
open Go.RowKit

/-- A journal of the law, on a disk that does not stop. -/
structure TS (w W : World) (p dp : Nat) (S D : Nat → Prop) (j : J.JS) (d : DS) (s t : Nat) (c : List J.Chg) : Prop where
  live : Live W p dp S D j d s t c
  calm : J.Calm d
  n : d.n = 40
  log : j.log = 16
  nb : j.nb = 6
  bel : Below w.heap.size w W
  hS : ∀ k, S k ∨ D k → w.heap.size ≤ k
section
variable {w W W' : World} {p dp q : Nat} {S D S' D' : Nat → Prop} {j j' : J.JS} {d d' : DS} {s t s' t' : Nat} {c c' : List J.Chg}
theorem TS.below (h : TS w W p dp S D j d s t c) (hb : Below W.heap.size W W') : TS w W' p dp S D j d s t c := ⟨h.live.below hb, h.calm, h.n, h.log, h.nb, h.bel.trans (hb.mono h.bel.size), h.hS⟩
theorem TS.step (h : TS w W p dp S D j d s t c) (hl : LStep W W' p dp S D j' d' s' t' c') (h1 : J.Calm d') (h2 : d'.n = d.n) (h3 : j'.log = j.log) (h4 : j'.nb = j.nb) : ∃ S' D', TS w W' p dp S' D' j' d' s' t' c' := by
  obtain ⟨S', D', k1, k2, k3, k4⟩ := hl
  refine ⟨S', D', k1, h1, h2.trans h.n, h3.trans h.log, h4.trans h.nb, h.bel.trans (k2.below h.bel.size h.hS), fun k hk => ?_⟩
  have := h.bel.size
  rcases hk with hk | hk
  · rcases k3 k hk with h5 | h5
    · exact h.hS k (.inl h5)
    · omega
  · rcases k4 k hk with h5 | h5
    · exact h.hS k (.inr h5)
    · omega
theorem below_ws (hb : Below w.heap.size w W) {A : Option Addr} {n : Nat} {l : List (Int × List UInt8)} (hw : WS w (fun k => k < w.heap.size) A n l) : WS W (fun k => k < w.heap.size) A n l := hw.keepK ((Keep.of_below hb).mono fun _ hk => hk)
theorem TS.off (h : TS w W p dp S D j d s t c) : ∀ k, k < w.heap.size → k < W.heap.size ∧ ¬ (S k ∨ D k) := fun k hk => ⟨Nat.lt_of_lt_of_le hk h.bel.size, fun h' => by have := h.hS k h'; omega⟩
/-- A crash, and Open behind it. -/
theorem crash_open {A : Option Addr} {m cp : Nat} {L : List UInt8} (h : JD W p dp S D j d) (hb : Below w.heap.size w W) (hS : ∀ k, S k ∨ D k → w.heap.size ≤ k) (hs : d.pend.length ≤ 1000000) (hL : BS w A m L) (hm : m ≤ maxLen) :
    Calls Try.prog 15 #[.pointer (some ⟨dp, 0, none⟩), .slice A m cp] W fun e W' => (∃ v : Int, e = .returned (.int .i64 v)) ∧ ∃ D', Dk W' dp D' (d.crashed L) ∧ Below w.heap.size w W' ∧ ∀ k, D' k → w.heap.size ≤ k := by
  refine (crash_all dp D d A m cp L W h.dk hs (hL.below hb) (fun h0 ad e hD => ?_) hm).mono ?_
  · have h1 := hS _ (.inr hD)
    have h2 := hL.lt_block h0 ad e
    omega
  rintro e W' ⟨rfl, hst⟩
  obtain ⟨D', k1, k2, -, k4⟩ := h.disk hst
  exact ⟨⟨_, rfl⟩, D', k1.dk, hb.trans (k2.below hb.size hS), fun k hk => (k4 k hk).elim (fun h => hS k (.inr h)) fun h => Nat.le_trans hb.size h⟩
theorem open_ts {B : Nat → List UInt8} {L : List UInt8} (h : Dk W dp D (d.crashed L)) (hb : Below w.heap.size w W) (hD : ∀ k, D k → w.heap.size ≤ k) (hn : d.n = 40) (hi : J.Inv d 16 6 s t c B) (hsq : s + c.length + 1 < 18446744073709551616) :
    Calls Try.prog 11 #[.pointer (some ⟨dp, 0, none⟩), .int .i64 16, .int .i64 6] W fun e W' => ∃ q S' D' j' d', e = .returned (.tuple #[.pointer (some ⟨q, 0, none⟩), .int .i64 0]) ∧ TS w W' q dp S' D' j' d' s t c ∧ (∀ i, i < 6 → j'.B i = B i) ∧ d'.pend.length ≤ 6 ∧ j'.seq = s + c.length := by
  refine (open_live h (by show (0 : Nat) ≤ _; omega) 16 6 (by omega) (by omega) (by omega) (by omega) (by show 1 + 16 + 6 ≤ d.n; omega) (J.crashed_calm _ _) (J.Inv.crash (show 0 < 16 by omega) hi L) hsq).mono ?_
  rintro e W' ⟨q, S9, D9, j9, d9, rfl, hl9, hc9, hn9, hlog9, hnb9, hB9, hp9, hf9, hS9, hD9⟩
  refine ⟨q, S9, D9, j9, d9, rfl, ⟨hl9, hc9, by rw [hn9]; exact hn, hlog9, hnb9, hb.trans (hf9.below hb.size hD), fun k hk => ?_⟩, hB9, ?_, hl9.seq⟩
  · rcases hk with hk | hk
    · exact Nat.le_trans hb.size (hS9 k hk)
    · exact (hD9 k hk).elim (hD k) fun h => Nat.le_trans hb.size h
  · have : d9.pend.length ≤ 0 + 6 := hp9
    omega
/-- A write of the law's argument, in whichever world it is looked at. -/
theorem ws_held {A : Option Addr} {n : Nat} {l : List (Int × List UInt8)} (hw : WS w (fun k => k < w.heap.size) A n l) (k : Nat) (hk : k < n) (hkl : k < l.length) (y : Nat) (hy : (y : Int) = l[k].1) :
    ∃ b o x, A = some ⟨b, o, none⟩ ∧ ∀ W, Below w.heap.size w W → W.cell? ⟨b, o + k * 2, none⟩ = some (.int .i64 (y : Int)) ∧ W.cell? ⟨b, o + k * 2 + 1, none⟩ = some (.slice (Sl.a x) x.n x.c) ∧ (convert 23 9 (.slice x.a x.n x.c)).run Try.prog W = .ok (.string (txt l[k].2)) W := by
  obtain ⟨b, o, x, hkl', e, hX, g1, g2, g3, -, g5⟩ := hw.at k hk
  refine ⟨b, o, x, e, fun W hb => ?_⟩
  have hc : ∀ i, W.cell? ⟨b, i, none⟩ = w.cell? ⟨b, i, none⟩ := fun i => hb.cell (p := ⟨b, i, none⟩) hX
  exact ⟨by rw [hc, g1, hy], by rw [hc, g2], run_convert_bs W _ _ _ _ (g3.below hb)⟩
end
end Go.Proofs.Ytpjcdnfnghekcaa
