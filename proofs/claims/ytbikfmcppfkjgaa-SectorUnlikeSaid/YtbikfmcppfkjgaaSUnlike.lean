/-
  The walk of SectorUnlike: two frames have the same bytes just if they are the same: the law's function returns true for every input.
-/
import Derived.Test.YtbikfmcppfkjgaaSPuts
namespace Go.Proofs.Ytbikfmcppfkjgaa
open Go.RowKit

/-- Two frames, in blocks p and q, and the bytes of both. -/
structure VW (f g : Fm) (w : World) (p q : Nat) (B : Option Addr) (n cap : Nat) (B2 : Option Addr) (n2 cap2 : Nat) (A2 A3 : Option Addr) (W : World) : Prop where
  one : FI w p f.k.toNat f.i.toNat f.c.toNat f.s f.a B n cap W
  two : FI w q g.k.toNat g.i.toNat g.c.toNat g.s g.a B2 n2 cap2 W
  hf : BS W B n f.b
  hg : BS W B2 n2 g.b
  hx : BS W A2 128 (sealed f.enc)
  hy : BS W A3 128 (sealed g.enc)
section
variable {f g : Fm} {w W W' : World} {p q : Nat} {B B2 A2 A3 : Option Addr} {n cap n2 cap2 : Nat}
theorem VW.step (h : VW f g w p q B n cap B2 n2 cap2 A2 A3 W) (hb : Below W.heap.size W W') : VW f g w p q B n cap B2 n2 cap2 A2 A3 W' := ⟨h.one.step hb, h.two.step hb, h.hf.below hb, h.hg.below hb, h.hx.below hb, h.hy.below hb⟩
theorem VW.drew (h : VW f g w p q B n cap B2 n2 cap2 A2 A3 W) : VW f g w p q B n cap B2 n2 cap2 A2 A3 W.drew := ⟨h.one.drew, h.two.drew, h.hf, h.hg, h.hx, h.hy⟩
theorem VW.cells (c2 c3 : Nat) (h : VW f g w p q B n cap B2 n2 cap2 A2 A3 W) : W.cell? ⟨p, 0, none⟩ = some (.int .i64 (f.k.toNat : Int)) ∧ W.cell? ⟨p, 1, none⟩ = some (.int .i64 (f.i.toNat : Int)) ∧ W.cell? ⟨p, 2, none⟩ = some (.int .i64 (f.c.toNat : Int)) ∧ W.cell? ⟨p, 3, none⟩ = some (.int .u64 (f.s : Int)) ∧ W.cell? ⟨p, 4, none⟩ = some (.int .u32 (f.a : Int)) ∧ W.cell? ⟨p, 5, none⟩ = some (.slice B n cap) ∧ W.cell? ⟨q, 0, none⟩ = some (.int .i64 (g.k.toNat : Int)) ∧ W.cell? ⟨q, 1, none⟩ = some (.int .i64 (g.i.toNat : Int)) ∧ W.cell? ⟨q, 2, none⟩ = some (.int .i64 (g.c.toNat : Int)) ∧ W.cell? ⟨q, 3, none⟩ = some (.int .u64 (g.s : Int)) ∧ W.cell? ⟨q, 4, none⟩ = some (.int .u32 (g.a : Int)) ∧ W.cell? ⟨q, 5, none⟩ = some (.slice B2 n2 cap2) ∧
      (convert 24 9 (.slice A2 128 c2)).run Try.prog W = .ok (.string (txt (sealed f.enc))) W ∧ (convert 24 9 (.slice A3 128 c3)).run Try.prog W = .ok (.string (txt (sealed g.enc))) W := by
  obtain ⟨c0, c1, c2, c3, c4, c5⟩ := h.one.cells
  obtain ⟨d0, d1, d2, d3, d4, d5⟩ := h.two.cells
  exact ⟨c0, c1, c2, c3, c4, c5, d0, d1, d2, d3, d4, d5, run_convert_bs W _ _ _ _ h.hx, run_convert_bs W _ _ _ _ h.hy⟩
end
/-- Two frames that may be are the same, or their bytes are not, and there is a first place at which they differ. -/
theorem cmp_cases (f g : Fm) (hf : f.ok) (hg : g.ok) : (((txt (sealed f.enc)).toList == (txt (sealed g.enc)).toList) = true ∧ ((f.k.toNat : Int) == (g.k.toNat : Int)) = true ∧ ((f.i.toNat : Int) == (g.i.toNat : Int)) = true ∧ ((f.c.toNat : Int) == (g.c.toNat : Int)) = true ∧ ((f.s : Int) == (g.s : Int)) = true ∧ ((f.a : Int) == (g.a : Int)) = true ∧ ((txt f.b).toList == (txt g.b).toList) = true) ∨ (((txt (sealed f.enc)).toList == (txt (sealed g.enc)).toList) = false ∧
    (((f.k.toNat : Int) == (g.k.toNat : Int)) = false ∨
    (((f.k.toNat : Int) == (g.k.toNat : Int)) = true ∧ ((f.i.toNat : Int) == (g.i.toNat : Int)) = false) ∨
    (((f.k.toNat : Int) == (g.k.toNat : Int)) = true ∧ ((f.i.toNat : Int) == (g.i.toNat : Int)) = true ∧ ((f.c.toNat : Int) == (g.c.toNat : Int)) = false) ∨
    (((f.k.toNat : Int) == (g.k.toNat : Int)) = true ∧ ((f.i.toNat : Int) == (g.i.toNat : Int)) = true ∧ ((f.c.toNat : Int) == (g.c.toNat : Int)) = true ∧ ((f.s : Int) == (g.s : Int)) = false) ∨
    (((f.k.toNat : Int) == (g.k.toNat : Int)) = true ∧ ((f.i.toNat : Int) == (g.i.toNat : Int)) = true ∧ ((f.c.toNat : Int) == (g.c.toNat : Int)) = true ∧ ((f.s : Int) == (g.s : Int)) = true ∧ ((f.a : Int) == (g.a : Int)) = false) ∨
    (((f.k.toNat : Int) == (g.k.toNat : Int)) = true ∧ ((f.i.toNat : Int) == (g.i.toNat : Int)) = true ∧ ((f.c.toNat : Int) == (g.c.toNat : Int)) = true ∧ ((f.s : Int) == (g.s : Int)) = true ∧ ((f.a : Int) == (g.a : Int)) = true ∧ ((txt f.b).toList == (txt g.b).toList) = false))) := by
  by_cases h : f = g
  · subst h
    exact .inl ⟨beq_self_eq_true _, beq_self_eq_true _, beq_self_eq_true _, beq_self_eq_true _, beq_self_eq_true _, beq_self_eq_true _, beq_self_eq_true _⟩
  · refine .inr ⟨?_, ?_⟩
    · rw [txt_list, txt_list]
      exact beq_false_of_ne fun e => h (enc_inj hf hg e)
    · have q : ∀ x y : UInt8, x ≠ y → ((x.toNat : Int) == (y.toNat : Int)) = false := fun x y e => beq_false_of_ne fun e2 => e (UInt8.toNat_inj.1 (by omega))
      have q2 : ∀ x y : Nat, x ≠ y → ((x : Int) == (y : Int)) = false := fun x y e => beq_false_of_ne fun e2 => e (by omega)
      obtain ⟨k, i, c, s, a, b⟩ := f
      obtain ⟨k2, i2, c2, s2, a2, b2⟩ := g
      dsimp only
      by_cases h0 : k = k2
      · by_cases h1 : i = i2
        · by_cases h2 : c = c2
          · by_cases h3 : s = s2
            · by_cases h4 : a = a2
              · subst h0 h1 h2 h3 h4
                have h5 : b ≠ b2 := fun e => h (by rw [e])
                refine .inr (.inr (.inr (.inr (.inr ⟨beq_self_eq_true _, beq_self_eq_true _, beq_self_eq_true _, beq_self_eq_true _, beq_self_eq_true _, ?_⟩))))
                rw [txt_list, txt_list]
                exact beq_false_of_ne h5
              · subst h0 h1 h2 h3
                exact .inr (.inr (.inr (.inr (.inl ⟨beq_self_eq_true _, beq_self_eq_true _, beq_self_eq_true _, beq_self_eq_true _, q2 _ _ h4⟩))))
            · subst h0 h1 h2
              exact .inr (.inr (.inr (.inl ⟨beq_self_eq_true _, beq_self_eq_true _, beq_self_eq_true _, q2 _ _ h3⟩)))
          · subst h0 h1
            exact .inr (.inr (.inl ⟨beq_self_eq_true _, beq_self_eq_true _, q _ _ h2⟩))
        · subst h0
          exact .inr (.inl ⟨beq_self_eq_true _, q _ _ h1⟩)
      · exact .inl (q _ _ h0)

set_option maxRecDepth 100000 in
set_option maxHeartbeats 4000000 in
theorem unlike_big (k i c s a : Int) (B : Option Addr) (n cap : Nat) (k2 i2 c2 s2 a2 : Int) (B2 : Option Addr) (n2 cap2 : Nat) (same : Bool) (w : World) (h : 200 < n ∨ 200 < n2) :
    Calls Try.prog 7 #[.agg #[.int .i64 k, .int .i64 i, .int .i64 c, .int .u64 s, .int .u32 a, .slice B n cap], .agg #[.int .i64 k2, .int .i64 i2, .int .i64 c2, .int .u64 s2, .int .u32 a2, .slice B2 n2 cap2], .bool same] w fun e w' => e = .returned (.bool true) ∧ Below w.heap.size w w' := by
  have HA := Lib.hid awake_any
  by_cases h1 : 200 < n
  · have hd : decide ((200 : Int) < (n : Int)) = true := by simp; omega
    go_enter Try.func7, Try.ntmps7
    go_wp2_with fail
    refine (HA.out _).mono ?_
    rintro e w1 ⟨rfl, hw1⟩
    have HF1 : Hid (FI w w.heap.size k i c s a B n cap w1) := ((FI.new (Below.refl _ w) rfl).step ((Below.refl _ _).alloc (Nat.le_refl _) _)).step hw1
    have HG1 : Hid (FI w (w.heap.size + 1) k2 i2 c2 s2 a2 B2 n2 cap2 w1) := (FI.new ((Below.refl _ w).alloc (Nat.le_refl _) _) (by simp)).step hw1
    clear hw1
    obtain ⟨x0, x1, x2, x3, x4, x5⟩ := HF1.out.cells
    obtain ⟨d0, d1, d2, d3, d4, d5⟩ := HG1.out.cells
    go_wp2_with fail
    go_ret
    exact ⟨rfl, HF1.out.below⟩
  · have hd : decide ((200 : Int) < (n : Int)) = false := by simp; omega
    have hd2 : decide ((200 : Int) < (n2 : Int)) = true := by simp; omega
    go_enter Try.func7, Try.ntmps7
    go_wp2_with fail
    refine (HA.out _).mono ?_
    rintro e w1 ⟨rfl, hw1⟩
    have HF1 : Hid (FI w w.heap.size k i c s a B n cap w1) := ((FI.new (Below.refl _ w) rfl).step ((Below.refl _ _).alloc (Nat.le_refl _) _)).step hw1
    have HG1 : Hid (FI w (w.heap.size + 1) k2 i2 c2 s2 a2 B2 n2 cap2 w1) := (FI.new ((Below.refl _ w).alloc (Nat.le_refl _) _) (by simp)).step hw1
    clear hw1
    obtain ⟨x0, x1, x2, x3, x4, x5⟩ := HF1.out.cells
    obtain ⟨d0, d1, d2, d3, d4, d5⟩ := HG1.out.cells
    go_wp2_with fail
    go_ret
    exact ⟨rfl, HF1.out.below⟩

set_option maxRecDepth 100000 in
set_option maxHeartbeats 8000000 in
theorem unlike_same_no (k i c s a : Int) (B : Option Addr) (n cap : Nat) (k2 i2 c2 s2 a2 : Int) (B2 : Option Addr) (n2 cap2 : Nat) (w : World) (hm1 : ¬ may k i c n) (h : ¬ 200 < n) (h2 : ¬ 200 < n2) :
    Calls Try.prog 7 #[.agg #[.int .i64 k, .int .i64 i, .int .i64 c, .int .u64 s, .int .u32 a, .slice B n cap], .agg #[.int .i64 k2, .int .i64 i2, .int .i64 c2, .int .u64 s2, .int .u32 a2, .slice B2 n2 cap2], .bool true] w fun e w' => e = .returned (.bool true) ∧ Below w.heap.size w w' := by
  have HA := Lib.hid awake_any
  have HMf := Lib.hid hm1
  clear hm1
  have hd : decide ((200 : Int) < (n : Int)) = false := by simp; omega
  have hd2 : decide ((200 : Int) < (n2 : Int)) = false := by simp; omega
  go_enter Try.func7, Try.ntmps7
  go_wp2_with fail
  refine (HA.out _).mono ?_
  rintro e w1 ⟨rfl, hw1⟩
  have HF1 : Hid (FI w w.heap.size k i c s a B n cap w1) := ((FI.new (Below.refl _ w) rfl).step ((Below.refl _ _).alloc (Nat.le_refl _) _)).step hw1
  have HG1 : Hid (FI w (w.heap.size + 1) k2 i2 c2 s2 a2 B2 n2 cap2 w1) := (FI.new ((Below.refl _ w).alloc (Nat.le_refl _) _) (by simp)).step hw1
  clear hw1
  obtain ⟨x0, x1, x2, x3, x4, x5⟩ := HF1.out.cells
  obtain ⟨d0, d1, d2, d3, d4, d5⟩ := HG1.out.cells
  have e0 := HG1.out.froz 0
  have e1 := HG1.out.froz 1
  have e2 := HG1.out.froz 2
  have e3 := HG1.out.froz 3
  have e4 := HG1.out.froz 4
  have e5 := HG1.out.froz 5
  go_upto_region 8 with (refine wpList_store_any rfl 26 (.tmp 4) (.tmp 26) rfl (w.heap.size + 1) #[.int .i64 k, .int .i64 i, .int .i64 c, .int .u64 s, .int .u32 a, .slice B n cap] rfl rfl 26 _ HG1.out.fr size_frame rfl (frc_all _ _ _ _ _ _ _ _) ?_
                         intro wz hb hs hw
                         have HF0 : Hid (FI w w.heap.size k i c s a B n cap wz) := ⟨HF1.out.below.trans (Keep.below (hw.mono fun k hk => by omega)), (hw.block _ (by omega)).trans HF1.out.fr⟩
                         have HG0 : Hid (FI w (w.heap.size + 1) k i c s a B n cap wz) := ⟨HF0.out.below, hb⟩
                         clear hb hs hw)
  clear HF1 HG1 x0 x1 x2 x3 x4 x5 d0 d1 d2 d3 d4 d5 e0 e1 e2 e3 e4 e5
  have HF1 := HF0
  have HG1 := HG0
  clear HF0 HG0
  obtain ⟨x0, x1, x2, x3, x4, x5⟩ := HF1.out.cells
  obtain ⟨d0, d1, d2, d3, d4, d5⟩ := HG1.out.cells
  go_wp2_with fail
  refine (put_no k i c s a B n cap wz HMf.out).mono ?_
  rintro e w2 ⟨rfl, hw⟩
  have HF2 := Lib.hid (HF1.out.step hw)
  have HG2 := Lib.hid (HG1.out.step hw)
  clear hw
  clear HF1 HG1 x0 x1 x2 x3 x4 x5 d0 d1 d2 d3 d4 d5
  have HF1 := HF2
  have HG1 := HG2
  clear HF2 HG2
  obtain ⟨x0, x1, x2, x3, x4, x5⟩ := HF1.out.cells
  obtain ⟨d0, d1, d2, d3, d4, d5⟩ := HG1.out.cells
  go_wp2_with fail
  refine (put_no k i c s a B n cap w2 HMf.out).mono ?_
  rintro e w3 ⟨rfl, hw⟩
  have HF2 := Lib.hid (HF1.out.step hw)
  have HG2 := Lib.hid (HG1.out.step hw)
  clear hw
  clear HF1 HG1 x0 x1 x2 x3 x4 x5 d0 d1 d2 d3 d4 d5
  have HF1 := HF2
  have HG1 := HG2
  clear HF2 HG2
  obtain ⟨x0, x1, x2, x3, x4, x5⟩ := HF1.out.cells
  obtain ⟨d0, d1, d2, d3, d4, d5⟩ := HG1.out.cells
  go_wp2_with fail
  go_ret
  exact ⟨rfl, HF1.out.below⟩

set_option maxRecDepth 100000 in
set_option maxHeartbeats 8000000 in
theorem unlike_no_no (k i c s a : Int) (B : Option Addr) (n cap : Nat) (k2 i2 c2 s2 a2 : Int) (B2 : Option Addr) (n2 cap2 : Nat) (w : World) (hm1 : ¬ may k i c n) (hm2 : ¬ may k2 i2 c2 n2) (h : ¬ 200 < n) (h2 : ¬ 200 < n2) :
    Calls Try.prog 7 #[.agg #[.int .i64 k, .int .i64 i, .int .i64 c, .int .u64 s, .int .u32 a, .slice B n cap], .agg #[.int .i64 k2, .int .i64 i2, .int .i64 c2, .int .u64 s2, .int .u32 a2, .slice B2 n2 cap2], .bool false] w fun e w' => e = .returned (.bool true) ∧ Below w.heap.size w w' := by
  have HA := Lib.hid awake_any
  have HMf := Lib.hid hm1
  have HMg := Lib.hid hm2
  clear hm1 hm2
  have hd : decide ((200 : Int) < (n : Int)) = false := by simp; omega
  have hd2 : decide ((200 : Int) < (n2 : Int)) = false := by simp; omega
  go_enter Try.func7, Try.ntmps7
  go_wp2_with fail
  refine (HA.out _).mono ?_
  rintro e w1 ⟨rfl, hw1⟩
  have HF1 : Hid (FI w w.heap.size k i c s a B n cap w1) := ((FI.new (Below.refl _ w) rfl).step ((Below.refl _ _).alloc (Nat.le_refl _) _)).step hw1
  have HG1 : Hid (FI w (w.heap.size + 1) k2 i2 c2 s2 a2 B2 n2 cap2 w1) := (FI.new ((Below.refl _ w).alloc (Nat.le_refl _) _) (by simp)).step hw1
  clear hw1
  obtain ⟨x0, x1, x2, x3, x4, x5⟩ := HF1.out.cells
  obtain ⟨d0, d1, d2, d3, d4, d5⟩ := HG1.out.cells
  go_wp2_with fail
  refine (put_no k i c s a B n cap w1 HMf.out).mono ?_
  rintro e w2 ⟨rfl, hw⟩
  have HF2 := Lib.hid (HF1.out.step hw)
  have HG2 := Lib.hid (HG1.out.step hw)
  clear hw
  clear HF1 HG1 x0 x1 x2 x3 x4 x5 d0 d1 d2 d3 d4 d5
  have HF1 := HF2
  have HG1 := HG2
  clear HF2 HG2
  obtain ⟨x0, x1, x2, x3, x4, x5⟩ := HF1.out.cells
  obtain ⟨d0, d1, d2, d3, d4, d5⟩ := HG1.out.cells
  go_wp2_with fail
  refine (put_no k2 i2 c2 s2 a2 B2 n2 cap2 w2 HMg.out).mono ?_
  rintro e w3 ⟨rfl, hw⟩
  have HF2 := Lib.hid (HF1.out.step hw)
  have HG2 := Lib.hid (HG1.out.step hw)
  clear hw
  clear HF1 HG1 x0 x1 x2 x3 x4 x5 d0 d1 d2 d3 d4 d5
  have HF1 := HF2
  have HG1 := HG2
  clear HF2 HG2
  obtain ⟨x0, x1, x2, x3, x4, x5⟩ := HF1.out.cells
  obtain ⟨d0, d1, d2, d3, d4, d5⟩ := HG1.out.cells
  go_wp2_with fail
  go_ret
  exact ⟨rfl, HF1.out.below⟩

set_option maxRecDepth 100000 in
set_option maxHeartbeats 8000000 in
theorem unlike_no_ok (k i c s a : Int) (B : Option Addr) (n cap : Nat) (g : Fm) (B2 : Option Addr) (n2 cap2 : Nat) (w : World) (hm1 : ¬ may k i c n) (hb2 : BS w B2 n2 g.b) (hg : g.ok) (h : ¬ 200 < n) (h2 : ¬ 200 < n2) :
    Calls Try.prog 7 #[.agg #[.int .i64 k, .int .i64 i, .int .i64 c, .int .u64 s, .int .u32 a, .slice B n cap], .agg #[.int .i64 (g.k.toNat : Int), .int .i64 (g.i.toNat : Int), .int .i64 (g.c.toNat : Int), .int .u64 (g.s : Int), .int .u32 (g.a : Int), .slice B2 n2 cap2], .bool false] w fun e w' => e = .returned (.bool true) ∧ Below w.heap.size w w' := by
  have HA := Lib.hid awake_any
  have HMf := Lib.hid hm1
  have HB2 := Lib.hid hb2
  have HOKg := Lib.hid hg
  clear hm1 hb2 hg
  have hd : decide ((200 : Int) < (n : Int)) = false := by simp; omega
  have hd2 : decide ((200 : Int) < (n2 : Int)) = false := by simp; omega
  go_enter Try.func7, Try.ntmps7
  go_wp2_with fail
  refine (HA.out _).mono ?_
  rintro e w1 ⟨rfl, hw1⟩
  have HF1 : Hid (FI w w.heap.size k i c s a B n cap w1) := ((FI.new (Below.refl _ w) rfl).step ((Below.refl _ _).alloc (Nat.le_refl _) _)).step hw1
  have HG1 : Hid (FI w (w.heap.size + 1) (g.k.toNat : Int) (g.i.toNat : Int) (g.c.toNat : Int) (g.s : Int) (g.a : Int) B2 n2 cap2 w1) := (FI.new ((Below.refl _ w).alloc (Nat.le_refl _) _) (by simp)).step hw1
  clear hw1
  obtain ⟨x0, x1, x2, x3, x4, x5⟩ := HF1.out.cells
  obtain ⟨d0, d1, d2, d3, d4, d5⟩ := HG1.out.cells
  go_wp2_with fail
  refine (put_no k i c s a B n cap w1 HMf.out).mono ?_
  rintro e w2 ⟨rfl, hw⟩
  have HF2 := Lib.hid (HF1.out.step hw)
  have HG2 := Lib.hid (HG1.out.step hw)
  clear hw
  clear HF1 HG1 x0 x1 x2 x3 x4 x5 d0 d1 d2 d3 d4 d5
  have HF1 := HF2
  have HG1 := HG2
  clear HF2 HG2
  obtain ⟨x0, x1, x2, x3, x4, x5⟩ := HF1.out.cells
  obtain ⟨d0, d1, d2, d3, d4, d5⟩ := HG1.out.cells
  go_wp2_with fail
  refine (put_ok g B2 n2 cap2 w2 (HB2.out.below HF1.out.below) HOKg.out).mono ?_
  rintro e w3 ⟨A3, k3c, rfl, ho⟩
  have HF2 := Lib.hid (HF1.out.step ho.2)
  have HG2 := Lib.hid (HG1.out.step ho.2)
  have HY3 := Lib.hid ho.bs
  clear ho
  clear HF1 HG1 x0 x1 x2 x3 x4 x5 d0 d1 d2 d3 d4 d5
  have HF1 := HF2
  have HG1 := HG2
  clear HF2 HG2
  obtain ⟨x0, x1, x2, x3, x4, x5⟩ := HF1.out.cells
  obtain ⟨d0, d1, d2, d3, d4, d5⟩ := HG1.out.cells
  go_wp2_with fail
  go_ret
  exact ⟨rfl, HF1.out.below⟩

set_option maxRecDepth 100000 in
set_option maxHeartbeats 8000000 in
theorem unlike_ok_no (f : Fm) (B : Option Addr) (n cap : Nat) (k2 i2 c2 s2 a2 : Int) (B2 : Option Addr) (n2 cap2 : Nat) (w : World) (hb1 : BS w B n f.b) (hf : f.ok) (hm2 : ¬ may k2 i2 c2 n2) (h : ¬ 200 < n) (h2 : ¬ 200 < n2) :
    Calls Try.prog 7 #[.agg #[.int .i64 (f.k.toNat : Int), .int .i64 (f.i.toNat : Int), .int .i64 (f.c.toNat : Int), .int .u64 (f.s : Int), .int .u32 (f.a : Int), .slice B n cap], .agg #[.int .i64 k2, .int .i64 i2, .int .i64 c2, .int .u64 s2, .int .u32 a2, .slice B2 n2 cap2], .bool false] w fun e w' => e = .returned (.bool true) ∧ Below w.heap.size w w' := by
  have HA := Lib.hid awake_any
  have HB1 := Lib.hid hb1
  have HOKf := Lib.hid hf
  have HMg := Lib.hid hm2
  clear hb1 hf hm2
  have hd : decide ((200 : Int) < (n : Int)) = false := by simp; omega
  have hd2 : decide ((200 : Int) < (n2 : Int)) = false := by simp; omega
  go_enter Try.func7, Try.ntmps7
  go_wp2_with fail
  refine (HA.out _).mono ?_
  rintro e w1 ⟨rfl, hw1⟩
  have HF1 : Hid (FI w w.heap.size (f.k.toNat : Int) (f.i.toNat : Int) (f.c.toNat : Int) (f.s : Int) (f.a : Int) B n cap w1) := ((FI.new (Below.refl _ w) rfl).step ((Below.refl _ _).alloc (Nat.le_refl _) _)).step hw1
  have HG1 : Hid (FI w (w.heap.size + 1) k2 i2 c2 s2 a2 B2 n2 cap2 w1) := (FI.new ((Below.refl _ w).alloc (Nat.le_refl _) _) (by simp)).step hw1
  clear hw1
  obtain ⟨x0, x1, x2, x3, x4, x5⟩ := HF1.out.cells
  obtain ⟨d0, d1, d2, d3, d4, d5⟩ := HG1.out.cells
  go_wp2_with fail
  refine (put_ok f B n cap w1 (HB1.out.below HF1.out.below) HOKf.out).mono ?_
  rintro e w2 ⟨A2, k2c, rfl, ho⟩
  have HF2 := Lib.hid (HF1.out.step ho.2)
  have HG2 := Lib.hid (HG1.out.step ho.2)
  have HX2 := Lib.hid ho.bs
  clear ho
  clear HF1 HG1 x0 x1 x2 x3 x4 x5 d0 d1 d2 d3 d4 d5
  have HF1 := HF2
  have HG1 := HG2
  clear HF2 HG2
  obtain ⟨x0, x1, x2, x3, x4, x5⟩ := HF1.out.cells
  obtain ⟨d0, d1, d2, d3, d4, d5⟩ := HG1.out.cells
  go_wp2_with fail
  refine (put_no k2 i2 c2 s2 a2 B2 n2 cap2 w2 HMg.out).mono ?_
  rintro e w3 ⟨rfl, hw⟩
  have HF2 := Lib.hid (HF1.out.step hw)
  have HG2 := Lib.hid (HG1.out.step hw)
  clear hw
  clear HF1 HG1 x0 x1 x2 x3 x4 x5 d0 d1 d2 d3 d4 d5
  have HF1 := HF2
  have HG1 := HG2
  clear HF2 HG2
  obtain ⟨x0, x1, x2, x3, x4, x5⟩ := HF1.out.cells
  obtain ⟨d0, d1, d2, d3, d4, d5⟩ := HG1.out.cells
  go_wp2_with fail
  go_ret
  exact ⟨rfl, HF1.out.below⟩

set_option maxRecDepth 100000 in
set_option maxHeartbeats 8000000 in
theorem unlike_ok_ok (f : Fm) (B : Option Addr) (n cap : Nat) (g : Fm) (B2 : Option Addr) (n2 cap2 : Nat) (w : World) (hb1 : BS w B n f.b) (hf : f.ok) (hb2 : BS w B2 n2 g.b) (hg : g.ok) (h : ¬ 200 < n) (h2 : ¬ 200 < n2) :
    Calls Try.prog 7 #[.agg #[.int .i64 (f.k.toNat : Int), .int .i64 (f.i.toNat : Int), .int .i64 (f.c.toNat : Int), .int .u64 (f.s : Int), .int .u32 (f.a : Int), .slice B n cap], .agg #[.int .i64 (g.k.toNat : Int), .int .i64 (g.i.toNat : Int), .int .i64 (g.c.toNat : Int), .int .u64 (g.s : Int), .int .u32 (g.a : Int), .slice B2 n2 cap2], .bool false] w fun e w' => e = .returned (.bool true) ∧ Below w.heap.size w w' := by
  have HA := Lib.hid awake_any
  have HB1 := Lib.hid hb1
  have HOKf := Lib.hid hf
  have HB2 := Lib.hid hb2
  have HOKg := Lib.hid hg
  clear hb1 hf hb2 hg
  have hd : decide ((200 : Int) < (n : Int)) = false := by simp; omega
  have hd2 : decide ((200 : Int) < (n2 : Int)) = false := by simp; omega
  go_enter Try.func7, Try.ntmps7
  go_wp2_with fail
  refine (HA.out _).mono ?_
  rintro e w1 ⟨rfl, hw1⟩
  have HF1 : Hid (FI w w.heap.size (f.k.toNat : Int) (f.i.toNat : Int) (f.c.toNat : Int) (f.s : Int) (f.a : Int) B n cap w1) := ((FI.new (Below.refl _ w) rfl).step ((Below.refl _ _).alloc (Nat.le_refl _) _)).step hw1
  have HG1 : Hid (FI w (w.heap.size + 1) (g.k.toNat : Int) (g.i.toNat : Int) (g.c.toNat : Int) (g.s : Int) (g.a : Int) B2 n2 cap2 w1) := (FI.new ((Below.refl _ w).alloc (Nat.le_refl _) _) (by simp)).step hw1
  clear hw1
  obtain ⟨x0, x1, x2, x3, x4, x5⟩ := HF1.out.cells
  obtain ⟨d0, d1, d2, d3, d4, d5⟩ := HG1.out.cells
  go_wp2_with fail
  refine (put_ok f B n cap w1 (HB1.out.below HF1.out.below) HOKf.out).mono ?_
  rintro e w2 ⟨A2, k2c, rfl, ho⟩
  have HF2 := Lib.hid (HF1.out.step ho.2)
  have HG2 := Lib.hid (HG1.out.step ho.2)
  have HX2 := Lib.hid ho.bs
  clear ho
  clear HF1 HG1 x0 x1 x2 x3 x4 x5 d0 d1 d2 d3 d4 d5
  have HF1 := HF2
  have HG1 := HG2
  clear HF2 HG2
  obtain ⟨x0, x1, x2, x3, x4, x5⟩ := HF1.out.cells
  obtain ⟨d0, d1, d2, d3, d4, d5⟩ := HG1.out.cells
  go_wp2_with fail
  refine (put_ok g B2 n2 cap2 w2 (HB2.out.below HF1.out.below) HOKg.out).mono ?_
  rintro e w3 ⟨A3, k3c, rfl, ho⟩
  have HF2 := Lib.hid (HF1.out.step ho.2)
  have HG2 := Lib.hid (HG1.out.step ho.2)
  have HY3 := Lib.hid ho.bs
  have HX3 := Lib.hid (HX2.out.below ho.2)
  clear ho
  clear HF1 HG1 x0 x1 x2 x3 x4 x5 d0 d1 d2 d3 d4 d5
  have HF1 := HF2
  have HG1 := HG2
  clear HF2 HG2
  obtain ⟨x0, x1, x2, x3, x4, x5⟩ := HF1.out.cells
  obtain ⟨d0, d1, d2, d3, d4, d5⟩ := HG1.out.cells
  clear x0 x1 x2 x3 x4 x5 d0 d1 d2 d3 d4 d5
  go_upto_region 12 with (fail)
  have V3 : Hid (VW f g w w.heap.size (w.heap.size + 1) B n cap B2 n2 cap2 A2 A3 w3.drew) := VW.drew ⟨HF1.out, HG1.out, HB1.out.below HF1.out.below, HB2.out.below HF1.out.below, HX3.out, HY3.out⟩
  clear HF1 HG1 HX2 HX3 HY3
  rcases cmp_cases f g HOKf.out HOKg.out with ⟨hne, q1, q2, q3, q4, q5, q6⟩ | ⟨hne, q1 | ⟨q1, q2⟩ | ⟨q1, q2, q3⟩ | ⟨q1, q2, q3, q4⟩ | ⟨q1, q2, q3, q4, q5⟩ | ⟨q1, q2, q3, q4, q5, q6⟩⟩
  all_goals
    go_region_held (fun W => W.cell? ⟨w.heap.size, 0, none⟩ = some (.int .i64 (f.k.toNat : Int)) ∧ W.cell? ⟨w.heap.size, 1, none⟩ = some (.int .i64 (f.i.toNat : Int)) ∧ W.cell? ⟨w.heap.size, 2, none⟩ = some (.int .i64 (f.c.toNat : Int)) ∧ W.cell? ⟨w.heap.size, 3, none⟩ = some (.int .u64 (f.s : Int)) ∧ W.cell? ⟨w.heap.size, 4, none⟩ = some (.int .u32 (f.a : Int)) ∧ W.cell? ⟨w.heap.size, 5, none⟩ = some (.slice B n cap) ∧ W.cell? ⟨w.heap.size + 1, 0, none⟩ = some (.int .i64 (g.k.toNat : Int)) ∧ W.cell? ⟨w.heap.size + 1, 1, none⟩ = some (.int .i64 (g.i.toNat : Int)) ∧ W.cell? ⟨w.heap.size + 1, 2, none⟩ = some (.int .i64 (g.c.toNat : Int)) ∧ W.cell? ⟨w.heap.size + 1, 3, none⟩ = some (.int .u64 (g.s : Int)) ∧ W.cell? ⟨w.heap.size + 1, 4, none⟩ = some (.int .u32 (g.a : Int)) ∧ W.cell? ⟨w.heap.size + 1, 5, none⟩ = some (.slice B2 n2 cap2) ∧
          (convert 24 9 (.slice A2 128 k2c)).run Try.prog W = .ok (.string (txt (sealed f.enc))) W ∧ (convert 24 9 (.slice A3 128 k3c)).run Try.prog W = .ok (.string (txt (sealed g.enc))) W)
      (first | exact V3.out.cells k2c k3c | exact V4.out.cells k2c k3c | exact V5.out.cells k2c k3c)
      (first
        | (go_at_call 11
           with_reducible refine (frameOf_lit _ _ _ _ _ B n cap f.b _ (VW.hf (Hid.out (p := VW f g w w.heap.size (w.heap.size + 1) B n cap B2 n2 cap2 A2 A3 _) (by assumption)))).mono ?_
           rintro e w4 ⟨rfl, hb4⟩
           first
             | (have V4 : Hid (VW f g w w.heap.size (w.heap.size + 1) B n cap B2 n2 cap2 A2 A3 w4) := VW.step V3.out hb4)
             | (have V5 : Hid (VW f g w w.heap.size (w.heap.size + 1) B n cap B2 n2 cap2 A2 A3 w4) := VW.step V4.out hb4)
           clear hb4)
        | (go_at_call 11
           with_reducible refine (frameOf_lit _ _ _ _ _ B2 n2 cap2 g.b _ (VW.hg (Hid.out (p := VW f g w w.heap.size (w.heap.size + 1) B n cap B2 n2 cap2 A2 A3 _) (by assumption)))).mono ?_
           rintro e w5 ⟨rfl, hb5⟩
           have V5 : Hid (VW f g w w.heap.size (w.heap.size + 1) B n cap B2 n2 cap2 A2 A3 w5) := VW.step (Hid.out (by assumption)) hb5
           clear hb5))
    all_goals
      go_wp2_with fail
      go_ret
      exact ⟨rfl, V5.out.one.below⟩

set_option maxRecDepth 100000 in
set_option maxHeartbeats 8000000 in
theorem unlike_same_ok (f : Fm) (B : Option Addr) (n cap : Nat) (k2 i2 c2 s2 a2 : Int) (B2 : Option Addr) (n2 cap2 : Nat) (w : World) (hb1 : BS w B n f.b) (hf : f.ok) (h : ¬ 200 < n) (h2 : ¬ 200 < n2) :
    Calls Try.prog 7 #[.agg #[.int .i64 (f.k.toNat : Int), .int .i64 (f.i.toNat : Int), .int .i64 (f.c.toNat : Int), .int .u64 (f.s : Int), .int .u32 (f.a : Int), .slice B n cap], .agg #[.int .i64 k2, .int .i64 i2, .int .i64 c2, .int .u64 s2, .int .u32 a2, .slice B2 n2 cap2], .bool true] w fun e w' => e = .returned (.bool true) ∧ Below w.heap.size w w' := by
  have HA := Lib.hid awake_any
  have HB1 := Lib.hid hb1
  have HOKf := Lib.hid hf
  clear hb1 hf
  have hd : decide ((200 : Int) < (n : Int)) = false := by simp; omega
  have hd2 : decide ((200 : Int) < (n2 : Int)) = false := by simp; omega
  go_enter Try.func7, Try.ntmps7
  go_wp2_with fail
  refine (HA.out _).mono ?_
  rintro e w1 ⟨rfl, hw1⟩
  have HF1 : Hid (FI w w.heap.size (f.k.toNat : Int) (f.i.toNat : Int) (f.c.toNat : Int) (f.s : Int) (f.a : Int) B n cap w1) := ((FI.new (Below.refl _ w) rfl).step ((Below.refl _ _).alloc (Nat.le_refl _) _)).step hw1
  have HG1 : Hid (FI w (w.heap.size + 1) k2 i2 c2 s2 a2 B2 n2 cap2 w1) := (FI.new ((Below.refl _ w).alloc (Nat.le_refl _) _) (by simp)).step hw1
  clear hw1
  obtain ⟨x0, x1, x2, x3, x4, x5⟩ := HF1.out.cells
  obtain ⟨d0, d1, d2, d3, d4, d5⟩ := HG1.out.cells
  have e0 := HG1.out.froz 0
  have e1 := HG1.out.froz 1
  have e2 := HG1.out.froz 2
  have e3 := HG1.out.froz 3
  have e4 := HG1.out.froz 4
  have e5 := HG1.out.froz 5
  go_upto_region 8 with (refine wpList_store_any rfl 26 (.tmp 4) (.tmp 26) rfl (w.heap.size + 1) #[.int .i64 (f.k.toNat : Int), .int .i64 (f.i.toNat : Int), .int .i64 (f.c.toNat : Int), .int .u64 (f.s : Int), .int .u32 (f.a : Int), .slice B n cap] rfl rfl 26 _ HG1.out.fr size_frame rfl (frc_all _ _ _ _ _ _ _ _) ?_
                         intro wz hb hs hw
                         have HF0 : Hid (FI w w.heap.size (f.k.toNat : Int) (f.i.toNat : Int) (f.c.toNat : Int) (f.s : Int) (f.a : Int) B n cap wz) := ⟨HF1.out.below.trans (Keep.below (hw.mono fun k hk => by omega)), (hw.block _ (by omega)).trans HF1.out.fr⟩
                         have HG0 : Hid (FI w (w.heap.size + 1) (f.k.toNat : Int) (f.i.toNat : Int) (f.c.toNat : Int) (f.s : Int) (f.a : Int) B n cap wz) := ⟨HF0.out.below, hb⟩
                         clear hb hs hw)
  clear HF1 HG1 x0 x1 x2 x3 x4 x5 d0 d1 d2 d3 d4 d5 e0 e1 e2 e3 e4 e5
  have HF1 := HF0
  have HG1 := HG0
  clear HF0 HG0
  obtain ⟨x0, x1, x2, x3, x4, x5⟩ := HF1.out.cells
  obtain ⟨d0, d1, d2, d3, d4, d5⟩ := HG1.out.cells
  go_wp2_with fail
  refine (put_ok f B n cap wz (HB1.out.below HF1.out.below) HOKf.out).mono ?_
  rintro e w2 ⟨A2, k2c, rfl, ho⟩
  have HF2 := Lib.hid (HF1.out.step ho.2)
  have HG2 := Lib.hid (HG1.out.step ho.2)
  have HX2 := Lib.hid ho.bs
  clear ho
  clear HF1 HG1 x0 x1 x2 x3 x4 x5 d0 d1 d2 d3 d4 d5
  have HF1 := HF2
  have HG1 := HG2
  clear HF2 HG2
  obtain ⟨x0, x1, x2, x3, x4, x5⟩ := HF1.out.cells
  obtain ⟨d0, d1, d2, d3, d4, d5⟩ := HG1.out.cells
  go_wp2_with fail
  refine (put_ok f B n cap w2 (HB1.out.below HF1.out.below) HOKf.out).mono ?_
  rintro e w3 ⟨A3, k3c, rfl, ho⟩
  have HF2 := Lib.hid (HF1.out.step ho.2)
  have HG2 := Lib.hid (HG1.out.step ho.2)
  have HY3 := Lib.hid ho.bs
  have HX3 := Lib.hid (HX2.out.below ho.2)
  clear ho
  clear HF1 HG1 x0 x1 x2 x3 x4 x5 d0 d1 d2 d3 d4 d5
  have HF1 := HF2
  have HG1 := HG2
  clear HF2 HG2
  obtain ⟨x0, x1, x2, x3, x4, x5⟩ := HF1.out.cells
  obtain ⟨d0, d1, d2, d3, d4, d5⟩ := HG1.out.cells
  clear x0 x1 x2 x3 x4 x5 d0 d1 d2 d3 d4 d5
  go_upto_region 12 with (fail)
  have V3 : Hid (VW f f w w.heap.size (w.heap.size + 1) B n cap B n cap A2 A3 w3.drew) := VW.drew ⟨HF1.out, HG1.out, HB1.out.below HF1.out.below, HB1.out.below HF1.out.below, HX3.out, HY3.out⟩
  clear HF1 HG1 HX2 HX3 HY3
  go_region_held (fun W => W.cell? ⟨w.heap.size, 0, none⟩ = some (.int .i64 (f.k.toNat : Int)) ∧ W.cell? ⟨w.heap.size, 1, none⟩ = some (.int .i64 (f.i.toNat : Int)) ∧ W.cell? ⟨w.heap.size, 2, none⟩ = some (.int .i64 (f.c.toNat : Int)) ∧ W.cell? ⟨w.heap.size, 3, none⟩ = some (.int .u64 (f.s : Int)) ∧ W.cell? ⟨w.heap.size, 4, none⟩ = some (.int .u32 (f.a : Int)) ∧ W.cell? ⟨w.heap.size, 5, none⟩ = some (.slice B n cap) ∧ W.cell? ⟨w.heap.size + 1, 0, none⟩ = some (.int .i64 (f.k.toNat : Int)) ∧ W.cell? ⟨w.heap.size + 1, 1, none⟩ = some (.int .i64 (f.i.toNat : Int)) ∧ W.cell? ⟨w.heap.size + 1, 2, none⟩ = some (.int .i64 (f.c.toNat : Int)) ∧ W.cell? ⟨w.heap.size + 1, 3, none⟩ = some (.int .u64 (f.s : Int)) ∧ W.cell? ⟨w.heap.size + 1, 4, none⟩ = some (.int .u32 (f.a : Int)) ∧ W.cell? ⟨w.heap.size + 1, 5, none⟩ = some (.slice B n cap) ∧
        (convert 24 9 (.slice A2 128 k2c)).run Try.prog W = .ok (.string (txt (sealed f.enc))) W ∧ (convert 24 9 (.slice A3 128 k3c)).run Try.prog W = .ok (.string (txt (sealed f.enc))) W)
    (first | exact V3.out.cells k2c k3c | exact V4.out.cells k2c k3c | exact V5.out.cells k2c k3c)
    (first
      | (go_at_call 11
         with_reducible refine (frameOf_lit _ _ _ _ _ B n cap f.b _ (VW.hf (Hid.out (p := VW f f w w.heap.size (w.heap.size + 1) B n cap B n cap A2 A3 _) (by assumption)))).mono ?_
         rintro e w4 ⟨rfl, hb4⟩
         first
           | (have V4 : Hid (VW f f w w.heap.size (w.heap.size + 1) B n cap B n cap A2 A3 w4) := VW.step V3.out hb4)
           | (have V5 : Hid (VW f f w w.heap.size (w.heap.size + 1) B n cap B n cap A2 A3 w4) := VW.step V4.out hb4)
         clear hb4)
      | (go_at_call 11
         with_reducible refine (frameOf_lit _ _ _ _ _ B n cap f.b _ (VW.hg (Hid.out (p := VW f f w w.heap.size (w.heap.size + 1) B n cap B n cap A2 A3 _) (by assumption)))).mono ?_
         rintro e w5 ⟨rfl, hb5⟩
         have V5 : Hid (VW f f w w.heap.size (w.heap.size + 1) B n cap B n cap A2 A3 w5) := VW.step (Hid.out (by assumption)) hb5
         clear hb5))
  all_goals
    go_wp2_with fail
    go_ret
    exact ⟨rfl, V5.out.one.below⟩

theorem unlike_walk (k i c : Int) (s a : Nat) (B : Option Addr) (n cap : Nat) (l : List UInt8) (k2 i2 c2 : Int) (s2 a2 : Nat) (B2 : Option Addr) (n2 cap2 : Nat) (l2 : List UInt8) (same : Bool) (w : World) (hb : BS w B n l) (hb2 : BS w B2 n2 l2)
    (hs : s < 18446744073709551616) (ha : a < 4294967296) (hs2 : s2 < 18446744073709551616) (ha2 : a2 < 4294967296) :
    Calls Try.prog 7 #[.agg #[.int .i64 k, .int .i64 i, .int .i64 c, .int .u64 (s : Int), .int .u32 (a : Int), .slice B n cap], .agg #[.int .i64 k2, .int .i64 i2, .int .i64 c2, .int .u64 (s2 : Int), .int .u32 (a2 : Int), .slice B2 n2 cap2], .bool same] w fun e w' => e = .returned (.bool true) ∧ Below w.heap.size w w' := by
  by_cases h : 200 < n ∨ 200 < n2
  · exact unlike_big k i c s a B n cap k2 i2 c2 s2 a2 B2 n2 cap2 same w h
  · have h1 : ¬ 200 < n := fun e => h (.inl e)
    have h2 : ¬ 200 < n2 := fun e => h (.inr e)
    by_cases hm : may k i c n
    · obtain ⟨f, hf, rfl, rfl, rfl, rfl, rfl, rfl⟩ := may_fm hm hb.1 hs ha
      cases same
      · by_cases hm2 : may k2 i2 c2 n2
        · obtain ⟨g, hg, rfl, rfl, rfl, rfl, rfl, rfl⟩ := may_fm hm2 hb2.1 hs2 ha2
          exact unlike_ok_ok f B n cap g B2 n2 cap2 w hb hf hb2 hg h1 h2
        · exact unlike_ok_no f B n cap k2 i2 c2 s2 a2 B2 n2 cap2 w hb hf hm2 h1 h2
      · exact unlike_same_ok f B n cap k2 i2 c2 s2 a2 B2 n2 cap2 w hb hf h1 h2
    · cases same
      · by_cases hm2 : may k2 i2 c2 n2
        · obtain ⟨g, hg, rfl, rfl, rfl, rfl, rfl, rfl⟩ := may_fm hm2 hb2.1 hs2 ha2
          exact unlike_no_ok k i c s a B n cap g B2 n2 cap2 w hm hb2 hg h1 h2
        · exact unlike_no_no k i c s a B n cap k2 i2 c2 s2 a2 B2 n2 cap2 w hm hm2 h1 h2
      · exact unlike_same_no k i c s a B n cap k2 i2 c2 s2 a2 B2 n2 cap2 w hm h1 h2
end Go.Proofs.Ytbikfmcppfkjgaa
