/-
  Contract of layer 4's Put.
-/
import Derived.Test.YtcieahfhpanogaaSPutN
import Derived.StillTailTactics
namespace Go.Proofs.Ytcieahfhpanogaa
open Go.RowKit

def z124 : List UInt8 := List.replicate 124 0
theorem zero_arr : (Try.prog.info? 96).bind (·.zero) = some (.agg (bc z124).toArray) := by kernel_rfl

theorem within_one (lo hi k : Int) (W : World) (t : TypeId) (b c : Nat) (hb : W.heap.size = b) :
    Calls Try.prog 56 #[.int .i64 lo, .int .i64 hi, .slice (some ⟨b, 0, none⟩) 1 c] (W.alloc (.cells #[.int .i64 k] t)) fun e w' => e = .returned (.bool (allIn lo hi [k])) ∧ W.alloc (.cells #[.int .i64 k] t) = w' := by
  subst hb
  refine within_any lo hi _ c [k] _ (fun j hj => ?_) (by simp)
  obtain rfl : j = 0 := by simpa using hj
  rw [cell_of_row _ _ _ _ _ _ (heap_alloc_new W _)]
  rfl
theorem within_two (lo hi k l : Int) (W : World) (t : TypeId) (b c : Nat) (hb : W.heap.size = b) :
    Calls Try.prog 56 #[.int .i64 lo, .int .i64 hi, .slice (some ⟨b, 0, none⟩) 2 c] (W.alloc (.cells #[.int .i64 k, .int .i64 l] t)) fun e w' => e = .returned (.bool (allIn lo hi [k, l])) ∧ W.alloc (.cells #[.int .i64 k, .int .i64 l] t) = w' := by
  subst hb
  refine within_any lo hi _ c [k, l] _ (fun j hj => ?_) (by simp)
  have hj' : j < 2 := by simpa using hj
  obtain rfl | rfl : j = 0 ∨ j = 1 := by omega
  · rw [cell_of_row _ _ _ _ _ _ (heap_alloc_new W _)]
    rfl
  · rw [cell_of_row _ _ _ _ _ _ (heap_alloc_new W _)]
    rfl
theorem allIn_one {lo hi k : Int} (h1 : lo ≤ k) (h2 : k ≤ hi) : allIn lo hi [k] = true := by simp [allIn, h1, h2]
theorem allIn_two {lo hi k l : Int} (h1 : lo ≤ k) (h2 : k ≤ hi) (h3 : lo ≤ l) (h4 : l ≤ hi) : allIn lo hi [k, l] = true := by simp [allIn, h1, h2, h3, h4]

/-- A new block of noughts, its number said. -/
theorem wpList_alloc_at {P : Program} {o : Oper} {a : Act} {w : World} {ops : Array Oper} {rest : List Oper} {Q : Exit → Act → World → Prop} (hg : o.guard = none) (ty : TypeId) (ho : o.op = .alloc ty) (z : Value) (hz : (P.info? ty).bind (·.zero) = some z) (g : Nat) (hs : w.heap.size = g)
    (h : ∀ w', w'.heap[g]? = some (.cells z.cells ty (0, 0)) → Below g w w' → wpList P ops Q rest (a.put o.dst (.pointer (some ⟨g, 0, none⟩))) w') : wpList P ops Q (o :: rest) a w := by
  subst hs
  exact wpList_alloc_any hg ty ho z hz fun w' h1 _ h2 => h w' h1 h2

theorem Bk.some {w : World} {g : Nat} {t : TypeId} {M : List UInt8} (h : Bk w g t M) (j : Nat) (hj : j < M.length) : ∃ o : UInt8, w.cell? ⟨g, j, none⟩ = some (.int .u8 (o.toNat : Int)) := ⟨_, h.cell j hj⟩
theorem Own.since {w W w' : World} {A : Option Addr} {n c : Nat} {l : List UInt8} (h : Own W w' A n c l) (hb : Below w.heap.size w W) : Own w w' A n c l := by
  refine ⟨⟨h.1.1, ?_⟩, hb.trans (h.2.mono hb.size)⟩
  rcases h.1.2 with h1 | ⟨g, cap, cur, h1, h2, h3⟩
  · exact .inl h1
  · exact .inr ⟨g, cap, cur, h1, Nat.le_trans hb.size h2, h3⟩
/-- A frame's cells. -/
def frc (k i c s a : Int) (B : Option Addr) (n cap : Nat) : Array Value := #[.int .i64 k, .int .i64 i, .int .i64 c, .int .u64 s, .int .u32 a, .slice B n cap]
/-- While Put fills its array: the frame lies in block p, the bytes M in block g, all that was there is as it was. -/
structure PS (w : World) (x : Array Value) (W : World) (p g : Nat) (M : List UInt8) : Prop where
  bk : Bk W g 96 M
  fr : W.heap[p]? = some (.cells x 76 (0, 0))
  below : Below w.heap.size w W
  lo : w.heap.size ≤ g
  ne : p ≠ g
theorem PS.cell {w W : World} {x : Array Value} {p g : Nat} {M : List UInt8} (h : PS w x W p g M) (j : Nat) (v : Value) (hv : x[j]? = some v) : W.cell? ⟨p, j, none⟩ = some v := by
  rw [cell_of_row _ _ _ _ _ _ h.fr]
  exact hv
theorem PS.step {w W W' : World} {x : Array Value} {p g : Nat} {M M' : List UInt8} (h : PS w x W p g M) (hk : Keep (· ≠ g) W W') (hb : Bk W' g 96 M') : PS w x W' p g M' :=
  ⟨hb, (hk.block p h.ne).trans h.fr, h.below.trans (Keep.below (hk.mono fun k hk => by have := h.lo; omega)), h.lo, h.ne⟩
theorem PS.set {w W : World} {x : Array Value} {p g : Nat} {M : List UInt8} (h : PS w x W p g M) (j : Nat) (b : UInt8) : PS w x (W.setCell ⟨g, j, none⟩ (.int .u8 (b.toNat : Int))) p g (M.set j b) :=
  h.step ((Keep.refl _ W).setCell (fun h => h rfl) _) (h.bk.set j b)
theorem PS.drew {w W : World} {x : Array Value} {p g : Nat} {M : List UInt8} (h : PS w x W p g M) : PS w x W.drew p g M := ⟨h.bk, h.fr, h.below.drew, h.lo, h.ne⟩

set_option maxRecDepth 100000 in
set_option maxHeartbeats 2000000 in
theorem put_ok (f : Fm) (B : Option Addr) (n cap : Nat) (w : World) (h : BS w B n f.b) (hf : f.ok) :
    Calls Try.prog 46 #[.agg #[.int .i64 (f.k.toNat : Int), .int .i64 (f.i.toNat : Int), .int .i64 (f.c.toNat : Int), .int .u64 (f.s : Int), .int .u32 (f.a : Int), .slice B n cap]] w fun e w' =>
      ∃ A' c', e = .returned (.tuple #[.slice A' 128 c', .int .i64 0]) ∧ Own w w' A' 128 c' (sealed f.enc) := by
  have HB := Lib.hid h
  have HF := Lib.hid hf
  have Hn : Hid (f.b.length = n) := h.1
  have hn : n ≤ 108 := by rw [← Hn.out]; exact hf.b
  have hk1 := hf.k1
  have hk4 := hf.k4
  have hi := f.i.toNat_lt
  have hc := f.c.toNat_lt
  clear h hf
  go_enter Try.func46, Try.ntmps46
  have hd : decide ((108 : Int) < (n : Int)) = false := by simp; omega
  go_wp2_with fail
  refine (within_one 1 4 _ _ _ _ _ (by simp)).mono ?_
  rw [allIn_one (by omega) (by omega)]
  rintro e w' ⟨rfl, rfl⟩
  go_wp2_with fail
  refine (within_two 0 255 _ _ _ _ _ _ (by simp)).mono ?_
  rw [allIn_two (by omega) (by omega) (by omega) (by omega)]
  rintro e w' ⟨rfl, rfl⟩
  go_upto_region 5 with (refine wpList_alloc_at rfl 96 rfl _ zero_arr (w.heap.size + 3) (by simp) ?_
                         intro w5 hb5 hw5
                         have HP : Hid (PS w (frc f.k.toNat f.i.toNat f.c.toNat f.s f.a B n cap) w5 w.heap.size (w.heap.size + 3) z124) :=
                           ⟨hb5, ((hw5.block _ (by omega)).trans (Below.heap_alloc _ _ _ (by simp; omega))).trans ((Below.heap_alloc _ _ _ (by simp)).trans (heap_alloc_new w _)),
                             ((((Below.refl w.heap.size w).alloc (Nat.le_refl _) _).alloc (by simp) _).alloc (by simp; omega) _).trans (hw5.mono (by omega)), by omega, by omega⟩
                         clear hb5 hw5)
  have c0 := HP.out.cell 0 (.int .i64 (f.k.toNat : Int)) rfl
  have c1 := HP.out.cell 1 (.int .i64 (f.i.toNat : Int)) rfl
  have c2 := HP.out.cell 2 (.int .i64 (f.c.toNat : Int)) rfl
  obtain ⟨o0, g0⟩ := HP.out.bk.some 0 (by decide)
  obtain ⟨o1, g1⟩ := HP.out.bk.some 1 (by decide)
  obtain ⟨o2, g2⟩ := HP.out.bk.some 2 (by decide)
  obtain ⟨o3, g3⟩ := HP.out.bk.some 3 (by decide)
  have f0 := HP.out.bk.froz 0
  have f1 := HP.out.bk.froz 1
  have f2 := HP.out.bk.froz 2
  have f3 := HP.out.bk.froz 3
  go_wp2_with fail
  have HP9 : Hid (PS w (frc f.k.toNat f.i.toNat f.c.toNat f.s f.a B n cap) ((((w5.setCell ⟨w.heap.size + 3, 0, none⟩ (.int .u8 (f.k.toNat : Int))).setCell ⟨w.heap.size + 3, 1, none⟩ (.int .u8 (f.i.toNat : Int))).setCell ⟨w.heap.size + 3, 2, none⟩ (.int .u8 (f.c.toNat : Int))).setCell ⟨w.heap.size + 3, 3, none⟩ (.int .u8 (n : Int)))
      w.heap.size (w.heap.size + 3) ([f.k, f.i, f.c, UInt8.ofNat n] ++ List.replicate 120 0)) := by
    have h1 := (((HP.out.set 0 f.k).set 1 f.i).set 2 f.c).set 3 (UInt8.ofNat n)
    rw [show ((UInt8.ofNat n).toNat : Int) = (n : Int) by simp; omega] at h1
    exact h1
  clear HP c0 c1 c2 g0 g1 g2 g3 f0 f1 f2 f3
  generalize (((w5.setCell ⟨w.heap.size + 3, 0, none⟩ (.int .u8 (f.k.toNat : Int))).setCell ⟨w.heap.size + 3, 1, none⟩ (.int .u8 (f.i.toNat : Int))).setCell ⟨w.heap.size + 3, 2, none⟩ (.int .u8 (f.c.toNat : Int))).setCell ⟨w.heap.size + 3, 3, none⟩ (.int .u8 (n : Int)) = w9 at *
  have c3 := HP9.out.drew.cell 3 (.int .u64 (f.s : Int)) rfl
  refine wp_region_still_tail 3 (by kernel_rfl) (by kernel_rfl) ?_
  simp only [List.take_succ_cons, List.take_zero, List.drop_succ_cons, List.drop_zero]
  change wpStill _ _ (World.drew _) _ _ _
  iterate 3 still_step
  refine wpStill_nil ?_
  change wpList _ _ _ _ _ (World.drew _)
  go_wp2_with fail
  refine (putNumber_any _ 4 8 _ _ _ f.s _ HP9.out.drew.bk (by simp) (by simp) HF.out.s).mono ?_
  rintro e w10 ⟨rfl, hb10, hk10, hs10⟩
  have HP10 : Hid (PS w (frc f.k.toNat f.i.toNat f.c.toNat f.s f.a B n cap) w10 w.heap.size (w.heap.size + 3) ([f.k, f.i, f.c, UInt8.ofNat n] ++ (be 8 f.s ++ List.replicate 112 0))) := HP9.out.drew.step hk10 hb10
  clear hb10 hk10 hs10 HP9 c3
  have c4 := HP10.out.drew.cell 4 (.int .u32 (f.a : Int)) rfl
  have ha := HF.out.a
  go_wp2_with fail
  refine wp_region_still_tail 4 (by kernel_rfl) (by kernel_rfl) ?_
  simp only [List.take_succ_cons, List.take_zero, List.drop_succ_cons, List.drop_zero]
  change wpStill _ _ (World.drew _) _ _ _
  iterate 4 still_step
  refine wpStill_nil ?_
  change wpList _ _ _ _ _ (World.drew _)
  go_wp2_with fail
  refine (putNumber_any _ 12 4 _ _ _ f.a _ HP10.out.drew.bk (by simp [be_length]) (by simp [be_length]) (by omega)).mono ?_
  rintro e w11 ⟨rfl, hb11, hk11, hs11⟩
  have HP11 : Hid (PS w (frc f.k.toNat f.i.toNat f.c.toNat f.s f.a B n cap) w11 w.heap.size (w.heap.size + 3) ([f.k, f.i, f.c, UInt8.ofNat n] ++ (be 8 f.s ++ (be 4 f.a ++ List.replicate 108 0)))) := HP10.out.drew.step hk11 (by exact hb11)
  clear hb11 hk11 hs11 HP10 c4
  have HM : Hid (([f.k, f.i, f.c, UInt8.ofNat n] ++ (be 8 f.s ++ (be 4 f.a ++ List.replicate 108 0))).take 16 ++ (f.b ++ ([f.k, f.i, f.c, UInt8.ofNat n] ++ (be 8 f.s ++ (be 4 f.a ++ List.replicate 108 0))).drop (16 + n)) = f.enc) := by
    show _ = _
    have e1 : [f.k, f.i, f.c, UInt8.ofNat n] ++ (be 8 f.s ++ (be 4 f.a ++ List.replicate 108 0)) = ([f.k, f.i, f.c, UInt8.ofNat n] ++ (be 8 f.s ++ be 4 f.a)) ++ List.replicate 108 0 := by simp
    rw [e1, ← List.drop_drop, take_left _ _ 16 (by simp [be_length]), drop_left _ _ 16 (by simp [be_length]), List.drop_replicate]
    unfold Fm.enc
    rw [Hn.out]
    simp
  have c5 := HP11.out.drew.cell 5 (.slice B n cap) rfl
  go_wp2_with fail
  refine wp_region_still_tail 3 (by kernel_rfl) (by kernel_rfl) ?_
  simp only [List.take_succ_cons, List.take_zero, List.drop_succ_cons, List.drop_zero]
  change wpStill _ _ (World.drew _) _ _ _
  iterate 3 still_step
  refine wpStill_nil ?_
  change wpList _ _ _ _ _ (World.drew _)
  go_wp2_with
    (refine wpList_copy_bs rfl (.tmp 51) (.tmp 53) 23 23 rfl 5 (w.heap.size + 3) 16 108 108 _ _ B n cap f.b rfl rfl Try.underlying23 size_u8 HP11.out.drew.bk (HB.out.below HP11.out.drew.below) (by simp [be_length]; omega) (by omega) ?_
     intro w12 hb12 hs12 hk12
     have HP12 : Hid (PS w (frc f.k.toNat f.i.toNat f.c.toNat f.s f.a B n cap) w12 w.heap.size (w.heap.size + 3) f.enc) := HP11.out.drew.step hk12 (by rw [← HM.out]; exact hb12)
     clear hb12 hs12 hk12)
  have HL : Hid (f.enc.length = 124) := f.enc_length (by rw [Hn.out]; exact hn)
  have HBS : Hid (BS w12 (some ⟨w.heap.size + 3, 0, none⟩) 124 f.enc) := by have := HP12.out.bk.bs; rw [HL.out] at this; exact this
  refine (sealed_any _ 124 _ f.enc w12 HBS.out (by omega)).mono ?_
  rintro e w13 ⟨A', c', rfl, ho⟩
  have HO : Hid (Own w w13 A' 128 c' (sealed f.enc)) := ho.since HP12.out.below
  clear ho
  go_wp2
  go_ret2
  exact ⟨A', c', rfl, HO.out⟩

theorem allIn_one_no {lo hi k : Int} (h : ¬ (lo ≤ k ∧ k ≤ hi)) : allIn lo hi [k] = false := by
  simp [allIn]
  omega
theorem allIn_two_no {lo hi k l : Int} (h : ¬ (lo ≤ k ∧ k ≤ hi ∧ lo ≤ l ∧ l ≤ hi)) : allIn lo hi [k, l] = false := by
  simp [allIn]
  omega
/-- A frame that may be. -/
def may (k i c : Int) (n : Nat) : Prop := (1 ≤ k ∧ k ≤ 4) ∧ (0 ≤ i ∧ i ≤ 255 ∧ 0 ≤ c ∧ c ≤ 255) ∧ n ≤ 108

set_option maxRecDepth 100000 in
set_option maxHeartbeats 2000000 in
theorem put_no (k i c s a : Int) (B : Option Addr) (n cap : Nat) (w : World) (h : ¬ may k i c n) :
    Calls Try.prog 46 #[.agg #[.int .i64 k, .int .i64 i, .int .i64 c, .int .u64 s, .int .u32 a, .slice B n cap]] w fun e w' =>
      e = .returned (.tuple #[.slice none 0 0, .int .i64 1]) ∧ Below w.heap.size w w' := by
  by_cases h1 : 1 ≤ k ∧ k ≤ 4
  · have H1 := Lib.hid (allIn_one h1.1 h1.2)
    by_cases h2 : 0 ≤ i ∧ i ≤ 255 ∧ 0 ≤ c ∧ c ≤ 255
    · have H2 := Lib.hid (allIn_two h2.1 h2.2.1 h2.2.2.1 h2.2.2.2)
      have h3 : 108 < n := by
        refine Nat.lt_of_not_le fun h3 => h ⟨h1, h2, h3⟩
      clear h h1 h2
      go_enter Try.func46, Try.ntmps46
      have hd : decide ((108 : Int) < (n : Int)) = true := by simp; omega
      go_wp2_with fail
      refine (within_one 1 4 _ _ _ _ _ (by simp)).mono ?_
      rw [H1.out]
      rintro e w' ⟨rfl, rfl⟩
      go_wp2_with fail
      refine (within_two 0 255 _ _ _ _ _ _ (by simp)).mono ?_
      rw [H2.out]
      rintro e w' ⟨rfl, rfl⟩
      go_wp2
      go_ret2
      exact ⟨rfl, (((Below.refl w.heap.size w).alloc (Nat.le_refl _) _).alloc (by simp) _).alloc (by simp; omega) _⟩
    · have H2 := Lib.hid (allIn_two_no h2)
      clear h h1 h2
      go_enter Try.func46, Try.ntmps46
      go_wp2_with fail
      refine (within_one 1 4 _ _ _ _ _ (by simp)).mono ?_
      rw [H1.out]
      rintro e w' ⟨rfl, rfl⟩
      go_wp2_with fail
      refine (within_two 0 255 _ _ _ _ _ _ (by simp)).mono ?_
      rw [H2.out]
      rintro e w' ⟨rfl, rfl⟩
      go_wp2
      go_ret2
      exact ⟨rfl, (((Below.refl w.heap.size w).alloc (Nat.le_refl _) _).alloc (by simp) _).alloc (by simp; omega) _⟩
  · have H1 := Lib.hid (allIn_one_no h1)
    clear h h1
    go_enter Try.func46, Try.ntmps46
    go_wp2_with fail
    refine (within_one 1 4 _ _ _ _ _ (by simp)).mono ?_
    rw [H1.out]
    rintro e w' ⟨rfl, rfl⟩
    go_wp2
    go_ret2
    exact ⟨rfl, ((Below.refl w.heap.size w).alloc (Nat.le_refl _) _).alloc (by simp) _⟩
end Go.Proofs.Ytcieahfhpanogaa
