/-
  BitsWith walked (layer 6).
-/
import Derived.Test.YtkodjojidoigiaaDoorBAwake
import Derived.Deep.RegionHeld
import Derived.IntWalk
import Derived.Deep.DeepCutAuto
namespace Go.Proofs.YtkodjojidoigiaaDoor
open Go.RowKit

theorem trimmed_last {r : List UInt8} (h : Bt.Trimmed r) {z : Nat} (hl : r.length = z + 1) (hz : z < r.length) : r[z].toNat ≠ 0 := by
  rcases h with rfl | ⟨a, b, rfl, hb⟩
  · simp at hl
  · have e : z = a.length := by simp at hl; omega
    subst e
    intro h0
    refine hb (UInt8.toNat_inj.1 ?_)
    simpa using h0
/-- An operation of a region that draws its order, taken first. -/
theorem takeH {P : Program} {md : Region.Mode} {ops : Array Oper} {S : World → Prop} {Q : Exit → Act → World → Prop} {i : Nat} {oi : Oper} (dst : Tmp) (v : Value) {fuel : Nat} {listed : Array Bool} {a : Act} {w : World} (hi : ops[i]? = some oi) (hd : oi.dst = some dst)
    (hs : Region.noSelect ops = true) (hf : Region.free md ops listed i = true) (hr : (Region.ready md ops listed).contains i = true) (hQ : ∀ c a w, Q (.panic c) (a.put (some dst) v) w → Q (.panic c) a w) (hy : YieldsIf P ops S oi v a) (hS : S w)
    (h : wpAnyH P md ops Q S fuel (listed.setIfInBounds i true) (a.put (some dst) v) w) : wpAnyH P md ops Q S (fuel + 1) listed a w := by
  rw [← hd] at hQ h
  exact wpAnyH_take hi hs hf hr hQ hy hS h

/-- A later world; the slice still reads as these bytes. -/
structure LW (w : World) (A : Option Addr) (n : Nat) (l : List UInt8) (B : Option Addr) (m : Nat) (r : List UInt8) (W : World) : Prop where
  bel : Below w.heap.size w W
  one : BS W A n l
  two : BS W B m r
theorem LW.drewN {w W : World} {A B : Option Addr} {n m : Nat} {l r : List UInt8} (h : LW w A n l B m r W) (d : Nat) : LW w A n l B m r (W.drewN d) := ⟨below_drewN h.bel d, h.one.drewN d, h.two.drewN d⟩
theorem LW.drew {w W : World} {A B : Option Addr} {n m : Nat} {l r : List UInt8} (h : LW w A n l B m r W) : LW w A n l B m r W.drew := h.drewN 1
theorem LW.below {w W W' : World} {A B : Option Addr} {n m : Nat} {l r : List UInt8} (h : LW w A n l B m r W) (hb : Below W.heap.size W W') : LW w A n l B m r W' := ⟨h.bel.trans (hb.mono h.bel.size), h.one.below hb, h.two.below hb⟩

set_option maxRecDepth 100000 in
set_option maxHeartbeats 1000000 in
theorem with_walk (A : Option Addr) (n c : Nat) (l : List UInt8) (i : Int) (t : Bool) (w : World) (h : BS w A n l) (hi0 : 0 ≤ i) (hi : i ≤ 255) :
    Calls Tryd.prog 5 #[.slice A n c, .int .u8 i, .bool t] w fun e w' => e = .returned (.bool true) ∧ Below w.heap.size w w' := by
  obtain ⟨k, rfl⟩ := Int.eq_ofNat_of_zero_le hi0
  have HL := Lib.hid h
  clear h
  by_cases hn : n ≤ 40
  · go_enter Tryd.func5, Tryd.ntmps5
    go_wp2_with fail
    refine (awake_any w).mono ?_
    rintro e w1 ⟨rfl, hb1⟩
    have HW1 := Lib.hid hb1
    have HL1 := Lib.hid (HL.out.below hb1)
    clear hb1
    go_wp2_with fail
    refine (with_any A n c l k t w1 HL1.out (by omega) (by omega)).mono ?_
    rintro e w2 ⟨A2, m2, c2, rfl, h2, hb2⟩
    rw [Bt.witI_nat] at h2
    have HI := Lib.hid (LW.mk (HW1.out.trans (hb2.mono HW1.out.size)) (HL1.out.below hb2) h2)
    have HM : Hid (m2 ≤ 72) := by
      have h3 := Bt.wit_length l k t
      have h4 := HL.out.1
      have h5 := h2.1
      show _ ≤ _
      omega
    clear h2 hb2
    go_wp2_with fail
    go_loopw [9, 10] (fun i u wr => ∃ j : Nat, j ≤ 400 ∧ i = .int .i64 j ∧ Hid (LW w A n l A2 m2 (Bt.wit l k t) wr)) (fun i _ _ => 400 - (intOf i).toNat)
    case atStart => exact ⟨0, by omega, rfl, HI⟩
    case round =>
      clear HI
      obtain ⟨j, hj, rfl, HI⟩ := hrel
      by_cases hlt : j < 400
      · have HH := Lib.hid (Bt.has_wit l k t j)
        have hm := HM.out
        go_wp2_with fail
        refine (has_any A n c l j wr HI.out.one (by omega) (by omega)).mono ?_
        rintro e w3 ⟨rfl, d3, rfl⟩
        rw [Bt.hasI_nat]
        have HI3 := Lib.hid (HI.out.drewN d3)
        by_cases hjk : j = k
        · subst hjk
          have HH : Hid (Bt.has (Bt.wit l j t) j = t) := by show _ = _; rw [Bt.has_wit, if_pos rfl]
          go_wp2_with fail
          refine (has_any A2 m2 c2 (Bt.wit l j t) j _ HI3.out.two (by omega) (by omega)).mono ?_
          rintro e w4 ⟨rfl, d4, rfl⟩
          rw [Bt.hasI_nat, HH.out]
          have HI4 := Lib.hid (HI.out.drewN (d3 + d4))
          go_wp2
          go_roundw
          case rel => exact ⟨j + 1, by omega, by go_num, HI4⟩
          case measure => simp [intOf]; omega
        · have HH : Hid (Bt.has (Bt.wit l k t) j = Bt.has l j) := by show _ = _; rw [Bt.has_wit, if_neg hjk]
          have hjd : ((j : Int) == (k : Int)) = false := by simp; omega
          go_wp2_with fail
          refine (has_any A2 m2 c2 (Bt.wit l k t) j _ HI3.out.two (by omega) (by omega)).mono ?_
          rintro e w4 ⟨rfl, d4, rfl⟩
          rw [Bt.hasI_nat, HH.out]
          have HI4 := Lib.hid (HI.out.drewN (d3 + d4))
          go_wp2
          go_roundw
          case rel => exact ⟨j + 1, by omega, by go_num, HI4⟩
          case measure => simp [intOf]; omega
      · have HJ : Hid (j = 400) := by show _ = _; omega
        have HG := Lib.hid (Bt.wit_again l k t)
        have HTR := Lib.hid (Bt.wit_trimmed l k t)
        go_upto_region 15 with (fail)
        generalize Bt.wit l k t = r at *
        have I0 := Lib.hid HI.out.drew
        have hm := HM.out
        rcases Nat.eq_zero_or_pos m2 with h0 | h0
        · subst h0
          have hwk : IntKind.i64.wrap (k : Int) = (k : Int) := IntWalk.i64_in _ (by omega)
          have HS : Hid ((convert 22 9 (.slice A2 0 c2)).run Tryd.prog wr.drew = .ok (.string (txt r)) wr.drew) := run_convert_bs _ _ _ _ _ I0.out.two
          refine wp_region_held_drew (S := fun W => (convert 22 9 (.slice A2 0 c2)).run Tryd.prog W = .ok (.string (txt r)) W) (by kernel_rfl) HS.out (fun _ => ?_)
          change wpAnyH _ _ _ _ _ 24 (Array.replicate 24 false) _ _
          refine takeH (i := 0) 39 (.slice A2 0 c2) rfl rfl (by kernel_rfl) (by kernel_rfl) (by kernel_rfl) (fun _ _ _ h => h) (.inl ⟨by rfl, fun W hW => by go_simp⟩) HS.out ?_
          simp only [Act.put, List.setIfInBounds_toArray, List.set_cons_zero, List.set_cons_succ]
          refine takeH (i := 1) 40 (.int .i64 0) rfl rfl (by kernel_rfl) (by kernel_rfl) (by kernel_rfl) (fun _ _ _ h => h) (.inl ⟨by rfl, fun W hW => by go_simp⟩) HS.out ?_
          simp only [Act.put, List.setIfInBounds_toArray, List.set_cons_zero, List.set_cons_succ]
          refine takeH (i := 2) 41 (.bool true) rfl rfl (by kernel_rfl) (by kernel_rfl) (by kernel_rfl) (fun _ _ _ h => h) (.inl ⟨by rfl, fun W hW => by go_simp⟩) HS.out ?_
          simp only [Act.put, List.setIfInBounds_toArray, List.set_cons_zero, List.set_cons_succ]
          refine takeH (i := 3) 42 (.bool true) rfl rfl (by kernel_rfl) (by kernel_rfl) (by kernel_rfl) (fun _ _ _ h => h) (.inl ⟨by rfl, fun W hW => by go_simp⟩) HS.out ?_
          simp only [Act.put, List.setIfInBounds_toArray, List.set_cons_zero, List.set_cons_succ]
          refine takeH (i := 4) 43 undef rfl rfl (by kernel_rfl) (by kernel_rfl) (by kernel_rfl) (fun _ _ _ h => h) (.inr ⟨by rfl, rfl⟩) HS.out ?_
          simp only [Act.put, List.setIfInBounds_toArray, List.set_cons_zero, List.set_cons_succ]
          refine takeH (i := 5) 44 undef rfl rfl (by kernel_rfl) (by kernel_rfl) (by kernel_rfl) (fun _ _ _ h => h) (.inr ⟨by rfl, rfl⟩) HS.out ?_
          simp only [Act.put, List.setIfInBounds_toArray, List.set_cons_zero, List.set_cons_succ]
          refine takeH (i := 6) 45 undef rfl rfl (by kernel_rfl) (by kernel_rfl) (by kernel_rfl) (fun _ _ _ h => h) (.inr ⟨by rfl, rfl⟩) HS.out ?_
          simp only [Act.put, List.setIfInBounds_toArray, List.set_cons_zero, List.set_cons_succ]
          refine takeH (i := 7) 46 undef rfl rfl (by kernel_rfl) (by kernel_rfl) (by kernel_rfl) (fun _ _ _ h => h) (.inr ⟨by rfl, rfl⟩) HS.out ?_
          simp only [Act.put, List.setIfInBounds_toArray, List.set_cons_zero, List.set_cons_succ]
          refine takeH (i := 8) 47 undef rfl rfl (by kernel_rfl) (by kernel_rfl) (by kernel_rfl) (fun _ _ _ h => h) (.inr ⟨by rfl, rfl⟩) HS.out ?_
          simp only [Act.put, List.setIfInBounds_toArray, List.set_cons_zero, List.set_cons_succ]
          refine takeH (i := 9) 48 undef rfl rfl (by kernel_rfl) (by kernel_rfl) (by kernel_rfl) (fun _ _ _ h => h) (.inr ⟨by rfl, rfl⟩) HS.out ?_
          simp only [Act.put, List.setIfInBounds_toArray, List.set_cons_zero, List.set_cons_succ]
          refine takeH (i := 10) 49 undef rfl rfl (by kernel_rfl) (by kernel_rfl) (by kernel_rfl) (fun _ _ _ h => h) (.inr ⟨by rfl, rfl⟩) HS.out ?_
          simp only [Act.put, List.setIfInBounds_toArray, List.set_cons_zero, List.set_cons_succ]
          refine takeH (i := 11) 50 (.bool true) rfl rfl (by kernel_rfl) (by kernel_rfl) (by kernel_rfl) (fun _ _ _ h => h) (.inl ⟨by rfl, fun W hW => by go_simp⟩) HS.out ?_
          simp only [Act.put, List.setIfInBounds_toArray, List.set_cons_zero, List.set_cons_succ]
          refine takeH (i := 12) 51 (.bool true) rfl rfl (by kernel_rfl) (by kernel_rfl) (by kernel_rfl) (fun _ _ _ h => h) (.inl ⟨by rfl, fun W hW => by go_simp⟩) HS.out ?_
          simp only [Act.put, List.setIfInBounds_toArray, List.set_cons_zero, List.set_cons_succ]
          refine takeH (i := 13) 52 (.slice A2 0 c2) rfl rfl (by kernel_rfl) (by kernel_rfl) (by kernel_rfl) (fun _ _ _ h => h) (.inl ⟨by rfl, fun W hW => by go_simp⟩) HS.out ?_
          simp only [Act.put, List.setIfInBounds_toArray, List.set_cons_zero, List.set_cons_succ]
          refine takeH (i := 14) 53 (.int .u8 (k : Int)) rfl rfl (by kernel_rfl) (by kernel_rfl) (by kernel_rfl) (fun _ _ _ h => h) (.inl ⟨by rfl, fun W hW => by go_simp⟩) HS.out ?_
          simp only [Act.put, List.setIfInBounds_toArray, List.set_cons_zero, List.set_cons_succ]
          refine takeH (i := 15) 54 (.int .i64 (k : Int)) rfl rfl (by kernel_rfl) (by kernel_rfl) (by kernel_rfl) (fun _ _ _ h => h) (.inl ⟨by rfl, fun W hW => by go_simp⟩) HS.out ?_
          simp only [Act.put, List.setIfInBounds_toArray, List.set_cons_zero, List.set_cons_succ]
          refine takeH (i := 16) 55 (.bool t) rfl rfl (by kernel_rfl) (by kernel_rfl) (by kernel_rfl) (fun _ _ _ h => h) (.inl ⟨by rfl, fun W hW => by go_simp⟩) HS.out ?_
          simp only [Act.put, List.setIfInBounds_toArray, List.set_cons_zero, List.set_cons_succ]
          refine takeH (i := 19) 58 (.slice A2 0 c2) rfl rfl (by kernel_rfl) (by kernel_rfl) (by kernel_rfl) (fun _ _ _ h => h) (.inl ⟨by rfl, fun W hW => by go_simp⟩) HS.out ?_
          simp only [Act.put, List.setIfInBounds_toArray, List.set_cons_zero, List.set_cons_succ]
          refine takeH (i := 20) 59 (.string (txt r)) rfl rfl (by kernel_rfl) (by kernel_rfl) (by kernel_rfl) (fun _ _ _ h => h) (.inl ⟨by rfl, fun W hW => by (dsimp only at hW; go_simp)⟩) HS.out ?_
          simp only [Act.put, List.setIfInBounds_toArray, List.set_cons_zero, List.set_cons_succ]
          refine wpAnyH_ready (rs := [17]) (by kernel_rfl) (by simp) ?_
          refine AllReadyH.cons rfl (fun K hK => ?_) AllReadyH.nil
          go_simp
          refine (with_any A2 0 c2 r k t _ I0.out.two (by omega) (by omega)).mono ?_
          rintro e w5 ⟨A5, m5, c5, rfl, h5, hb5⟩
          rw [Bt.witI_nat, HG.out] at h5
          have I1 := Lib.hid (I0.out.below hb5)
          have v5 := run_convert_bs w5 A5 m5 c5 r h5
          refine hK.out _ _ (run_convert_bs _ _ _ _ _ I1.out.two) fun HS5 => ?_
          clear hK K
          have HS := Lib.hid HS5
          refine wpAnyH_ready (rs := [18]) (by kernel_rfl) (by simp) ?_
          refine AllReadyH.cons rfl (fun K hK => ?_) AllReadyH.nil
          go_simp
          refine hK.out _ _ HS.out fun _ => ?_
          clear hK K
          refine takeH (i := 21) 60 (.bool true) rfl rfl (by kernel_rfl) (by kernel_rfl) (by kernel_rfl) (fun _ _ _ h => h) (.inl ⟨by rfl, fun W hW => by go_simp⟩) HS.out ?_
          simp only [Act.put, List.setIfInBounds_toArray, List.set_cons_zero, List.set_cons_succ]
          refine takeH (i := 22) 61 (.bool true) rfl rfl (by kernel_rfl) (by kernel_rfl) (by kernel_rfl) (fun _ _ _ h => h) (.inl ⟨by rfl, fun W hW => by go_simp⟩) HS.out ?_
          simp only [Act.put, List.setIfInBounds_toArray, List.set_cons_zero, List.set_cons_succ]
          refine takeH (i := 23) 6 (.bool true) rfl rfl (by kernel_rfl) (by kernel_rfl) (by kernel_rfl) (fun _ _ _ h => h) (.inl ⟨by rfl, fun W hW => by go_simp⟩) HS.out ?_
          simp only [Act.put, List.setIfInBounds_toArray, List.set_cons_zero, List.set_cons_succ]
          refine wpAnyH_done (by kernel_rfl) ?_ _
          go_wp2
          go_ret
          exact ⟨rfl, I1.out.bel⟩
        · obtain ⟨z, rfl⟩ : ∃ z, m2 = z + 1 := ⟨m2 - 1, by omega⟩
          obtain ⟨b, o, rfl, hzl, hcz⟩ := I0.out.two.at (show z < z + 1 by omega)
          have hlast : ((r[z].toNat : Int) != 0) = true := by
            have := trimmed_last HTR.out I0.out.two.1 hzl
            simp; omega
          have hrz := r[z].toNat_lt
          have e1 : ((z + 1 : Nat) : Int) - 1 = (z : Int) := by omega
          have e2 : (((z + 1 : Nat) : Int) == 0) = false := by simp; omega
          have hwk : IntKind.i64.wrap (k : Int) = (k : Int) := IntWalk.i64_in _ (by omega)
          have hwz : IntKind.i64.wrap (z : Int) = (z : Int) := IntWalk.i64_in _ (by omega)
          have HS : Hid ((fun W : World => W.cell? ⟨b, o + z, none⟩ = some (.int .u8 (r[z].toNat : Int)) ∧ (convert 22 9 (.slice (some ⟨b, o, none⟩) (z + 1) c2)).run Tryd.prog W = .ok (.string (txt r)) W) wr.drew) := ⟨hcz, run_convert_bs _ _ _ _ _ I0.out.two⟩
          refine wp_region_held_drew (S := fun W => W.cell? ⟨b, o + z, none⟩ = some (.int .u8 (r[z].toNat : Int)) ∧ (convert 22 9 (.slice (some ⟨b, o, none⟩) (z + 1) c2)).run Tryd.prog W = .ok (.string (txt r)) W) (by kernel_rfl) HS.out (fun _ => ?_)
          change wpAnyH _ _ _ _ _ 24 (Array.replicate 24 false) _ _
          refine takeH (i := 0) 39 (.slice (some ⟨b, o, none⟩) (z + 1) c2) rfl rfl (by kernel_rfl) (by kernel_rfl) (by kernel_rfl) (fun _ _ _ h => h) (.inl ⟨by rfl, fun W hW => by go_simp⟩) HS.out ?_
          simp only [Act.put, List.setIfInBounds_toArray, List.set_cons_zero, List.set_cons_succ]
          refine takeH (i := 1) 40 (.int .i64 ((z + 1 : Nat) : Int)) rfl rfl (by kernel_rfl) (by kernel_rfl) (by kernel_rfl) (fun _ _ _ h => h) (.inl ⟨by rfl, fun W hW => by go_simp⟩) HS.out ?_
          simp only [Act.put, List.setIfInBounds_toArray, List.set_cons_zero, List.set_cons_succ]
          refine takeH (i := 2) 41 (.bool false) rfl rfl (by kernel_rfl) (by kernel_rfl) (by kernel_rfl) (fun _ _ _ h => h) (.inl ⟨by rfl, fun W hW => by (go_simp; omega)⟩) HS.out ?_
          simp only [Act.put, List.setIfInBounds_toArray, List.set_cons_zero, List.set_cons_succ]
          refine takeH (i := 3) 42 (.bool false) rfl rfl (by kernel_rfl) (by kernel_rfl) (by kernel_rfl) (fun _ _ _ h => h) (.inl ⟨by rfl, fun W hW => by go_simp⟩) HS.out ?_
          simp only [Act.put, List.setIfInBounds_toArray, List.set_cons_zero, List.set_cons_succ]
          refine takeH (i := 4) 43 (.slice (some ⟨b, o, none⟩) (z + 1) c2) rfl rfl (by kernel_rfl) (by kernel_rfl) (by kernel_rfl) (fun _ _ _ h => h) (.inl ⟨by rfl, fun W hW => by go_simp⟩) HS.out ?_
          simp only [Act.put, List.setIfInBounds_toArray, List.set_cons_zero, List.set_cons_succ]
          refine takeH (i := 5) 44 (.slice (some ⟨b, o, none⟩) (z + 1) c2) rfl rfl (by kernel_rfl) (by kernel_rfl) (by kernel_rfl) (fun _ _ _ h => h) (.inl ⟨by rfl, fun W hW => by go_simp⟩) HS.out ?_
          simp only [Act.put, List.setIfInBounds_toArray, List.set_cons_zero, List.set_cons_succ]
          refine takeH (i := 6) 45 (.int .i64 ((z + 1 : Nat) : Int)) rfl rfl (by kernel_rfl) (by kernel_rfl) (by kernel_rfl) (fun _ _ _ h => h) (.inl ⟨by rfl, fun W hW => by go_simp⟩) HS.out ?_
          simp only [Act.put, List.setIfInBounds_toArray, List.set_cons_zero, List.set_cons_succ]
          refine takeH (i := 7) 46 (.int .i64 (z : Int)) rfl rfl (by kernel_rfl) (by kernel_rfl) (by kernel_rfl) (fun _ _ _ h => h) (.inl ⟨by rfl, fun W hW => by go_simp⟩) HS.out ?_
          simp only [Act.put, List.setIfInBounds_toArray, List.set_cons_zero, List.set_cons_succ]
          refine takeH (i := 8) 47 (.pointer (some ⟨b, o + z, none⟩)) rfl rfl (by kernel_rfl) (by kernel_rfl) (by kernel_rfl) (fun _ _ _ h => h) (.inl ⟨by rfl, fun W hW => by (go_simp; (intro h; omega))⟩) HS.out ?_
          simp only [Act.put, List.setIfInBounds_toArray, List.set_cons_zero, List.set_cons_succ]
          refine takeH (i := 9) 48 (.int .u8 (r[z].toNat : Int)) rfl rfl (by kernel_rfl) (by kernel_rfl) (by kernel_rfl) (fun _ _ _ h => h) (.inl ⟨by rfl, fun W hW => by (obtain ⟨h1, h2⟩ := hW; go_simp)⟩) HS.out ?_
          simp only [Act.put, List.setIfInBounds_toArray, List.set_cons_zero, List.set_cons_succ]
          refine takeH (i := 10) 49 (.bool true) rfl rfl (by kernel_rfl) (by kernel_rfl) (by kernel_rfl) (fun _ _ _ h => h) (.inl ⟨by rfl, fun W hW => by go_simp⟩) HS.out ?_
          simp only [Act.put, List.setIfInBounds_toArray, List.set_cons_zero, List.set_cons_succ]
          refine takeH (i := 11) 50 (.bool true) rfl rfl (by kernel_rfl) (by kernel_rfl) (by kernel_rfl) (fun _ _ _ h => h) (.inl ⟨by rfl, fun W hW => by go_simp⟩) HS.out ?_
          simp only [Act.put, List.setIfInBounds_toArray, List.set_cons_zero, List.set_cons_succ]
          refine takeH (i := 12) 51 (.bool true) rfl rfl (by kernel_rfl) (by kernel_rfl) (by kernel_rfl) (fun _ _ _ h => h) (.inl ⟨by rfl, fun W hW => by go_simp⟩) HS.out ?_
          simp only [Act.put, List.setIfInBounds_toArray, List.set_cons_zero, List.set_cons_succ]
          refine takeH (i := 13) 52 (.slice (some ⟨b, o, none⟩) (z + 1) c2) rfl rfl (by kernel_rfl) (by kernel_rfl) (by kernel_rfl) (fun _ _ _ h => h) (.inl ⟨by rfl, fun W hW => by go_simp⟩) HS.out ?_
          simp only [Act.put, List.setIfInBounds_toArray, List.set_cons_zero, List.set_cons_succ]
          refine takeH (i := 14) 53 (.int .u8 (k : Int)) rfl rfl (by kernel_rfl) (by kernel_rfl) (by kernel_rfl) (fun _ _ _ h => h) (.inl ⟨by rfl, fun W hW => by go_simp⟩) HS.out ?_
          simp only [Act.put, List.setIfInBounds_toArray, List.set_cons_zero, List.set_cons_succ]
          refine takeH (i := 15) 54 (.int .i64 (k : Int)) rfl rfl (by kernel_rfl) (by kernel_rfl) (by kernel_rfl) (fun _ _ _ h => h) (.inl ⟨by rfl, fun W hW => by go_simp⟩) HS.out ?_
          simp only [Act.put, List.setIfInBounds_toArray, List.set_cons_zero, List.set_cons_succ]
          refine takeH (i := 16) 55 (.bool t) rfl rfl (by kernel_rfl) (by kernel_rfl) (by kernel_rfl) (fun _ _ _ h => h) (.inl ⟨by rfl, fun W hW => by go_simp⟩) HS.out ?_
          simp only [Act.put, List.setIfInBounds_toArray, List.set_cons_zero, List.set_cons_succ]
          refine takeH (i := 19) 58 (.slice (some ⟨b, o, none⟩) (z + 1) c2) rfl rfl (by kernel_rfl) (by kernel_rfl) (by kernel_rfl) (fun _ _ _ h => h) (.inl ⟨by rfl, fun W hW => by go_simp⟩) HS.out ?_
          simp only [Act.put, List.setIfInBounds_toArray, List.set_cons_zero, List.set_cons_succ]
          refine takeH (i := 20) 59 (.string (txt r)) rfl rfl (by kernel_rfl) (by kernel_rfl) (by kernel_rfl) (fun _ _ _ h => h) (.inl ⟨by rfl, fun W hW => by (obtain ⟨h1, h2⟩ := hW; go_simp)⟩) HS.out ?_
          simp only [Act.put, List.setIfInBounds_toArray, List.set_cons_zero, List.set_cons_succ]
          refine wpAnyH_ready (rs := [17]) (by kernel_rfl) (by simp) ?_
          refine AllReadyH.cons rfl (fun K hK => ?_) AllReadyH.nil
          go_simp
          refine (with_any (some ⟨b, o, none⟩) (z + 1) c2 r k t _ I0.out.two (by omega) (by omega)).mono ?_
          rintro e w5 ⟨A5, m5, c5, rfl, h5, hb5⟩
          rw [Bt.witI_nat, HG.out] at h5
          have I1 := Lib.hid (I0.out.below hb5)
          have v5 := run_convert_bs w5 A5 m5 c5 r h5
          refine hK.out _ _ ⟨(hb5.cell (p := ⟨b, o + z, none⟩) (World.block_lt_of_cell? _ _ hcz)).trans hcz, run_convert_bs _ _ _ _ _ I1.out.two⟩ fun HS5 => ?_
          clear hK K
          have HS := Lib.hid HS5
          refine wpAnyH_ready (rs := [18]) (by kernel_rfl) (by simp) ?_
          refine AllReadyH.cons rfl (fun K hK => ?_) AllReadyH.nil
          go_simp
          refine hK.out _ _ HS.out fun _ => ?_
          clear hK K
          refine takeH (i := 21) 60 (.bool true) rfl rfl (by kernel_rfl) (by kernel_rfl) (by kernel_rfl) (fun _ _ _ h => h) (.inl ⟨by rfl, fun W hW => by go_simp⟩) HS.out ?_
          simp only [Act.put, List.setIfInBounds_toArray, List.set_cons_zero, List.set_cons_succ]
          refine takeH (i := 22) 61 (.bool true) rfl rfl (by kernel_rfl) (by kernel_rfl) (by kernel_rfl) (fun _ _ _ h => h) (.inl ⟨by rfl, fun W hW => by go_simp⟩) HS.out ?_
          simp only [Act.put, List.setIfInBounds_toArray, List.set_cons_zero, List.set_cons_succ]
          refine takeH (i := 23) 6 (.bool true) rfl rfl (by kernel_rfl) (by kernel_rfl) (by kernel_rfl) (fun _ _ _ h => h) (.inl ⟨by rfl, fun W hW => by go_simp⟩) HS.out ?_
          simp only [Act.put, List.setIfInBounds_toArray, List.set_cons_zero, List.set_cons_succ]
          refine wpAnyH_done (by kernel_rfl) ?_ _
          go_wp2
          go_ret
          exact ⟨rfl, I1.out.bel⟩
  · have hn' : 40 < n := by omega
    go_enter Tryd.func5, Tryd.ntmps5
    go_wp2_with fail
    refine (awake_any w).mono ?_
    rintro e w1 ⟨rfl, hb1⟩
    have HW1 := Lib.hid hb1
    go_wp2
    go_ret
    exact ⟨rfl, HW1.out⟩
end Go.Proofs.YtkodjojidoigiaaDoor
