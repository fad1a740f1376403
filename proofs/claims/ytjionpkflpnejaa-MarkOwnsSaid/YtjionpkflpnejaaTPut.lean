
/-
  Contract of Put (layer 10).
-/
import Derived.Test.YtjionpkflpnejaaEKit
import Derived.Test.YtjionpkflpnejaaTGet
namespace Go.Proofs.Ytjionpkflpnejaa
open Go.RowKit

/-- What Put answers, and what it leaves. -/
def TX.mayPut (n : Nat) (i : Int) (b : List UInt8) : Bool := hasB n i && decide (b.length ≤ 96)
def TX.perr (n : Nat) (i : Int) (b : List UInt8) : Int := if hasB n i then if b.length ≤ 96 then 0 else 13 else 15
def TX.putI (X : TX) (n : Nat) (i : Int) (b : List UInt8) : TX := if TX.mayPut n i b then X.put i.toNat b else X
theorem TX.perr_ok {n : Nat} {i : Int} {b : List UInt8} (h : hasB n i = true) (hb : b.length ≤ 96) : TX.perr n i b = 0 := by simp [TX.perr, h, hb]
theorem TX.putI_ok {X : TX} {n i : Nat} {b : List UInt8} (h : i < n) (hb : b.length ≤ 96) : X.putI n (i : Int) b = X.put i b := by simp [TX.putI, TX.mayPut, hasB_nat h, hb]
theorem TX.putI_l (X : TX) (n : Nat) (i : Int) (b : List UInt8) : (X.putI n i b).l = X.l := by unfold TX.putI; split <;> rfl

section
variable {w : World} {p m : Nat} {x : Sl} {S : Nat → Prop} {X : TX}
set_option maxHeartbeats 400000 in
theorem put_nil (i : Int) (A : Option Addr) (n c : Nat) (w : World) : Calls Try.prog 28 #[.pointer none, .int .i64 i, .slice A n c] w fun e w' => e = .returned (.int .i64 1) ∧ w' = w := by
  go_enter Try.func28, Try.ntmps28
  go_wp2
  go_ret
  exact ⟨rfl, rfl⟩
theorem Ch.refl (Q : Nat → Prop) (w : World) (hQ : ∀ k, Q k → Dull w k) : Ch Q w w := ⟨Fr.refl _ _, hQ⟩
/-- Behind Put. -/
def TPutQ (w : World) (p m : Nat) (x : Sl) (S : Nat → Prop) (X : TX) (r : Int) (e : Ending) (w' : World) : Prop := e = .returned (.int .i64 r) ∧ Tq w' p m x S X ∧ Ch (· = m) w w'
set_option maxRecDepth 100000 in
set_option maxHeartbeats 1000000 in
theorem tput_any (h : Tq w p m x S X) (hS : ∀ k, w.heap.size ≤ k → S k) (i : Int) (A : Option Addr) (n c : Nat) (b : List UInt8) (hb : BS w A n b) :
    Calls Try.prog 28 #[.pointer (some ⟨p, 0, none⟩), .int .i64 i, .slice A n c] w (TPutQ w p m x S (X.putI x.n i b) (TX.perr x.n i b)) := by
  have HC := Lib.hid (has_any h i)
  have HN : Hid (b.length = n) := hb.1
  cases hh : hasB x.n i with
  | false =>
    have HE : Hid (TX.perr x.n i b = 15 ∧ X.putI x.n i b = X) := by refine ⟨?_, ?_⟩ <;> simp [TX.perr, TX.putI, TX.mayPut, hh]
    have HQ : Hid (Ch (· = m) w w) := Ch.refl _ _ fun k hk => by rw [hk]; exact h.puts.dull
    rw [hh] at HC
    have HT := Lib.hid h
    clear h hb hh hS
    go_enter Try.func28, Try.ntmps28
    go_wp2_with fail
    refine HC.out.mono ?_
    rintro e w' ⟨rfl, rfl⟩
    go_wp2
    go_ret
    show TPutQ _ _ _ _ _ _ _ _ _
    rw [HE.out.1, HE.out.2]
    exact ⟨rfl, HT.out, HQ.out⟩
  | true =>
    by_cases hn : n ≤ 96
    · have HE : Hid (TX.perr x.n i b = 0 ∧ X.putI x.n i b = X.put i.toNat b) := by
        have hl : b.length ≤ 96 := by rw [HN.out]; exact hn
        refine ⟨?_, ?_⟩ <;> simp [TX.perr, TX.putI, TX.mayPut, hh, hl]
      obtain ⟨k, rfl⟩ : ∃ k : Nat, i = (k : Int) := by
        simp only [hasB, Bool.and_eq_true, decide_eq_true_eq] at hh
        exact Int.eq_ofNat_of_zero_le hh.1
      rw [hh] at HC
      have hd : decide (96 < (n : Int)) = false := by simp; omega
      have HT := Lib.hid h
      have HB := Lib.hid hb
      have HS1 := Lib.hid hS
      clear h hb hh hS
      go_enter Try.func28, Try.ntmps28
      go_wp2_with fail
      refine HC.out.mono ?_
      rintro e w' ⟨rfl, rfl⟩
      go_wp2_with fail
      have HTd : Hid (Tq w'.drew p m x S X) := HT.out.drew
      have HS : Hid ((fun W : World => W.cell? ⟨p, 1, none⟩ = some (.map (some m))) w'.drew) := HTd.out.c1
      refine wp_region_held_drew (S := fun W => W.cell? ⟨p, 1, none⟩ = some (.map (some m))) (by kernel_rfl) HS.out (fun _ => ?_)
      change wpAnyH _ _ _ _ _ 8 (Array.replicate 8 false) _ _
      refine takeH (i := 0) 16 (.pointer (some ⟨p, 0, none⟩)) rfl rfl (by kernel_rfl) (by kernel_rfl) (by kernel_rfl) (fun _ _ _ h => h) (.inl ⟨by rfl, fun W hW => by go_simp⟩) HS.out ?_
      simp only [Act.put, List.setIfInBounds_toArray, List.set_cons_zero, List.set_cons_succ]
      refine takeH (i := 1) 17 (.pointer (some ⟨p, 0, none⟩)) rfl rfl (by kernel_rfl) (by kernel_rfl) (by kernel_rfl) (fun _ _ _ h => h) (.inl ⟨by rfl, fun W hW => by go_simp⟩) HS.out ?_
      simp only [Act.put, List.setIfInBounds_toArray, List.set_cons_zero, List.set_cons_succ]
      refine takeH (i := 2) 18 (.pointer (some ⟨p, 1, none⟩)) rfl rfl (by kernel_rfl) (by kernel_rfl) (by kernel_rfl) (fun _ _ _ h => h) (.inl ⟨by rfl, fun W hW => by go_simp⟩) HS.out ?_
      simp only [Act.put, List.setIfInBounds_toArray, List.set_cons_zero, List.set_cons_succ]
      refine takeH (i := 3) 19 (.map (some m)) rfl rfl (by kernel_rfl) (by kernel_rfl) (by kernel_rfl) (fun _ _ _ h => h) (.inl ⟨by rfl, fun W hW => by (have hz : W.cell? ⟨p, 1, none⟩ = some (.map (some m)) := hW; go_simp)⟩) HS.out ?_
      simp only [Act.put, List.setIfInBounds_toArray, List.set_cons_zero, List.set_cons_succ]
      refine takeH (i := 4) 20 (.int .i64 (k : Int)) rfl rfl (by kernel_rfl) (by kernel_rfl) (by kernel_rfl) (fun _ _ _ h => h) (.inl ⟨by rfl, fun W hW => by go_simp⟩) HS.out ?_
      simp only [Act.put, List.setIfInBounds_toArray, List.set_cons_zero, List.set_cons_succ]
      refine takeH (i := 5) 21 (.slice A n c) rfl rfl (by kernel_rfl) (by kernel_rfl) (by kernel_rfl) (fun _ _ _ h => h) (.inl ⟨by rfl, fun W hW => by go_simp⟩) HS.out ?_
      simp only [Act.put, List.setIfInBounds_toArray, List.set_cons_zero, List.set_cons_succ]
      refine wpAnyH_ready (rs := [6]) (by kernel_rfl) (by simp) ?_
      refine AllReadyH.cons rfl (fun K hK => ?_) AllReadyH.nil
      go_simp
      refine (clone_big A n c b w'.drew HB.out.drew (le_big47 (by omega))).mono ?_
      rintro e w2 ⟨A2, c2, rfl, h1, h2, h3, h4, -⟩
      have HT2 := Lib.hid (HTd.out.below h4)
      have HX : Hid (BC w2 S ⟨A2, n, c2⟩ b) := ⟨h1, le_big47 (by show n ≤ _; omega), h2, fun _ ad e => HS1.out _ (h3 ad e)⟩
      have HW2 : Hid (Below w'.heap.size w' w2) := (Below.refl _ _).drew.trans h4
      refine hK.out _ _ HT2.out.c1 fun _ => ?_
      clear hK K h1 h2 h3 h4
      refine wpAnyH_ready (rs := [7]) (by kernel_rfl) (by simp) ?_
      refine AllReadyH.cons rfl (fun K hK => ?_) AllReadyH.nil
      obtain ⟨w3, hr, g1, g2, g3⟩ := HT2.out.puts.update k ⟨A2, n, c2⟩ b HX.out
      have HT3 : Hid (Tq w3 p m x S (X.put k b)) := ⟨(g2.1.block p ⟨HT2.out.plt, fun e => HT2.out.ne e.symm⟩).trans HT2.out.cells, HT2.out.rows.imp (fun _ h => h) (fun g cs _ hg => g2.1.block g ⟨(Array.getElem?_eq_some_iff.1 hg).1, fun hq => (g2.2 g hq).no_row cs _ (by decide) hg⟩) (fun _ _ hb => hb.ch g2), g1, HT2.out.sp, HT2.out.sm⟩
      have HC3 : Hid (Ch (· = m) w' w3) := ⟨(Fr.of_below HW2.out).trans g2.1 (fun k hk => .inl hk), fun k hk => by rw [hk]; exact HT.out.puts.dull⟩
      clear g1 g2 g3
      go_simp
      refine hK.out _ _ HT3.out.c1 fun _ => ?_
      clear hK K hr
      refine wpAnyH_done (by kernel_rfl) ?_ _
      go_wp2
      go_ret
      show TPutQ _ _ _ _ _ _ _ _ _
      rw [HE.out.1, HE.out.2]
      exact ⟨rfl, HT3.out, HC3.out⟩
    · have HE : Hid (TX.perr x.n i b = 13 ∧ X.putI x.n i b = X) := by
        have hl : ¬ b.length ≤ 96 := by rw [HN.out]; exact hn
        refine ⟨?_, ?_⟩ <;> simp [TX.perr, TX.putI, TX.mayPut, hh, hl]
      have HQ : Hid (Ch (· = m) w w) := Ch.refl _ _ fun k hk => by rw [hk]; exact h.puts.dull
      rw [hh] at HC
      have hd : decide (96 < (n : Int)) = true := by simp; omega
      have HT := Lib.hid h
      clear h hb hh hS
      go_enter Try.func28, Try.ntmps28
      go_wp2_with fail
      refine HC.out.mono ?_
      rintro e w' ⟨rfl, rfl⟩
      go_wp2
      go_ret
      show TPutQ _ _ _ _ _ _ _ _ _
      rw [HE.out.1, HE.out.2]
      exact ⟨rfl, HT.out, HQ.out⟩
end
end Go.Proofs.Ytjionpkflpnejaa
