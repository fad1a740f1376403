/-
  Get hands back a row of its own (layer 12).
-/
import Derived.Test.YtnhokkdieijkhaaGreatDoorVLaw
namespace Go.Proofs.YtnhokkdieijkhaaGreatDoor
open Go.RowKit
attribute [local go_sem] Oper.semAt_some
theorem clone_own (A : Option Addr) (n c : Nat) (l : List UInt8) (w : World) (h : BS w A n l) (hn : n ≤ big47) :
    Calls Tryz.prog 24 #[.slice A n c] w fun e w' => ∃ A' c', e = .returned (.slice A' n c') ∧ Own w w' A' n c' l := by
  rcases A with _ | ad
  · have h0 : n = 0 := by
      rcases Nat.eq_zero_or_pos n with h0 | h0
      · exact h0
      · obtain ⟨b, o, h, _⟩ := h.2 h0
        cases h
    subst h0
    obtain rfl : l = [] := List.eq_nil_of_length_eq_zero h.1
    refine (Tryz.bytes_Clone_nil 0 c w).mono ?_
    rintro e w' ⟨rfl, rfl⟩
    exact ⟨none, 0, rfl, World.ownsRow_nil _ _ _ _, Below.refl _ _⟩
  · have hl := h.1
    refine (Tryz.bytes_Clone_at ad n c (l.map fun b => (b.toNat : Int)) w (by simpa using hl) (by exact hn) (fun i hi => ?_)).mono ?_
    · rw [h.news rfl i (.int .u8 ((l[i]'(by omega)).toNat : Int)) (bc_get l i (by omega))]
      simp [hl, hi]
    · rintro e w' ⟨v, rfl, ho, _, hb⟩
      have e1 : ((l.map fun b => (b.toNat : Int)).map (Value.int .u8)) = bc l := by simp [bc]
      rw [e1] at ho
      have hv : ∃ A' c', v = .slice A' n c' := by
        rcases ho.2 with ⟨h6, h7⟩ | ⟨g, cap, cur, h6, _⟩
        · exact ⟨none, 0, by rw [h6, h7]⟩
        · exact ⟨_, _, h6⟩
      obtain ⟨A', c', rfl⟩ := hv
      have hO : Own w w' A' n c' l := ⟨ho, hb⟩
      exact ⟨A', c', rfl, hO⟩


def GotO (w : World) (l : List UInt8) (e : Ending) (w' : World) : Prop := ∃ A n c, e = .returned (.slice A n c) ∧ Own w w' A n c l
section
variable {w : World} {p m : Nat} {x : Sl} {S : Nat → Prop} {X : TX}
set_option maxHeartbeats 1000000 in
theorem get_own (h : Tq w p m x S X) (i : Nat) (hi : i < x.n) : Calls Tryz.prog 22 #[.pointer (some ⟨p, 0, none⟩), .int .i64 (i : Int)] w (GotO w (X.get i)) := by
  have HC := Lib.hid (has_any h (i : Int))
  rw [hasB_nat hi] at HC
  have c0 := h.c0
  have c1 := h.c1
  cases hp : X.p i with
  | none =>
    have hl := h.puts.none_at i hp
    obtain ⟨g, y, hxa, hg, hb⟩ := h.rows.at hi
    have HB := Lib.hid hb
    have HE : Hid (X.get i = X.l.getD i []) := TX.get_none hp
    clear h hp hb
    rw [hxa] at c0
    clear hxa
    go_enter Tryz.func22, Tryz.ntmps22
    go_wp2_with fail
    refine HC.out.mono ?_
    rintro e w' ⟨rfl, rfl⟩
    go_wp2_with fail
    refine (clone_own y.a y.n y.c _ w' HB.out.bs HB.out.few).mono ?_
    rintro e w2 ⟨A, c, rfl, h1⟩
    have HH : Hid (GotO w' (X.get i) (.returned (.slice A y.n c)) w2) := by
      show GotO _ _ _ _
      rw [HE.out]
      exact ⟨A, _, c, rfl, h1⟩
    clear h1
    go_wp2_with fail
    go_ret
    exact HH.out
  | some b =>
    obtain ⟨y, hl, hb⟩ := h.puts.some_at i hp
    have HB := Lib.hid hb
    have HE : Hid (X.get i = b) := TX.get_of hp
    clear h hp hb
    go_enter Tryz.func22, Tryz.ntmps22
    go_wp2_with fail
    refine HC.out.mono ?_
    rintro e w' ⟨rfl, rfl⟩
    go_wp2_with fail
    refine (clone_own y.a y.n y.c _ w' HB.out.bs HB.out.few).mono ?_
    rintro e w2 ⟨A, c, rfl, h1⟩
    have HH : Hid (GotO w' (X.get i) (.returned (.slice A y.n c)) w2) := by
      show GotO _ _ _ _
      rw [HE.out]
      exact ⟨A, _, c, rfl, h1⟩
    clear h1
    go_wp2_with fail
    go_ret
    exact HH.out
end
/-- The first of what one owns. -/
theorem own_pre {W : World} {base : Nat} {A : Option Addr} {n c k : Nat} {l : List UInt8} (h : W.ownsRow base 5 1 (.slice A n c) n (bc l)) (hk : k ≤ n) (h0 : 0 < n) : W.ownsRow base 5 1 (.slice A k c) k (bc (l.take k)) := by
  have hl : l.length = n := by have := h.1; simpa [bc] using this
  refine ⟨by simp [bc]; omega, ?_⟩
  rcases h.2 with ⟨h1, h2⟩ | ⟨g, cap, cur, h1, h2, h3, h4, h5, h6, h7⟩
  · omega
  · injection h1 with h1 _ hc
    subst hc
    refine .inr ⟨g, c, cur, by rw [h1], h2, h3, by omega, h5, h6, ?_⟩
    have := congrArg (List.take k) h7
    rw [List.take_take, show min k (n * 1) = k * 1 by omega] at this
    rw [this]
    simp [bc, List.map_take]
end Go.Proofs.YtnhokkdieijkhaaGreatDoor
