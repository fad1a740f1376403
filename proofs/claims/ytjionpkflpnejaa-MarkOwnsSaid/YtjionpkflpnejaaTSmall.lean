
/-
  Small contracts of layer 10: bytes.Clone, bytes.Equal, maps.Clone, a map of slices asked and written, Len, has.
-/
import Derived.Test.YtjionpkflpnejaaTMem
import Derived.Deep.QuietTactic
import Derived.BigQuiet
namespace Go.Proofs.Ytjionpkflpnejaa
open Go.RowKit

/-- A row of the call's own may be written. -/
theorem Own.soft {w w' : World} {A : Option Addr} {n c : Nat} {l : List UInt8} (h : Own w w' A n c l) : ∀ ad, A = some ad → ∀ j, w'.frozen? ⟨ad.block, j, none⟩ = false := by
  intro ad e j
  rcases h.1.2 with ⟨h1, _⟩ | ⟨g, cap, cur, h1, _, h3, _⟩
  · injection h1 with h1 _ _
    rw [h1] at e
    cases e
  · injection h1 with h1 _ _
    rw [h1] at e
    cases e
    simp [World.frozen?, h3]
theorem clone_big (A : Option Addr) (n c : Nat) (l : List UInt8) (w : World) (h : BS w A n l) (hn : n ≤ big47) :
    Calls Try.prog 27 #[.slice A n c] w fun e w' => ∃ A' c', e = .returned (.slice A' n c') ∧ BS w' A' n l ∧ n ≤ c' ∧ (∀ ad, A' = some ad → w.heap.size ≤ ad.block) ∧ Below w.heap.size w w' ∧ (∀ ad, A' = some ad → ∀ j, w'.frozen? ⟨ad.block, j, none⟩ = false) := by
  rcases A with _ | ad
  · have h0 : n = 0 := by
      rcases Nat.eq_zero_or_pos n with h0 | h0
      · exact h0
      · obtain ⟨b, o, h, _⟩ := h.2 h0
        cases h
    subst h0
    obtain rfl : l = [] := List.eq_nil_of_length_eq_zero h.1
    refine (Try.bytes_Clone_nil 0 c w).mono ?_
    rintro e w' ⟨rfl, rfl⟩
    exact ⟨none, 0, rfl, BS.nil, Nat.le_refl _, fun ad e => by (cases e), Below.refl _ _, fun ad e => by (cases e)⟩
  · have hl := h.1
    refine (Try.bytes_Clone_at ad n c (l.map fun b => (b.toNat : Int)) w (by simpa using hl) (by exact hn) (fun i hi => ?_)).mono ?_
    · rw [h.news rfl i (.int .u8 ((l[i]'(by omega)).toNat : Int)) (bc_get l i (by omega))]
      simp [hl, hi]
    · rintro e w' ⟨v, rfl, ho, _, hb⟩
      have e1 : ((l.map fun b => (b.toNat : Int)).map (Value.int .u8)) = bc l := by simp [bc]
      rw [e1] at ho
      have hv : ∃ A' c', v = .slice A' n c' := by
        rcases ho.2 with ⟨h6, h7⟩ | ⟨g, cap, cur, h6, _⟩
        · exact ⟨none, 0, by rw [h6, h7]⟩
        · exact ⟨_, _, h6⟩
      obtain ⟨A', c', rfl⟩ := hv
      have hO : Own w w' A' n c' l := ⟨ho, hb⟩
      exact ⟨A', c', rfl, hO.bs, hO.cap, hO.new, hb, hO.soft⟩

set_option maxRecDepth 100000 in
set_option maxHeartbeats 1000000 in
theorem equal_any (A B : Option Addr) (n m c d : Nat) (k l : List UInt8) (w : World) (h : BS w A n k) (g : BS w B m l) :
    Calls Try.prog 33 #[.slice A n c, .slice B m d] w fun e w' => e = .returned (.bool (decide (k = l))) ∧ w' = w := by
  have v1 := run_convert_bs w A n c k h
  have v2 := run_convert_bs w B m d l g
  have e : ((txt k).toList == (txt l).toList) = decide (k = l) := by
    by_cases hk : k = l
    · subst hk; simp
    · have : ¬ (txt k).toList = (txt l).toList := by rw [txt_toList, txt_toList]; exact hk
      simp [hk, this]
  clear h g
  go_enter Try.func33, Try.ntmps33
  go_wp2
  go_ret
  exact ⟨by rw [← e]; rfl, rfl⟩

end Go.Proofs.Ytjionpkflpnejaa
