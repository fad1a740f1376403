
/-
  Contract of package dir's Name (layer 8).
-/
import Derived.Test.YtbeahhijmgkfhaaEFind
import Derived.Test.YtbeahhijmgkfhaaEStr
namespace Go.Proofs.Ytbeahhijmgkfhaa
open Go.RowKit Go.Shelf

theorem nameOk_eq (l : List UInt8) : nameOk l = (!decide (l.length < 1) && !decide (24 < l.length) && !(l == [46]) && !(l == [46, 46]) && !parts l) := by
  unfold nameOk parts
  have e1 : decide (1 ≤ l.length) = !decide (l.length < 1) := by
    rw [← decide_not]
    exact decide_eq_decide.2 (by omega)
  have e2 : decide (l.length ≤ 24) = !decide (24 < l.length) := by
    rw [← decide_not]
    exact decide_eq_decide.2 (by omega)
  have e3 : (l.all fun b => !(b == 0) && !(b == 47)) = !l.any fun b => b == 0 || b == 47 := by
    rw [List.not_any_eq_all_not]
    simp [Bool.not_or]
  rw [e1, e2, e3]

set_option maxRecDepth 100000 in
set_option maxHeartbeats 2000000 in
theorem name_any (l : List UInt8) (w : World) :
    Calls Try.prog 71 #[.string (txt l)] w fun e w' => e = .returned (.int .i64 (nameE l)) ∧ Below w.heap.size w w' := by
  have hz := txt_size l
  have ht := txt_toList l
  by_cases hbad : l.length < 1 ∨ 24 < l.length ∨ l = [46] ∨ l = [46, 46]
  · have HE : Hid (nameE l = 67) := by
      show _ = _
      unfold nameE
      rw [if_neg]
      rw [nameOk_eq]
      rcases hbad with h | h | h | h <;> simp [h]
    have HB := Lib.hid hbad
    clear hbad
    go_enter Try.func71, Try.ntmps71
    go_wp2_with fail
    all_goals first
      | (exfalso; rcases HB.out with h | h | h | h <;> first | omega | contradiction)
      | (go_ret; rw [HE.out]; exact ⟨rfl, Below.refl _ _⟩)
  · have h1 : ¬ ((l.length : Int) < 1) := fun h => hbad (.inl (by omega))
    have h2 : ¬ (24 < (l.length : Int)) := fun h => hbad (.inr (.inl (by omega)))
    have h3 : ¬ l = [46] := fun h => hbad (.inr (.inr (.inl h)))
    have h4 : ¬ l = [46, 46] := fun h => hbad (.inr (.inr (.inr h)))
    have HE : Hid (nameE l = if parts l = true then 67 else 0) := by
      show _ = _
      unfold nameE
      rw [nameOk_eq]
      have e1 : decide (l.length < 1) = false := decide_eq_false (by omega)
      have e2 : decide (24 < l.length) = false := decide_eq_false (by omega)
      have e3 : (l == [46]) = false := by simpa using h3
      have e4 : (l == [46, 46]) = false := by simpa using h4
      rw [e1, e2, e3, e4]
      cases parts l <;> rfl
    have HC : Hid (∀ W, Calls Try.prog 76 #[.string (txt l), .string sep] W fun e w' => e = .returned (.bool (parts l)) ∧ Below W.heap.size W w') := fun W => containsAny_any (txt l) W (by rw [txt_size]; omega)
    clear hbad
    generalize parts l = r at *
    go_enter Try.func71, Try.ntmps71
    go_wp2_with (go_at_call 76; refine (HC.out _).mono ?_; rintro e w1 ⟨rfl, hb⟩)
    all_goals
      go_ret
      first
        | exact ⟨by rw [HE.out]; rfl, hb⟩
        | (refine ⟨?_, hb⟩; rw [HE.out]; simp_all)
end Go.Proofs.Ytbeahhijmgkfhaa
