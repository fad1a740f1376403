
/-
  What was put by a Writer is read by a Reader: plain facts on bytes.
-/
import Derived.Test.YtjionpkflpnejaaRow
namespace Go.Proofs.Ytjionpkflpnejaa
open Go.RowKit

theorem num_be4 (n : Nat) (h : n < 4294967296) : num (be 4 n) = n := by rw [num_be]; exact Nat.mod_eq_of_lt h
theorem rdN_be (k n : Nat) (t : List UInt8) (h : n < 256 ^ k) : rdN k (be k n ++ t, 0) = ((t, 0), n) := by
  have hl := be_length k n
  rw [rdN_ok k _ (by rw [List.length_append, hl]; omega), List.drop_append_of_le_length (by omega), List.drop_of_length_le (by omega), List.take_append_of_le_length (by omega), List.take_of_length_le (by omega), num_be, Nat.mod_eq_of_lt h]
  rfl
theorem noughts_replicate (n : Nat) : noughts (List.replicate n 0) = true := by
  unfold noughts
  rw [List.all_eq_true]
  intro x hx
  rw [List.eq_of_mem_replicate hx]
  rfl
/-- What was put by Opaque is read. -/
theorem rdO_opq (m : Int) (b t : List UInt8) (hb : b.length < 4294967296) (h : (b.length : Int) ≤ m) : rdO m (opq b ++ t, 0) = ((t, 0), b) := by
  have e : rdN 4 (opq b ++ t, 0) = ((b ++ List.replicate (pad b.length) 0 ++ t, 0), b.length) := by
    unfold opq
    rw [List.append_assoc, List.append_assoc]
    rw [rdN_be 4 b.length _ (by simpa using hb)]
    simp
  unfold rdO
  rw [e]
  simp only [ne_eq, not_true_eq_false, if_false]
  rw [if_neg (by omega), if_neg (by simp), List.append_assoc, List.drop_append_of_le_length (Nat.le_refl _), List.drop_of_length_le (Nat.le_refl _), List.nil_append,
    List.take_append_of_le_length (by simp), List.take_of_length_le (by simp), noughts_replicate, if_pos rfl, ← List.append_assoc]
  rw [List.take_append_of_le_length (by simp), List.take_append_of_le_length (Nat.le_refl _), List.take_of_length_le (Nat.le_refl _)]
  rw [List.drop_append_of_le_length (by simp), List.drop_of_length_le (by simp), List.nil_append]
theorem rdO_big (m : Int) (b t : List UInt8) (hb : b.length < 4294967296) (h : m < (b.length : Int)) : ∃ l, rdO m (opq b ++ t, 0) = ((l, 13), []) := by
  have e : rdN 4 (opq b ++ t, 0) = ((b ++ List.replicate (pad b.length) 0 ++ t, 0), b.length) := by
    unfold opq
    rw [List.append_assoc, List.append_assoc]
    rw [rdN_be 4 b.length _ (by simpa using hb)]
    simp
  unfold rdO
  rw [e]
  simp only [ne_eq, not_true_eq_false, if_false]
  rw [if_pos (by omega)]
  exact ⟨_, rfl⟩
end Go.Proofs.Ytjionpkflpnejaa
