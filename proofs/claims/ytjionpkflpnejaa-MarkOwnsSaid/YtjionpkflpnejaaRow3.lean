
/-
  What was read by a Reader is what a Writer puts: plain facts on bytes.
-/
import Derived.Test.YtjionpkflpnejaaRow2
namespace Go.Proofs.Ytjionpkflpnejaa
open Go.RowKit

theorem be_snoc (n x : Nat) : be (n + 1) x = be n (x / 256) ++ [UInt8.ofNat x] := by
  induction n with
  | zero => simp [be]
  | succ n ih =>
    have e : x / 2 ^ (8 * (n + 1)) = x / 256 / 2 ^ (8 * n) := by
      rw [Nat.div_div_eq_div_mul, show (256 : Nat) = 2 ^ 8 from rfl, ← Nat.pow_add]
      congr 2
      omega
    show UInt8.ofNat (x / 2 ^ (8 * (n + 1))) :: be (n + 1) x = (UInt8.ofNat (x / 256 / 2 ^ (8 * n)) :: be n (x / 256)) ++ [UInt8.ofNat x]
    rw [ih, e]
    rfl
theorem be_num (l : List UInt8) : be l.length (num l) = l := by
  suffices h : ∀ n (l : List UInt8), l.length = n → be n (num l) = l from h _ l rfl
  intro n
  induction n with
  | zero => intro l hl; rw [List.eq_nil_of_length_eq_zero hl]; rfl
  | succ n ih =>
    intro l hl
    have hne : l ≠ [] := by intro e; rw [e] at hl; simp at hl
    have hd := List.dropLast_concat_getLast hne
    have h1 := ih l.dropLast (by rw [List.length_dropLast, hl]; rfl)
    generalize l.dropLast = t at *
    generalize l.getLast hne = b at *
    subst hd
    have hb : b.toNat < 256 := b.toNat_lt
    rw [num_snoc, be_snoc, show (num t * 256 + b.toNat) / 256 = num t by omega, h1]
    congr 2
    apply UInt8.toNat_inj.1
    simp
theorem noughts_eq (l : List UInt8) (h : noughts l = true) : l = List.replicate l.length 0 := by
  rw [List.eq_replicate_iff]
  refine ⟨rfl, fun b hb => ?_⟩
  unfold noughts at h
  rw [List.all_eq_true] at h
  simpa using h b hb
/-- An error is told with no bytes. -/
theorem rdO_nil (m : Int) (s : St) (h : (rdO m s).1.2 ≠ 0) : (rdO m s).2 = [] := by
  unfold rdO at *
  split
  · rfl
  · rename_i h1
    rw [if_neg h1] at h
    split
    · rfl
    · rename_i h2
      rw [if_neg h2] at h
      split
      · rfl
      · rename_i h3
        rw [if_neg h3] at h
        split
        · rename_i h4
          rw [if_pos h4] at h
          exact absurd rfl h
        · rfl
/-- What Opaque reads is just what is put for it. -/
theorem rdO_one (m : Int) (b : List UInt8) (h : (rdO m (b, 0)).1.2 = 0) : b = opq (rdO m (b, 0)).2 ++ (rdO m (b, 0)).1.1 := by
  by_cases hs : b.length < 4
  · exfalso
    unfold rdO at h
    rw [rdN_short 4 b hs] at h
    simp at h
  · have e := rdN_ok 4 b (by omega)
    have hb4 : be 4 (num (b.take 4)) = b.take 4 := by
      have := be_num (b.take 4)
      rwa [List.length_take, Nat.min_eq_left (by omega)] at this
    have hbb : b = b.take 4 ++ b.drop 4 := (List.take_append_drop 4 b).symm
    unfold rdO at h ⊢
    rw [e] at h ⊢
    simp only [ne_eq, not_true_eq_false, if_false] at h ⊢
    generalize num (b.take 4) = x at *
    generalize b.drop 4 = t at *
    generalize b.take 4 = u at *
    subst hbb
    split
    · rename_i h1
      rw [if_pos h1] at h
      simp at h
    · rename_i h1
      rw [if_neg h1] at h
      split
      · rename_i h2
        rw [if_pos h2] at h
        simp at h
      · rename_i h2
        rw [if_neg h2] at h
        split
        · rename_i h3
          have hx : (t.take x).length = x := by rw [List.length_take]; omega
          have hp : ((t.drop x).take (pad x)).length = pad x := by rw [List.length_take, List.length_drop]; omega
          have hz := noughts_eq _ h3
          rw [hp] at hz
          simp only
          unfold opq
          rw [hx, hb4, ← hz, List.append_assoc, List.append_assoc]
          congr 1
          rw [← List.drop_drop, List.take_append_drop, List.take_append_drop]
        · rename_i h3
          rw [if_neg h3] at h
          simp at h
end Go.Proofs.Ytjionpkflpnejaa
