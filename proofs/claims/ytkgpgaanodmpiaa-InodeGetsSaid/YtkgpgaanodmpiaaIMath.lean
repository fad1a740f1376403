/-
  Inodes, plain: which may be, their bytes, and what bytes are of one (layer 7). Nothing of the program is named here.
-/
import Derived.Test.YtkgpgaanodmpiaaRow4
namespace Go.Proofs.Ytkgpgaanodmpiaa

/-- What is known of a thing. -/
structure Nd where
  (kind gen links mode size change cookie verf : Nat)
  bl : List Nat
  deriving DecidableEq

/-- How many blocks so many bytes take. -/
def need (s : Nat) : Nat := (s + 95) / 96
theorem need_pos (s : Nat) (h : 1 ≤ s) : need s = (s - 1) / 96 + 1 := by unfold need; omega
theorem need_le (s : Nat) (h : s ≤ 768) : need s ≤ 8 := by unfold need; omega

namespace Nd
def zero : Nd := ⟨0, 0, 0, 0, 0, 0, 0, 0, []⟩
def unused (x : Nd) : Bool := x.kind == 0 && x.links == 0 && x.mode == 0 && x.size == 0 && (x.cookie == 0 && x.verf == 0) && x.bl.length == 0
def blank (x : Nd) : Bool := x.unused && x.gen == 0 && x.change == 0
/-- What Check asks first, .. -/
def fits (x : Nd) : Bool := decide (x.kind ≤ 3) && decide (x.size ≤ 768) && x.bl.length == need x.size && decide x.bl.Nodup
/-- .. and behind it. -/
def used (x : Nd) : Bool := if x.kind = 0 then x.unused else decide (x.links ≠ 0)
def okB (x : Nd) : Bool := x.fits && x.used
def chk (x : Nd) : Int := if x.okB then 0 else 1
/-- All numbers go into their fields. -/
structure Wide (x : Nd) : Prop where
  k : x.kind < 4294967296
  g : x.gen < 4294967296
  l : x.links < 4294967296
  m : x.mode < 4294967296
  s : x.size < 4294967296
  c : x.change < 18446744073709551616
  o : x.cookie < 18446744073709551616
  v : x.verf < 18446744073709551616
  b : ∀ y ∈ x.bl, y < 4294967296

def enc1 (x : Nd) : List UInt8 := be 4 x.kind ++ be 4 x.gen ++ be 4 x.links ++ be 4 x.mode ++ be 4 x.size
def enc2 (x : Nd) : List UInt8 := be 8 x.change ++ be 8 x.cookie ++ be 8 x.verf
def code (x : Nd) : List UInt8 := x.enc1 ++ x.enc2 ++ be 4 x.bl.length ++ enc 4 x.bl
/-- What Put hands back. -/
def put (x : Nd) : List UInt8 := if x.okB = true ∧ x.blank = false then x.code else []
theorem code_length (x : Nd) : x.code.length = 48 + 4 * x.bl.length := by simp [code, enc1, enc2, be_length, enc_length]; omega

theorem okB_len (x : Nd) (h : x.okB = true) : x.bl.length ≤ 8 := by
  simp only [okB, fits, Bool.and_eq_true, decide_eq_true_eq, beq_iff_eq] at h
  have := need_le x.size h.1.1.1.2
  omega
theorem put_len (x : Nd) : x.put.length ≤ 80 := by
  unfold put
  split
  · rename_i h
    rw [code_length]
    have := okB_len x h.1
    omega
  · simp
theorem zero_of_blank (x : Nd) (h : x.blank = true) : x = zero := by
  obtain ⟨k, g, l, m, s, c, o, v, bl⟩ := x
  simp only [blank, unused, Bool.and_eq_true, beq_iff_eq] at h
  obtain ⟨⟨⟨⟨⟨⟨⟨rfl, rfl⟩, rfl⟩, rfl⟩, rfl, rfl⟩, hb⟩, rfl⟩, rfl⟩ := h
  rw [List.eq_nil_of_length_eq_zero hb]
  rfl
theorem blank_zero : zero.blank = true := rfl
theorem zero_ok : zero.okB = true := by decide
/-- The document's way to tell one whose every field is 0, behind Check. -/
theorem blank_ok (x : Nd) (h : x.okB = true) : x.blank = (x.kind == 0 && x.gen == 0 && x.change == 0) := by
  by_cases hk : x.kind = 0
  · have hu : x.unused = true := by
      simp only [okB, used, hk, Bool.and_eq_true, if_true] at h
      exact h.2
    unfold blank
    rw [hu, hk]
    rfl
  · have h1 : x.unused = false := by simp [unused, hk]
    unfold blank
    rw [h1]
    simp [hk]

/-- Numbers, read one behind the other: n bytes each. -/
def rds (n : Nat) : Nat → St → St × List Nat
  | 0, s => (s, [])
  | k + 1, s => let p := rds n k s; let r := rdN n p.1; (r.1, p.2 ++ [r.2])
theorem rds_len (n k : Nat) (s : St) : (rds n k s).2.length = k := by
  induction k with
  | zero => rfl
  | succ k ih => simp [rds, ih]
theorem rds_err (n k : Nat) (l : List UInt8) (e : Int) (h : e ≠ 0) : rds n k (l, e) = ((l, e), List.replicate k 0) := by
  induction k with
  | zero => rfl
  | succ k ih => simp [rds, ih, rdN_err n l e h, List.replicate_succ']
theorem rds_err2 (n k : Nat) (s : St) (h : s.2 ≠ 0) : (rds n k s).1 = s := by
  obtain ⟨l, e⟩ := s
  rw [rds_err n k l e h]
theorem rdN_stay (n : Nat) (s : St) (h : s.2 ≠ 0) : (rdN n s).1 = s := by unfold rdN; rw [if_pos h]
/-- What was read without an error was there. -/
theorem rdN_back (n : Nat) (s : St) (h : (rdN n s).1.2 = 0) : s.2 = 0 ∧ s.1 = be n (rdN n s).2 ++ (rdN n s).1.1 ∧ (rdN n s).2 < 256 ^ n := by
  obtain ⟨l, e⟩ := s
  by_cases he : e = 0
  · subst he
    by_cases hl : l.length < n
    · rw [rdN_short n l hl] at h
      simp at h
    · rw [rdN_ok n l (by omega)]
      have hlen : (l.take n).length = n := by rw [List.length_take]; omega
      refine ⟨rfl, ?_, ?_⟩
      · have := be_num (l.take n)
        rw [hlen] at this
        rw [this, List.take_append_drop]
      · have := num_lt (l.take n)
        rwa [hlen] at this
  · rw [rdN_err n l e he] at h
    exact absurd h he
theorem rds_back (n k : Nat) (s : St) (h : (rds n k s).1.2 = 0) : s.2 = 0 ∧ s.1 = enc n (rds n k s).2 ++ (rds n k s).1.1 ∧ ∀ y ∈ (rds n k s).2, y < 256 ^ n := by
  induction k with
  | zero => exact ⟨h, by simp [rds, enc], by simp [rds]⟩
  | succ k ih =>
    obtain ⟨h1, h2, h3⟩ := rdN_back n (rds n k s).1 h
    obtain ⟨h4, h5, h6⟩ := ih h1
    refine ⟨h4, ?_, ?_⟩
    · show s.1 = enc n ((rds n k s).2 ++ [(rdN n (rds n k s).1).2]) ++ (rdN n (rds n k s).1).1.1
      unfold enc at *
      rw [List.flatMap_append, List.append_assoc, List.flatMap_singleton, ← h2, ← h5]
    · intro y hy
      rcases List.mem_append.1 hy with hy | hy
      · exact h6 y hy
      · rw [List.mem_singleton] at hy
        subst hy
        exact h3
theorem rds_enc (n : Nat) (xs : List Nat) (t : List UInt8) (hx : ∀ x ∈ xs, x < 256 ^ n) : ∀ k, k ≤ xs.length → rds n k (enc n xs ++ t, 0) = ((enc n (xs.drop k) ++ t, 0), xs.take k) := by
  intro k
  induction k with
  | zero => intro _; simp [rds]
  | succ k ih =>
    intro hk
    have e : enc n (xs.drop k) = be n xs[k] ++ enc n (xs.drop (k + 1)) := by
      rw [List.drop_eq_getElem_cons (by omega)]
      unfold enc
      rw [List.flatMap_cons]
    simp only [rds]
    rw [ih (by omega), e, List.append_assoc, rdN_be n _ _ (hx _ (List.getElem_mem _))]
    rw [← List.take_append_getElem (by omega)]
/-- Numbers that are read go into so many bytes. -/
theorem rdN_lt (n : Nat) (s : St) : (rdN n s).2 < 256 ^ n := by
  by_cases h : (rdN n s).1.2 = 0
  · exact (rdN_back n s h).2.2
  · have : (rdN n s).2 = 0 := by
      unfold rdN at *
      split
      · rfl
      · split
        · rfl
        · rename_i h1 h2
          rw [if_neg h1, if_neg h2] at h
          exact absurd rfl h
    rw [this]
    exact Nat.pow_pos (by omega)
theorem rds_lt (n k : Nat) (s : St) : ∀ y ∈ (rds n k s).2, y < 256 ^ n := by
  induction k with
  | zero => simp [rds]
  | succ k ih =>
    intro y hy
    rcases List.mem_append.1 hy with hy | hy
    · exact ih y hy
    · rw [List.mem_singleton] at hy
      subst hy
      exact rdN_lt _ _
end Nd
end Go.Proofs.Ytkgpgaanodmpiaa
