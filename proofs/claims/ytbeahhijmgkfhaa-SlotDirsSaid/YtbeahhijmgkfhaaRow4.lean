/-
  What the laws' walks are told of their arguments: slices of integers and bools that came in.
  What was put by a Writer is read by a Reader: plain facts on bytes.
  What was read by a Reader is what a Writer puts: plain facts on bytes.
  Slices of numbers that came in; many numbers put and read: plain facts.
-/
import Derived.Test.YtbeahhijmgkfhaaAwake
namespace Go.Proofs.Ytbeahhijmgkfhaa
open Go.RowKit

/-- A slice of integers that came in: nil, or a row of cap cells, the numbers zs, the first len of them its elements, each fitting its kind. -/
def IsRow (k : IntKind) (w : World) (a : Option Addr) (len cap : Nat) (zs : List Int) : Prop :=
  (a = none ∧ len = 0 ∧ cap = 0 ∧ zs = []) ∨
  ∃ x, a = some x ∧ len ≤ cap ∧ cap ≤ maxLen ∧ zs.length = cap ∧ (∀ i, i < zs.length → w.cell? (x.add i) = some (.int k (zs.getD i 0))) ∧ ∀ n ∈ zs, (Lit.int k n).wf = true

theorem add_plain (b o j : Nat) : (⟨b, o, none⟩ : Addr).add j = ⟨b, o + j, none⟩ := by unfold Addr.add; split <;> simp_all

/-- The elements of such a slice lie in one row of plain cells. -/
theorem IsRow.cells {k : IntKind} {w : World} {a : Option Addr} {len cap : Nat} {zs : List Int} (h : IsRow k w a len cap zs) :
    len ≤ cap ∧ cap ≤ maxLen ∧ zs.length = cap ∧ (∀ n ∈ zs, (Lit.int k n).wf = true) ∧ (0 < len → ∃ b o, a = some ⟨b, o, none⟩ ∧ ∀ j, j < len → w.cell? ⟨b, o + j, none⟩ = some (.int k (zs.getD j 0))) := by
  rcases h with ⟨rfl, rfl, rfl, rfl⟩ | ⟨x, rfl, hl, hm, hz, hc, hw⟩
  · exact ⟨Nat.le_refl _, Nat.zero_le _, rfl, by simp, fun h => absurd h (by omega)⟩
  · refine ⟨hl, hm, hz, hw, fun hn => ?_⟩
    obtain ⟨b, o, sp⟩ := x
    have h0 := hc 0 (by omega)
    have hs : sp = none := by simpa [Addr.add] using World.cell?_spot h0
    subst hs
    refine ⟨b, o, rfl, fun j hj => ?_⟩
    have := hc j (by omega)
    rwa [add_plain] at this

theorem wf_u8 {n : Int} (h : (Lit.int .u8 n).wf = true) : 0 ≤ n ∧ n ≤ 255 := by
  simp [Lit.wf, IntKind.min, IntKind.max, IntKind.bits, IntKind.signed] at h
  omega

/-- A slice of bytes that came in reads as bytes. -/
theorem IsRow.bs {w : World} {a : Option Addr} {len cap : Nat} {zs : List Int} (h : IsRow .u8 w a len cap zs) : ∃ l, BS w a len l := by
  obtain ⟨hl, _, hz, hw, hc⟩ := h.cells
  refine ⟨(zs.take len).map fun z => UInt8.ofNat z.toNat, by simp; omega, fun hn => ?_⟩
  obtain ⟨b, o, rfl, hcell⟩ := hc hn
  refine ⟨b, o, rfl, fun j hj => ?_⟩
  have hj' : j < len := by simp at hj; omega
  rw [hcell j hj']
  have hjz : j < zs.length := by omega
  obtain ⟨h1, h2⟩ := wf_u8 (hw _ (List.getElem_mem hjz))
  simp [List.getD, List.getElem?_eq_getElem hjz]
  omega

/-- The elements of a slice that came in, in a later world. -/
theorem BS.at {w : World} {A : Option Addr} {n : Nat} {l : List UInt8} (h : BS w A n l) {k : Nat} (hk : k < n) :
    ∃ b o, A = some ⟨b, o, none⟩ ∧ ∃ hj : k < l.length, w.cell? ⟨b, o + k, none⟩ = some (.int .u8 (l[k].toNat : Int)) := by
  obtain ⟨b, o, e, hc⟩ := h.2 (by omega)
  have hj : k < l.length := by rw [h.1]; exact hk
  exact ⟨b, o, e, hj, hc k hj⟩
theorem BS.lt_block {w : World} {A : Option Addr} {n : Nat} {l : List UInt8} (h : BS w A n l) (hn : 0 < n) (ad : Addr) (ha : A = some ad) : ad.block < w.heap.size := by
  obtain ⟨b, o, e, hc⟩ := h.2 hn
  rw [ha] at e
  injection e with e
  subst e
  exact World.block_lt_of_cell? w _ (hc 0 (by rw [h.1]; exact hn))

/-! The spec's small facts. -/
theorem rdB_err (l : List UInt8) (e : Int) (h : e ≠ 0) : rdB (l, e) = ((l, e), false) := by simp [rdB, rdN_err 4 l e h]
theorem rdO_err (m : Int) (l : List UInt8) (e : Int) (h : e ≠ 0) : rdO m (l, e) = ((l, e), []) := by simp [rdO, rdN_err 4 l e h, h]
theorem rdN_len (n : Nat) (s : St) : (rdN n s).1.1.length ≤ s.1.length := by
  unfold rdN
  split
  · exact Nat.le_refl _
  · split
    · exact Nat.le_refl _
    · simp
theorem rdB_len (s : St) : (rdB s).1.1.length ≤ s.1.length := by
  unfold rdB
  split
  · exact rdN_len 4 s
  · exact rdN_len 4 s
theorem rdO_len (m : Int) (s : St) : (rdO m s).1.1.length ≤ s.1.length := by
  have := rdN_len 4 s
  unfold rdO
  split
  · exact this
  · split
    · exact this
    · split
      · exact this
      · split
        · simp only [List.length_drop]; omega
        · simp only [List.length_drop]; omega
theorem and3 (c : UInt8) (d : Nat) (h : c.toNat % 4 = d) : bits .and .u8 (c.toNat : Int) 3 = (d : Int) := by
  have h1 := u8_and_nat c.toNat 3 c.toNat_lt (by omega)
  have h2 : c.toNat &&& 3 = c.toNat % 4 := Nat.and_two_pow_sub_one_eq_mod c.toNat 2
  rw [h2, h] at h1
  exact h1
end Go.Proofs.Ytbeahhijmgkfhaa

namespace Go.Proofs.Ytbeahhijmgkfhaa
open Go.RowKit

theorem num_be4 (n : Nat) (h : n < 4294967296) : num (be 4 n) = n := by rw [num_be]; exact Nat.mod_eq_of_lt h
theorem rdN_be (k n : Nat) (t : List UInt8) (h : n < 256 ^ k) : rdN k (be k n ++ t, 0) = ((t, 0), n) := by
  have hl := be_length k n
  rw [rdN_ok k _ (by rw [List.length_append, hl]; omega), List.drop_append_of_le_length (by omega), List.drop_of_length_le (by omega), List.take_append_of_le_length (by omega), List.take_of_length_le (by omega), num_be, Nat.mod_eq_of_lt h]
  rfl
theorem noughts_replicate (n : Nat) : noughts (List.replicate n 0) = true := by
  unfold noughts
  rw [List.all_eq_true]
  intro x hx
  rw [List.eq_of_mem_replicate hx]
  rfl
/-- What was put by Opaque is read. -/
theorem rdO_opq (m : Int) (b t : List UInt8) (hb : b.length < 4294967296) (h : (b.length : Int) ≤ m) : rdO m (opq b ++ t, 0) = ((t, 0), b) := by
  have e : rdN 4 (opq b ++ t, 0) = ((b ++ List.replicate (pad b.length) 0 ++ t, 0), b.length) := by
    unfold opq
    rw [List.append_assoc, List.append_assoc]
    rw [rdN_be 4 b.length _ (by simpa using hb)]
    simp
  unfold rdO
  rw [e]
  simp only [ne_eq, not_true_eq_false, if_false]
  rw [if_neg (by omega), if_neg (by simp), List.append_assoc, List.drop_append_of_le_length (Nat.le_refl _), List.drop_of_length_le (Nat.le_refl _), List.nil_append,
    List.take_append_of_le_length (by simp), List.take_of_length_le (by simp), noughts_replicate, if_pos rfl, ← List.append_assoc]
  rw [List.take_append_of_le_length (by simp), List.take_append_of_le_length (Nat.le_refl _), List.take_of_length_le (Nat.le_refl _)]
  rw [List.drop_append_of_le_length (by simp), List.drop_of_length_le (by simp), List.nil_append]
theorem rdO_big (m : Int) (b t : List UInt8) (hb : b.length < 4294967296) (h : m < (b.length : Int)) : ∃ l, rdO m (opq b ++ t, 0) = ((l, 13), []) := by
  have e : rdN 4 (opq b ++ t, 0) = ((b ++ List.replicate (pad b.length) 0 ++ t, 0), b.length) := by
    unfold opq
    rw [List.append_assoc, List.append_assoc]
    rw [rdN_be 4 b.length _ (by simpa using hb)]
    simp
  unfold rdO
  rw [e]
  simp only [ne_eq, not_true_eq_false, if_false]
  rw [if_pos (by omega)]
  exact ⟨_, rfl⟩
end Go.Proofs.Ytbeahhijmgkfhaa

namespace Go.Proofs.Ytbeahhijmgkfhaa
open Go.RowKit

theorem be_snoc (n x : Nat) : be (n + 1) x = be n (x / 256) ++ [UInt8.ofNat x] := by
  induction n with
  | zero => simp [be]
  | succ n ih =>
    have e : x / 2 ^ (8 * (n + 1)) = x / 256 / 2 ^ (8 * n) := by
      rw [Nat.div_div_eq_div_mul, show (256 : Nat) = 2 ^ 8 from rfl, ← Nat.pow_add]
      congr 2
      omega
    show UInt8.ofNat (x / 2 ^ (8 * (n + 1))) :: be (n + 1) x = (UInt8.ofNat (x / 256 / 2 ^ (8 * n)) :: be n (x / 256)) ++ [UInt8.ofNat x]
    rw [ih, e]
    rfl
theorem be_num (l : List UInt8) : be l.length (num l) = l := by
  suffices h : ∀ n (l : List UInt8), l.length = n → be n (num l) = l from h _ l rfl
  intro n
  induction n with
  | zero => intro l hl; rw [List.eq_nil_of_length_eq_zero hl]; rfl
  | succ n ih =>
    intro l hl
    have hne : l ≠ [] := by intro e; rw [e] at hl; simp at hl
    have hd := List.dropLast_concat_getLast hne
    have h1 := ih l.dropLast (by rw [List.length_dropLast, hl]; rfl)
    generalize l.dropLast = t at *
    generalize l.getLast hne = b at *
    subst hd
    have hb : b.toNat < 256 := b.toNat_lt
    rw [num_snoc, be_snoc, show (num t * 256 + b.toNat) / 256 = num t by omega, h1]
    congr 2
    apply UInt8.toNat_inj.1
    simp
theorem noughts_eq (l : List UInt8) (h : noughts l = true) : l = List.replicate l.length 0 := by
  rw [List.eq_replicate_iff]
  refine ⟨rfl, fun b hb => ?_⟩
  unfold noughts at h
  rw [List.all_eq_true] at h
  simpa using h b hb
/-- An error is told with no bytes. -/
theorem rdO_nil (m : Int) (s : St) (h : (rdO m s).1.2 ≠ 0) : (rdO m s).2 = [] := by
  unfold rdO at *
  split
  · rfl
  · rename_i h1
    rw [if_neg h1] at h
    split
    · rfl
    · rename_i h2
      rw [if_neg h2] at h
      split
      · rfl
      · rename_i h3
        rw [if_neg h3] at h
        split
        · rename_i h4
          rw [if_pos h4] at h
          exact absurd rfl h
        · rfl
/-- What Opaque reads is just what is put for it. -/
theorem rdO_one (m : Int) (b : List UInt8) (h : (rdO m (b, 0)).1.2 = 0) : b = opq (rdO m (b, 0)).2 ++ (rdO m (b, 0)).1.1 := by
  by_cases hs : b.length < 4
  · exfalso
    unfold rdO at h
    rw [rdN_short 4 b hs] at h
    simp at h
  · have e := rdN_ok 4 b (by omega)
    have hb4 : be 4 (num (b.take 4)) = b.take 4 := by
      have := be_num (b.take 4)
      rwa [List.length_take, Nat.min_eq_left (by omega)] at this
    have hbb : b = b.take 4 ++ b.drop 4 := (List.take_append_drop 4 b).symm
    unfold rdO at h ⊢
    rw [e] at h ⊢
    simp only [ne_eq, not_true_eq_false, if_false] at h ⊢
    generalize num (b.take 4) = x at *
    generalize b.drop 4 = t at *
    generalize b.take 4 = u at *
    subst hbb
    split
    · rename_i h1
      rw [if_pos h1] at h
      simp at h
    · rename_i h1
      rw [if_neg h1] at h
      split
      · rename_i h2
        rw [if_pos h2] at h
        simp at h
      · rename_i h2
        rw [if_neg h2] at h
        split
        · rename_i h3
          have hx : (t.take x).length = x := by rw [List.length_take]; omega
          have hp : ((t.drop x).take (pad x)).length = pad x := by rw [List.length_take, List.length_drop]; omega
          have hz := noughts_eq _ h3
          rw [hp] at hz
          simp only
          unfold opq
          rw [hx, hb4, ← hz, List.append_assoc, List.append_assoc]
          congr 1
          rw [← List.drop_drop, List.take_append_drop, List.take_append_drop]
        · rename_i h3
          rw [if_neg h3] at h
          simp at h
end Go.Proofs.Ytbeahhijmgkfhaa

namespace Go.Proofs.Ytbeahhijmgkfhaa
open Go.RowKit

/-- A slice of numbers (of kind k) reads as xs. -/
def NS (k : IntKind) (w : World) (A : Option Addr) (n : Nat) (xs : List Nat) : Prop :=
  xs.length = n ∧ (0 < n → ∃ b o, A = some ⟨b, o, none⟩ ∧ ∀ j (hj : j < xs.length), w.cell? ⟨b, o + j, none⟩ = some (.int k (xs[j] : Int)))
theorem NS.below {k : IntKind} {w w' : World} {A : Option Addr} {n : Nat} {xs : List Nat} (h : NS k w A n xs) (hb : Below w.heap.size w w') : NS k w' A n xs :=
  ⟨h.1, fun hn => by
    obtain ⟨b, o, e, hc⟩ := h.2 hn
    exact ⟨b, o, e, fun j hj => (hb.cell (p := ⟨b, o + j, none⟩) (World.block_lt_of_cell? w _ (hc j hj))).trans (hc j hj)⟩⟩
theorem NS.at {k : IntKind} {w : World} {A : Option Addr} {n : Nat} {xs : List Nat} (h : NS k w A n xs) {i : Nat} (hi : i < n) :
    ∃ b o, A = some ⟨b, o, none⟩ ∧ ∃ hj : i < xs.length, w.cell? ⟨b, o + i, none⟩ = some (.int k (xs[i] : Int)) := by
  obtain ⟨b, o, e, hc⟩ := h.2 (by omega)
  have hj : i < xs.length := by rw [h.1]; exact hi
  exact ⟨b, o, e, hj, hc i hj⟩
/-- A slice of numbers none of which is below 0. -/
theorem IsRow.ns {k : IntKind} {w : World} {a : Option Addr} {len cap : Nat} {zs : List Int} (h : IsRow k w a len cap zs) (B : Nat) (hk : ∀ z, (Lit.int k z).wf = true → 0 ≤ z ∧ z < (B : Int)) : ∃ xs, NS k w a len xs ∧ ∀ x ∈ xs, x < B := by
  obtain ⟨hl, _, hz, hw, hc⟩ := h.cells
  refine ⟨(zs.take len).map fun z => z.toNat, ⟨by simp; omega, fun hn => ?_⟩, fun x hx => ?_⟩
  · obtain ⟨b, o, rfl, hcell⟩ := hc hn
    refine ⟨b, o, rfl, fun j hj => ?_⟩
    have hj' : j < len := by simp at hj; omega
    rw [hcell j hj']
    have hjz : j < zs.length := by omega
    obtain ⟨h1, _⟩ := hk _ (hw _ (List.getElem_mem hjz))
    simp [List.getD, List.getElem?_eq_getElem hjz]
    omega
  · simp only [List.mem_map] at hx
    obtain ⟨z, hz1, rfl⟩ := hx
    obtain ⟨h1, h2⟩ := hk _ (hw _ (List.mem_of_mem_take hz1))
    omega

/-- Numbers of n bytes each, one behind the other. -/
def enc (n : Nat) (xs : List Nat) : List UInt8 := xs.flatMap (be n)
theorem enc_length (n : Nat) (xs : List Nat) : (enc n xs).length = n * xs.length := by
  induction xs with
  | nil => rfl
  | cons x xs ih =>
    unfold enc at *
    rw [List.flatMap_cons, List.length_append, be_length, ih, List.length_cons, Nat.mul_succ]
    omega
theorem enc_snoc (n : Nat) (xs : List Nat) (k : Nat) (h : k < xs.length) : enc n (xs.take (k + 1)) = enc n (xs.take k) ++ be n xs[k] := by
  unfold enc
  rw [List.take_succ_eq_append_getElem h, List.flatMap_append]
  simp
theorem enc_drop (n : Nat) (xs : List Nat) (k : Nat) : (enc n xs).drop (n * k) = enc n (xs.drop k) := by
  induction k generalizing xs with
  | zero => simp
  | succ k ih =>
    cases xs with
    | nil => simp [enc]
    | cons x xs =>
      have e : enc n (x :: xs) = be n x ++ enc n xs := by unfold enc; rw [List.flatMap_cons]
      rw [e, Nat.mul_succ, Nat.add_comm, ← List.drop_drop, List.drop_append_of_le_length (by rw [be_length]; exact Nat.le_refl _), List.drop_of_length_le (l := be n x) (by rw [be_length]; exact Nat.le_refl _), List.nil_append, ih, List.drop_succ_cons]
/-- The i-th number of what was put, cut at k, is read, if it is whole. -/
theorem rdN_enc (n : Nat) (xs : List Nat) (t : List UInt8) (i k : Nat) (hi : i < xs.length) (hk : n * i + n ≤ k) (hx : xs[i] < 256 ^ n) :
    rdN n (((enc n xs ++ t).take k).drop (n * i), 0) = ((((enc n xs ++ t).take k).drop (n * (i + 1)), 0), xs[i]) := by
  have hlen : (enc n xs).length = n * xs.length := enc_length n xs
  have hil : n * (i + 1) ≤ n * xs.length := Nat.mul_le_mul_left n hi
  have e : ((enc n xs ++ t).take k).drop (n * i) = be n xs[i] ++ ((enc n xs ++ t).take k).drop (n * (i + 1)) := by
    have e1 : (enc n xs).drop (n * i) = be n xs[i] ++ (enc n xs).drop (n * (i + 1)) := by
      rw [enc_drop, enc_drop, List.drop_eq_getElem_cons hi]
      unfold enc
      rw [List.flatMap_cons]
    rw [Nat.mul_succ] at hil
    rw [List.drop_take, List.drop_take, List.drop_append_of_le_length (by rw [hlen]; omega), List.drop_append_of_le_length (by rw [hlen, Nat.mul_succ]; omega), e1, List.append_assoc, List.take_append, be_length,
      List.take_of_length_le (by rw [be_length]; omega)]
    congr 2
    rw [Nat.mul_succ]
    omega
  rw [e, rdN_be n xs[i] _ hx]
/-- A byte string that was put, cut anywhere, ends too early. -/
theorem rdO_cut (m : Int) (b : List UInt8) (j : Nat) (hj : j < (opq b).length) (hb : b.length < 4294967296) (hm : (b.length : Int) ≤ m) : ∃ l, rdO m ((opq b).take j, 0) = ((l, 10), []) := by
  have hol := opq_length b
  by_cases h4 : j < 4
  · have e := rdN_short 4 ((opq b).take j) (by rw [List.length_take]; omega)
    unfold rdO
    rw [e]
    simp
  · have e0 : (opq b).take j = be 4 b.length ++ (b ++ List.replicate (pad b.length) 0).take (j - 4) := by
      unfold opq
      rw [List.append_assoc, List.take_append, be_length, List.take_of_length_le (by rw [be_length]; omega)]
    have e : rdN 4 ((opq b).take j, 0) = (((b ++ List.replicate (pad b.length) 0).take (j - 4), 0), b.length) := by
      rw [e0, rdN_be 4 b.length _ (by simpa using hb)]
    unfold rdO
    rw [e]
    simp only [ne_eq, not_true_eq_false, if_false]
    rw [if_neg (by omega), if_pos (by rw [List.length_take, List.length_append, List.length_replicate]; omega)]
    exact ⟨_, rfl⟩
theorem Own.cap {w w' : World} {A : Option Addr} {n c : Nat} {l : List UInt8} (h : Own w w' A n c l) : n ≤ c := by
  rcases h.1.2 with ⟨h1, h0⟩ | ⟨g, cap, cur, h1, h2, h3, h4, _⟩
  · omega
  · injection h1 with h1 _ h5
    omega
end Go.Proofs.Ytbeahhijmgkfhaa
