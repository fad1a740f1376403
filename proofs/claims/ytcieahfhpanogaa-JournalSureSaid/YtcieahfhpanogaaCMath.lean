/-
  Plain facts on checksums (layer 2, crc): the shift of a number by a bit is one to one, and so is the sum in its start and in any 32 bits on end. Nothing of the program is named here.
-/
import Derived.Test.YtcieahfhpanogaaBase
namespace Go.Proofs.Ytcieahfhpanogaa

/-- Shifting a number by a bit. -/
def sh (x : BitVec 32) : BitVec 32 := (x <<< 1) ^^^ (if x.msb then 79764919#32 else 0#32)
def shn : Nat → BitVec 32 → BitVec 32
  | 0, x => x
  | n + 1, x => shn n (sh x)
theorem sh_xor (a b : BitVec 32) : sh (a ^^^ b) = sh a ^^^ sh b := by
  unfold sh
  rw [BitVec.msb_xor, BitVec.shiftLeft_xor_distrib]
  generalize a <<< 1 = a'
  generalize b <<< 1 = b'
  cases a.msb <;> cases b.msb <;> simp
  · ac_rfl
  · ac_rfl
  · rw [show a' ^^^ 79764919#32 ^^^ (b' ^^^ 79764919#32) = (a' ^^^ b') ^^^ (79764919#32 ^^^ 79764919#32) by ac_rfl]
    simp
theorem shn_xor (n : Nat) (a b : BitVec 32) : shn n (a ^^^ b) = shn n a ^^^ shn n b := by
  induction n generalizing a b with
  | zero => rfl
  | succ n ih => rw [shn, shn, shn, sh_xor, ih]
theorem shn_add (m n : Nat) (x : BitVec 32) : shn (m + n) x = shn n (shn m x) := by
  induction m generalizing x with
  | zero => simp [shn]
  | succ m ih => rw [show m + 1 + n = (m + n) + 1 by omega, shn, ih, shn]
theorem sh_zero {x : BitVec 32} (h : sh x = 0#32) : x = 0#32 := by
  unfold sh at h
  cases hm : x.msb
  · rw [hm] at h
    simp at h
    apply BitVec.eq_of_getLsbD_eq
    intro i hi
    rw [BitVec.getLsbD_zero]
    by_cases h31 : i = 31
    · subst h31
      rw [BitVec.msb_eq_getLsbD_last] at hm
      exact hm
    · have h2 := congrArg (fun y : BitVec 32 => y.getLsbD (i + 1)) h
      simp [BitVec.getLsbD_shiftLeft] at h2
      exact h2 (by omega)
  · rw [hm] at h
    have h2 := congrArg (fun y : BitVec 32 => y.getLsbD 0) h
    simp at h2
theorem xor_zero_eq {a b : BitVec 32} (h : a ^^^ b = 0#32) : a = b := by
  have : a ^^^ b ^^^ b = 0#32 ^^^ b := by rw [h]
  simpa [BitVec.xor_assoc] using this
theorem sh_inj {a b : BitVec 32} (h : sh a = sh b) : a = b := xor_zero_eq (sh_zero (by rw [sh_xor, h, BitVec.xor_self]))
theorem shn_inj {n : Nat} {a b : BitVec 32} (h : shn n a = shn n b) : a = b := by
  induction n generalizing a b with
  | zero => exact h
  | succ n ih => exact sh_inj (ih h)
theorem sh_shr (v : BitVec 32) (h : v.getLsbD 0 = false) : sh (v >>> 1) = v := by
  have hm : (v >>> 1).msb = false := by rw [BitVec.msb_eq_getLsbD_last]; simp
  unfold sh
  rw [hm]
  apply BitVec.eq_of_getLsbD_eq
  intro i hi
  rcases Nat.eq_zero_or_pos i with rfl | h0
  · rw [h]
    simp
  · have h1 : decide (i = 0) = false := by simp; omega
    have h2 : v.getLsbD (1 + (i - 1)) = v.getLsbD i := by congr 1; omega
    simp only [BitVec.getLsbD_xor, BitVec.getLsbD_shiftLeft, BitVec.getLsbD_ushiftRight, hi, h2]
    simp [h1]

/-- A bit that comes in. -/
def bit (b : Bool) : BitVec 32 := if b then BitVec.twoPow 32 31 else 0#32
def fb (x : BitVec 32) (b : Bool) : BitVec 32 := sh (x ^^^ bit b)
theorem fb_inj {x y : BitVec 32} {b : Bool} (h : fb x b = fb y b) : x = y := by
  have := sh_inj h
  have h2 : x ^^^ bit b ^^^ bit b = y ^^^ bit b ^^^ bit b := by rw [this]
  simpa [BitVec.xor_assoc] using h2
theorem fold_inj {M : List Bool} {x y : BitVec 32} (h : M.foldl fb x = M.foldl fb y) : x = y := by
  induction M generalizing x y with
  | nil => exact h
  | cons b M ih => exact fb_inj (ih h)
/-- Bits as a number, the first one the most significant of 32. -/
def vl : List Bool → BitVec 32
  | [] => 0#32
  | b :: r => bit b ^^^ (vl r >>> 1)
theorem bit_msb (b : Bool) (i : Nat) (hi : i < 32) : (bit b).getMsbD i = (b && decide (i = 0)) := by
  unfold bit
  cases b
  · simp
  · rw [if_pos rfl, BitVec.getMsbD_eq_getLsbD, BitVec.getLsbD_twoPow]
    rcases Nat.eq_zero_or_pos i with rfl | h0
    · simp
    · have h1 : ¬ (31 = 31 - i) := by omega
      have h2 : ¬ (i = 0) := by omega
      simp [h1, h2]
theorem vl_get (M : List Bool) (i : Nat) (hi : i < 32) : (vl M).getMsbD i = M.getD i false := by
  induction M generalizing i with
  | nil => simp [vl]
  | cons b r ih =>
    rw [vl, BitVec.getMsbD_xor, bit_msb b i hi]
    cases i with
    | zero => simp [BitVec.getMsbD_ushiftRight]
    | succ i =>
      have := ih i (by omega)
      rw [BitVec.getMsbD_ushiftRight]
      simp [this, hi]
theorem vl_low (r : List Bool) (h : r.length ≤ 31) : (vl r).getLsbD 0 = false := by
  have := vl_get r 31 (by omega)
  rw [BitVec.getMsbD_eq_getLsbD] at this
  have h2 : (vl r).getLsbD (32 - 1 - 31) = r.getD 31 false := by simpa using this
  rw [show (0 : Nat) = 32 - 1 - 31 from rfl, h2]
  simp [List.getElem?_eq_none h]
theorem vl_inj {M M' : List Bool} (hl : M.length = M'.length) (h32 : M.length ≤ 32) (h : vl M = vl M') : M = M' := by
  apply List.ext_getElem hl
  intro i h1 h2
  have e1 := vl_get M i (by omega)
  have e2 := vl_get M' i (by omega)
  rw [h, e2] at e1
  simpa [h1, h2] using e1.symm
theorem fold_eq (M : List Bool) (x : BitVec 32) (h : M.length ≤ 32) : M.foldl fb x = shn M.length (x ^^^ vl M) := by
  induction M generalizing x with
  | nil => simp [shn, vl]
  | cons b r ih =>
    have hr : r.length ≤ 31 := by simpa using h
    rw [List.foldl_cons, ih _ (by omega), List.length_cons, shn, vl, ← BitVec.xor_assoc, sh_xor, sh_shr _ (vl_low r hr)]
    rfl
/-- Two rows of as many bits, 32 at most, that bring the same number to the same one are the same. -/
theorem bits_inj {M M' : List Bool} {x : BitVec 32} (hl : M.length = M'.length) (h32 : M.length ≤ 32) (h : M.foldl fb x = M'.foldl fb x) : M = M' := by
  rw [fold_eq M x h32, fold_eq M' x (by omega), hl] at h
  have h1 := shn_inj h
  apply vl_inj hl h32
  have h2 : x ^^^ (x ^^^ vl M) = x ^^^ (x ^^^ vl M') := by rw [h1]
  simpa [← BitVec.xor_assoc] using h2

/-- The bits of a byte, the most significant first. -/
def bb (b : UInt8) : List Bool := [b.toBitVec.getLsbD 7, b.toBitVec.getLsbD 6, b.toBitVec.getLsbD 5, b.toBitVec.getLsbD 4, b.toBitVec.getLsbD 3, b.toBitVec.getLsbD 2, b.toBitVec.getLsbD 1, b.toBitVec.getLsbD 0]
theorem bb_len (b : UInt8) : (bb b).length = 8 := rfl
/-- A byte at the upper end. -/
def up (b : UInt8) : BitVec 32 := BitVec.ofNat 32 (b.toNat * 16777216)
theorem vl_bb (b : UInt8) : vl (bb b) = up b := by
  have h : ∀ n, n < 256 → vl (bb (UInt8.ofNat n)) = up (UInt8.ofNat n) := by decide +kernel
  have := h b.toNat b.toNat_lt
  simpa using this
theorem bb_inj {a b : UInt8} (h : bb a = bb b) : a = b := by
  have h1 := vl_bb a
  rw [h, vl_bb b] at h1
  have h2 := congrArg BitVec.toNat h1
  have ha := a.toNat_lt
  have hb := b.toNat_lt
  simp [up] at h2
  rw [Nat.mod_eq_of_lt (by omega), Nat.mod_eq_of_lt (by omega)] at h2
  exact UInt8.toNat_inj.1 (by omega)
/-- Adding a byte. -/
def ad (x : BitVec 32) (b : UInt8) : BitVec 32 := shn 8 (x ^^^ up b)
theorem ad_eq (x : BitVec 32) (b : UInt8) : ad x b = (bb b).foldl fb x := by rw [fold_eq _ _ (by rw [bb_len]; omega), bb_len, vl_bb]; rfl
def raw (x : BitVec 32) (l : List UInt8) : BitVec 32 := l.foldl ad x
/-- The bits of bytes. -/
def bs (l : List UInt8) : List Bool := l.flatMap bb
theorem raw_eq (x : BitVec 32) (l : List UInt8) : raw x l = (bs l).foldl fb x := by
  unfold raw bs
  induction l generalizing x with
  | nil => rfl
  | cons b l ih => rw [List.foldl_cons, ih, List.flatMap_cons, List.foldl_append, ad_eq]
theorem raw_append (x : BitVec 32) (a b : List UInt8) : raw x (a ++ b) = raw (raw x a) b := by simp [raw, List.foldl_append]
theorem raw_snoc (x : BitVec 32) (a : List UInt8) (b : UInt8) : raw x (a ++ [b]) = ad (raw x a) b := by simp [raw, List.foldl_append]
theorem bs_len (l : List UInt8) : (bs l).length = 8 * l.length := by
  induction l with
  | nil => rfl
  | cons b l ih => unfold bs at *; rw [List.flatMap_cons, List.length_append, ih, bb_len, List.length_cons]; omega
theorem ad_inj {x y : BitVec 32} {b : UInt8} (h : ad x b = ad y b) : x = y := by rw [ad_eq, ad_eq] at h; exact fold_inj h
theorem raw_inj {x y : BitVec 32} {l : List UInt8} (h : raw x l = raw y l) : x = y := by rw [raw_eq, raw_eq] at h; exact fold_inj h
theorem ad_inj2 {x : BitVec 32} {a b : UInt8} (h : ad x a = ad x b) : a = b := by rw [ad_eq, ad_eq] at h; exact bb_inj (bits_inj rfl (by rw [bb_len]; omega) h)

/-! The document's functions. -/
def more (s : BitVec 32) (l : List UInt8) : BitVec 32 := ~~~ raw (~~~ s) l
def sum (l : List UInt8) : BitVec 32 := more 0#32 l
def sealed (l : List UInt8) : List UInt8 := l ++ be 4 (sum l).toNat
def right (l : List UInt8) : Bool := decide (4 ≤ l.length) && decide (sealed (l.take (l.length - 4)) = l)
theorem not_inj {a b : BitVec 32} (h : ~~~ a = ~~~ b) : a = b := by
  have : ~~~ ~~~ a = ~~~ ~~~ b := by rw [h]
  simpa using this
theorem more_nil (s : BitVec 32) : more s [] = s := by simp [more, raw]
theorem more_more (s : BitVec 32) (a b : List UInt8) : more (more s a) b = more s (a ++ b) := by simp [more, raw_append]
theorem sum_nil : sum [] = 0#32 := more_nil _
theorem sealed_length (l : List UInt8) : (sealed l).length = l.length + 4 := by simp [sealed, be_length]
theorem right_sealed (l : List UInt8) : right (sealed l) = true := by
  have h := sealed_length l
  unfold right
  rw [h]
  have : (sealed l).take (l.length + 4 - 4) = l := by
    rw [Nat.add_sub_cancel]
    unfold sealed
    rw [List.take_append_of_le_length (Nat.le_refl _), List.take_of_length_le (Nat.le_refl _)]
  rw [this]
  simp
theorem right_short (l : List UInt8) (h : l.length < 4) : right l = false := by
  unfold right
  have : decide (4 ≤ l.length) = false := by simp; omega
  rw [this]
  rfl
theorem vl_append (A B : List Bool) : vl (A ++ B) = vl A ^^^ (vl B >>> A.length) := by
  induction A with
  | nil => simp [vl]
  | cons b A ih =>
    rw [List.cons_append, vl, ih, vl, List.length_cons]
    rw [BitVec.xor_assoc]
    congr 1
    rw [BitVec.ushiftRight_xor_distrib, BitVec.shiftRight_add]
theorem vl_be (N : BitVec 32) : vl (bs (be 4 N.toNat)) = N := by
  have e : ∀ k, up (UInt8.ofNat (N.toNat / 2 ^ k)) = (N >>> k) <<< 24 := by
    intro k
    apply BitVec.eq_of_toNat_eq
    simp [up, Nat.shiftLeft_eq, Nat.shiftRight_eq_div_pow]
    omega
  simp only [bs, be, List.flatMap_cons, List.flatMap_nil, List.append_nil]
  simp only [vl_append, bb_len, vl_bb, e]
  apply BitVec.eq_of_getLsbD_eq
  intro i hi
  have hc : i = 0 ∨ i = 1 ∨ i = 2 ∨ i = 3 ∨ i = 4 ∨ i = 5 ∨ i = 6 ∨ i = 7 ∨ i = 8 ∨ i = 9 ∨ i = 10 ∨ i = 11 ∨ i = 12 ∨ i = 13 ∨ i = 14 ∨ i = 15 ∨ i = 16 ∨ i = 17 ∨ i = 18 ∨ i = 19 ∨ i = 20 ∨ i = 21 ∨ i = 22 ∨ i = 23 ∨ i = 24 ∨ i = 25 ∨ i = 26 ∨ i = 27 ∨ i = 28 ∨ i = 29 ∨ i = 30 ∨ i = 31 := by omega
  rcases hc with rfl | rfl | rfl | rfl | rfl | rfl | rfl | rfl | rfl | rfl | rfl | rfl | rfl | rfl | rfl | rfl | rfl | rfl | rfl | rfl | rfl | rfl | rfl | rfl | rfl | rfl | rfl | rfl | rfl | rfl | rfl | rfl <;> simp
theorem xor_not (y : BitVec 32) : y ^^^ ~~~ y = ~~~ 0#32 := by
  apply BitVec.eq_of_getLsbD_eq
  intro i hi
  simp only [BitVec.getLsbD_xor, BitVec.getLsbD_not, BitVec.getLsbD_zero, hi]
  simp
theorem right_raw {l : List UInt8} (h : right l = true) : raw (~~~ 0#32) l = shn 32 (~~~ 0#32) := by
  unfold right at h
  simp only [Bool.and_eq_true, decide_eq_true_eq] at h
  rw [← h.2]
  generalize l.take (l.length - 4) = t
  unfold sealed
  rw [raw_append, raw_eq (raw (~~~ 0#32) t), fold_eq _ _ (by rw [bs_len, be_length]; omega), vl_be, bs_len, be_length]
  show shn 32 (raw (~~~ 0#32) t ^^^ ~~~ raw (~~~ 0#32) t) = _
  rw [xor_not]

/-! Bits of bytes, by their place. -/
theorem bs_cons (b : UInt8) (l : List UInt8) : bs (b :: l) = bb b ++ bs l := by simp [bs]
theorem bs_get (l : List UInt8) (j : Nat) : (bs l)[j]? = (l[j / 8]?).map (fun b => b.toBitVec.getLsbD (7 - j % 8)) := by
  induction l generalizing j with
  | nil => simp [bs]
  | cons b l ih =>
    rw [bs_cons]
    by_cases h : j < 8
    · rw [List.getElem?_append_left (by rw [bb_len]; exact h), Nat.div_eq_of_lt h, Nat.mod_eq_of_lt h]
      have hc : j = 0 ∨ j = 1 ∨ j = 2 ∨ j = 3 ∨ j = 4 ∨ j = 5 ∨ j = 6 ∨ j = 7 := by omega
      rcases hc with rfl | rfl | rfl | rfl | rfl | rfl | rfl | rfl <;> rfl
    · rw [List.getElem?_append_right (by rw [bb_len]; omega), bb_len, ih (j - 8), show j / 8 = (j - 8) / 8 + 1 by omega, show (j - 8) % 8 = j % 8 by omega]
      rfl
/-- A byte with one bit changed, the most significant of its bits being bit 0. -/
def fl (b : UInt8) (r : Nat) : UInt8 := UInt8.ofNat (b.toNat ^^^ 128 / 2 ^ r)
theorem fl_get (b : UInt8) (r s : Nat) (hr : r < 8) (hs : s < 8) : (fl b r).toBitVec.getLsbD (7 - s) = (b.toBitVec.getLsbD (7 - s) ^^ decide (s = r)) := by
  have h : ∀ n, n < 256 → ∀ r, r < 8 → ∀ s, s < 8 → (fl (UInt8.ofNat n) r).toBitVec.getLsbD (7 - s) = ((UInt8.ofNat n).toBitVec.getLsbD (7 - s) ^^ decide (s = r)) := by decide +kernel
  have := h b.toNat b.toNat_lt r hr s hs
  simpa using this
/-- Bytes with one bit changed. -/
def flip (l : List UInt8) (j : Nat) : List UInt8 := l.modify (j / 8) (fun b => fl b (j % 8))
theorem flip_length (l : List UInt8) (j : Nat) : (flip l j).length = l.length := by simp [flip]
theorem flip_get (l : List UInt8) (j m : Nat) : (bs (flip l j))[m]? = (bs l)[m]?.map (fun b => b ^^ decide (m = j)) := by
  rw [bs_get, bs_get]
  unfold flip
  rw [List.getElem?_modify, Option.map_eq_map, Option.map_map, Option.map_map]
  congr 1
  funext b
  simp only [Function.comp]
  by_cases hq : j / 8 = m / 8
  · rw [if_pos hq, fl_get b (j % 8) (m % 8) (by omega) (by omega)]
    congr 1
    rw [decide_eq_decide]
    omega
  · rw [if_neg hq]
    have : decide (m = j) = false := by rw [decide_eq_false_iff_not]; rintro rfl; exact hq rfl
    rw [this, Bool.xor_false]
/-- Bytes with the bits of B changed, its bit 0 at the bit of place k. -/
def burst (l : List UInt8) (k B : Nat) : Nat → List UInt8
  | 0 => l
  | i + 1 => if B.testBit i then flip (burst l k B i) (k + i) else burst l k B i
theorem burst_length (l : List UInt8) (k B i : Nat) : (burst l k B i).length = l.length := by
  induction i with
  | zero => rfl
  | succ i ih =>
    unfold burst
    split
    · rw [flip_length, ih]
    · exact ih
theorem burst_get (l : List UInt8) (k B i m : Nat) : (bs (burst l k B i))[m]? = (bs l)[m]?.map (fun b => b ^^ (decide (k ≤ m ∧ m < k + i) && B.testBit (m - k))) := by
  induction i with
  | zero =>
    have : decide (k ≤ m ∧ m < k + 0) = false := by rw [decide_eq_false_iff_not]; omega
    rw [this]
    simp [burst]
  | succ i ih =>
    unfold burst
    split
    · rename_i h
      rw [flip_get, ih, Option.map_map]
      congr 1
      funext b
      simp only [Function.comp]
      rw [Bool.xor_assoc]
      congr 1
      by_cases hm : m = k + i
      · subst hm
        have h1 : decide (k ≤ k + i ∧ k + i < k + i) = false := by rw [decide_eq_false_iff_not]; omega
        have h2 : decide (k ≤ k + i ∧ k + i < k + (i + 1)) = true := by rw [decide_eq_true_iff]; omega
        rw [h1, h2, show k + i - k = i by omega, h]
        simp
      · have h1 : decide (k ≤ m ∧ m < k + i) = decide (k ≤ m ∧ m < k + (i + 1)) := by rw [decide_eq_decide]; omega
        rw [h1]
        simp [hm]
    · rename_i h
      rw [ih]
      congr 1
      funext b
      congr 1
      by_cases hm : m = k + i
      · subst hm
        rw [show k + i - k = i by omega]
        simp [h]
      · have h1 : decide (k ≤ m ∧ m < k + i) = decide (k ≤ m ∧ m < k + (i + 1)) := by rw [decide_eq_decide]; omega
        rw [h1]
/-- What is right is right no more with up to 32 bits on end changed. -/
theorem burst_wrong (l : List UInt8) (k B : Nat) (hr : right l = true) (hk : k + 32 ≤ 8 * l.length) (h0 : B ≠ 0) (hB : B < 2 ^ 32) : right (burst l k B 32) = false := by
  cases hb : right (burst l k B 32)
  · rfl
  exfalso
  have e1 := right_raw hr
  have e2 := right_raw hb
  rw [← e2, raw_eq, raw_eq] at e1
  have hl0 : (bs l).length = 8 * l.length := bs_len l
  have hl1 : (bs (burst l k B 32)).length = 8 * l.length := by rw [bs_len, burst_length]
  have hg := burst_get l k B 32
  generalize bs l = M0 at *
  generalize bs (burst l k B 32) = M1 at *
  have t1 : M1.take k = M0.take k := by
    apply List.ext_getElem?
    intro m
    rw [List.getElem?_take, List.getElem?_take]
    split
    · rename_i hm
      rw [hg m]
      have : decide (k ≤ m ∧ m < k + 32) = false := by rw [decide_eq_false_iff_not]; omega
      rw [this]
      simp
    · rfl
  have t3 : M1.drop (k + 32) = M0.drop (k + 32) := by
    apply List.ext_getElem?
    intro m
    rw [List.getElem?_drop, List.getElem?_drop, hg (k + 32 + m)]
    have : decide (k ≤ k + 32 + m ∧ k + 32 + m < k + 32) = false := by rw [decide_eq_false_iff_not]; omega
    rw [this]
    simp
  have s0 : M0 = M0.take k ++ ((M0.drop k).take 32 ++ M0.drop (k + 32)) := by rw [← List.drop_drop, List.take_append_drop, List.take_append_drop]
  have s1 : M1 = M0.take k ++ ((M1.drop k).take 32 ++ M0.drop (k + 32)) := by rw [← t1, ← t3, ← List.drop_drop, List.take_append_drop, List.take_append_drop]
  have f0 : M0.foldl fb (~~~ 0#32) = (M0.drop (k + 32)).foldl fb (((M0.drop k).take 32).foldl fb ((M0.take k).foldl fb (~~~ 0#32))) := by
    conv => lhs; rw [s0]
    rw [List.foldl_append, List.foldl_append]
  have f1 : M1.foldl fb (~~~ 0#32) = (M0.drop (k + 32)).foldl fb (((M1.drop k).take 32).foldl fb ((M0.take k).foldl fb (~~~ 0#32))) := by
    conv => lhs; rw [s1]
    rw [List.foldl_append, List.foldl_append]
  rw [f0, f1] at e1
  have e3 := bits_inj (by simp [hl0, hl1]) (by simp; omega) (fold_inj e1)
  obtain ⟨i, hi⟩ : ∃ i, B.testBit i = true := Nat.exists_testBit_of_ne_zero h0
  have hi32 : i < 32 := by
    rcases Nat.lt_or_ge i 32 with h | h
    · exact h
    · rw [Nat.testBit_lt_two_pow (Nat.lt_of_lt_of_le hB (Nat.pow_le_pow_right (by omega) h))] at hi
      cases hi
  have e4 := congrArg (fun M : List Bool => M[i]?) e3
  simp only [List.getElem?_take, if_pos hi32, List.getElem?_drop] at e4
  rw [hg (k + i)] at e4
  have h2 : decide (k ≤ k + i ∧ k + i < k + 32) = true := by rw [decide_eq_true_iff]; omega
  rw [h2, show k + i - k = i by omega, hi, List.getElem?_eq_getElem (by omega)] at e4
  simp at e4

/-! Four bits at a time. -/
theorem shn4 (x : BitVec 32) : shn 4 x = (x <<< 4) ^^^ shn 4 ((x >>> 28) <<< 28) := by
  have e : x = (x <<< 4) >>> 4 ^^^ (x >>> 28) <<< 28 := by
    apply BitVec.eq_of_getLsbD_eq
    intro i hi
    have hc : i = 0 ∨ i = 1 ∨ i = 2 ∨ i = 3 ∨ i = 4 ∨ i = 5 ∨ i = 6 ∨ i = 7 ∨ i = 8 ∨ i = 9 ∨ i = 10 ∨ i = 11 ∨ i = 12 ∨ i = 13 ∨ i = 14 ∨ i = 15 ∨ i = 16 ∨ i = 17 ∨ i = 18 ∨ i = 19 ∨ i = 20 ∨ i = 21 ∨ i = 22 ∨ i = 23 ∨ i = 24 ∨ i = 25 ∨ i = 26 ∨ i = 27 ∨ i = 28 ∨ i = 29 ∨ i = 30 ∨ i = 31 := by omega
    rcases hc with rfl | rfl | rfl | rfl | rfl | rfl | rfl | rfl | rfl | rfl | rfl | rfl | rfl | rfl | rfl | rfl | rfl | rfl | rfl | rfl | rfl | rfl | rfl | rfl | rfl | rfl | rfl | rfl | rfl | rfl | rfl | rfl <;> simp
  have e2 : shn 4 ((x <<< 4) >>> 4) = x <<< 4 := by
    have h : ∀ k, k < 4 → sh ((x <<< 4) >>> (k + 1)) = (x <<< 4) >>> k := by
      intro k hk
      rw [BitVec.shiftRight_add]
      apply sh_shr
      simp [BitVec.getLsbD_shiftLeft, hk]
    rw [shn, shn, shn, shn, shn, h 3 (by omega), h 2 (by omega), h 1 (by omega), h 0 (by omega)]
    simp
  conv => lhs; rw [e]
  rw [shn_xor, e2]
end Go.Proofs.Ytcieahfhpanogaa
