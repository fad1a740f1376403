
/-
  Plain words on memory and bytes for the proofs over layer 1 (xdr): what a call keeps, bytes as cells, a slice that reads as bytes. Nothing of the program is named here.
-/
import Derived.WalkKit
import Derived.WalkSpells
import Derived.WalkLawsBesides
import Derived.Below
import Derived.Deep.AppendLies
import Derived.Deep.Draws
import Derived.Lib.Hide
namespace Go.Proofs.Ytjionpkflpnejaa
open Go.RowKit

/-- The cells of bytes. -/
def bc (l : List UInt8) : List Value := l.map fun b => Value.int .u8 (b.toNat : Int)
theorem bc_length (l : List UInt8) : (bc l).length = l.length := by simp [bc]
theorem bc_append (a b : List UInt8) : bc (a ++ b) = bc a ++ bc b := by simp [bc]
theorem bc_one (l : List UInt8) : ∀ u ∈ bc l, u.oneCell' = true := by
  intro u hu
  simp only [bc, List.mem_map] at hu
  obtain ⟨b, _, rfl⟩ := hu
  rfl
theorem bc_get (l : List UInt8) (j : Nat) (hj : j < l.length) : (bc l)[j]? = some (.int .u8 (l[j].toNat : Int)) := by simp [bc, hj]

/-- The streams are as they were, no block has gone, and each block of K is as it was. -/
structure Keep (K : Nat → Prop) (w w' : World) : Prop where
  os : w'.os = w.os
  tape : w'.tape = w.tape
  output : w'.output = w.output
  size : w.heap.size ≤ w'.heap.size
  block : ∀ k, K k → w'.heap[k]? = w.heap[k]?

section
variable {K K' : Nat → Prop} {a b c w w' : World}
theorem Keep.refl (K : Nat → Prop) (w : World) : Keep K w w := ⟨rfl, rfl, rfl, Nat.le_refl _, fun _ _ => rfl⟩
theorem Keep.trans (h : Keep K a b) (k : Keep K b c) : Keep K a c :=
  ⟨k.os.trans h.os, k.tape.trans h.tape, k.output.trans h.output, Nat.le_trans h.size k.size, fun i hi => (k.block i hi).trans (h.block i hi)⟩
theorem Keep.mono (h : Keep K a b) (hK : ∀ k, K' k → K k) : Keep K' a b := ⟨h.os, h.tape, h.output, h.size, fun k hk => h.block k (hK k hk)⟩
theorem Keep.drew (h : Keep K a w) : Keep K a w.drew := ⟨h.os, h.tape, h.output, h.size, h.block⟩
theorem Keep.drewN (h : Keep K a w) (n : Nat) : Keep K a (w.drewN n) := ⟨h.os, h.tape, h.output, h.size, h.block⟩
theorem Keep.alloc (h : Keep K a w) (hK : ∀ k, K k → k < w.heap.size) (o : Obj) : Keep K a (w.alloc o) :=
  h.trans ⟨rfl, rfl, rfl, by simp, fun k hk => Below.heap_alloc w o k (hK k hk)⟩
theorem Keep.setCell (h : Keep K a w) {p : Addr} (hp : ¬ K p.block) (u : Value) : Keep K a (w.setCell p u) :=
  h.trans ⟨rfl, rfl, rfl, by simp [World.setCell], fun k hk => Below.heap_setCell w p u k (fun e => hp (e ▸ hk))⟩
theorem Keep.grown {row : Option Nat} (h : Keep K a w) (hg : w.grownBy w' row) (hK : ∀ k, K k → k < w.heap.size) (hr : ∀ k, row = some k → ¬ K k) : Keep K a w' :=
  h.trans ⟨hg.os, hg.tape, hg.output, hg.size, fun k hk => hg.block k (hK k hk) (fun e => hr k e.symm hk)⟩
theorem Keep.below {B : Nat} (h : Keep (· < B) w w') : Below B w w' := ⟨h.os, h.tape, h.output, h.size, h.block⟩
theorem Keep.of_below {B : Nat} (h : Below B w w') : Keep (· < B) w w' := ⟨h.os, h.tape, h.output, h.size, h.block⟩
theorem Keep.lt {B : Nat} (h : Keep K w w') (hK : ∀ k, K k → k < B) (hB : B ≤ w.heap.size) : ∀ k, K k → k < w'.heap.size :=
  fun k hk => Nat.lt_of_lt_of_le (hK k hk) (Nat.le_trans hB h.size)
end

/-- The slice (A, n, ..) reads as the bytes l. -/
def BS (w : World) (A : Option Addr) (n : Nat) (l : List UInt8) : Prop :=
  l.length = n ∧ (0 < n → ∃ b o, A = some ⟨b, o, none⟩ ∧ ∀ j (hj : j < l.length), w.cell? ⟨b, o + j, none⟩ = some (.int .u8 (l[j].toNat : Int)))

section
variable {K : Nat → Prop} {w w' : World} {A : Option Addr} {n : Nat} {l : List UInt8}
theorem BS.nil : BS w A 0 [] := ⟨rfl, fun h => absurd h (by omega)⟩
theorem BS.keep (h : BS w A n l) (hk : ∀ p : Addr, p.block < w.heap.size → w'.cell? p = w.cell? p) : BS w' A n l :=
  ⟨h.1, fun hn => by
    obtain ⟨b, o, e, hc⟩ := h.2 hn
    exact ⟨b, o, e, fun j hj => (hk ⟨b, o + j, none⟩ (World.block_lt_of_cell? w _ (hc j hj))).trans (hc j hj)⟩⟩
theorem BS.below (h : BS w A n l) (hb : Below w.heap.size w w') : BS w' A n l := h.keep fun _ hp => hb.cell hp
theorem BS.kept (h : BS w A n l) (hb : Keep (· < w.heap.size) w w') : BS w' A n l := h.below hb.below
theorem BS.alloc (h : BS w A n l) (o : Obj) : BS (w.alloc o) A n l := h.keep fun p hp => World.cell?_alloc_lt w o p hp
theorem BS.drew (h : BS w A n l) : BS w.drew A n l := h
theorem BS.drewN (h : BS w A n l) (k : Nat) : BS (w.drewN k) A n l := h
/-- Whatever is kept outside of one block that holds no byte is kept of a slice of bytes. -/
theorem BS.off {q : Nat} (h : BS w A n l) (hq : ∀ o z, w.cell? ⟨q, o, none⟩ ≠ some (.int .u8 z)) (hk : ∀ k, k < w.heap.size → k ≠ q → w'.heap[k]? = w.heap[k]?) : BS w' A n l :=
  ⟨h.1, fun hn => by
    obtain ⟨b, o, e, hc⟩ := h.2 hn
    refine ⟨b, o, e, fun j hj => ?_⟩
    have hbq : b ≠ q := by
      rintro rfl
      exact hq _ _ (hc j hj)
    rw [← hc j hj]
    exact World.cell?_of_block (hk b (World.block_lt_of_cell? w _ (hc j hj)) hbq)⟩
theorem BS.take (h : BS w A n l) {k : Nat} (hk : k ≤ n) : BS w A k (l.take k) :=
  ⟨by rw [List.length_take, h.1]; omega, fun hn => by
    obtain ⟨b, o, e, hc⟩ := h.2 (by omega)
    refine ⟨b, o, e, fun j hj => ?_⟩
    have hjl : j < l.length := by rw [List.length_take] at hj; omega
    rw [hc j hjl]
    simp⟩
theorem BS.drop (h : BS w A n l) {k c : Nat} (hk : k ≤ n) (hc : n ≤ c) : BS w (if c = k then A else A.map (·.add k)) (n - k) (l.drop k) :=
  ⟨by rw [List.length_drop, h.1], fun hn => by
    obtain ⟨b, o, rfl, hcell⟩ := h.2 (by omega)
    rw [if_neg (by omega)]
    refine ⟨b, o + k, ?_, fun j hj => ?_⟩
    · simp only [Option.map_some]
      unfold Addr.add
      split
      · simp_all
      · rfl
    · rw [List.length_drop] at hj
      rw [show o + k + j = o + (k + j) by omega, hcell (k + j) (by omega)]
      simp⟩
theorem BS.of_own {base : Nat} {e : TypeId} {c : Nat} (h : w.ownsRow base e 1 (.slice A n c) n (bc l)) : BS w A n l := by
  have hl : l.length = n := by have := h.1; rw [bc_length] at this; omega
  refine ⟨hl, fun hn => ?_⟩
  obtain ⟨g, cap, hv, _, hlt⟩ := h.form hn
  injection hv with hA _ _
  subst hA
  refine ⟨g, 0, rfl, fun j hj => ?_⟩
  have := h.cells (g := g) rfl j _ (bc_get l j hj)
  have hadd : (⟨g, 0, none⟩ : Addr).add j = ⟨g, 0 + j, none⟩ := by unfold Addr.add; split <;> simp_all
  rw [hadd] at this
  exact this
/-- The cells, as the laws on append ask for them. -/
theorem BS.news (h : BS w A n l) {ad : Addr} (hA : A = some ad) : ∀ j u, (bc l)[j]? = some u → w.cell? (ad.add j) = some u := by
  intro j u hu
  have hj : j < l.length := by
    have := (List.getElem?_eq_some_iff.1 hu).1
    rwa [bc_length] at this
  rw [bc_get l j hj] at hu
  injection hu with hu
  subst hu
  obtain ⟨b, o, e, hc⟩ := h.2 (by have := h.1; omega)
  rw [hA] at e
  injection e with e
  subst e
  have hadd : (⟨b, o, none⟩ : Addr).add j = ⟨b, o + j, none⟩ := by unfold Addr.add; split <;> simp_all
  rw [hadd]
  exact hc j hj
end

/-- n bytes of x, the most significant first. -/
def be : Nat → Nat → List UInt8
  | 0, _ => []
  | n + 1, x => UInt8.ofNat (x / 2 ^ (8 * n)) :: be n x
theorem be_length (n x : Nat) : (be n x).length = n := by induction n with | zero => rfl | succ n ih => simp [be, ih]
theorem be_get (n x : Nat) : ∀ i (h : i < (be n x).length), (be n x)[i] = UInt8.ofNat (x / 2 ^ (8 * (n - 1 - i))) := by
  induction n with
  | zero => intro i h; simp [be] at h
  | succ n ih =>
    intro i h
    match i with
    | 0 => simp [be]
    | i + 1 =>
      have := ih i (by simpa [be] using h)
      simp only [be, List.getElem_cons_succ]
      rw [this, show n + 1 - 1 - (i + 1) = n - 1 - i by omega]
theorem be_take_snoc (n x i : Nat) (h : i < n) : (be n x).take (i + 1) = (be n x).take i ++ [UInt8.ofNat (x / 2 ^ (8 * (n - 1 - i)))] := by
  rw [List.take_succ_eq_append_getElem (by rw [be_length]; exact h), be_get]

/-- The number of bytes, the most significant first. -/
def num (l : List UInt8) : Nat := l.foldl (fun a b => a * 256 + b.toNat) 0
theorem num_nil : num [] = 0 := rfl
theorem num_snoc (l : List UInt8) (b : UInt8) : num (l ++ [b]) = num l * 256 + b.toNat := by simp [num, List.foldl_append]
theorem num_lt (l : List UInt8) : num l < 256 ^ l.length := by
  suffices h : ∀ n (l : List UInt8), l.length = n → num l < 256 ^ n from h _ l rfl
  intro n
  induction n with
  | zero => intro l hl; rw [List.eq_nil_of_length_eq_zero hl]; simp [num]
  | succ n ih =>
    intro l hl
    have hne : l ≠ [] := by intro e; rw [e] at hl; simp at hl
    rw [← List.dropLast_concat_getLast hne, num_snoc]
    have := ih l.dropLast (by rw [List.length_dropLast, hl]; rfl)
    have hb := (l.getLast hne).toNat_lt
    rw [Nat.pow_succ]
    omega
theorem num_be (n x : Nat) : num (be n x) = x % 256 ^ n := by
  suffices h : ∀ i, i ≤ n → num ((be n x).take i) = x / 2 ^ (8 * (n - i)) % 256 ^ i by
    have := h n (Nat.le_refl _)
    rw [List.take_of_length_le (by rw [be_length]; exact Nat.le_refl _)] at this
    simpa using this
  intro i
  induction i with
  | zero => intro _; simp [num, Nat.mod_one]
  | succ i ih =>
    intro hi
    rw [be_take_snoc n x i (by omega), num_snoc, ih (by omega)]
    have e1 : 2 ^ (8 * (n - i)) = 2 ^ (8 * (n - (i + 1))) * 256 := by
      rw [show (256 : Nat) = 2 ^ 8 from rfl, ← Nat.pow_add]
      congr 1
      omega
    have e2 : n - 1 - i = n - (i + 1) := by omega
    rw [e1, ← Nat.div_div_eq_div_mul, e2]
    generalize x / 2 ^ (8 * (n - (i + 1))) = y
    have e3 : (UInt8.ofNat y).toNat = y % 256 := by simp
    rw [e3, Nat.pow_succ, Nat.mul_comm (256 ^ i) 256, Nat.mod_mul]
    omega

section
variable {P : Program} (w : World)
/-- append of bytes (of whatever slice, nil let in) onto a row of bytes of the call's own. -/
theorem run_append_bytes (base : Nat) (t ty e : TypeId) (i : TypeInfo) (ht : P.underlying t = some (.slice e)) (hi : P.info? e = some i) (hz : i.zero = some (.int .u8 0)) (hsize : i.size = 1) (hby : i.bytes = 1)
    (A0 : Option Addr) (n0 c0 : Nat) (l0 : List UInt8) (hown : w.ownsRow base e 1 (.slice A0 n0 c0) n0 (bc l0)) (A : Option Addr) (m c : Nat) (l : List UInt8) (hr : BS w A m l) (hb : n0 + m ≤ 4000000) (hbase : base ≤ w.heap.size) :
    ∃ A' c' w', (Builtin.append_ #[t, t] ty #[.slice A0 n0 c0, .slice A m c]).run P w = .ok (.slice A' (n0 + m) c') w' ∧ w'.ownsRow base e 1 (.slice A' (n0 + m) c') (n0 + m) (bc (l0 ++ l)) ∧
      w.grownBy w' (Value.slice A0 n0 c0).ownBlock ∧ ((Value.slice A' (n0 + m) c').ownBlock = (Value.slice A0 n0 c0).ownBlock ∨ (Value.slice A' (n0 + m) c').ownBlock = some w.heap.size) := by
  rcases A with _ | ad
  · have hm : m = 0 := by
      rcases Nat.eq_zero_or_pos m with h0 | h0
      · exact h0
      · obtain ⟨b, o, h, _⟩ := hr.2 h0
        cases h
    subst hm
    have hl : l = [] := List.eq_nil_of_length_eq_zero hr.1
    subst hl
    refine ⟨A0, c0, w, ?_, by simpa using hown, World.grownBy.refl w _, .inl rfl⟩
    rcases hown.2 with ⟨h1, h2⟩ | ⟨g, cap, cur, h1, _, _, hnc, _⟩
    · injection h1 with h1 h3 h4
      subst h1 h3 h4
      simp [Builtin.append_, run_underlying ht, sizeOf, typeInfo, hi, Builtin.lenOf, Builtin.firstCells]
    · injection h1 with h1 h3 h4
      subst h1 h4
      simp [Builtin.append_, run_underlying ht, sizeOf, typeInfo, hi, Builtin.lenOf, Builtin.firstCells, hnc, storeCells]
  · obtain ⟨v', w', hrun, h2, h3, _, h5⟩ := run_append_own_at (P := P) w base t ty e i (.int .u8 0) 1 1 ht hi hz hsize hby rfl (by omega) _ n0 _ hown ad m c (bc l) (by rw [bc_length, hr.1]; omega)
      (hr.news rfl) (bc_one l) (by unfold maxLen; omega) (by omega) hbase
    have hv : ∃ A' c', v' = .slice A' (n0 + m) c' := by
      rcases h2.2 with ⟨h6, h7⟩ | ⟨g, cap, cur, h6, _⟩
      · exact ⟨none, 0, by rw [h6, h7]⟩
      · exact ⟨_, _, h6⟩
    obtain ⟨A', c', rfl⟩ := hv
    exact ⟨A', c', w', hrun, by rw [bc_append]; exact h2, h3, h5⟩

theorem wp_append_bytes {o : Oper} {a : Act} {K : Act → World → Prop} {Q : Exit → Act → World → Prop} (s x : Operand) (t : TypeId)
    (ho : o.op = .call { callee := .builtin .append, args := #[s, x], argTypes := #[t, t] })
    (base : Nat) (e : TypeId) (i : TypeInfo) (ht : P.underlying t = some (.slice e)) (hi : P.info? e = some i) (hz : i.zero = some (.int .u8 0)) (hsize : i.size = 1) (hby : i.bytes = 1)
    (A0 : Option Addr) (n0 c0 : Nat) (l0 : List UInt8) (hs : a.eval s = .slice A0 n0 c0) (hown : w.ownsRow base e 1 (.slice A0 n0 c0) n0 (bc l0))
    (A : Option Addr) (m c : Nat) (l : List UInt8) (hx : a.eval x = .slice A m c) (hr : BS w A m l) (hb : n0 + m ≤ 4000000) (hbase : base ≤ w.heap.size)
    (h : ∀ A' c' w', w'.ownsRow base e 1 (.slice A' (n0 + m) c') (n0 + m) (bc (l0 ++ l)) → w.grownBy w' (Value.slice A0 n0 c0).ownBlock →
      ((Value.slice A' (n0 + m) c').ownBlock = (Value.slice A0 n0 c0).ownBlock ∨ (Value.slice A' (n0 + m) c').ownBlock = some w.heap.size) → K (a.put o.dst (.slice A' (n0 + m) c')) w') : o.wp P a w K Q := by
  obtain ⟨A', c', w', hr, h2, h3, h4⟩ := run_append_bytes (P := P) w base t o.type e i ht hi hz hsize hby A0 n0 c0 l0 hown A m c l hr hb hbase
  unfold Oper.wp execOp
  simp only [ho, resolve, invoke, builtin, Sem.run_bind, Sem.run_pure, Result.andThen_ok, List.map_toArray, List.map_cons, List.map_nil, hs, hx, hr]
  exact h A' c' w' h2 h3 h4

theorem wpList_append_bytes {ops : Array Oper} {rest : List Oper} {o : Oper} {a : Act} {Q : Exit → Act → World → Prop} (hgd : o.guard = none) (s x : Operand) (t : TypeId)
    (ho : o.op = .call { callee := .builtin .append, args := #[s, x], argTypes := #[t, t] })
    (base : Nat) (e : TypeId) (i : TypeInfo) (ht : P.underlying t = some (.slice e)) (hi : P.info? e = some i) (hz : i.zero = some (.int .u8 0)) (hsize : i.size = 1) (hby : i.bytes = 1)
    (A0 : Option Addr) (n0 c0 : Nat) (l0 : List UInt8) (hs : a.eval s = .slice A0 n0 c0) (hown : w.ownsRow base e 1 (.slice A0 n0 c0) n0 (bc l0))
    (A : Option Addr) (m c : Nat) (l : List UInt8) (hx : a.eval x = .slice A m c) (hr : BS w A m l) (hb : n0 + m ≤ 4000000) (hbase : base ≤ w.heap.size)
    (h : ∀ A' c' w', w'.ownsRow base e 1 (.slice A' (n0 + m) c') (n0 + m) (bc (l0 ++ l)) → w.grownBy w' (Value.slice A0 n0 c0).ownBlock →
      ((Value.slice A' (n0 + m) c').ownBlock = (Value.slice A0 n0 c0).ownBlock ∨ (Value.slice A' (n0 + m) c').ownBlock = some w.heap.size) → wpList P ops Q rest (a.put o.dst (.slice A' (n0 + m) c')) w') : wpList P ops Q (o :: rest) a w :=
  wpList_plain hgd fun _ hK => wp_append_bytes w s x t ho base e i ht hi hz hsize hby A0 n0 c0 l0 hs hown A m c l hx hr hb hbase fun A' c' w' h2 h3 h4 => hK _ _ (h A' c' w' h2 h3 h4)
end

/-- How many bytes make n up to a multiple of four. -/
def pad (n : Nat) : Nat := (4 - n % 4) % 4
theorem pad_lt (n : Nat) : pad n < 4 := Nat.mod_lt _ (by omega)
end Go.Proofs.Ytjionpkflpnejaa
