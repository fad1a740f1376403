/-
  Plain words on memory and bytes for the proofs over layer 1 (xdr): what a call keeps, bytes as cells, a slice that reads as bytes. Nothing of the program is named here.
  Contracts of layer 1's Writer: what each call appends, and that it leaves all other memory alone.
  Contracts of layer 1's Writer, on: NewWriter, U32, U64, Bool, Opaque, Out; and of padding and bytes.Clone.
  Contracts of layer 1's Reader: NewReader, Err, Left, End, take, readNumber.
  Contracts of layer 1's Reader, on: Bool, Opaque, and the nil Reader.
  Contract of the document's example: it holds, and leaves all memory that was there alone.
  What the laws' walks are told of their arguments: slices of integers and bools that came in.
  What was put by a Writer is read by a Reader: plain facts on bytes.
  What was read by a Reader is what a Writer puts: plain facts on bytes.
  Slices of numbers that came in; many numbers put and read: plain facts.
  Entries, plain: which names and which entries may be, their bytes, and what bytes are of them (layer 8). Nothing of the program is named here.
-/
import Derived.WalkKit
import Derived.WalkSpells
import Derived.WalkLawsBesides
import Derived.Below
import Derived.Deep.AppendLies
import Derived.Deep.Draws
import Derived.Lib.Hide
import Derived.Test.YtjgmboleiaehaaaProg
import Derived.Deep.RegionHeld3
import Derived.Deep.RegionLaw
import Derived.Deep.LoopGhost
import Derived.Deep.DeepMust
import Derived.KernelRfl
import Derived.Deep.QuietTactic
import Derived.BigQuiet
import Derived.Laws.BitsAllLaws
import Derived.Lib.SlBytesConst
import Derived.Lib.SlBytesRow
namespace Go.Proofs.Ytjgmboleiaehaaa
open Go.RowKit

/-- The cells of bytes. -/
def bc (l : List UInt8) : List Value := l.map fun b => Value.int .u8 (b.toNat : Int)
theorem bc_length (l : List UInt8) : (bc l).length = l.length := by simp [bc]
theorem bc_append (a b : List UInt8) : bc (a ++ b) = bc a ++ bc b := by simp [bc]
theorem bc_one (l : List UInt8) : ∀ u ∈ bc l, u.oneCell' = true := by
  intro u hu
  simp only [bc, List.mem_map] at hu
  obtain ⟨b, _, rfl⟩ := hu
  rfl
theorem bc_get (l : List UInt8) (j : Nat) (hj : j < l.length) : (bc l)[j]? = some (.int .u8 (l[j].toNat : Int)) := by simp [bc, hj]

/-- The streams are as they were, no block has gone, and each block of K is as it was. -/
structure Keep (K : Nat → Prop) (w w' : World) : Prop where
  os : w'.os = w.os
  tape : w'.tape = w.tape
  output : w'.output = w.output
  size : w.heap.size ≤ w'.heap.size
  block : ∀ k, K k → w'.heap[k]? = w.heap[k]?

section
variable {K K' : Nat → Prop} {a b c w w' : World}
theorem Keep.refl (K : Nat → Prop) (w : World) : Keep K w w := ⟨rfl, rfl, rfl, Nat.le_refl _, fun _ _ => rfl⟩
theorem Keep.trans (h : Keep K a b) (k : Keep K b c) : Keep K a c :=
  ⟨k.os.trans h.os, k.tape.trans h.tape, k.output.trans h.output, Nat.le_trans h.size k.size, fun i hi => (k.block i hi).trans (h.block i hi)⟩
theorem Keep.mono (h : Keep K a b) (hK : ∀ k, K' k → K k) : Keep K' a b := ⟨h.os, h.tape, h.output, h.size, fun k hk => h.block k (hK k hk)⟩
theorem Keep.drew (h : Keep K a w) : Keep K a w.drew := ⟨h.os, h.tape, h.output, h.size, h.block⟩
theorem Keep.drewN (h : Keep K a w) (n : Nat) : Keep K a (w.drewN n) := ⟨h.os, h.tape, h.output, h.size, h.block⟩
theorem Keep.alloc (h : Keep K a w) (hK : ∀ k, K k → k < w.heap.size) (o : Obj) : Keep K a (w.alloc o) :=
  h.trans ⟨rfl, rfl, rfl, by simp, fun k hk => Below.heap_alloc w o k (hK k hk)⟩
theorem Keep.setCell (h : Keep K a w) {p : Addr} (hp : ¬ K p.block) (u : Value) : Keep K a (w.setCell p u) :=
  h.trans ⟨rfl, rfl, rfl, by simp [World.setCell], fun k hk => Below.heap_setCell w p u k (fun e => hp (e ▸ hk))⟩
theorem Keep.grown {row : Option Nat} (h : Keep K a w) (hg : w.grownBy w' row) (hK : ∀ k, K k → k < w.heap.size) (hr : ∀ k, row = some k → ¬ K k) : Keep K a w' :=
  h.trans ⟨hg.os, hg.tape, hg.output, hg.size, fun k hk => hg.block k (hK k hk) (fun e => hr k e.symm hk)⟩
theorem Keep.below {B : Nat} (h : Keep (· < B) w w') : Below B w w' := ⟨h.os, h.tape, h.output, h.size, h.block⟩
theorem Keep.of_below {B : Nat} (h : Below B w w') : Keep (· < B) w w' := ⟨h.os, h.tape, h.output, h.size, h.block⟩
theorem Keep.lt {B : Nat} (h : Keep K w w') (hK : ∀ k, K k → k < B) (hB : B ≤ w.heap.size) : ∀ k, K k → k < w'.heap.size :=
  fun k hk => Nat.lt_of_lt_of_le (hK k hk) (Nat.le_trans hB h.size)
end

/-- The slice (A, n, ..) reads as the bytes l. -/
def BS (w : World) (A : Option Addr) (n : Nat) (l : List UInt8) : Prop :=
  l.length = n ∧ (0 < n → ∃ b o, A = some ⟨b, o, none⟩ ∧ ∀ j (hj : j < l.length), w.cell? ⟨b, o + j, none⟩ = some (.int .u8 (l[j].toNat : Int)))

section
variable {K : Nat → Prop} {w w' : World} {A : Option Addr} {n : Nat} {l : List UInt8}
theorem BS.nil : BS w A 0 [] := ⟨rfl, fun h => absurd h (by omega)⟩
theorem BS.keep (h : BS w A n l) (hk : ∀ p : Addr, p.block < w.heap.size → w'.cell? p = w.cell? p) : BS w' A n l :=
  ⟨h.1, fun hn => by
    obtain ⟨b, o, e, hc⟩ := h.2 hn
    exact ⟨b, o, e, fun j hj => (hk ⟨b, o + j, none⟩ (World.block_lt_of_cell? w _ (hc j hj))).trans (hc j hj)⟩⟩
theorem BS.below (h : BS w A n l) (hb : Below w.heap.size w w') : BS w' A n l := h.keep fun _ hp => hb.cell hp
theorem BS.kept (h : BS w A n l) (hb : Keep (· < w.heap.size) w w') : BS w' A n l := h.below hb.below
theorem BS.alloc (h : BS w A n l) (o : Obj) : BS (w.alloc o) A n l := h.keep fun p hp => World.cell?_alloc_lt w o p hp
theorem BS.drew (h : BS w A n l) : BS w.drew A n l := h
theorem BS.drewN (h : BS w A n l) (k : Nat) : BS (w.drewN k) A n l := h
/-- Whatever is kept outside of one block that holds no byte is kept of a slice of bytes. -/
theorem BS.off {q : Nat} (h : BS w A n l) (hq : ∀ o z, w.cell? ⟨q, o, none⟩ ≠ some (.int .u8 z)) (hk : ∀ k, k < w.heap.size → k ≠ q → w'.heap[k]? = w.heap[k]?) : BS w' A n l :=
  ⟨h.1, fun hn => by
    obtain ⟨b, o, e, hc⟩ := h.2 hn
    refine ⟨b, o, e, fun j hj => ?_⟩
    have hbq : b ≠ q := by
      rintro rfl
      exact hq _ _ (hc j hj)
    rw [← hc j hj]
    exact World.cell?_of_block (hk b (World.block_lt_of_cell? w _ (hc j hj)) hbq)⟩
theorem BS.take (h : BS w A n l) {k : Nat} (hk : k ≤ n) : BS w A k (l.take k) :=
  ⟨by rw [List.length_take, h.1]; omega, fun hn => by
    obtain ⟨b, o, e, hc⟩ := h.2 (by omega)
    refine ⟨b, o, e, fun j hj => ?_⟩
    have hjl : j < l.length := by rw [List.length_take] at hj; omega
    rw [hc j hjl]
    simp⟩
theorem BS.drop (h : BS w A n l) {k c : Nat} (hk : k ≤ n) (hc : n ≤ c) : BS w (if c = k then A else A.map (·.add k)) (n - k) (l.drop k) :=
  ⟨by rw [List.length_drop, h.1], fun hn => by
    obtain ⟨b, o, rfl, hcell⟩ := h.2 (by omega)
    rw [if_neg (by omega)]
    refine ⟨b, o + k, ?_, fun j hj => ?_⟩
    · simp only [Option.map_some]
      unfold Addr.add
      split
      · simp_all
      · rfl
    · rw [List.length_drop] at hj
      rw [show o + k + j = o + (k + j) by omega, hcell (k + j) (by omega)]
      simp⟩
theorem BS.of_own {base : Nat} {e : TypeId} {c : Nat} (h : w.ownsRow base e 1 (.slice A n c) n (bc l)) : BS w A n l := by
  have hl : l.length = n := by have := h.1; rw [bc_length] at this; omega
  refine ⟨hl, fun hn => ?_⟩
  obtain ⟨g, cap, hv, _, hlt⟩ := h.form hn
  injection hv with hA _ _
  subst hA
  refine ⟨g, 0, rfl, fun j hj => ?_⟩
  have := h.cells (g := g) rfl j _ (bc_get l j hj)
  have hadd : (⟨g, 0, none⟩ : Addr).add j = ⟨g, 0 + j, none⟩ := by unfold Addr.add; split <;> simp_all
  rw [hadd] at this
  exact this
/-- The cells, as the laws on append ask for them. -/
theorem BS.news (h : BS w A n l) {ad : Addr} (hA : A = some ad) : ∀ j u, (bc l)[j]? = some u → w.cell? (ad.add j) = some u := by
  intro j u hu
  have hj : j < l.length := by
    have := (List.getElem?_eq_some_iff.1 hu).1
    rwa [bc_length] at this
  rw [bc_get l j hj] at hu
  injection hu with hu
  subst hu
  obtain ⟨b, o, e, hc⟩ := h.2 (by have := h.1; omega)
  rw [hA] at e
  injection e with e
  subst e
  have hadd : (⟨b, o, none⟩ : Addr).add j = ⟨b, o + j, none⟩ := by unfold Addr.add; split <;> simp_all
  rw [hadd]
  exact hc j hj
end

/-- n bytes of x, the most significant first. -/
def be : Nat → Nat → List UInt8
  | 0, _ => []
  | n + 1, x => UInt8.ofNat (x / 2 ^ (8 * n)) :: be n x
theorem be_length (n x : Nat) : (be n x).length = n := by induction n with | zero => rfl | succ n ih => simp [be, ih]
theorem be_get (n x : Nat) : ∀ i (h : i < (be n x).length), (be n x)[i] = UInt8.ofNat (x / 2 ^ (8 * (n - 1 - i))) := by
  induction n with
  | zero => intro i h; simp [be] at h
  | succ n ih =>
    intro i h
    match i with
    | 0 => simp [be]
    | i + 1 =>
      have := ih i (by simpa [be] using h)
      simp only [be, List.getElem_cons_succ]
      rw [this, show n + 1 - 1 - (i + 1) = n - 1 - i by omega]
theorem be_take_snoc (n x i : Nat) (h : i < n) : (be n x).take (i + 1) = (be n x).take i ++ [UInt8.ofNat (x / 2 ^ (8 * (n - 1 - i)))] := by
  rw [List.take_succ_eq_append_getElem (by rw [be_length]; exact h), be_get]

/-- The number of bytes, the most significant first. -/
def num (l : List UInt8) : Nat := l.foldl (fun a b => a * 256 + b.toNat) 0
theorem num_nil : num [] = 0 := rfl
theorem num_snoc (l : List UInt8) (b : UInt8) : num (l ++ [b]) = num l * 256 + b.toNat := by simp [num, List.foldl_append]
theorem num_lt (l : List UInt8) : num l < 256 ^ l.length := by
  suffices h : ∀ n (l : List UInt8), l.length = n → num l < 256 ^ n from h _ l rfl
  intro n
  induction n with
  | zero => intro l hl; rw [List.eq_nil_of_length_eq_zero hl]; simp [num]
  | succ n ih =>
    intro l hl
    have hne : l ≠ [] := by intro e; rw [e] at hl; simp at hl
    rw [← List.dropLast_concat_getLast hne, num_snoc]
    have := ih l.dropLast (by rw [List.length_dropLast, hl]; rfl)
    have hb := (l.getLast hne).toNat_lt
    rw [Nat.pow_succ]
    omega
theorem num_be (n x : Nat) : num (be n x) = x % 256 ^ n := by
  suffices h : ∀ i, i ≤ n → num ((be n x).take i) = x / 2 ^ (8 * (n - i)) % 256 ^ i by
    have := h n (Nat.le_refl _)
    rw [List.take_of_length_le (by rw [be_length]; exact Nat.le_refl _)] at this
    simpa using this
  intro i
  induction i with
  | zero => intro _; simp [num, Nat.mod_one]
  | succ i ih =>
    intro hi
    rw [be_take_snoc n x i (by omega), num_snoc, ih (by omega)]
    have e1 : 2 ^ (8 * (n - i)) = 2 ^ (8 * (n - (i + 1))) * 256 := by
      rw [show (256 : Nat) = 2 ^ 8 from rfl, ← Nat.pow_add]
      congr 1
      omega
    have e2 : n - 1 - i = n - (i + 1) := by omega
    rw [e1, ← Nat.div_div_eq_div_mul, e2]
    generalize x / 2 ^ (8 * (n - (i + 1))) = y
    have e3 : (UInt8.ofNat y).toNat = y % 256 := by simp
    rw [e3, Nat.pow_succ, Nat.mul_comm (256 ^ i) 256, Nat.mod_mul]
    omega

section
variable {P : Program} (w : World)
/-- append of bytes (of whatever slice, nil let in) onto a row of bytes of the call's own. -/
theorem run_append_bytes (base : Nat) (t ty e : TypeId) (i : TypeInfo) (ht : P.underlying t = some (.slice e)) (hi : P.info? e = some i) (hz : i.zero = some (.int .u8 0)) (hsize : i.size = 1) (hby : i.bytes = 1)
    (A0 : Option Addr) (n0 c0 : Nat) (l0 : List UInt8) (hown : w.ownsRow base e 1 (.slice A0 n0 c0) n0 (bc l0)) (A : Option Addr) (m c : Nat) (l : List UInt8) (hr : BS w A m l) (hb : n0 + m ≤ 4000000) (hbase : base ≤ w.heap.size) :
    ∃ A' c' w', (Builtin.append_ #[t, t] ty #[.slice A0 n0 c0, .slice A m c]).run P w = .ok (.slice A' (n0 + m) c') w' ∧ w'.ownsRow base e 1 (.slice A' (n0 + m) c') (n0 + m) (bc (l0 ++ l)) ∧
      w.grownBy w' (Value.slice A0 n0 c0).ownBlock ∧ ((Value.slice A' (n0 + m) c').ownBlock = (Value.slice A0 n0 c0).ownBlock ∨ (Value.slice A' (n0 + m) c').ownBlock = some w.heap.size) := by
  rcases A with _ | ad
  · have hm : m = 0 := by
      rcases Nat.eq_zero_or_pos m with h0 | h0
      · exact h0
      · obtain ⟨b, o, h, _⟩ := hr.2 h0
        cases h
    subst hm
    have hl : l = [] := List.eq_nil_of_length_eq_zero hr.1
    subst hl
    refine ⟨A0, c0, w, ?_, by simpa using hown, World.grownBy.refl w _, .inl rfl⟩
    rcases hown.2 with ⟨h1, h2⟩ | ⟨g, cap, cur, h1, _, _, hnc, _⟩
    · injection h1 with h1 h3 h4
      subst h1 h3 h4
      simp [Builtin.append_, run_underlying ht, sizeOf, typeInfo, hi, Builtin.lenOf, Builtin.firstCells]
    · injection h1 with h1 h3 h4
      subst h1 h4
      simp [Builtin.append_, run_underlying ht, sizeOf, typeInfo, hi, Builtin.lenOf, Builtin.firstCells, hnc, storeCells]
  · obtain ⟨v', w', hrun, h2, h3, _, h5⟩ := run_append_own_at (P := P) w base t ty e i (.int .u8 0) 1 1 ht hi hz hsize hby rfl (by omega) _ n0 _ hown ad m c (bc l) (by rw [bc_length, hr.1]; omega)
      (hr.news rfl) (bc_one l) (by unfold maxLen; omega) (by omega) hbase
    have hv : ∃ A' c', v' = .slice A' (n0 + m) c' := by
      rcases h2.2 with ⟨h6, h7⟩ | ⟨g, cap, cur, h6, _⟩
      · exact ⟨none, 0, by rw [h6, h7]⟩
      · exact ⟨_, _, h6⟩
    obtain ⟨A', c', rfl⟩ := hv
    exact ⟨A', c', w', hrun, by rw [bc_append]; exact h2, h3, h5⟩

theorem wp_append_bytes {o : Oper} {a : Act} {K : Act → World → Prop} {Q : Exit → Act → World → Prop} (s x : Operand) (t : TypeId)
    (ho : o.op = .call { callee := .builtin .append, args := #[s, x], argTypes := #[t, t] })
    (base : Nat) (e : TypeId) (i : TypeInfo) (ht : P.underlying t = some (.slice e)) (hi : P.info? e = some i) (hz : i.zero = some (.int .u8 0)) (hsize : i.size = 1) (hby : i.bytes = 1)
    (A0 : Option Addr) (n0 c0 : Nat) (l0 : List UInt8) (hs : a.eval s = .slice A0 n0 c0) (hown : w.ownsRow base e 1 (.slice A0 n0 c0) n0 (bc l0))
    (A : Option Addr) (m c : Nat) (l : List UInt8) (hx : a.eval x = .slice A m c) (hr : BS w A m l) (hb : n0 + m ≤ 4000000) (hbase : base ≤ w.heap.size)
    (h : ∀ A' c' w', w'.ownsRow base e 1 (.slice A' (n0 + m) c') (n0 + m) (bc (l0 ++ l)) → w.grownBy w' (Value.slice A0 n0 c0).ownBlock →
      ((Value.slice A' (n0 + m) c').ownBlock = (Value.slice A0 n0 c0).ownBlock ∨ (Value.slice A' (n0 + m) c').ownBlock = some w.heap.size) → K (a.put o.dst (.slice A' (n0 + m) c')) w') : o.wp P a w K Q := by
  obtain ⟨A', c', w', hr, h2, h3, h4⟩ := run_append_bytes (P := P) w base t o.type e i ht hi hz hsize hby A0 n0 c0 l0 hown A m c l hr hb hbase
  unfold Oper.wp execOp
  simp only [ho, resolve, invoke, builtin, Sem.run_bind, Sem.run_pure, Result.andThen_ok, List.map_toArray, List.map_cons, List.map_nil, hs, hx, hr]
  exact h A' c' w' h2 h3 h4

theorem wpList_append_bytes {ops : Array Oper} {rest : List Oper} {o : Oper} {a : Act} {Q : Exit → Act → World → Prop} (hgd : o.guard = none) (s x : Operand) (t : TypeId)
    (ho : o.op = .call { callee := .builtin .append, args := #[s, x], argTypes := #[t, t] })
    (base : Nat) (e : TypeId) (i : TypeInfo) (ht : P.underlying t = some (.slice e)) (hi : P.info? e = some i) (hz : i.zero = some (.int .u8 0)) (hsize : i.size = 1) (hby : i.bytes = 1)
    (A0 : Option Addr) (n0 c0 : Nat) (l0 : List UInt8) (hs : a.eval s = .slice A0 n0 c0) (hown : w.ownsRow base e 1 (.slice A0 n0 c0) n0 (bc l0))
    (A : Option Addr) (m c : Nat) (l : List UInt8) (hx : a.eval x = .slice A m c) (hr : BS w A m l) (hb : n0 + m ≤ 4000000) (hbase : base ≤ w.heap.size)
    (h : ∀ A' c' w', w'.ownsRow base e 1 (.slice A' (n0 + m) c') (n0 + m) (bc (l0 ++ l)) → w.grownBy w' (Value.slice A0 n0 c0).ownBlock →
      ((Value.slice A' (n0 + m) c').ownBlock = (Value.slice A0 n0 c0).ownBlock ∨ (Value.slice A' (n0 + m) c').ownBlock = some w.heap.size) → wpList P ops Q rest (a.put o.dst (.slice A' (n0 + m) c')) w') : wpList P ops Q (o :: rest) a w :=
  wpList_plain hgd fun _ hK => wp_append_bytes w s x t ho base e i ht hi hz hsize hby A0 n0 c0 l0 hs hown A m c l hx hr hb hbase fun A' c' w' h2 h3 h4 => hK _ _ (h A' c' w' h2 h3 h4)
end

/-- How many bytes make n up to a multiple of four. -/
def pad (n : Nat) : Nat := (4 - n % 4) % 4
theorem pad_lt (n : Nat) : pad n < 4 := Nat.mod_lt _ (by omega)
end Go.Proofs.Ytjgmboleiaehaaa

namespace Go.Proofs.Ytjgmboleiaehaaa
open Go.RowKit

theorem info_u8 : (Try.prog.info? 5).map (fun i => (i.zero, i.size, i.bytes)) = some (some (.int .u8 0), 1, 1) := by kernel_rfl

/-- What is known of a Writer in block p whose field is the slice (A, l.length, c). -/
def WrAt (K : Nat → Prop) (w : World) (p : Nat) (l : List UInt8) (A : Option Addr) (c : Nat) : Prop :=
  w.heap[p]? = some (.cells #[.slice A l.length c] 130 (0, 0)) ∧ w.ownsRow 0 5 1 (.slice A l.length c) l.length (bc l) ∧
    ¬ K p ∧ (∀ k, (Value.slice A l.length c).ownBlock = some k → ¬ K k) ∧ ∀ k, K k → k < w.heap.size
/-- A Writer in block p has written l; K: blocks that it leaves alone. -/
def Wr (K : Nat → Prop) (w : World) (p : Nat) (l : List UInt8) : Prop := ∃ A c, WrAt K w p l A c

section
variable {K : Nat → Prop} {w : World} {p : Nat} {l : List UInt8} {A : Option Addr} {c : Nat}
theorem WrAt.cell (h : WrAt K w p l A c) : w.cell? ⟨p, 0, none⟩ = some (.slice A l.length c) := cell_of_row w p 0 _ _ (0, 0) h.1
theorem WrAt.froz (h : WrAt K w p l A c) : w.frozen? ⟨p, 0, none⟩ = false := by simp [World.frozen?, h.1]
theorem WrAt.lt (h : WrAt K w p l A c) : p < w.heap.size := World.block_lt_of_cell? w _ h.cell
theorem WrAt.ne (h : WrAt K w p l A c) : (Value.slice A l.length c).ownBlock ≠ some p := by
  intro he
  rcases h.2.1.2 with ⟨h1, _⟩ | ⟨g', cap', cur', h1, _, h2, _⟩
  · rw [h1] at he; cases he
  · rw [h1] at he
    have : g' = p := by simpa [Value.ownBlock] using he
    subst this
    rw [h.1] at h2
    injection h2 with h2
    injection h2 with _ h2 _
    cases h2
theorem WrAt.alloc (h : WrAt K w p l A c) (o : Obj) : WrAt K (w.alloc o) p l A c :=
  ⟨(Below.heap_alloc w o p h.lt).trans h.1, h.2.1.alloc o, h.2.2.1, h.2.2.2.1, fun k hk => by have := h.2.2.2.2 k hk; simp; omega⟩
theorem WrAt.drew (h : WrAt K w p l A c) : WrAt K w.drew p l A c := h
theorem Wr.alloc (h : Wr K w p l) (o : Obj) : Wr K (w.alloc o) p l := by obtain ⟨A, c, h⟩ := h; exact ⟨A, c, h.alloc o⟩
theorem Wr.ks (h : Wr K w p l) : ∀ k, K k → k < w.heap.size := by obtain ⟨_, _, h⟩ := h; exact h.2.2.2.2
/-- A new block may be added to what is left alone. -/
theorem Wr.add (h : Wr K w p l) (o : Obj) : Wr (fun k => K k ∨ k = w.heap.size) (w.alloc o) p l := by
  obtain ⟨A, c, h⟩ := h
  refine ⟨A, c, (h.alloc o).1, (h.alloc o).2.1, ?_, fun k hk => ?_, ?_⟩
  · rintro (hk | hk)
    · exact h.2.2.1 hk
    · have := h.lt; omega
  · rintro (h1 | h1)
    · exact h.2.2.2.1 k hk h1
    · have := (h.2.1.lt k hk).2; omega
  · rintro k (hk | rfl)
    · exact (h.alloc o).2.2.2.2 k hk
    · simp
/-- What an append and the store of its value make of a Writer. -/
theorem WrAt.stepA (h : WrAt K w p l A c) {w1 : World} {A' : Option Addr} {cap n : Nat} {L : List UInt8} (hn : L.length = n) (ho : w1.ownsRow 0 5 1 (.slice A' n cap) n (bc L))
    (hg : w.grownBy w1 (Value.slice A l.length c).ownBlock) (hat : ∀ g, (Value.slice A' n cap).ownBlock = some g → (Value.slice A l.length c).ownBlock = some g ∨ w.heap.size ≤ g) :
    Wr K (w1.setCell ⟨p, 0, none⟩ (.slice A' n cap)) p L ∧ Keep K w (w1.setCell ⟨p, 0, none⟩ (.slice A' n cap)) := by
  subst hn
  have hne := h.ne
  have hb : w1.heap[p]? = some (.cells #[.slice A l.length c] 130 (0, 0)) := (hg.block p h.lt (fun e => hne e.symm)).trans h.1
  have hKg : ∀ g, (Value.slice A' L.length cap).ownBlock = some g → ¬ K g := by
    intro g hgo
    rcases hat g hgo with hat | hat
    · exact h.2.2.2.1 g hat
    · intro hk; have := h.2.2.2.2 g hk; omega
  have hkeep : Keep K w (w1.setCell ⟨p, 0, none⟩ (.slice A' L.length cap)) :=
    ((Keep.refl K w).grown hg h.2.2.2.2 h.2.2.2.1).setCell (p := ⟨p, 0, none⟩) h.2.2.1 _
  refine ⟨⟨A', cap, ?_, ⟨ho.1, ?_⟩, h.2.2.1, hKg, ?_⟩, hkeep⟩
  · simp [World.setCell, Array.getElem?_modify, hb]
  · rcases ho.2 with h1 | ⟨g', cap', cur', h1, hz, h2, hr⟩
    · exact .inl h1
    · refine .inr ⟨g', cap', cur', h1, hz, ?_, hr⟩
      have hgp : g' ≠ p := by
        rintro rfl
        rw [hb] at h2
        injection h2 with h2
        injection h2 with _ h2 _
        cases h2
      exact (Below.heap_setCell w1 ⟨p, 0, none⟩ _ g' hgp).trans h2
  · intro k hk
    exact Nat.lt_of_lt_of_le (h.2.2.2.2 k hk) hkeep.size
theorem WrAt.step (h : WrAt K w p l A c) {w1 : World} {gg cap n : Nat} {L : List UInt8} (hn : L.length = n) (ho : w1.ownsRow 0 5 1 (.slice (some ⟨gg, 0, none⟩) n cap) n (bc L))
    (hg : w.grownBy w1 (Value.slice A l.length c).ownBlock) (hat : (Value.slice A l.length c).ownBlock = some gg ∨ w.heap.size ≤ gg) :
    Wr K (w1.setCell ⟨p, 0, none⟩ (.slice (some ⟨gg, 0, none⟩) n cap)) p L ∧ Keep K w (w1.setCell ⟨p, 0, none⟩ (.slice (some ⟨gg, 0, none⟩) n cap)) :=
  h.stepA hn ho hg (fun g hgo => by
    have : gg = g := by simpa [Value.ownBlock] using hgo
    exact this ▸ hat)
end

/-- A byte of a number, as the walk writes it. -/
theorem wrap_u8_shr (x : Int) (hx : 0 ≤ x) (n : Nat) (d : Int) (hd : d.toNat = n) : IntKind.u8.wrap (x / 2 ^ d.toNat) = ((UInt8.ofNat (x.toNat / 2 ^ n)).toNat : Int) := by
  obtain ⟨y, rfl⟩ := Int.eq_ofNat_of_zero_le hx
  rw [hd, IntKind.wrap_u8]
  simp

set_option maxRecDepth 100000 in
set_option maxHeartbeats 1000000 in
theorem app32 (K : Nat → Prop) (w : World) (p : Nat) (l : List UInt8) (x : Int) (hx0 : 0 ≤ x) (h : Wr K w p l) (hl : l.length ≤ 1000000) :
    Calls Try.prog 57 #[.pointer (some ⟨p, 0, none⟩), .int .u32 x, .int .i64 4] w fun e w' =>
      e = .returned (.tuple #[]) ∧ Wr K w' p (l ++ be 4 x.toNat) ∧ Keep K w w' := by
  obtain ⟨i0, hi0, hz0, hz1, hz2⟩ := info_parts info_u8
  have H := Lib.hid h
  clear h
  go_enter Try.func57, Try.ntmps57
  go_wp2
  go_loopw [10] (fun i wr => ∃ k : Nat, k ≤ 4 ∧ i = .int .i64 k ∧ Hid (Wr K wr p (l ++ (be 4 x.toNat).take k)) ∧ Hid (Keep K w wr)) (fun i _ => 4 - (intOf i).toNat)
  case atStart => exact ⟨0, by omega, rfl, by simpa [Hid] using H.out, Keep.refl _ _⟩
  case round =>
    obtain ⟨k, hk, rfl, HW, HK⟩ := hrel
    by_cases hlt : k < 4
    · obtain ⟨A, c, hwr⟩ := HW.out
      clear HW
      have hcell := hwr.cell
      have hplt := hwr.lt
      have hne := Lib.hid hwr.ne
      have hfroz := Lib.hid hwr.froz
      have hm : (l ++ (be 4 x.toNat).take k).length ≤ 1000004 := by rw [List.length_append, List.length_take, be_length]; omega
      have HL : Hid ((l ++ (be 4 x.toNat).take (k + 1)).length = (l ++ (be 4 x.toNat).take k).length + 1) := by
        show _ = _
        rw [List.length_append, List.length_append, List.length_take, List.length_take, be_length]; omega
      have HE : Hid (l ++ (be 4 x.toNat).take (k + 1) = l ++ (be 4 x.toNat).take k ++ [UInt8.ofNat (x.toNat / 2 ^ (8 * (3 - k)))]) := by
        show _ = _
        rw [be_take_snoc 4 x.toNat k hlt, List.append_assoc]
      have HO := Lib.hid hwr.2.1
      have HW := Lib.hid hwr
      clear hwr
      generalize hL' : (l ++ (be 4 x.toNat).take (k + 1)) = L' at *
      have HL' := Lib.hid hL'
      clear hL'
      generalize (l ++ (be 4 x.toNat).take k) = L at *
      go_wp2
      have a1 : IntKind.i64.wrap 3 = 3 := by rw [IntKind.wrap_i64]; omega
      have a2 : IntKind.i64.wrap (3 - (k : Int)) = 3 - (k : Int) := by rw [IntKind.wrap_i64]; omega
      have a3 : IntKind.i64.wrap (8 * (3 - (k : Int))) = 8 * (3 - (k : Int)) := by rw [IntKind.wrap_i64]; omega
      have a4 : (0 : Int) ≤ 8 * (3 - (k : Int)) := by omega
      have a5 : 8 * (3 - (k : Int)) ≤ 32 := by omega
      have a6 : Hid (IntKind.u8.wrap (x / 2 ^ (8 * (3 - (k : Int))).toNat) = ((UInt8.ofNat (x.toNat / 2 ^ (8 * (3 - k)))).toNat : Int)) := wrap_u8_shr x hx0 _ _ (by omega)
      go_region_law
        ((refine step_append_lies _ (by rfl) _ _ _ (by rfl) 0 5 i0 _ 1 1 Try.underlying38 hi0 hz0 hz1 hz2 rfl (by omega) _ L.length _ (by rfl) ((HO.out.alloc _).drew)
            ⟨wr.heap.size, 0, none⟩ 1 1 [_] (by rfl) (by rfl) (World.news_of_block (cs := #[_]) (t := 5) (fr := (0, 0)) (heap_alloc_new wr _)) (by simp [Value.oneCell'])
            (by omega) (by unfold maxLen; omega) (by omega) (by simp) (wr.heap.size + 1) (by simp) ?_
          intro gg cap w1 hown1 hgrow hat hlt1
          have c1 : w1.cell? ⟨p, 0, none⟩ = some (.slice A L.length c) := (hgrow.cell_far ⟨p, 0, none⟩ (by simp; omega) (fun e => hne.out e.symm)).trans ((World.cell?_alloc_lt wr _ ⟨p, 0, none⟩ hplt).trans hcell)
          have f1 : w1.frozen? ⟨p, 0, none⟩ = false := (hgrow.frozen_far ⟨p, 0, none⟩ (by simp; omega) (fun e => hne.out e.symm)).trans ((World.frozen?_alloc_past _ _ _ hplt).trans hfroz.out)))
      all_goals
        have hs := ((HW.out.alloc _).drew).step (L := L') (n := L.length + 1) HL.out (by rw [a6.out] at hown1; rw [HE.out, bc_append]; exact hown1) hgrow (by rcases hat with hat | hat; exact .inl hat; exact .inr (by simp; omega))
        have HS := Lib.hid hs.1
        have HK2 := Lib.hid (HK.out.trans (((Keep.refl K wr).alloc HW.out.2.2.2.2 _).drew.trans hs.2))
        clear hs hat hgrow hown1 a1 a2 a3 a4 a5 a6
        go_wp2
        go_roundw
        case rel => exact ⟨k + 1, by omega, by go_num, (by rw [HL'.out]; exact HS), HK2⟩
        case measure => simp [intOf]; omega
    · go_wp2
      go_end0
      have : k = 4 := by omega
      subst this
      refine ⟨rfl, ?_, HK.out⟩
      have := HW.out
      rwa [List.take_of_length_le (by rw [be_length]; omega)] at this

set_option maxRecDepth 100000 in
set_option maxHeartbeats 1000000 in
theorem app64 (K : Nat → Prop) (w : World) (p : Nat) (l : List UInt8) (x : Int) (hx0 : 0 ≤ x) (h : Wr K w p l) (hl : l.length ≤ 1000000) :
    Calls Try.prog 58 #[.pointer (some ⟨p, 0, none⟩), .int .u64 x, .int .i64 8] w fun e w' =>
      e = .returned (.tuple #[]) ∧ Wr K w' p (l ++ be 8 x.toNat) ∧ Keep K w w' := by
  obtain ⟨i0, hi0, hz0, hz1, hz2⟩ := info_parts info_u8
  have H := Lib.hid h
  clear h
  go_enter Try.func58, Try.ntmps58
  go_wp2
  go_loopw [10] (fun i wr => ∃ k : Nat, k ≤ 8 ∧ i = .int .i64 k ∧ Hid (Wr K wr p (l ++ (be 8 x.toNat).take k)) ∧ Hid (Keep K w wr)) (fun i _ => 8 - (intOf i).toNat)
  case atStart => exact ⟨0, by omega, rfl, by simpa [Hid] using H.out, Keep.refl _ _⟩
  case round =>
    obtain ⟨k, hk, rfl, HW, HK⟩ := hrel
    by_cases hlt : k < 8
    · obtain ⟨A, c, hwr⟩ := HW.out
      clear HW
      have hcell := hwr.cell
      have hplt := hwr.lt
      have hne := Lib.hid hwr.ne
      have hfroz := Lib.hid hwr.froz
      have hm : (l ++ (be 8 x.toNat).take k).length ≤ 1000008 := by rw [List.length_append, List.length_take, be_length]; omega
      have HL : Hid ((l ++ (be 8 x.toNat).take (k + 1)).length = (l ++ (be 8 x.toNat).take k).length + 1) := by
        show _ = _
        rw [List.length_append, List.length_append, List.length_take, List.length_take, be_length]; omega
      have HE : Hid (l ++ (be 8 x.toNat).take (k + 1) = l ++ (be 8 x.toNat).take k ++ [UInt8.ofNat (x.toNat / 2 ^ (8 * (7 - k)))]) := by
        show _ = _
        rw [be_take_snoc 8 x.toNat k hlt, List.append_assoc]
      have HO := Lib.hid hwr.2.1
      have HW := Lib.hid hwr
      clear hwr
      generalize hL' : (l ++ (be 8 x.toNat).take (k + 1)) = L' at *
      have HL' := Lib.hid hL'
      clear hL'
      generalize (l ++ (be 8 x.toNat).take k) = L at *
      go_wp2
      have a1 : IntKind.i64.wrap 7 = 7 := by rw [IntKind.wrap_i64]; omega
      have a2 : IntKind.i64.wrap (7 - (k : Int)) = 7 - (k : Int) := by rw [IntKind.wrap_i64]; omega
      have a3 : IntKind.i64.wrap (8 * (7 - (k : Int))) = 8 * (7 - (k : Int)) := by rw [IntKind.wrap_i64]; omega
      have a4 : (0 : Int) ≤ 8 * (7 - (k : Int)) := by omega
      have a5 : 8 * (7 - (k : Int)) ≤ 64 := by omega
      have a6 : Hid (IntKind.u8.wrap (x / 2 ^ (8 * (7 - (k : Int))).toNat) = ((UInt8.ofNat (x.toNat / 2 ^ (8 * (7 - k)))).toNat : Int)) := wrap_u8_shr x hx0 _ _ (by omega)
      go_region_law
        ((refine step_append_lies _ (by rfl) _ _ _ (by rfl) 0 5 i0 _ 1 1 Try.underlying38 hi0 hz0 hz1 hz2 rfl (by omega) _ L.length _ (by rfl) ((HO.out.alloc _).drew)
            ⟨wr.heap.size, 0, none⟩ 1 1 [_] (by rfl) (by rfl) (World.news_of_block (cs := #[_]) (t := 5) (fr := (0, 0)) (heap_alloc_new wr _)) (by simp [Value.oneCell'])
            (by omega) (by unfold maxLen; omega) (by omega) (by simp) (wr.heap.size + 1) (by simp) ?_
          intro gg cap w1 hown1 hgrow hat hlt1
          have c1 : w1.cell? ⟨p, 0, none⟩ = some (.slice A L.length c) := (hgrow.cell_far ⟨p, 0, none⟩ (by simp; omega) (fun e => hne.out e.symm)).trans ((World.cell?_alloc_lt wr _ ⟨p, 0, none⟩ hplt).trans hcell)
          have f1 : w1.frozen? ⟨p, 0, none⟩ = false := (hgrow.frozen_far ⟨p, 0, none⟩ (by simp; omega) (fun e => hne.out e.symm)).trans ((World.frozen?_alloc_past _ _ _ hplt).trans hfroz.out)))
      all_goals
        have hs := ((HW.out.alloc _).drew).step (L := L') (n := L.length + 1) HL.out (by rw [a6.out] at hown1; rw [HE.out, bc_append]; exact hown1) hgrow (by rcases hat with hat | hat; exact .inl hat; exact .inr (by simp; omega))
        have HS := Lib.hid hs.1
        have HK2 := Lib.hid (HK.out.trans (((Keep.refl K wr).alloc HW.out.2.2.2.2 _).drew.trans hs.2))
        clear hs hat hgrow hown1 a1 a2 a3 a4 a5 a6
        go_wp2
        go_roundw
        case rel => exact ⟨k + 1, by omega, by go_num, (by rw [HL'.out]; exact HS), HK2⟩
        case measure => simp [intOf]; omega
    · go_wp2
      go_end0
      have : k = 8 := by omega
      subst this
      refine ⟨rfl, ?_, HK.out⟩
      have := HW.out
      rwa [List.take_of_length_le (by rw [be_length]; omega)] at this
end Go.Proofs.Ytjgmboleiaehaaa

namespace Go.Proofs.Ytjgmboleiaehaaa
open Go.RowKit

/-- A slice of bytes of the call's own, new behind w. -/
def Own (w w' : World) (A : Option Addr) (n c : Nat) (l : List UInt8) : Prop := w'.ownsRow w.heap.size 5 1 (.slice A n c) n (bc l) ∧ Below w.heap.size w w'
theorem Own.bs {w w' : World} {A : Option Addr} {n c : Nat} {l : List UInt8} (h : Own w w' A n c l) : BS w' A n l := BS.of_own h.1

theorem ret_int {k : IntKind} {a b : Int} (h : a = b) : Ending.returned (.int k a) = .returned (.int k b) := by rw [h]

set_option maxHeartbeats 400000 in
theorem clone_any (A : Option Addr) (n c : Nat) (l : List UInt8) (w : World) (h : BS w A n l) (hn : n ≤ 3000000) :
    Calls Try.prog 27 #[.slice A n c] w fun e w' => ∃ A' c', e = .returned (.slice A' n c') ∧ Own w w' A' n c' l := by
  obtain ⟨i0, hi0, hz0, hz1, hz2⟩ := info_parts info_u8
  have H := Lib.hid h
  clear h
  have hnil := fun W => Lib.run_eql_slice_nil (P := Try.prog) W 38 5 A n c 0 0 Try.underlying38
  rcases A with _ | ad
  · have hn0 : n = 0 := by
      rcases Nat.eq_zero_or_pos n with h0 | h0
      · exact h0
      · obtain ⟨b, o, h, _⟩ := H.out.2 h0
        cases h
    subst hn0
    have hl : l = [] := List.eq_nil_of_length_eq_zero H.out.1
    subst hl
    go_enter Try.func27, Try.ntmps27
    go_wp2
    go_ret
    exact ⟨none, 0, rfl, World.ownsRow_nil _ _ _ _, Below.refl _ _⟩
  · go_enter Try.func27, Try.ntmps27
    go_wp2_with
      ((at_builtin
        refine wpList_append_bytes _ rfl (.tmp 5) (.tmp 6) 38 rfl w.heap.size 5 i0 Try.underlying38 hi0 hz0 hz1 hz2 (some ⟨w.heap.size, 0, none⟩) 0 0 [] rfl (World.ownsRow_made w #[] 0 (Nat.le_refl _) (by unfold maxLen; omega) rfl)
          (some ad) n c l rfl (H.out.alloc _) (by omega) (by simp) ?_
        intro A' c' w1 hown hgrow hat))
    have HO : Hid (w1.ownsRow w.heap.size 5 1 (.slice A' n c') n (bc l)) := by simpa [Hid] using hown
    have HB : Hid (Below w.heap.size w w1) := ((Below.refl _ _).alloc (Nat.le_refl _) _).grown hgrow (by simp) (fun k hk => by simp [Value.ownBlock] at hk; omega)
    clear hown hgrow hat
    go_ret
    exact ⟨A', c', rfl, HO.out, HB.out⟩

theorem newWriter_any (w : World) : Calls Try.prog 42 #[] w fun e w' => e = .returned (.pointer (some ⟨w.heap.size, 0, none⟩)) ∧ w.alloc (.cells #[.slice none 0 0] 130) = w' := by
  go_enter Try.func42, Try.ntmps42
  go_wp2
  go_ret
  exact ⟨rfl, rfl⟩
theorem newWriter_wr (w : World) (K : Nat → Prop) (hK : ∀ k, K k → k < w.heap.size) : Wr K (w.alloc (.cells #[.slice none 0 0] 130)) w.heap.size [] :=
  ⟨none, 0, heap_alloc_new w _, World.ownsRow_nil _ _ _ _, fun h => by have := hK _ h; omega, fun k hk => by simp [Value.ownBlock] at hk, fun k hk => by have := hK k hk; simp; omega⟩

theorem u32w (K : Nat → Prop) (w : World) (p : Nat) (l : List UInt8) (x : Int) (hx0 : 0 ≤ x) (h : Wr K w p l) (hl : l.length ≤ 1000000) :
    Calls Try.prog 44 #[.pointer (some ⟨p, 0, none⟩), .int .u32 x] w fun e w' => e = .returned (.tuple #[]) ∧ Wr K w' p (l ++ be 4 x.toNat) ∧ Keep K w w' := by
  have H := Lib.hid h
  clear h
  go_enter Try.func44, Try.ntmps44
  go_wp2_with fail
  refine (app32 K w p l x hx0 H.out hl).mono ?_
  rintro e w' ⟨rfl, h1, h2⟩
  have H1 := Lib.hid h1
  have H2 := Lib.hid h2
  clear h1 h2
  go_wp2
  go_end0
  exact ⟨rfl, H1.out, H2.out⟩

theorem u64w (K : Nat → Prop) (w : World) (p : Nat) (l : List UInt8) (x : Int) (hx0 : 0 ≤ x) (h : Wr K w p l) (hl : l.length ≤ 1000000) :
    Calls Try.prog 46 #[.pointer (some ⟨p, 0, none⟩), .int .u64 x] w fun e w' => e = .returned (.tuple #[]) ∧ Wr K w' p (l ++ be 8 x.toNat) ∧ Keep K w w' := by
  have H := Lib.hid h
  clear h
  go_enter Try.func46, Try.ntmps46
  go_wp2_with fail
  refine (app64 K w p l x hx0 H.out hl).mono ?_
  rintro e w' ⟨rfl, h1, h2⟩
  have H1 := Lib.hid h1
  have H2 := Lib.hid h2
  clear h1 h2
  go_wp2
  go_end0
  exact ⟨rfl, H1.out, H2.out⟩

/-- A bool as a number. -/
def b01 (b : Bool) : Nat := if b then 1 else 0
theorem out_any (K : Nat → Prop) (w : World) (p : Nat) (l : List UInt8) (h : Wr K w p l) (hl : l.length ≤ 3000000) :
    Calls Try.prog 47 #[.pointer (some ⟨p, 0, none⟩)] w fun e w' => ∃ A c, e = .returned (.slice A l.length c) ∧ Own w w' A l.length c l := by
  obtain ⟨A, c, hwr⟩ := h
  have hcell := hwr.cell
  have H := Lib.hid (BS.of_own hwr.2.1)
  clear hwr
  go_enter Try.func47, Try.ntmps47
  go_wp2_with fail
  refine (clone_any A l.length c l w H.out hl).mono ?_
  rintro e w' ⟨A', c', rfl, h1⟩
  have H1 := Lib.hid h1
  clear h1
  go_wp2
  go_ret
  exact ⟨A', c', rfl, H1.out⟩

/-- What Opaque puts for bytes. -/
def opq (l : List UInt8) : List UInt8 := be 4 l.length ++ l ++ List.replicate (pad l.length) 0
theorem opq_length (l : List UInt8) : (opq l).length = 4 + l.length + pad l.length := by simp [opq, be_length]; omega

/-! The nil Writer. -/
theorem app32_nil (w : World) (x n : Int) : Calls Try.prog 57 #[.pointer none, .int .u32 x, .int .i64 n] w fun e w' => e = .returned (.tuple #[]) ∧ w = w' := by
  go_enter Try.func57, Try.ntmps57
  go_wp2
  refine bodyPost_ret (results_none rfl _ _ _) rfl ?_
  exact ⟨rfl, rfl⟩
theorem u32w_nil (w : World) (x : Int) : Calls Try.prog 44 #[.pointer none, .int .u32 x] w fun e w' => e = .returned (.tuple #[]) ∧ w = w' := by
  go_enter Try.func44, Try.ntmps44
  go_wp2_with fail
  refine (app32_nil w x 4).mono ?_
  rintro e w' ⟨rfl, rfl⟩
  go_wp2
  go_end0
  exact ⟨rfl, rfl⟩
theorem out_nil (w : World) : Calls Try.prog 47 #[.pointer none] w fun e w' => e = .returned (.slice none 0 0) ∧ w = w' := by
  go_enter Try.func47, Try.ntmps47
  go_wp2
  go_ret
  exact ⟨rfl, rfl⟩
end Go.Proofs.Ytjgmboleiaehaaa

namespace Go.Proofs.Ytjgmboleiaehaaa
open Go.RowKit

/-- The slice lies in a block of bytes. -/
def BT (w : World) (A : Option Addr) : Prop := ∀ ad, A = some ad → ∃ cs fr, w.heap[ad.block]? = some (.cells cs 5 fr)
theorem BT.lt {w : World} {A : Option Addr} (h : BT w A) (ad : Addr) (ha : A = some ad) : ad.block < w.heap.size := by
  obtain ⟨cs, fr, h1⟩ := h ad ha
  rcases Nat.lt_or_ge ad.block w.heap.size with hlt | hge
  · exact hlt
  · rw [Array.getElem?_eq_none hge] at h1; cases h1
theorem BT.keep {w w' : World} {A : Option Addr} (h : BT w A) (hb : ∀ ad, A = some ad → w'.heap[ad.block]? = w.heap[ad.block]?) : BT w' A := fun ad ha => by
  obtain ⟨cs, fr, h1⟩ := h ad ha
  exact ⟨cs, fr, (hb ad ha).trans h1⟩
theorem BT.ne {w : World} {A : Option Addr} (h : BT w A) {g : Nat} {cs : Array Value} {t : TypeId} {fr : Nat × Nat} (hg : w.heap[g]? = some (.cells cs t fr)) (ht : t ≠ 5) (ad : Addr) (ha : A = some ad) : ad.block ≠ g := by
  rintro rfl
  obtain ⟨cs', fr', h1⟩ := h ad ha
  rw [hg] at h1
  injection h1 with h1
  injection h1 with _ h1 _
  exact ht h1
theorem BT.of_own {w : World} {base : Nat} {A : Option Addr} {n c : Nat} {xs : List Value} (h : w.ownsRow base 5 1 (.slice A n c) n xs) : BT w A := fun ad ha => by
  rcases h.2 with ⟨h1, _⟩ | ⟨g, cap, cur, h1, _, h2, _⟩
  · injection h1 with h1; rw [h1] at ha; cases ha
  · injection h1 with h1
    rw [h1] at ha
    injection ha with ha
    subst ha
    exact ⟨cur, _, h2⟩
theorem BT.add {w : World} {A : Option Addr} (h : BT w A) (k : Nat) : BT w (A.map (·.add k)) := fun ad ha => by
  rcases A with _ | a
  · cases ha
  · simp only [Option.map_some, Option.some.injEq] at ha
    have he : ad.block = a.block := by rw [← ha]; unfold Addr.add; split <;> rfl
    rw [he]
    exact h a rfl
/-- A Reader in block q has l left, and the first error e. -/
def RdAt (w : World) (q : Nat) (l : List UInt8) (e : Int) (A : Option Addr) (c : Nat) : Prop :=
  w.heap[q]? = some (.cells #[.slice A l.length c, .int .i64 e] 134 (0, 0)) ∧ l.length ≤ c ∧ l.length ≤ 3000000 ∧ BS w A l.length l ∧ BT w A
def Rd (w : World) (q : Nat) (l : List UInt8) (e : Int) : Prop := ∃ A c, RdAt w q l e A c

section
variable {w w' : World} {q : Nat} {l : List UInt8} {e : Int} {A : Option Addr} {c : Nat}
theorem RdAt.cell0 (h : RdAt w q l e A c) : w.cell? ⟨q, 0, none⟩ = some (.slice A l.length c) := cell_of_row w q 0 _ _ (0, 0) h.1
theorem RdAt.cell1 (h : RdAt w q l e A c) : w.cell? ⟨q, 1, none⟩ = some (.int .i64 e) := cell_of_row w q 1 _ _ (0, 0) h.1
theorem RdAt.froz (h : RdAt w q l e A c) (o : Nat) : w.frozen? ⟨q, o, none⟩ = false := by simp [World.frozen?, h.1]
theorem RdAt.lt (h : RdAt w q l e A c) : q < w.heap.size := World.block_lt_of_cell? w _ h.cell0
theorem Rd.lt (h : Rd w q l e) : q < w.heap.size := by obtain ⟨_, _, h⟩ := h; exact h.lt
theorem Rd.len (h : Rd w q l e) : l.length ≤ 3000000 := by obtain ⟨_, _, h⟩ := h; exact h.2.2.1
theorem RdAt.noByte (h : RdAt w q l e A c) : ∀ o z, w.cell? ⟨q, o, none⟩ ≠ some (.int .u8 z) := by
  intro o z hz
  rw [cell_of_row w q o _ _ (0, 0) h.1] at hz
  match o, hz with
  | 0, hz => simp at hz
  | 1, hz => simp at hz
  | o + 2, hz => simp at hz
theorem RdAt.kept (h : RdAt w q l e A c) (hb : Below w.heap.size w w') : RdAt w' q l e A c := ⟨(hb.block q h.lt).trans h.1, h.2.1, h.2.2.1, h.2.2.2.1.below hb, h.2.2.2.2.keep fun ad ha => hb.block _ (h.2.2.2.2.lt ad ha)⟩
theorem Rd.kept (h : Rd w q l e) (hb : Below w.heap.size w w') : Rd w' q l e := by obtain ⟨A, c, h⟩ := h; exact ⟨A, c, h.kept hb⟩
/-- A change of one block that holds no bytes, and of new ones. -/
theorem Rd.off (h : Rd w q l e) {g : Nat} {cs : Array Value} {t : TypeId} {fr : Nat × Nat} (hg : w.heap[g]? = some (.cells cs t fr)) (ht : t ≠ 5) (hq : q ≠ g) (hk : ∀ k, k < w.heap.size → k ≠ g → w'.heap[k]? = w.heap[k]?) : Rd w' q l e := by
  obtain ⟨A, c, h1, h2, h3, h4, h5⟩ := h
  have hqs : q < w.heap.size := by
    rcases Nat.lt_or_ge q w.heap.size with hlt | hge
    · exact hlt
    · rw [Array.getElem?_eq_none hge] at h1; cases h1
  refine ⟨A, c, (hk q hqs hq).trans h1, h2, h3, ⟨h4.1, fun hn => ?_⟩, h5.keep fun ad ha => hk _ (h5.lt ad ha) (h5.ne hg ht ad ha)⟩
  obtain ⟨b, o, rfl, hc⟩ := h4.2 hn
  refine ⟨b, o, rfl, fun j hj => ?_⟩
  rw [← hc j hj]
  exact World.cell?_of_block (hk b (h5.lt _ rfl) (h5.ne hg ht _ rfl))
theorem off_setCell (w : World) (q o : Nat) (u : Value) : w.grownBy (w.setCell ⟨q, o, none⟩ u) (some q) :=
  ⟨rfl, rfl, rfl, by simp [World.setCell], fun k _ hk => Below.heap_setCell w ⟨q, o, none⟩ u k (fun e => hk (by rw [e]))⟩
/-- The error is set. -/
theorem RdAt.setErr (h : RdAt w q l e A c) (e' : Int) : RdAt (w.setCell ⟨q, 1, none⟩ (.int .i64 e')) q l e' A c :=
  ⟨by simp [World.setCell, Array.getElem?_modify, h.1], h.2.1, h.2.2.1, h.2.2.2.1.off h.noByte (fun k hk hne => (off_setCell w q 1 (.int .i64 e')).block k hk (fun e => hne (by injection e))),
    h.2.2.2.2.keep fun ad ha => (off_setCell w q 1 (.int .i64 e')).block _ (h.2.2.2.2.lt ad ha) (fun e => h.2.2.2.2.ne h.1 (by decide) ad ha (by injection e))⟩
/-- What is left is set. -/
theorem RdAt.setLeft (h : RdAt w q l e A c) {A' : Option Addr} {c' n : Nat} {l' : List UInt8} (hn : l'.length = n) (hc : n ≤ c') (hl : n ≤ 3000000) (hb : BS w A' n l') (ht : BT w A') : RdAt (w.setCell ⟨q, 0, none⟩ (.slice A' n c')) q l' e A' c' := by
  subst hn
  exact ⟨by simp [World.setCell, Array.getElem?_modify, h.1], hc, hl, hb.off h.noByte (fun k hk hne => (off_setCell w q 0 (.slice A' l'.length c')).block k hk (fun e => hne (by injection e))),
    ht.keep fun ad ha => (off_setCell w q 0 (.slice A' l'.length c')).block _ (ht.lt ad ha) (fun e => ht.ne h.1 (by decide) ad ha (by injection e))⟩
theorem RdAt.bsLeft (h : RdAt w q l e A c) {A' B : Option Addr} {c' n m : Nat} {l' : List UInt8} (hb : BS w B m l') : BS (w.setCell ⟨q, 0, none⟩ (.slice A' n c')) B m l' :=
  hb.off h.noByte (fun k hk hne => (off_setCell w q 0 (.slice A' n c')).block k hk (fun e => hne (by injection e)))
end

set_option maxHeartbeats 400000 in
theorem newReader_any (A : Option Addr) (n c : Nat) (l : List UInt8) (w : World) (h : BS w A n l) (hn : n ≤ 3000000) :
    Calls Try.prog 49 #[.slice A n c] w fun e w' => ∃ q, e = .returned (.pointer (some ⟨q, 0, none⟩)) ∧ Rd w' q l 0 ∧ Below w.heap.size w w' ∧ w.heap.size ≤ q := by
  have H := Lib.hid h
  clear h
  go_enter Try.func49, Try.ntmps49
  go_wp2_with fail
  refine (clone_any A n c l w H.out hn).mono ?_
  rintro e w1 ⟨A', c', rfl, h1⟩
  have HO := Lib.hid h1
  clear h1
  go_wp2
  go_ret
  obtain ⟨ho, hb⟩ := HO.out
  have hl : l.length = n := H.out.1
  have hc : n ≤ c' := by
    rcases ho.2 with ⟨h1, h2⟩ | ⟨g, cap, cur, h1, _, _, h2, _⟩
    · omega
    · injection h1 with _ _ h1; omega
  subst hl
  refine ⟨w1.heap.size, rfl, ⟨A', c', heap_alloc_new w1 _, hc, hn, (BS.of_own ho).alloc _, (BT.of_own ho).keep fun ad ha => Below.heap_alloc w1 _ _ ((BT.of_own ho).lt ad ha)⟩, hb.alloc hb.size _, hb.size⟩

theorem err_any (w : World) (q : Nat) (l : List UInt8) (e : Int) (h : Rd w q l e) :
    Calls Try.prog 61 #[.pointer (some ⟨q, 0, none⟩)] w fun en w' => en = .returned (.int .i64 e) ∧ w = w' := by
  obtain ⟨A, c, h⟩ := h
  have h1 := h.cell1
  clear h
  go_enter Try.func61, Try.ntmps61
  go_wp2
  go_ret
  exact ⟨rfl, rfl⟩
theorem left_any (w : World) (q : Nat) (l : List UInt8) (e : Int) (h : Rd w q l e) :
    Calls Try.prog 62 #[.pointer (some ⟨q, 0, none⟩)] w fun en w' => en = .returned (.int .i64 l.length) ∧ w = w' := by
  obtain ⟨A, c, h⟩ := h
  have h1 := h.cell0
  clear h
  go_enter Try.func62, Try.ntmps62
  go_wp2
  go_ret
  exact ⟨rfl, rfl⟩
theorem err_nil (w : World) : Calls Try.prog 61 #[.pointer none] w fun en w' => en = .returned (.int .i64 1) ∧ w = w' := by
  go_enter Try.func61, Try.ntmps61
  go_wp2
  go_ret
  exact ⟨rfl, rfl⟩
theorem left_nil (w : World) : Calls Try.prog 62 #[.pointer none] w fun en w' => en = .returned (.int .i64 0) ∧ w = w' := by
  go_enter Try.func62, Try.ntmps62
  go_wp2
  go_ret
  exact ⟨rfl, rfl⟩

/-- What End tells. -/
def endOf (l : List UInt8) (e : Int) : Int := if e = 0 ∧ 0 < l.length then 12 else e
set_option maxHeartbeats 400000 in
theorem end_any (w : World) (q : Nat) (l : List UInt8) (e : Int) (h : Rd w q l e) :
    Calls Try.prog 52 #[.pointer (some ⟨q, 0, none⟩)] w fun en w' => en = .returned (.int .i64 (endOf l e)) ∧ w = w' := by
  have H := Lib.hid h
  clear h
  by_cases he : e = 0
  · subst he
    by_cases hl : 0 < l.length
    · have Hf : Hid (endOf l 0 = 12) := if_pos ⟨rfl, hl⟩
      go_enter Try.func52, Try.ntmps52
      go_wp2_with fail
      refine (err_any w q l 0 H.out).mono ?_
      rintro e w' ⟨rfl, rfl⟩
      go_wp2_with fail
      refine (left_any w q l 0 H.out).mono ?_
      rintro e w' ⟨rfl, rfl⟩
      go_wp2_with fail
      go_ret
      exact ⟨ret_int Hf.out.symm, rfl⟩
    · have Hf : Hid (endOf l 0 = 0) := if_neg (fun h => hl h.2)
      go_enter Try.func52, Try.ntmps52
      go_wp2_with fail
      refine (err_any w q l 0 H.out).mono ?_
      rintro e w' ⟨rfl, rfl⟩
      go_wp2_with fail
      refine (left_any w q l 0 H.out).mono ?_
      rintro e w' ⟨rfl, rfl⟩
      go_wp2_with fail
      refine (err_any w q l 0 H.out).mono ?_
      rintro e w' ⟨rfl, rfl⟩
      go_wp2_with fail
      go_ret
      exact ⟨ret_int Hf.out.symm, rfl⟩
  · have Hf : Hid (endOf l e = e) := if_neg (fun h => he h.1)
    have he' : (e == 0) = false := by simp [he]
    clear he
    go_enter Try.func52, Try.ntmps52
    go_wp2_with fail
    refine (err_any w q l e H.out).mono ?_
    rintro en w' ⟨rfl, rfl⟩
    go_wp2_with fail
    refine (err_any w q l e H.out).mono ?_
    rintro en w' ⟨rfl, rfl⟩
    go_wp2_with fail
    go_ret
    exact ⟨ret_int Hf.out.symm, rfl⟩

set_option maxHeartbeats 400000 in
theorem take_any (w : World) (q : Nat) (l : List UInt8) (e : Int) (k : Nat) (h : Rd w q l e) (hk : k ≤ l.length) :
    Calls Try.prog 65 #[.pointer (some ⟨q, 0, none⟩), .int .i64 k] w fun en w' => ∃ A, en = .returned (.slice A k k) ∧ BS w' A k (l.take k) ∧ Rd w' q (l.drop k) e ∧ w.grownBy w' (some q) := by
  obtain ⟨A, c, h⟩ := h
  have h0 := h.cell0
  have hf := h.froz 0
  have hlc := h.2.1
  have hl3 := h.2.2.1
  have H := Lib.hid h
  clear h
  go_enter Try.func65, Try.ntmps65
  go_wp2
  · have hd := H.out.2.2.2.1.drop hk hlc
    rw [if_pos (by assumption)] at hd
    go_ret
    exact ⟨A, rfl, H.out.bsLeft (H.out.2.2.2.1.take hk), ⟨_, _, H.out.setLeft (by rw [List.length_drop]) (by omega) (by omega) hd H.out.2.2.2.2⟩, off_setCell _ _ _ _⟩
  · have hd := H.out.2.2.2.1.drop hk hlc
    rw [if_neg (by assumption)] at hd
    go_ret
    exact ⟨A, rfl, H.out.bsLeft (H.out.2.2.2.1.take hk), ⟨_, _, H.out.setLeft (by rw [List.length_drop]) (by omega) (by omega) hd (H.out.2.2.2.2.add _)⟩, off_setCell _ _ _ _⟩

/-- The state of a Reader: what is left, the first error. -/
abbrev St := List UInt8 × Int
/-- A number of n bytes is read. -/
def rdN (n : Nat) (s : St) : St × Nat := if s.2 ≠ 0 then (s, 0) else if s.1.length < n then ((s.1, 10), 0) else ((s.1.drop n, 0), num (s.1.take n))
theorem rdN_err (n : Nat) (l : List UInt8) (e : Int) (h : e ≠ 0) : rdN n (l, e) = ((l, e), 0) := if_pos h
theorem rdN_short (n : Nat) (l : List UInt8) (h : l.length < n) : rdN n (l, 0) = ((l, 10), 0) := by simp [rdN, h]
theorem rdN_ok (n : Nat) (l : List UInt8) (h : n ≤ l.length) : rdN n (l, 0) = ((l.drop n, 0), num (l.take n)) := by simp [rdN]; omega
/-- What a reading call leaves: its value, the Reader's new state, all else as it was. -/
def RdPost (w : World) (q : Nat) (v : Value) (s : St) (en : Ending) (w' : World) : Prop := en = .returned v ∧ Rd w' q s.1 s.2 ∧ w.grownBy w' (some q)

theorem mul_or (a b : Nat) (h : b < 256) : a * 256 ||| b = a * 256 + b := by
  have := Nat.two_pow_add_eq_or_of_lt (i := 8) (b := b) (by omega) a
  rw [Nat.mul_comm a 256]
  exact this.symm
theorem shl_or_u32 (a b : Nat) (h : a * 256 < 4294967296) (hb : b < 256) : bits .or .u32 ((a : Int) * 256 % 4294967296) ((b : Int) % 4294967296) = ((a * 256 + b : Nat) : Int) := by
  have e' : (b : Int) % 4294967296 = (b : Int) := by omega
  have e : (a : Int) * 256 % 4294967296 = ((a * 256 : Nat) : Int) := by omega
  rw [e, e', u32_or_nat (a * 256) b h (by omega), mul_or a b hb]
theorem shl_or_u64 (a b : Nat) (h : a * 256 < 18446744073709551616) (hb : b < 256) : bits .or .u64 (IntKind.u64.wrap ((a : Int) * 256)) (IntKind.u64.wrap (b : Int)) = ((a * 256 + b : Nat) : Int) := by
  have e : IntKind.u64.wrap ((a : Int) * 256) = ((a * 256 : Nat) : Int) := by rw [IntKind.wrap_u64]; omega
  have e' : IntKind.u64.wrap (b : Int) = (b : Int) := by rw [IntKind.wrap_u64]; omega
  rw [e, e', u64_or_nat (a * 256) b h (by omega), mul_or a b hb]
theorem num_take_snoc (t : List UInt8) (k : Nat) (h : k < t.length) : num (t.take (k + 1)) = num (t.take k) * 256 + t[k].toNat := by
  rw [List.take_succ_eq_append_getElem h, num_snoc]

set_option maxRecDepth 100000 in
set_option maxHeartbeats 1000000 in
theorem read32 (w : World) (q : Nat) (l : List UInt8) (e : Int) (h : Rd w q l e) :
    Calls Try.prog 59 #[.pointer (some ⟨q, 0, none⟩), .int .i64 4] w (RdPost w q (.int .u32 ((rdN 4 (l, e)).2 : Int)) (rdN 4 (l, e)).1) := by
  have H := Lib.hid h
  clear h
  by_cases he : e = 0
  · subst he
    by_cases hs : l.length < 4
    · rw [rdN_short 4 l hs]
      obtain ⟨A, c, h⟩ := H.out
      have h0 := h.cell0
      have h1 := h.cell1
      have hf := h.froz 1
      have HA := Lib.hid h
      clear h
      go_enter Try.func59, Try.ntmps59
      go_wp2_with fail
      refine (err_any w q l 0 H.out).mono ?_
      rintro en w' ⟨rfl, rfl⟩
      go_wp2_with fail
      go_ret
      exact ⟨rfl, ⟨_, _, HA.out.setErr 10⟩, off_setCell _ _ _ _⟩
    · rw [rdN_ok 4 l (by omega)]
      obtain ⟨A, c, h⟩ := H.out
      have h0 := h.cell0
      clear h
      go_enter Try.func59, Try.ntmps59
      go_wp2_with fail
      refine (err_any w q l 0 H.out).mono ?_
      rintro en w' ⟨rfl, rfl⟩
      go_wp2_with fail
      refine (take_any w q l 0 4 H.out (by omega)).mono ?_
      rintro en w1 ⟨A1, rfl, hbs, hrd, hg⟩
      have HB := Lib.hid hbs
      have HR := Lib.hid hrd
      have HG := Lib.hid hg
      clear hbs hrd hg
      obtain ⟨b, o, rfl, hcs⟩ := HB.out.2 (by omega)
      have ht4 : (l.take 4).length = 4 := HB.out.1
      have HR4 : Hid (Rd w1 q (l.drop 4) 0) := HR
      clear HB HR
      generalize hT : l.take 4 = t at *
      have HT := Lib.hid hT
      have Ht4 := Lib.hid ht4
      have Hcs := Lib.hid hcs
      clear ht4 hcs hT
      go_wp2_with fail
      go_loop [5, 25] (fun x i => ∃ k : Nat, k ≤ 4 ∧ i = .int .i64 k ∧ x = .int .u32 (num (t.take k) : Int)) (fun _ i => 4 - (intOf i).toNat)
      case atStart => exact ⟨0, by omega, rfl, rfl⟩
      case round =>
        obtain ⟨k, hk, rfl, rfl⟩ := hrel
        by_cases hlt : k < 4
        · have hkt : k < t.length := by rw [Ht4.out]; exact hlt
          have hc := Hcs.out k hkt
          have hx := num_lt (t.take k)
          have hkl : (t.take k).length ≤ 3 := by rw [List.length_take]; omega
          have hx3 : num (t.take k) * 256 < 4294967296 := by
            have := Nat.pow_le_pow_right (n := 256) (by omega) hkl
            omega
          have hz : t[k].toNat < 256 := (t[k]).toNat_lt
          have HN := Lib.hid (num_take_snoc t k hkt)
          have HX := Lib.hid (shl_or_u32 (num (t.take k)) t[k].toNat hx3 hz)
          clear hx hx3 hz hkl
          generalize hnx : num (t.take k) = x at *
          clear hnx
          go_wp2
          refine ⟨⟨k + 1, by omega, by go_num, ?_⟩, by simp [intOf]; omega⟩
          rw [HX.out, HN.out]
        · go_wp2
          go_ret
          have : k = 4 := by omega
          subst this
          refine ⟨?_, HR4.out, HG.out⟩
          rw [List.take_of_length_le (by rw [Ht4.out]; omega)]
          rfl
  · rw [rdN_err 4 l e he]
    have he' : (e != 0) = true := by simp [he]
    clear he
    go_enter Try.func59, Try.ntmps59
    go_wp2_with fail
    refine (err_any w q l e H.out).mono ?_
    rintro en w' ⟨rfl, rfl⟩
    go_wp2_with fail
    go_ret
    exact ⟨rfl, H.out, World.grownBy.refl _ _⟩
set_option maxRecDepth 100000 in
set_option maxHeartbeats 1000000 in
theorem read64 (w : World) (q : Nat) (l : List UInt8) (e : Int) (h : Rd w q l e) :
    Calls Try.prog 60 #[.pointer (some ⟨q, 0, none⟩), .int .i64 8] w (RdPost w q (.int .u64 ((rdN 8 (l, e)).2 : Int)) (rdN 8 (l, e)).1) := by
  have H := Lib.hid h
  clear h
  by_cases he : e = 0
  · subst he
    by_cases hs : l.length < 8
    · rw [rdN_short 8 l hs]
      obtain ⟨A, c, h⟩ := H.out
      have h0 := h.cell0
      have h1 := h.cell1
      have hf := h.froz 1
      have HA := Lib.hid h
      clear h
      go_enter Try.func60, Try.ntmps60
      go_wp2_with fail
      refine (err_any w q l 0 H.out).mono ?_
      rintro en w' ⟨rfl, rfl⟩
      go_wp2_with fail
      go_ret
      exact ⟨rfl, ⟨_, _, HA.out.setErr 10⟩, off_setCell _ _ _ _⟩
    · rw [rdN_ok 8 l (by omega)]
      obtain ⟨A, c, h⟩ := H.out
      have h0 := h.cell0
      clear h
      go_enter Try.func60, Try.ntmps60
      go_wp2_with fail
      refine (err_any w q l 0 H.out).mono ?_
      rintro en w' ⟨rfl, rfl⟩
      go_wp2_with fail
      refine (take_any w q l 0 8 H.out (by omega)).mono ?_
      rintro en w1 ⟨A1, rfl, hbs, hrd, hg⟩
      have HB := Lib.hid hbs
      have HR := Lib.hid hrd
      have HG := Lib.hid hg
      clear hbs hrd hg
      obtain ⟨b, o, rfl, hcs⟩ := HB.out.2 (by omega)
      have ht4 : (l.take 8).length = 8 := HB.out.1
      have HR4 : Hid (Rd w1 q (l.drop 8) 0) := HR
      clear HB HR
      generalize hT : l.take 8 = t at *
      have HT := Lib.hid hT
      have Ht4 := Lib.hid ht4
      have Hcs := Lib.hid hcs
      clear ht4 hcs hT
      go_wp2_with fail
      go_loop [5, 25] (fun x i => ∃ k : Nat, k ≤ 8 ∧ i = .int .i64 k ∧ x = .int .u64 (num (t.take k) : Int)) (fun _ i => 8 - (intOf i).toNat)
      case atStart => exact ⟨0, by omega, rfl, rfl⟩
      case round =>
        obtain ⟨k, hk, rfl, rfl⟩ := hrel
        by_cases hlt : k < 8
        · have hkt : k < t.length := by rw [Ht4.out]; exact hlt
          have hc := Hcs.out k hkt
          have hx := num_lt (t.take k)
          have hkl : (t.take k).length ≤ 7 := by rw [List.length_take]; omega
          have hx3 : num (t.take k) * 256 < 18446744073709551616 := by
            have := Nat.pow_le_pow_right (n := 256) (by omega) hkl
            omega
          have hz : t[k].toNat < 256 := (t[k]).toNat_lt
          have HN := Lib.hid (num_take_snoc t k hkt)
          have HX := Lib.hid (shl_or_u64 (num (t.take k)) t[k].toNat hx3 hz)
          clear hx hx3 hz hkl
          generalize hnx : num (t.take k) = x at *
          clear hnx
          go_wp2
          refine ⟨⟨k + 1, by omega, by go_num, ?_⟩, by simp [intOf]; omega⟩
          rw [HX.out, HN.out]
        · go_wp2
          go_ret
          have : k = 8 := by omega
          subst this
          refine ⟨?_, HR4.out, HG.out⟩
          rw [List.take_of_length_le (by rw [Ht4.out]; omega)]
          rfl
  · rw [rdN_err 8 l e he]
    have he' : (e != 0) = true := by simp [he]
    clear he
    go_enter Try.func60, Try.ntmps60
    go_wp2_with fail
    refine (err_any w q l e H.out).mono ?_
    rintro en w' ⟨rfl, rfl⟩
    go_wp2_with fail
    go_ret
    exact ⟨rfl, H.out, World.grownBy.refl _ _⟩

theorem u32r (w : World) (q : Nat) (l : List UInt8) (e : Int) (h : Rd w q l e) :
    Calls Try.prog 50 #[.pointer (some ⟨q, 0, none⟩)] w (RdPost w q (.int .u32 ((rdN 4 (l, e)).2 : Int)) (rdN 4 (l, e)).1) := by
  have H := Lib.hid h
  clear h
  generalize hr : rdN 4 (l, e) = r at *
  have HR := Lib.hid hr
  clear hr
  go_enter Try.func50, Try.ntmps50
  go_wp2_with fail
  refine (read32 w q l e H.out).mono ?_
  rintro en w' ⟨rfl, h1, h2⟩
  rw [HR.out] at h1 ⊢
  have H1 := Lib.hid h1
  have H2 := Lib.hid h2
  clear h1 h2
  go_wp2_with fail
  go_ret
  exact ⟨rfl, H1.out, H2.out⟩
theorem u64r (w : World) (q : Nat) (l : List UInt8) (e : Int) (h : Rd w q l e) :
    Calls Try.prog 51 #[.pointer (some ⟨q, 0, none⟩)] w (RdPost w q (.int .u64 ((rdN 8 (l, e)).2 : Int)) (rdN 8 (l, e)).1) := by
  have H := Lib.hid h
  clear h
  generalize hr : rdN 8 (l, e) = r at *
  have HR := Lib.hid hr
  clear hr
  go_enter Try.func51, Try.ntmps51
  go_wp2_with fail
  refine (read64 w q l e H.out).mono ?_
  rintro en w' ⟨rfl, h1, h2⟩
  rw [HR.out] at h1 ⊢
  have H1 := Lib.hid h1
  have H2 := Lib.hid h2
  clear h1 h2
  go_wp2_with fail
  go_ret
  exact ⟨rfl, H1.out, H2.out⟩
end Go.Proofs.Ytjgmboleiaehaaa

namespace Go.Proofs.Ytjgmboleiaehaaa
open Go.RowKit

/-- A bool is read. -/
def rdB (s : St) : St × Bool := if 1 < (rdN 4 s).2 then (((rdN 4 s).1.1, 11), false) else ((rdN 4 s).1, (rdN 4 s).2 == 1)

/-- An error other than 0 is told with the number 0. -/
theorem rdN_zero (n : Nat) (s : St) (h : (rdN n s).1.2 ≠ 0) : (rdN n s).2 = 0 := by
  unfold rdN at *
  split
  · rfl
  · rename_i h1
    rw [if_neg h1] at h
    split
    · rfl
    · rename_i h2
      rw [if_neg h2] at h
      exact absurd rfl h

/-- All bytes are 0. -/
def noughts (l : List UInt8) : Bool := l.all (· == 0)
/-- A byte string of at most 'most' bytes is read. -/
def rdO (most : Int) (s : St) : St × List UInt8 :=
  if (rdN 4 s).1.2 ≠ 0 then ((rdN 4 s).1, [])
  else if most < 0 ∨ most < ((rdN 4 s).2 : Int) then (((rdN 4 s).1.1, 13), [])
  else if (rdN 4 s).1.1.length < (rdN 4 s).2 + pad (rdN 4 s).2 then (((rdN 4 s).1.1, 10), [])
  else if noughts (((rdN 4 s).1.1.drop (rdN 4 s).2).take (pad (rdN 4 s).2)) then (((rdN 4 s).1.1.drop ((rdN 4 s).2 + pad (rdN 4 s).2), 0), (rdN 4 s).1.1.take (rdN 4 s).2)
  else (((rdN 4 s).1.1.drop ((rdN 4 s).2 + pad (rdN 4 s).2), 11), [])

/-- What Opaque leaves: its bytes in new memory, the Reader's new state, all else as it was. -/
def OpPost (w : World) (q : Nat) (b : List UInt8) (s : St) (en : Ending) (w' : World) : Prop :=
  ∃ A c, en = .returned (.slice A b.length c) ∧ BS w' A b.length b ∧ Rd w' q s.1 s.2 ∧ w.grownBy w' (some q) ∧ (∀ ad, A = some ad → w.heap.size ≤ ad.block ∧ ad.block ≠ q)

theorem RdAt.drewN {w : World} {q : Nat} {l : List UInt8} {e : Int} {A : Option Addr} {c : Nat} (h : RdAt w q l e A c) (n : Nat) : RdAt (w.drewN n) q l e A c := h
theorem only_drewN {a w : World} {row : Option Nat} (h : a.grownBy w row) (n : Nat) : a.grownBy (w.drewN n) row := ⟨h.os, h.tape, h.output, h.size, h.block⟩
theorem BS.rd {w w' : World} {A : Option Addr} {n q : Nat} {b l : List UInt8} {e : Int} (hb : BS w A n b) (h : Rd w q l e) (hg : w.grownBy w' (some q)) : BS w' A n b := by
  obtain ⟨A', c', h⟩ := h
  exact hb.off h.noByte (fun k hk hne => hg.block k hk (fun e => hne (by injection e)))

end Go.Proofs.Ytjgmboleiaehaaa

namespace Go.Proofs.Ytjgmboleiaehaaa
open Go.RowKit

theorem newWriter_op (w : World) : Calls Try.prog 42 #[] w fun e w' => ∃ p, e = .returned (.pointer (some ⟨p, 0, none⟩)) ∧ Wr (· < w.heap.size) w' p [] ∧ Below w.heap.size w w' :=
  (newWriter_any w).mono fun _ _ ⟨h1, h2⟩ => ⟨w.heap.size, h1, h2 ▸ newWriter_wr w _ (fun _ h => h), h2 ▸ (Below.refl _ _).alloc (Nat.le_refl _) _⟩

/-- A block of bytes that is known whole reads as bytes. -/
theorem BS.of_block {w : World} {g : Nat} {l : List UInt8} {t : TypeId} {fr : Nat × Nat} (h : w.heap[g]? = some (.cells (bc l).toArray t fr)) : BS w (some ⟨g, 0, none⟩) l.length l :=
  ⟨rfl, fun _ => ⟨g, 0, rfl, fun j hj => by
    rw [Nat.zero_add, cell_of_row w g j _ _ _ h]
    simp [bc_get l j hj]⟩⟩

/-- A text of bytes. -/
def txt (l : List UInt8) : ByteArray := ⟨l.toArray⟩
/-- string(b): the bytes as a text. -/
theorem run_convert_bs (w : World) (A : Option Addr) (n c : Nat) (l : List UInt8) (h : BS w A n l) : (convert 38 9 (.slice A n c)).run Try.prog w = .ok (.string (txt l)) w := by
  rcases A with _ | ad
  · have hn : n = 0 := by
      rcases Nat.eq_zero_or_pos n with h0 | h0
      · exact h0
      · obtain ⟨b, o, h, _⟩ := h.2 h0
        cases h
    subst hn
    have hl : l = [] := List.eq_nil_of_length_eq_zero h.1
    subst hl
    exact run_convert_bytes_nil w 38 5 Try.underlying38 Try.underlying5 0 c 9 Try.underlying9
  · have hl : (loadCells ad n).run Try.prog w = .ok ((l.map fun b => (b.toNat : Int)).map (Value.int .u8)).toArray w := by
      have := run_loadCells_list (P := Try.prog) w ad (bc l) (h.news rfl)
      rw [bc_length, h.1] at this
      rw [this, List.map_map]
      rfl
    rw [run_convert_bytes_string w 38 9 5 _ n c Try.underlying38 Try.underlying5 Try.underlying9, run_bytesToString w _ n c _ hl, foldl_push_byteCells]
    simp [txt, ByteArray.empty, ByteArray.emptyWithCapacity]
    rfl

/-- The example's bytes. -/
def L0 : List UInt8 := [0, 0, 0, 2, 97, 98, 0, 0, 0, 0, 0, 7, 0, 0, 0, 1]
theorem L0_eq : [] ++ opq [97, 98] ++ be 4 (Int.toNat 7) ++ be 4 (b01 true) = L0 := by decide +kernel
theorem L0_len : L0.length = 16 := rfl
def L1 : List UInt8 := [0, 0, 0, 7, 0, 0, 0, 1]
def L2 : List UInt8 := [0, 0, 0, 1]
theorem rd1 : rdO 2 (L0, 0) = ((L1, 0), [97, 98]) := by decide +kernel
theorem rd2 : rdN 4 (L1, 0) = ((L2, 0), 7) := by decide +kernel
theorem rd3 : rdB (L2, 0) = (([], 0), true) := by decide +kernel
theorem rd4 : endOf [] 0 = 0 := rfl

end Go.Proofs.Ytjgmboleiaehaaa

namespace Go.Proofs.Ytjgmboleiaehaaa
open Go.RowKit

/-- A slice of integers that came in: nil, or a row of cap cells, the numbers zs, the first len of them its elements, each fitting its kind. -/
def IsRow (k : IntKind) (w : World) (a : Option Addr) (len cap : Nat) (zs : List Int) : Prop :=
  (a = none ∧ len = 0 ∧ cap = 0 ∧ zs = []) ∨
  ∃ x, a = some x ∧ len ≤ cap ∧ cap ≤ maxLen ∧ zs.length = cap ∧ (∀ i, i < zs.length → w.cell? (x.add i) = some (.int k (zs.getD i 0))) ∧ ∀ n ∈ zs, (Lit.int k n).wf = true

theorem add_plain (b o j : Nat) : (⟨b, o, none⟩ : Addr).add j = ⟨b, o + j, none⟩ := by unfold Addr.add; split <;> simp_all

/-- The elements of such a slice lie in one row of plain cells. -/
theorem IsRow.cells {k : IntKind} {w : World} {a : Option Addr} {len cap : Nat} {zs : List Int} (h : IsRow k w a len cap zs) :
    len ≤ cap ∧ cap ≤ maxLen ∧ zs.length = cap ∧ (∀ n ∈ zs, (Lit.int k n).wf = true) ∧ (0 < len → ∃ b o, a = some ⟨b, o, none⟩ ∧ ∀ j, j < len → w.cell? ⟨b, o + j, none⟩ = some (.int k (zs.getD j 0))) := by
  rcases h with ⟨rfl, rfl, rfl, rfl⟩ | ⟨x, rfl, hl, hm, hz, hc, hw⟩
  · exact ⟨Nat.le_refl _, Nat.zero_le _, rfl, by simp, fun h => absurd h (by omega)⟩
  · refine ⟨hl, hm, hz, hw, fun hn => ?_⟩
    obtain ⟨b, o, sp⟩ := x
    have h0 := hc 0 (by omega)
    have hs : sp = none := by simpa [Addr.add] using World.cell?_spot h0
    subst hs
    refine ⟨b, o, rfl, fun j hj => ?_⟩
    have := hc j (by omega)
    rwa [add_plain] at this

theorem wf_u8 {n : Int} (h : (Lit.int .u8 n).wf = true) : 0 ≤ n ∧ n ≤ 255 := by
  simp [Lit.wf, IntKind.min, IntKind.max, IntKind.bits, IntKind.signed] at h
  omega

/-- A slice of bytes that came in reads as bytes. -/
theorem IsRow.bs {w : World} {a : Option Addr} {len cap : Nat} {zs : List Int} (h : IsRow .u8 w a len cap zs) : ∃ l, BS w a len l := by
  obtain ⟨hl, _, hz, hw, hc⟩ := h.cells
  refine ⟨(zs.take len).map fun z => UInt8.ofNat z.toNat, by simp; omega, fun hn => ?_⟩
  obtain ⟨b, o, rfl, hcell⟩ := hc hn
  refine ⟨b, o, rfl, fun j hj => ?_⟩
  have hj' : j < len := by simp at hj; omega
  rw [hcell j hj']
  have hjz : j < zs.length := by omega
  obtain ⟨h1, h2⟩ := wf_u8 (hw _ (List.getElem_mem hjz))
  simp [List.getD, List.getElem?_eq_getElem hjz]
  omega

/-- The elements of a slice that came in, in a later world. -/
theorem BS.at {w : World} {A : Option Addr} {n : Nat} {l : List UInt8} (h : BS w A n l) {k : Nat} (hk : k < n) :
    ∃ b o, A = some ⟨b, o, none⟩ ∧ ∃ hj : k < l.length, w.cell? ⟨b, o + k, none⟩ = some (.int .u8 (l[k].toNat : Int)) := by
  obtain ⟨b, o, e, hc⟩ := h.2 (by omega)
  have hj : k < l.length := by rw [h.1]; exact hk
  exact ⟨b, o, e, hj, hc k hj⟩
theorem BS.lt_block {w : World} {A : Option Addr} {n : Nat} {l : List UInt8} (h : BS w A n l) (hn : 0 < n) (ad : Addr) (ha : A = some ad) : ad.block < w.heap.size := by
  obtain ⟨b, o, e, hc⟩ := h.2 hn
  rw [ha] at e
  injection e with e
  subst e
  exact World.block_lt_of_cell? w _ (hc 0 (by rw [h.1]; exact hn))

/-! The spec's small facts. -/
theorem rdB_err (l : List UInt8) (e : Int) (h : e ≠ 0) : rdB (l, e) = ((l, e), false) := by simp [rdB, rdN_err 4 l e h]
theorem rdO_err (m : Int) (l : List UInt8) (e : Int) (h : e ≠ 0) : rdO m (l, e) = ((l, e), []) := by simp [rdO, rdN_err 4 l e h, h]
theorem rdN_len (n : Nat) (s : St) : (rdN n s).1.1.length ≤ s.1.length := by
  unfold rdN
  split
  · exact Nat.le_refl _
  · split
    · exact Nat.le_refl _
    · simp
theorem rdB_len (s : St) : (rdB s).1.1.length ≤ s.1.length := by
  unfold rdB
  split
  · exact rdN_len 4 s
  · exact rdN_len 4 s
theorem rdO_len (m : Int) (s : St) : (rdO m s).1.1.length ≤ s.1.length := by
  have := rdN_len 4 s
  unfold rdO
  split
  · exact this
  · split
    · exact this
    · split
      · exact this
      · split
        · simp only [List.length_drop]; omega
        · simp only [List.length_drop]; omega
theorem and3 (c : UInt8) (d : Nat) (h : c.toNat % 4 = d) : bits .and .u8 (c.toNat : Int) 3 = (d : Int) := by
  have h1 := u8_and_nat c.toNat 3 c.toNat_lt (by omega)
  have h2 : c.toNat &&& 3 = c.toNat % 4 := Nat.and_two_pow_sub_one_eq_mod c.toNat 2
  rw [h2, h] at h1
  exact h1
end Go.Proofs.Ytjgmboleiaehaaa

namespace Go.Proofs.Ytjgmboleiaehaaa
open Go.RowKit

theorem num_be4 (n : Nat) (h : n < 4294967296) : num (be 4 n) = n := by rw [num_be]; exact Nat.mod_eq_of_lt h
theorem rdN_be (k n : Nat) (t : List UInt8) (h : n < 256 ^ k) : rdN k (be k n ++ t, 0) = ((t, 0), n) := by
  have hl := be_length k n
  rw [rdN_ok k _ (by rw [List.length_append, hl]; omega), List.drop_append_of_le_length (by omega), List.drop_of_length_le (by omega), List.take_append_of_le_length (by omega), List.take_of_length_le (by omega), num_be, Nat.mod_eq_of_lt h]
  rfl
theorem noughts_replicate (n : Nat) : noughts (List.replicate n 0) = true := by
  unfold noughts
  rw [List.all_eq_true]
  intro x hx
  rw [List.eq_of_mem_replicate hx]
  rfl
/-- What was put by Opaque is read. -/
theorem rdO_opq (m : Int) (b t : List UInt8) (hb : b.length < 4294967296) (h : (b.length : Int) ≤ m) : rdO m (opq b ++ t, 0) = ((t, 0), b) := by
  have e : rdN 4 (opq b ++ t, 0) = ((b ++ List.replicate (pad b.length) 0 ++ t, 0), b.length) := by
    unfold opq
    rw [List.append_assoc, List.append_assoc]
    rw [rdN_be 4 b.length _ (by simpa using hb)]
    simp
  unfold rdO
  rw [e]
  simp only [ne_eq, not_true_eq_false, if_false]
  rw [if_neg (by omega), if_neg (by simp), List.append_assoc, List.drop_append_of_le_length (Nat.le_refl _), List.drop_of_length_le (Nat.le_refl _), List.nil_append,
    List.take_append_of_le_length (by simp), List.take_of_length_le (by simp), noughts_replicate, if_pos rfl, ← List.append_assoc]
  rw [List.take_append_of_le_length (by simp), List.take_append_of_le_length (Nat.le_refl _), List.take_of_length_le (Nat.le_refl _)]
  rw [List.drop_append_of_le_length (by simp), List.drop_of_length_le (by simp), List.nil_append]
theorem rdO_big (m : Int) (b t : List UInt8) (hb : b.length < 4294967296) (h : m < (b.length : Int)) : ∃ l, rdO m (opq b ++ t, 0) = ((l, 13), []) := by
  have e : rdN 4 (opq b ++ t, 0) = ((b ++ List.replicate (pad b.length) 0 ++ t, 0), b.length) := by
    unfold opq
    rw [List.append_assoc, List.append_assoc]
    rw [rdN_be 4 b.length _ (by simpa using hb)]
    simp
  unfold rdO
  rw [e]
  simp only [ne_eq, not_true_eq_false, if_false]
  rw [if_pos (by omega)]
  exact ⟨_, rfl⟩
end Go.Proofs.Ytjgmboleiaehaaa

namespace Go.Proofs.Ytjgmboleiaehaaa
open Go.RowKit

theorem be_snoc (n x : Nat) : be (n + 1) x = be n (x / 256) ++ [UInt8.ofNat x] := by
  induction n with
  | zero => simp [be]
  | succ n ih =>
    have e : x / 2 ^ (8 * (n + 1)) = x / 256 / 2 ^ (8 * n) := by
      rw [Nat.div_div_eq_div_mul, show (256 : Nat) = 2 ^ 8 from rfl, ← Nat.pow_add]
      congr 2
      omega
    show UInt8.ofNat (x / 2 ^ (8 * (n + 1))) :: be (n + 1) x = (UInt8.ofNat (x / 256 / 2 ^ (8 * n)) :: be n (x / 256)) ++ [UInt8.ofNat x]
    rw [ih, e]
    rfl
theorem be_num (l : List UInt8) : be l.length (num l) = l := by
  suffices h : ∀ n (l : List UInt8), l.length = n → be n (num l) = l from h _ l rfl
  intro n
  induction n with
  | zero => intro l hl; rw [List.eq_nil_of_length_eq_zero hl]; rfl
  | succ n ih =>
    intro l hl
    have hne : l ≠ [] := by intro e; rw [e] at hl; simp at hl
    have hd := List.dropLast_concat_getLast hne
    have h1 := ih l.dropLast (by rw [List.length_dropLast, hl]; rfl)
    generalize l.dropLast = t at *
    generalize l.getLast hne = b at *
    subst hd
    have hb : b.toNat < 256 := b.toNat_lt
    rw [num_snoc, be_snoc, show (num t * 256 + b.toNat) / 256 = num t by omega, h1]
    congr 2
    apply UInt8.toNat_inj.1
    simp
theorem noughts_eq (l : List UInt8) (h : noughts l = true) : l = List.replicate l.length 0 := by
  rw [List.eq_replicate_iff]
  refine ⟨rfl, fun b hb => ?_⟩
  unfold noughts at h
  rw [List.all_eq_true] at h
  simpa using h b hb
/-- An error is told with no bytes. -/
theorem rdO_nil (m : Int) (s : St) (h : (rdO m s).1.2 ≠ 0) : (rdO m s).2 = [] := by
  unfold rdO at *
  split
  · rfl
  · rename_i h1
    rw [if_neg h1] at h
    split
    · rfl
    · rename_i h2
      rw [if_neg h2] at h
      split
      · rfl
      · rename_i h3
        rw [if_neg h3] at h
        split
        · rename_i h4
          rw [if_pos h4] at h
          exact absurd rfl h
        · rfl
/-- What Opaque reads is just what is put for it. -/
theorem rdO_one (m : Int) (b : List UInt8) (h : (rdO m (b, 0)).1.2 = 0) : b = opq (rdO m (b, 0)).2 ++ (rdO m (b, 0)).1.1 := by
  by_cases hs : b.length < 4
  · exfalso
    unfold rdO at h
    rw [rdN_short 4 b hs] at h
    simp at h
  · have e := rdN_ok 4 b (by omega)
    have hb4 : be 4 (num (b.take 4)) = b.take 4 := by
      have := be_num (b.take 4)
      rwa [List.length_take, Nat.min_eq_left (by omega)] at this
    have hbb : b = b.take 4 ++ b.drop 4 := (List.take_append_drop 4 b).symm
    unfold rdO at h ⊢
    rw [e] at h ⊢
    simp only [ne_eq, not_true_eq_false, if_false] at h ⊢
    generalize num (b.take 4) = x at *
    generalize b.drop 4 = t at *
    generalize b.take 4 = u at *
    subst hbb
    split
    · rename_i h1
      rw [if_pos h1] at h
      simp at h
    · rename_i h1
      rw [if_neg h1] at h
      split
      · rename_i h2
        rw [if_pos h2] at h
        simp at h
      · rename_i h2
        rw [if_neg h2] at h
        split
        · rename_i h3
          have hx : (t.take x).length = x := by rw [List.length_take]; omega
          have hp : ((t.drop x).take (pad x)).length = pad x := by rw [List.length_take, List.length_drop]; omega
          have hz := noughts_eq _ h3
          rw [hp] at hz
          simp only
          unfold opq
          rw [hx, hb4, ← hz, List.append_assoc, List.append_assoc]
          congr 1
          rw [← List.drop_drop, List.take_append_drop, List.take_append_drop]
        · rename_i h3
          rw [if_neg h3] at h
          simp at h
end Go.Proofs.Ytjgmboleiaehaaa

namespace Go.Proofs.Ytjgmboleiaehaaa
open Go.RowKit

/-- A slice of numbers (of kind k) reads as xs. -/
def NS (k : IntKind) (w : World) (A : Option Addr) (n : Nat) (xs : List Nat) : Prop :=
  xs.length = n ∧ (0 < n → ∃ b o, A = some ⟨b, o, none⟩ ∧ ∀ j (hj : j < xs.length), w.cell? ⟨b, o + j, none⟩ = some (.int k (xs[j] : Int)))
theorem NS.below {k : IntKind} {w w' : World} {A : Option Addr} {n : Nat} {xs : List Nat} (h : NS k w A n xs) (hb : Below w.heap.size w w') : NS k w' A n xs :=
  ⟨h.1, fun hn => by
    obtain ⟨b, o, e, hc⟩ := h.2 hn
    exact ⟨b, o, e, fun j hj => (hb.cell (p := ⟨b, o + j, none⟩) (World.block_lt_of_cell? w _ (hc j hj))).trans (hc j hj)⟩⟩
theorem NS.at {k : IntKind} {w : World} {A : Option Addr} {n : Nat} {xs : List Nat} (h : NS k w A n xs) {i : Nat} (hi : i < n) :
    ∃ b o, A = some ⟨b, o, none⟩ ∧ ∃ hj : i < xs.length, w.cell? ⟨b, o + i, none⟩ = some (.int k (xs[i] : Int)) := by
  obtain ⟨b, o, e, hc⟩ := h.2 (by omega)
  have hj : i < xs.length := by rw [h.1]; exact hi
  exact ⟨b, o, e, hj, hc i hj⟩
/-- A slice of numbers none of which is below 0. -/
theorem IsRow.ns {k : IntKind} {w : World} {a : Option Addr} {len cap : Nat} {zs : List Int} (h : IsRow k w a len cap zs) (B : Nat) (hk : ∀ z, (Lit.int k z).wf = true → 0 ≤ z ∧ z < (B : Int)) : ∃ xs, NS k w a len xs ∧ ∀ x ∈ xs, x < B := by
  obtain ⟨hl, _, hz, hw, hc⟩ := h.cells
  refine ⟨(zs.take len).map fun z => z.toNat, ⟨by simp; omega, fun hn => ?_⟩, fun x hx => ?_⟩
  · obtain ⟨b, o, rfl, hcell⟩ := hc hn
    refine ⟨b, o, rfl, fun j hj => ?_⟩
    have hj' : j < len := by simp at hj; omega
    rw [hcell j hj']
    have hjz : j < zs.length := by omega
    obtain ⟨h1, _⟩ := hk _ (hw _ (List.getElem_mem hjz))
    simp [List.getD, List.getElem?_eq_getElem hjz]
    omega
  · simp only [List.mem_map] at hx
    obtain ⟨z, hz1, rfl⟩ := hx
    obtain ⟨h1, h2⟩ := hk _ (hw _ (List.mem_of_mem_take hz1))
    omega

/-- Numbers of n bytes each, one behind the other. -/
def enc (n : Nat) (xs : List Nat) : List UInt8 := xs.flatMap (be n)
theorem enc_length (n : Nat) (xs : List Nat) : (enc n xs).length = n * xs.length := by
  induction xs with
  | nil => rfl
  | cons x xs ih =>
    unfold enc at *
    rw [List.flatMap_cons, List.length_append, be_length, ih, List.length_cons, Nat.mul_succ]
    omega
theorem enc_snoc (n : Nat) (xs : List Nat) (k : Nat) (h : k < xs.length) : enc n (xs.take (k + 1)) = enc n (xs.take k) ++ be n xs[k] := by
  unfold enc
  rw [List.take_succ_eq_append_getElem h, List.flatMap_append]
  simp
theorem enc_drop (n : Nat) (xs : List Nat) (k : Nat) : (enc n xs).drop (n * k) = enc n (xs.drop k) := by
  induction k generalizing xs with
  | zero => simp
  | succ k ih =>
    cases xs with
    | nil => simp [enc]
    | cons x xs =>
      have e : enc n (x :: xs) = be n x ++ enc n xs := by unfold enc; rw [List.flatMap_cons]
      rw [e, Nat.mul_succ, Nat.add_comm, ← List.drop_drop, List.drop_append_of_le_length (by rw [be_length]; exact Nat.le_refl _), List.drop_of_length_le (l := be n x) (by rw [be_length]; exact Nat.le_refl _), List.nil_append, ih, List.drop_succ_cons]
/-- The i-th number of what was put, cut at k, is read, if it is whole. -/
theorem rdN_enc (n : Nat) (xs : List Nat) (t : List UInt8) (i k : Nat) (hi : i < xs.length) (hk : n * i + n ≤ k) (hx : xs[i] < 256 ^ n) :
    rdN n (((enc n xs ++ t).take k).drop (n * i), 0) = ((((enc n xs ++ t).take k).drop (n * (i + 1)), 0), xs[i]) := by
  have hlen : (enc n xs).length = n * xs.length := enc_length n xs
  have hil : n * (i + 1) ≤ n * xs.length := Nat.mul_le_mul_left n hi
  have e : ((enc n xs ++ t).take k).drop (n * i) = be n xs[i] ++ ((enc n xs ++ t).take k).drop (n * (i + 1)) := by
    have e1 : (enc n xs).drop (n * i) = be n xs[i] ++ (enc n xs).drop (n * (i + 1)) := by
      rw [enc_drop, enc_drop, List.drop_eq_getElem_cons hi]
      unfold enc
      rw [List.flatMap_cons]
    rw [Nat.mul_succ] at hil
    rw [List.drop_take, List.drop_take, List.drop_append_of_le_length (by rw [hlen]; omega), List.drop_append_of_le_length (by rw [hlen, Nat.mul_succ]; omega), e1, List.append_assoc, List.take_append, be_length,
      List.take_of_length_le (by rw [be_length]; omega)]
    congr 2
    rw [Nat.mul_succ]
    omega
  rw [e, rdN_be n xs[i] _ hx]
/-- A byte string that was put, cut anywhere, ends too early. -/
theorem rdO_cut (m : Int) (b : List UInt8) (j : Nat) (hj : j < (opq b).length) (hb : b.length < 4294967296) (hm : (b.length : Int) ≤ m) : ∃ l, rdO m ((opq b).take j, 0) = ((l, 10), []) := by
  have hol := opq_length b
  by_cases h4 : j < 4
  · have e := rdN_short 4 ((opq b).take j) (by rw [List.length_take]; omega)
    unfold rdO
    rw [e]
    simp
  · have e0 : (opq b).take j = be 4 b.length ++ (b ++ List.replicate (pad b.length) 0).take (j - 4) := by
      unfold opq
      rw [List.append_assoc, List.take_append, be_length, List.take_of_length_le (by rw [be_length]; omega)]
    have e : rdN 4 ((opq b).take j, 0) = (((b ++ List.replicate (pad b.length) 0).take (j - 4), 0), b.length) := by
      rw [e0, rdN_be 4 b.length _ (by simpa using hb)]
    unfold rdO
    rw [e]
    simp only [ne_eq, not_true_eq_false, if_false]
    rw [if_neg (by omega), if_pos (by rw [List.length_take, List.length_append, List.length_replicate]; omega)]
    exact ⟨_, rfl⟩
theorem Own.cap {w w' : World} {A : Option Addr} {n c : Nat} {l : List UInt8} (h : Own w w' A n c l) : n ≤ c := by
  rcases h.1.2 with ⟨h1, h0⟩ | ⟨g, cap, cur, h1, h2, h3, h4, _⟩
  · omega
  · injection h1 with h1 _ h5
    omega
end Go.Proofs.Ytjgmboleiaehaaa

namespace Go.Proofs.Ytjgmboleiaehaaa

/-- An entry. -/
structure En where
  (ck ino gen : Nat)
  nm : List UInt8
  deriving DecidableEq, Inhabited

namespace En
/-- All numbers go into their fields. -/
structure Wide (x : En) : Prop where
  c : x.ck < 18446744073709551616
  i : x.ino < 4294967296
  g : x.gen < 4294967296
end En

/-- May these bytes be a name? -/
def nameOk (l : List UInt8) : Bool := decide (1 ≤ l.length) && decide (l.length ≤ 24) && !(l == [46]) && !(l == [46, 46]) && l.all fun b => !(b == 0) && !(b == 47)
def nameE (l : List UInt8) : Int := if nameOk l then 0 else 67
/-- The cookie ahead of place k. -/
def lastAt (es : List En) (k : Nat) : Nat := if k = 0 then 0 else (es.getD (k - 1) default).ck
def stepOk (es : List En) (k : Nat) : Bool := nameOk (es.getD k default).nm && decide (lastAt es k < (es.getD k default).ck)
def okB (es : List En) : Bool := (List.range es.length).all (stepOk es) && decide ((es.map En.nm).Nodup)
def chkE (es : List En) : Int := if okB es then 0 else 11
/-- The first place of a name, or -1. -/
def fnd (es : List En) (nm : List UInt8) : Int := if es.findIdx (fun e => e.nm == nm) < es.length then (es.findIdx (fun e => e.nm == nm) : Int) else -1
/-- The cookie of the last one. -/
def lastCk (es : List En) : Nat := lastAt es es.length
/-- One more. -/
def addE (es : List En) (e : En) : Int := if nameOk e.nm = false then 67 else if 0 ≤ fnd es e.nm then 61 else if e.ck ≤ lastCk es then 70 else 0
def addL (es : List En) (e : En) : List En := if addE es e = 0 then es ++ [e] else []
def remE (es : List En) (nm : List UInt8) : Int := if fnd es nm < 0 then 60 else 0
def remL (es : List En) (nm : List UInt8) : List En := if fnd es nm < 0 then [] else es.take (fnd es nm).toNat ++ es.drop ((fnd es nm).toNat + 1)
/-- The first place of a cookie that is greater. -/
def frm (es : List En) (c : Nat) : Nat := es.findIdx (fun e => decide (c < e.ck))
def aftL (es : List En) (c : Nat) (most : Int) : List En := (es.drop (frm es c)).take most.toNat
def aftB (es : List En) (c : Nat) (most : Int) : Bool := decide ((es.drop (frm es c)).length ≤ most.toNat)

/-- The bytes of one entry, .. -/
def enc1 (e : En) : List UInt8 := be 8 e.ck ++ be 4 e.ino ++ be 4 e.gen ++ opq e.nm
/-- .. of all of them. -/
def encs (es : List En) : List UInt8 := es.flatMap enc1
def putE (es : List En) : List UInt8 := if okB es then encs es else []

/-- What is read of one entry: what is left behind it, and the entry. -/
def r1 (l : List UInt8) := rdN 8 (l, 0)
def r2 (l : List UInt8) := rdN 4 (r1 l).1
def r3 (l : List UInt8) := rdN 4 (r2 l).1
def r4 (l : List UInt8) := rdO 24 (r3 l).1
def one (l : List UInt8) : En := ⟨(r1 l).2, (r2 l).2, (r3 l).2, (r4 l).2⟩
/-- Behind k entries: what is left, the error, the entries. -/
def reads : Nat → List UInt8 → List UInt8 × Int × List En
  | 0, l => (l, 0, [])
  | k + 1, l => if (reads k l).2.1 ≠ 0 ∨ (reads k l).1 = [] then reads k l else ((r4 (reads k l).1).1.1, (r4 (reads k l).1).1.2, (reads k l).2.2 ++ [one (reads k l).1])
/-- All that is read. -/
def all (l : List UInt8) := reads l.length l
def errE (l : List UInt8) : Int := if (all l).2.1 ≠ 0 then (all l).2.1 else chkE (all l).2.2
def gotE (l : List UInt8) : List En := if errE l = 0 then (all l).2.2 else []

/-! What is read and put. -/
theorem rdN_back (n : Nat) (s : St) (h : (rdN n s).1.2 = 0) : s.2 = 0 ∧ s.1 = be n (rdN n s).2 ++ (rdN n s).1.1 ∧ (rdN n s).2 < 256 ^ n := by
  obtain ⟨l, e⟩ := s
  unfold rdN at h ⊢
  simp only at h ⊢
  split
  · rename_i h1
    rw [if_pos h1] at h
    exact absurd h h1
  · rename_i h1
    rw [if_neg h1] at h
    split
    · rename_i h2
      rw [if_pos h2] at h
      simp at h
    · rename_i h2
      have h3 : (l.take n).length = n := by rw [List.length_take]; omega
      refine ⟨Decidable.not_not.1 h1, ?_, ?_⟩
      · simp only
        have := be_num (l.take n)
        rw [h3] at this
        rw [this, List.take_append_drop]
      · simp only
        have := num_lt (l.take n)
        rwa [h3] at this
theorem rdN_lt (n : Nat) (s : St) : (rdN n s).2 < 256 ^ n := by
  unfold rdN
  split
  · exact Nat.pow_pos (by omega)
  · split
    · exact Nat.pow_pos (by omega)
    · simp only
      have h1 := num_lt (s.1.take n)
      have h2 : (s.1.take n).length ≤ n := by rw [List.length_take]; omega
      exact Nat.lt_of_lt_of_le h1 (Nat.pow_le_pow_right (by omega) h2)
theorem one_wide (l : List UInt8) : (one l).Wide := ⟨rdN_lt 8 _, rdN_lt 4 _, rdN_lt 4 _⟩
theorem rdO_err2 (m : Int) (s : St) (h : (rdO m s).1.2 = 0) : s.2 = 0 := by
  unfold rdO at h
  by_cases h1 : (rdN 4 s).1.2 = 0
  · exact (rdN_back 4 s h1).1
  · rw [if_pos h1] at h
    exact absurd h h1
/-- What is read without an error is just what is put. -/
theorem one_back (l : List UInt8) (h : (r4 l).1.2 = 0) : l = enc1 (one l) ++ (r4 l).1.1 := by
  have h3 : (r3 l).1.2 = 0 := rdO_err2 24 _ h
  obtain ⟨h2, b3, _⟩ := rdN_back 4 _ h3
  obtain ⟨h1, b2, _⟩ := rdN_back 4 _ h2
  obtain ⟨_, b1, _⟩ := rdN_back 8 (l, 0) h1
  have b4 : (r3 l).1.1 = opq (r4 l).2 ++ (r4 l).1.1 := by
    have e : (r3 l).1 = ((r3 l).1.1, 0) := by rw [← h3]
    have := rdO_one 24 (r3 l).1.1 (by rw [← e]; exact h)
    rwa [← e] at this
  have c3 : (r2 l).1.1 = be 4 (r3 l).2 ++ (r3 l).1.1 := b3
  have c2 : (r1 l).1.1 = be 4 (r2 l).2 ++ (r2 l).1.1 := b2
  have c1 : l = be 8 (r1 l).2 ++ (r1 l).1.1 := b1
  conv => lhs; rw [c1, c2, c3, b4]
  simp [enc1, one]
theorem opq_pos (b : List UInt8) : 4 ≤ (opq b).length := by rw [opq_length]; omega
theorem enc1_length (e : En) : (enc1 e).length = 20 + e.nm.length + pad e.nm.length := by simp [enc1, be_length, opq_length]; omega
theorem reads_err (k : Nat) (l : List UInt8) (h : (reads k l).2.1 ≠ 0 ∨ (reads k l).1 = []) : reads (k + 1) l = reads k l := if_pos h
theorem reads_more (k : Nat) (l : List UInt8) (h : (reads k l).2.1 = 0) (h2 : (reads k l).1 ≠ []) : reads (k + 1) l = ((r4 (reads k l).1).1.1, (r4 (reads k l).1).1.2, (reads k l).2.2 ++ [one (reads k l).1]) := by
  show (if _ then _ else _) = _
  rw [if_neg]
  rintro (h3 | h3)
  · exact h3 h
  · exact h2 h3
theorem reads_stop (k : Nat) (l : List UInt8) (h : (reads k l).2.1 ≠ 0 ∨ (reads k l).1 = []) : ∀ m, reads (k + m) l = reads k l
  | 0 => rfl
  | m + 1 => by
    have ih := reads_stop k l h m
    rw [← Nat.add_assoc, reads_err (k + m) l (by rw [ih]; exact h), ih]
/-- Behind k entries without an error: the bytes are those of the entries and what is left. -/
theorem reads_back (l : List UInt8) : ∀ k, (reads k l).2.1 = 0 → l = encs (reads k l).2.2 ++ (reads k l).1
  | 0, _ => rfl
  | k + 1, h => by
    by_cases h1 : (reads k l).2.1 ≠ 0 ∨ (reads k l).1 = []
    · rw [reads_err k l h1] at h ⊢
      exact reads_back l k h
    · have h2 : (reads k l).2.1 = 0 := Decidable.not_not.1 fun e => h1 (.inl e)
      have h3 : (reads k l).1 ≠ [] := fun e => h1 (.inr e)
      have ih := reads_back l k h2
      rw [reads_more k l h2 h3] at h ⊢
      have := one_back _ h
      simp only [encs, List.flatMap_append, List.flatMap_cons, List.flatMap_nil, List.append_nil, List.append_assoc]
      rw [← this]
      exact ih
theorem reads_len (l : List UInt8) : ∀ k, (reads k l).2.1 = 0 → (reads k l).1 ≠ [] → (reads k l).1.length + 20 * k ≤ l.length ∧ (reads k l).2.2.length = k
  | 0, _, _ => ⟨by show l.length + 20 * 0 ≤ _; omega, rfl⟩
  | k + 1, h, hn => by
    by_cases h1 : (reads k l).2.1 ≠ 0 ∨ (reads k l).1 = []
    · rw [reads_err k l h1] at h hn
      exact absurd h1 (by rintro (h2 | h2); exact h2 h; exact hn h2)
    · have h2 : (reads k l).2.1 = 0 := Decidable.not_not.1 fun e => h1 (.inl e)
      have h3 : (reads k l).1 ≠ [] := fun e => h1 (.inr e)
      obtain ⟨i1, i2⟩ := reads_len l k h2 h3
      rw [reads_more k l h2 h3] at h hn ⊢
      have := congrArg List.length (one_back _ h)
      rw [List.length_append, enc1_length] at this
      simp only [List.length_append, List.length_cons, List.length_nil]
      omega
/-- As many rounds as there are bytes are enough. -/
theorem reads_end (l : List UInt8) : (all l).2.1 ≠ 0 ∨ (all l).1 = [] := by
  by_cases h : (all l).2.1 = 0
  · right
    by_cases h2 : (all l).1 = []
    · exact h2
    · have := (reads_len l l.length h h2).1
      have h3 : 0 < (all l).1.length := List.length_pos_iff.2 h2
      unfold all at h3
      have : l.length = 0 := by omega
      have hl : l = [] := List.eq_nil_of_length_eq_zero this
      subst hl
      exact absurd rfl h2
  · exact .inl h
theorem all_of (k : Nat) (l : List UInt8) (hk : k ≤ l.length) (h : (reads k l).2.1 ≠ 0 ∨ (reads k l).1 = []) : all l = reads k l := by
  have e : l.length = k + (l.length - k) := by omega
  unfold all
  rw [e]
  exact reads_stop k l h _
theorem reads_wide (l : List UInt8) : ∀ k, ∀ e ∈ (reads k l).2.2, e.Wide
  | 0, e, h => by cases h
  | k + 1, e, h => by
    by_cases h1 : (reads k l).2.1 ≠ 0 ∨ (reads k l).1 = []
    · rw [reads_err k l h1] at h
      exact reads_wide l k e h
    · have h2 : (reads k l).2.1 = 0 := Decidable.not_not.1 fun e => h1 (.inl e)
      have h3 : (reads k l).1 ≠ [] := fun e => h1 (.inr e)
      rw [reads_more k l h2 h3] at h
      rcases List.mem_append.1 h with h | h
      · exact reads_wide l k e h
      · rw [List.mem_singleton.1 h]
        exact one_wide _
theorem gotE_wide (l : List UInt8) : ∀ e ∈ gotE l, e.Wide := by
  unfold gotE
  split
  · exact reads_wide l l.length
  · intro e h; cases h
theorem errE_cases (l : List UInt8) (h : errE l = 0) : (all l).2.1 = 0 ∧ okB (all l).2.2 = true ∧ gotE l = (all l).2.2 := by
  have hg : gotE l = (all l).2.2 := if_pos h
  unfold errE at h
  split at h
  · rename_i h1
    exact absurd h h1
  · rename_i h1
    refine ⟨Decidable.not_not.1 h1, ?_, hg⟩
    unfold chkE at h
    split at h
    · rename_i h2
      exact h2
    · cases h
/-- What was got is put as the same bytes. -/
theorem got_back (l : List UInt8) (h : errE l = 0) : okB (gotE l) = true ∧ putE (gotE l) = l := by
  obtain ⟨h1, h2, h3⟩ := errE_cases l h
  rw [h3]
  refine ⟨h2, ?_⟩
  unfold putE
  rw [if_pos h2]
  have hb := reads_back l l.length h1
  rcases reads_end l with h4 | h4
  · exact absurd h1 h4
  · have e : l = encs (all l).2.2 ++ (all l).1 := hb
    rw [h4, List.append_nil] at e
    exact e.symm
/-- What is put is read as it was. -/
theorem one_enc (e : En) (t : List UInt8) (hw : e.Wide) (hn : e.nm.length ≤ 24) : one (enc1 e ++ t) = e ∧ (r4 (enc1 e ++ t)).1 = (t, 0) := by
  have e1 : r1 (enc1 e ++ t) = ((be 4 e.ino ++ (be 4 e.gen ++ (opq e.nm ++ t)), 0), e.ck) := by
    unfold r1 enc1
    rw [List.append_assoc, List.append_assoc, List.append_assoc]
    exact rdN_be 8 _ _ hw.c
  have e2 : r2 (enc1 e ++ t) = ((be 4 e.gen ++ (opq e.nm ++ t), 0), e.ino) := by
    unfold r2
    rw [e1]
    exact rdN_be 4 _ _ hw.i
  have e3 : r3 (enc1 e ++ t) = ((opq e.nm ++ t, 0), e.gen) := by
    unfold r3
    rw [e2]
    exact rdN_be 4 _ _ hw.g
  have e4 : r4 (enc1 e ++ t) = ((t, 0), e.nm) := by
    unfold r4
    rw [e3]
    exact rdO_opq 24 _ _ (by omega) (by omega)
  exact ⟨by unfold one; rw [e1, e2, e3, e4], by rw [e4]⟩
theorem encs_cons (e : En) (r : List En) : encs (e :: r) = enc1 e ++ encs r := rfl
theorem reads_encs (es : List En) (hw : ∀ e ∈ es, e.Wide) (hn : ∀ e ∈ es, e.nm.length ≤ 24) : ∀ k, k ≤ es.length → reads k (encs es) = (encs (es.drop k), 0, es.take k)
  | 0, _ => rfl
  | k + 1, h => by
    have ih := reads_encs es hw hn k (by omega)
    have hk : k < es.length := by omega
    have hd : es.drop k = es[k] :: es.drop (k + 1) := List.drop_eq_getElem_cons hk
    have hr : encs (es.drop k) = enc1 es[k] ++ encs (es.drop (k + 1)) := by rw [hd]; rfl
    obtain ⟨h1, h2⟩ := one_enc es[k] (encs (es.drop (k + 1))) (hw _ (List.getElem_mem hk)) (hn _ (List.getElem_mem hk))
    rw [reads_more k _ (by rw [ih]) (by
      rw [ih]
      show encs (es.drop k) ≠ []
      intro e
      rw [hr] at e
      have := congrArg List.length e
      rw [List.length_append, enc1_length] at this
      simp at this)]
    rw [ih]
    simp only
    rw [hr, h1, h2, List.take_succ_eq_append_getElem hk]
theorem okB_at (es : List En) (h : okB es = true) (k : Nat) (hk : k < es.length) : nameOk es[k].nm = true ∧ lastAt es k < es[k].ck := by
  unfold okB at h
  rw [Bool.and_eq_true, List.all_eq_true] at h
  have := h.1 k (List.mem_range.2 hk)
  unfold stepOk at this
  rw [Bool.and_eq_true, decide_eq_true_eq, List.getD_eq_getElem?_getD, List.getElem?_eq_getElem hk] at this
  exact this
theorem nameOk_len (l : List UInt8) (h : nameOk l = true) : 1 ≤ l.length ∧ l.length ≤ 24 := by
  simp only [nameOk, Bool.and_eq_true, decide_eq_true_eq] at h
  exact ⟨h.1.1.1.1, h.1.1.1.2⟩
theorem okB_names (es : List En) (h : okB es = true) : ∀ e ∈ es, e.nm.length ≤ 24 := by
  intro e he
  obtain ⟨k, hk, rfl⟩ := List.getElem_of_mem he
  exact (nameOk_len _ (okB_at es h k hk).1).2
/-- What was put is got as it was. -/
theorem got_put (es : List En) (hw : ∀ e ∈ es, e.Wide) (h : okB es = true) : errE (putE es) = 0 ∧ gotE (putE es) = es := by
  have hp : putE es = encs es := if_pos h
  rw [hp]
  have hn := okB_names es h
  have hl : es.length ≤ (encs es).length := by
    clear hw h hp hn
    induction es with
    | nil => exact Nat.zero_le _
    | cons e r ih =>
      rw [encs_cons, List.length_append, enc1_length, List.length_cons]
      omega
  have hr := reads_encs es hw hn es.length (Nat.le_refl _)
  rw [List.drop_length, List.take_length] at hr
  have ha : all (encs es) = ([], 0, es) := by
    rw [all_of es.length (encs es) hl (by rw [hr]; exact .inr rfl), hr]
    rfl
  have he : errE (encs es) = 0 := by
    unfold errE
    rw [ha]
    show (if ((0 : Int) ≠ 0) then _ else chkE es) = 0
    rw [if_neg (by simp)]
    exact if_pos h
  refine ⟨he, ?_⟩
  unfold gotE
  rw [if_pos he, ha]
theorem encs_mod (es : List En) : (encs es).length % 4 = 0 := by
  induction es with
  | nil => rfl
  | cons e r ih =>
    rw [encs_cons, List.length_append, enc1_length]
    unfold pad
    omega
end Go.Proofs.Ytjgmboleiaehaaa
