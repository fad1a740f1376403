
/-
  Slices of bytes that a call made or that came in, texts of bytes, and the document's answer for a number's four bytes: what the proofs over any layer that handles bytes lean on.
-/
import Derived.Test.YtnjkcodegcojcaaBase
import Derived.Test.YtnjkcodegcojcaaProg
import Derived.Deep.RegionHeld3
import Derived.Deep.RegionLaw
import Derived.Deep.LoopGhost
import Derived.Deep.DeepMust
import Derived.KernelRfl
import Derived.Lib.SlBytesConst
import Derived.Lib.SlBytesRow
import Derived.Deep.RegionWith
namespace Go.Proofs.Ytnjkcodegcojcaa
open Go.RowKit

theorem info_u8 : (Try.prog.info? 5).map (fun i => (i.zero, i.size, i.bytes)) = some (some (.int .u8 0), 1, 1) := by kernel_rfl

/-- A slice of bytes of the call's own, new behind w. -/
def Own (w w' : World) (A : Option Addr) (n c : Nat) (l : List UInt8) : Prop := w'.ownsRow w.heap.size 5 1 (.slice A n c) n (bc l) ∧ Below w.heap.size w w'
theorem Own.bs {w w' : World} {A : Option Addr} {n c : Nat} {l : List UInt8} (h : Own w w' A n c l) : BS w' A n l := BS.of_own h.1

theorem ret_int {k : IntKind} {a b : Int} (h : a = b) : Ending.returned (.int k a) = .returned (.int k b) := by rw [h]

/-- A block of bytes that is known whole reads as bytes. -/
theorem BS.of_block {w : World} {g : Nat} {l : List UInt8} {t : TypeId} {fr : Nat × Nat} (h : w.heap[g]? = some (.cells (bc l).toArray t fr)) : BS w (some ⟨g, 0, none⟩) l.length l :=
  ⟨rfl, fun _ => ⟨g, 0, rfl, fun j hj => by
    rw [Nat.zero_add, cell_of_row w g j _ _ _ h]
    simp [bc_get l j hj]⟩⟩

/-- A text of bytes. -/
def txt (l : List UInt8) : ByteArray := ⟨l.toArray⟩
/-- string(b): the bytes as a text. -/
theorem run_convert_bs (w : World) (A : Option Addr) (n c : Nat) (l : List UInt8) (h : BS w A n l) : (convert 25 9 (.slice A n c)).run Try.prog w = .ok (.string (txt l)) w := by
  rcases A with _ | ad
  · have hn : n = 0 := by
      rcases Nat.eq_zero_or_pos n with h0 | h0
      · exact h0
      · obtain ⟨b, o, h, _⟩ := h.2 h0
        cases h
    subst hn
    have hl : l = [] := List.eq_nil_of_length_eq_zero h.1
    subst hl
    exact run_convert_bytes_nil w 25 5 Try.underlying25 Try.underlying5 0 c 9 Try.underlying9
  · have hl : (loadCells ad n).run Try.prog w = .ok ((l.map fun b => (b.toNat : Int)).map (Value.int .u8)).toArray w := by
      have := run_loadCells_list (P := Try.prog) w ad (bc l) (h.news rfl)
      rw [bc_length, h.1] at this
      rw [this, List.map_map]
      rfl
    rw [run_convert_bytes_string w 25 9 5 _ n c Try.underlying25 Try.underlying5 Try.underlying9, run_bytesToString w _ n c _ hl, foldl_push_byteCells]
    simp [txt, ByteArray.empty, ByteArray.emptyWithCapacity]
    rfl

/-- A slice of integers that came in: nil, or a row of cap cells, the numbers zs, the first len of them its elements, each fitting its kind. -/
def IsRow (k : IntKind) (w : World) (a : Option Addr) (len cap : Nat) (zs : List Int) : Prop :=
  (a = none ∧ len = 0 ∧ cap = 0 ∧ zs = []) ∨
  ∃ x, a = some x ∧ len ≤ cap ∧ cap ≤ maxLen ∧ zs.length = cap ∧ (∀ i, i < zs.length → w.cell? (x.add i) = some (.int k (zs.getD i 0))) ∧ ∀ n ∈ zs, (Lit.int k n).wf = true

theorem add_plain (b o j : Nat) : (⟨b, o, none⟩ : Addr).add j = ⟨b, o + j, none⟩ := by unfold Addr.add; split <;> simp_all

/-- The elements of such a slice lie in one row of plain cells. -/
theorem IsRow.cells {k : IntKind} {w : World} {a : Option Addr} {len cap : Nat} {zs : List Int} (h : IsRow k w a len cap zs) :
    len ≤ cap ∧ cap ≤ maxLen ∧ zs.length = cap ∧ (∀ n ∈ zs, (Lit.int k n).wf = true) ∧ (0 < len → ∃ b o, a = some ⟨b, o, none⟩ ∧ ∀ j, j < len → w.cell? ⟨b, o + j, none⟩ = some (.int k (zs.getD j 0))) := by
  rcases h with ⟨rfl, rfl, rfl, rfl⟩ | ⟨x, rfl, hl, hm, hz, hc, hw⟩
  · exact ⟨Nat.le_refl _, Nat.zero_le _, rfl, by simp, fun h => absurd h (by omega)⟩
  · refine ⟨hl, hm, hz, hw, fun hn => ?_⟩
    obtain ⟨b, o, sp⟩ := x
    have h0 := hc 0 (by omega)
    have hs : sp = none := by simpa [Addr.add] using World.cell?_spot h0
    subst hs
    refine ⟨b, o, rfl, fun j hj => ?_⟩
    have := hc j (by omega)
    rwa [add_plain] at this

theorem wf_u8 {n : Int} (h : (Lit.int .u8 n).wf = true) : 0 ≤ n ∧ n ≤ 255 := by
  simp [Lit.wf, IntKind.min, IntKind.max, IntKind.bits, IntKind.signed] at h
  omega

/-- A slice of bytes that came in reads as bytes. -/
theorem IsRow.bs {w : World} {a : Option Addr} {len cap : Nat} {zs : List Int} (h : IsRow .u8 w a len cap zs) : ∃ l, BS w a len l := by
  obtain ⟨hl, _, hz, hw, hc⟩ := h.cells
  refine ⟨(zs.take len).map fun z => UInt8.ofNat z.toNat, by simp; omega, fun hn => ?_⟩
  obtain ⟨b, o, rfl, hcell⟩ := hc hn
  refine ⟨b, o, rfl, fun j hj => ?_⟩
  have hj' : j < len := by simp at hj; omega
  rw [hcell j hj']
  have hjz : j < zs.length := by omega
  obtain ⟨h1, h2⟩ := wf_u8 (hw _ (List.getElem_mem hjz))
  simp [List.getD, List.getElem?_eq_getElem hjz]
  omega

/-- The elements of a slice that came in, in a later world. -/
theorem BS.at {w : World} {A : Option Addr} {n : Nat} {l : List UInt8} (h : BS w A n l) {k : Nat} (hk : k < n) :
    ∃ b o, A = some ⟨b, o, none⟩ ∧ ∃ hj : k < l.length, w.cell? ⟨b, o + k, none⟩ = some (.int .u8 (l[k].toNat : Int)) := by
  obtain ⟨b, o, e, hc⟩ := h.2 (by omega)
  have hj : k < l.length := by rw [h.1]; exact hk
  exact ⟨b, o, e, hj, hc k hj⟩
theorem BS.lt_block {w : World} {A : Option Addr} {n : Nat} {l : List UInt8} (h : BS w A n l) (hn : 0 < n) (ad : Addr) (ha : A = some ad) : ad.block < w.heap.size := by
  obtain ⟨b, o, e, hc⟩ := h.2 hn
  rw [ha] at e
  injection e with e
  subst e
  exact World.block_lt_of_cell? w _ (hc 0 (by rw [h.1]; exact hn))

theorem num_be4 (n : Nat) (h : n < 4294967296) : num (be 4 n) = n := by rw [num_be]; exact Nat.mod_eq_of_lt h
theorem be_snoc (n x : Nat) : be (n + 1) x = be n (x / 256) ++ [UInt8.ofNat x] := by
  induction n with
  | zero => simp [be]
  | succ n ih =>
    have e : x / 2 ^ (8 * (n + 1)) = x / 256 / 2 ^ (8 * n) := by
      rw [Nat.div_div_eq_div_mul, show (256 : Nat) = 2 ^ 8 from rfl, ← Nat.pow_add]
      congr 2
      omega
    show UInt8.ofNat (x / 2 ^ (8 * (n + 1))) :: be (n + 1) x = (UInt8.ofNat (x / 256 / 2 ^ (8 * n)) :: be n (x / 256)) ++ [UInt8.ofNat x]
    rw [ih, e]
    rfl
theorem be_num (l : List UInt8) : be l.length (num l) = l := by
  suffices h : ∀ n (l : List UInt8), l.length = n → be n (num l) = l from h _ l rfl
  intro n
  induction n with
  | zero => intro l hl; rw [List.eq_nil_of_length_eq_zero hl]; rfl
  | succ n ih =>
    intro l hl
    have hne : l ≠ [] := by intro e; rw [e] at hl; simp at hl
    have hd := List.dropLast_concat_getLast hne
    have h1 := ih l.dropLast (by rw [List.length_dropLast, hl]; rfl)
    generalize l.dropLast = t at *
    generalize l.getLast hne = b at *
    subst hd
    have hb : b.toNat < 256 := b.toNat_lt
    rw [num_snoc, be_snoc, show (num t * 256 + b.toNat) / 256 = num t by omega, h1]
    congr 2
    apply UInt8.toNat_inj.1
    simp
theorem Own.cap {w w' : World} {A : Option Addr} {n c : Nat} {l : List UInt8} (h : Own w w' A n c l) : n ≤ c := by
  rcases h.1.2 with ⟨h1, h0⟩ | ⟨g, cap, cur, h1, h2, h3, h4, _⟩
  · omega
  · injection h1 with h1 _ h5
    omega
theorem txt_append (a b : List UInt8) : txt a ++ txt b = txt (a ++ b) := by
  apply ByteArray.ext
  simp [txt]

theorem txt_size (l : List UInt8) : (txt l).size = l.length := by simp [txt, ByteArray.size]
theorem txt_be (n x : Nat) : (txt (be n x)).size = n := by rw [txt_size, be_length]

theorem be4_bytes (x : Int) (h : 0 ≤ x) (h1 : x < 4294967296) : ∃ b3 b2 b1 b0 : UInt8, be 4 x.toNat = [b3, b2, b1, b0] ∧ x / 16777216 = (b3.toNat : Int) ∧ (x / 65536) % 256 = (b2.toNat : Int) ∧ (x / 256) % 256 = (b1.toNat : Int) ∧ x % 256 = (b0.toNat : Int) := by
  obtain ⟨y, rfl⟩ := Int.eq_ofNat_of_zero_le h
  refine ⟨_, _, _, _, rfl, ?_, ?_, ?_, ?_⟩
  · simp
    omega
  · simp
  · simp
  · simp

end Go.Proofs.Ytnjkcodegcojcaa
