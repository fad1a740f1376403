
/-
  Contracts of layer 1's Writer, on: NewWriter, U32, U64, Bool, Opaque, Out; and of padding and bytes.Clone.
-/
import Derived.Test.YtjionpkflpnejaaWriter
namespace Go.Proofs.Ytjionpkflpnejaa
open Go.RowKit

/-- A slice of bytes of the call's own, new behind w. -/
def Own (w w' : World) (A : Option Addr) (n c : Nat) (l : List UInt8) : Prop := w'.ownsRow w.heap.size 5 1 (.slice A n c) n (bc l) ∧ Below w.heap.size w w'
theorem Own.bs {w w' : World} {A : Option Addr} {n c : Nat} {l : List UInt8} (h : Own w w' A n c l) : BS w' A n l := BS.of_own h.1

theorem ret_int {k : IntKind} {a b : Int} (h : a = b) : Ending.returned (.int k a) = .returned (.int k b) := by rw [h]

set_option maxHeartbeats 400000 in
theorem clone_any (A : Option Addr) (n c : Nat) (l : List UInt8) (w : World) (h : BS w A n l) (hn : n ≤ 3000000) :
    Calls Try.prog 27 #[.slice A n c] w fun e w' => ∃ A' c', e = .returned (.slice A' n c') ∧ Own w w' A' n c' l := by
  obtain ⟨i0, hi0, hz0, hz1, hz2⟩ := info_parts info_u8
  have H := Lib.hid h
  clear h
  have hnil := fun W => Lib.run_eql_slice_nil (P := Try.prog) W 27 5 A n c 0 0 Try.underlying27
  rcases A with _ | ad
  · have hn0 : n = 0 := by
      rcases Nat.eq_zero_or_pos n with h0 | h0
      · exact h0
      · obtain ⟨b, o, h, _⟩ := H.out.2 h0
        cases h
    subst hn0
    have hl : l = [] := List.eq_nil_of_length_eq_zero H.out.1
    subst hl
    go_enter Try.func27, Try.ntmps27
    go_wp2
    go_ret
    exact ⟨none, 0, rfl, World.ownsRow_nil _ _ _ _, Below.refl _ _⟩
  · go_enter Try.func27, Try.ntmps27
    go_wp2_with
      ((at_builtin
        refine wpList_append_bytes _ rfl (.tmp 5) (.tmp 6) 27 rfl w.heap.size 5 i0 Try.underlying27 hi0 hz0 hz1 hz2 (some ⟨w.heap.size, 0, none⟩) 0 0 [] rfl (World.ownsRow_made w #[] 0 (Nat.le_refl _) (by unfold maxLen; omega) rfl)
          (some ad) n c l rfl (H.out.alloc _) (by omega) (by simp) ?_
        intro A' c' w1 hown hgrow hat))
    have HO : Hid (w1.ownsRow w.heap.size 5 1 (.slice A' n c') n (bc l)) := by simpa [Hid] using hown
    have HB : Hid (Below w.heap.size w w1) := ((Below.refl _ _).alloc (Nat.le_refl _) _).grown hgrow (by simp) (fun k hk => by simp [Value.ownBlock] at hk; omega)
    clear hown hgrow hat
    go_ret
    exact ⟨A', c', rfl, HO.out, HB.out⟩

theorem newWriter_any (w : World) : Calls Try.prog 19 #[] w fun e w' => e = .returned (.pointer (some ⟨w.heap.size, 0, none⟩)) ∧ w.alloc (.cells #[.slice none 0 0] 86) = w' := by
  go_enter Try.func19, Try.ntmps19
  go_wp2
  go_ret
  exact ⟨rfl, rfl⟩
theorem newWriter_wr (w : World) (K : Nat → Prop) (hK : ∀ k, K k → k < w.heap.size) : Wr K (w.alloc (.cells #[.slice none 0 0] 86)) w.heap.size [] :=
  ⟨none, 0, heap_alloc_new w _, World.ownsRow_nil _ _ _ _, fun h => by have := hK _ h; omega, fun k hk => by simp [Value.ownBlock] at hk, fun k hk => by have := hK k hk; simp; omega⟩

theorem u32w (K : Nat → Prop) (w : World) (p : Nat) (l : List UInt8) (x : Int) (hx0 : 0 ≤ x) (h : Wr K w p l) (hl : l.length ≤ 1000000) :
    Calls Try.prog 21 #[.pointer (some ⟨p, 0, none⟩), .int .u32 x] w fun e w' => e = .returned (.tuple #[]) ∧ Wr K w' p (l ++ be 4 x.toNat) ∧ Keep K w w' := by
  have H := Lib.hid h
  clear h
  go_enter Try.func21, Try.ntmps21
  go_wp2_with fail
  refine (app32 K w p l x hx0 H.out hl).mono ?_
  rintro e w' ⟨rfl, h1, h2⟩
  have H1 := Lib.hid h1
  have H2 := Lib.hid h2
  clear h1 h2
  go_wp2
  go_end0
  exact ⟨rfl, H1.out, H2.out⟩

theorem u64w (K : Nat → Prop) (w : World) (p : Nat) (l : List UInt8) (x : Int) (hx0 : 0 ≤ x) (h : Wr K w p l) (hl : l.length ≤ 1000000) :
    Calls Try.prog 22 #[.pointer (some ⟨p, 0, none⟩), .int .u64 x] w fun e w' => e = .returned (.tuple #[]) ∧ Wr K w' p (l ++ be 8 x.toNat) ∧ Keep K w w' := by
  have H := Lib.hid h
  clear h
  go_enter Try.func22, Try.ntmps22
  go_wp2_with fail
  refine (app64 K w p l x hx0 H.out hl).mono ?_
  rintro e w' ⟨rfl, h1, h2⟩
  have H1 := Lib.hid h1
  have H2 := Lib.hid h2
  clear h1 h2
  go_wp2
  go_end0
  exact ⟨rfl, H1.out, H2.out⟩

/-- A bool as a number. -/
def b01 (b : Bool) : Nat := if b then 1 else 0
theorem boolw (K : Nat → Prop) (w : World) (p : Nat) (l : List UInt8) (x : Bool) (h : Wr K w p l) (hl : l.length ≤ 1000000) :
    Calls Try.prog 20 #[.pointer (some ⟨p, 0, none⟩), .bool x] w fun e w' => e = .returned (.tuple #[]) ∧ Wr K w' p (l ++ be 4 (b01 x)) ∧ Keep K w w' := by
  have H := Lib.hid h
  clear h
  cases x
  all_goals
    go_enter Try.func20, Try.ntmps20
    go_wp2_with fail
    refine (u32w K w p l _ (by omega) H.out hl).mono ?_
    rintro e w' ⟨rfl, h1, h2⟩
    have H1 := Lib.hid h1
    have H2 := Lib.hid h2
    clear h1 h2
    go_wp2
    go_end0
    exact ⟨rfl, H1.out, H2.out⟩

theorem out_any (K : Nat → Prop) (w : World) (p : Nat) (l : List UInt8) (h : Wr K w p l) (hl : l.length ≤ 3000000) :
    Calls Try.prog 23 #[.pointer (some ⟨p, 0, none⟩)] w fun e w' => ∃ A c, e = .returned (.slice A l.length c) ∧ Own w w' A l.length c l := by
  obtain ⟨A, c, hwr⟩ := h
  have hcell := hwr.cell
  have H := Lib.hid (BS.of_own hwr.2.1)
  clear hwr
  go_enter Try.func23, Try.ntmps23
  go_wp2_with fail
  refine (clone_any A l.length c l w H.out hl).mono ?_
  rintro e w' ⟨A', c', rfl, h1⟩
  have H1 := Lib.hid h1
  clear h1
  go_wp2
  go_ret
  exact ⟨A', c', rfl, H1.out⟩

/-- What Opaque puts for bytes. -/
def opq (l : List UInt8) : List UInt8 := be 4 l.length ++ l ++ List.replicate (pad l.length) 0
theorem opq_length (l : List UInt8) : (opq l).length = 4 + l.length + pad l.length := by simp [opq, be_length]; omega

/-! The nil Writer. -/
theorem app32_nil (w : World) (x n : Int) : Calls Try.prog 43 #[.pointer none, .int .u32 x, .int .i64 n] w fun e w' => e = .returned (.tuple #[]) ∧ w = w' := by
  go_enter Try.func43, Try.ntmps43
  go_wp2
  refine bodyPost_ret (results_none rfl _ _ _) rfl ?_
  exact ⟨rfl, rfl⟩
theorem u32w_nil (w : World) (x : Int) : Calls Try.prog 21 #[.pointer none, .int .u32 x] w fun e w' => e = .returned (.tuple #[]) ∧ w = w' := by
  go_enter Try.func21, Try.ntmps21
  go_wp2_with fail
  refine (app32_nil w x 4).mono ?_
  rintro e w' ⟨rfl, rfl⟩
  go_wp2
  go_end0
  exact ⟨rfl, rfl⟩
theorem boolw_nil (w : World) (x : Bool) : Calls Try.prog 20 #[.pointer none, .bool x] w fun e w' => e = .returned (.tuple #[]) ∧ w = w' := by
  cases x
  all_goals
    go_enter Try.func20, Try.ntmps20
    go_wp2_with fail
    refine (u32w_nil w _).mono ?_
    rintro e w' ⟨rfl, rfl⟩
    go_wp2
    go_end0
    exact ⟨rfl, rfl⟩
theorem out_nil (w : World) : Calls Try.prog 23 #[.pointer none] w fun e w' => e = .returned (.slice none 0 0) ∧ w = w' := by
  go_enter Try.func23, Try.ntmps23
  go_wp2
  go_ret
  exact ⟨rfl, rfl⟩
end Go.Proofs.Ytjionpkflpnejaa
