
/-
  Contracts of layer 1's Writer, on: NewWriter, U32, U64, Bool, Opaque, Out; and of padding and bytes.Clone.
-/
import Derived.Test.YtbeahhijmgkfhaaWriter
namespace Go.Proofs.Ytbeahhijmgkfhaa
open Go.RowKit

/-- A slice of bytes of the call's own, new behind w. -/
def Own (w w' : World) (A : Option Addr) (n c : Nat) (l : List UInt8) : Prop := w'.ownsRow w.heap.size 5 1 (.slice A n c) n (bc l) ∧ Below w.heap.size w w'
theorem Own.bs {w w' : World} {A : Option Addr} {n c : Nat} {l : List UInt8} (h : Own w w' A n c l) : BS w' A n l := BS.of_own h.1

theorem ret_int {k : IntKind} {a b : Int} (h : a = b) : Ending.returned (.int k a) = .returned (.int k b) := by rw [h]

set_option maxHeartbeats 400000 in
theorem padding_any (n : Int) (w : World) (h0 : 0 ≤ n) (h1 : n ≤ 1000000000000) :
    Calls Try.prog 55 #[.int .i64 n] w fun e w' => e = .returned (.int .i64 (pad n.toNat : Int)) ∧ w = w' := by
  obtain ⟨m, rfl⟩ := Int.eq_ofNat_of_zero_le h0
  go_enter Try.func55, Try.ntmps55
  go_wp2
  go_ret
  exact ⟨ret_int (by rw [Int.toNat_natCast]; unfold pad; omega), rfl⟩

set_option maxHeartbeats 400000 in
theorem clone_any (A : Option Addr) (n c : Nat) (l : List UInt8) (w : World) (h : BS w A n l) (hn : n ≤ 300000000) :
    Calls Try.prog 56 #[.slice A n c] w fun e w' => ∃ A' c', e = .returned (.slice A' n c') ∧ Own w w' A' n c' l := by
  obtain ⟨i0, hi0, hz0, hz1, hz2⟩ := info_parts info_u8
  have H := Lib.hid h
  clear h
  have hnil := fun W => Lib.run_eql_slice_nil (P := Try.prog) W 24 5 A n c 0 0 Try.underlying24
  rcases A with _ | ad
  · have hn0 : n = 0 := by
      rcases Nat.eq_zero_or_pos n with h0 | h0
      · exact h0
      · obtain ⟨b, o, h, _⟩ := H.out.2 h0
        cases h
    subst hn0
    have hl : l = [] := List.eq_nil_of_length_eq_zero H.out.1
    subst hl
    go_enter Try.func56, Try.ntmps56
    go_wp2
    go_ret
    exact ⟨none, 0, rfl, World.ownsRow_nil _ _ _ _, Below.refl _ _⟩
  · go_enter Try.func56, Try.ntmps56
    go_wp2_with
      ((at_builtin
        refine wpList_append_bytes _ rfl (.tmp 5) (.tmp 6) 24 rfl w.heap.size 5 i0 Try.underlying24 hi0 hz0 hz1 hz2 (some ⟨w.heap.size, 0, none⟩) 0 0 [] rfl (World.ownsRow_made w #[] 0 (Nat.le_refl _) (by unfold maxLen; omega) rfl)
          (some ad) n c l rfl (H.out.alloc _) (by omega) (by simp) ?_
        intro A' c' w1 hown hgrow hat))
    have HO : Hid (w1.ownsRow w.heap.size 5 1 (.slice A' n c') n (bc l)) := by simpa [Hid] using hown
    have HB : Hid (Below w.heap.size w w1) := ((Below.refl _ _).alloc (Nat.le_refl _) _).grown hgrow (by simp) (fun k hk => by simp [Value.ownBlock] at hk; omega)
    clear hown hgrow hat
    go_ret
    exact ⟨A', c', rfl, HO.out, HB.out⟩

theorem newWriter_any (w : World) : Calls Try.prog 20 #[] w fun e w' => e = .returned (.pointer (some ⟨w.heap.size, 0, none⟩)) ∧ w.alloc (.cells #[.slice none 0 0] 88) = w' := by
  go_enter Try.func20, Try.ntmps20
  go_wp2
  go_ret
  exact ⟨rfl, rfl⟩
theorem newWriter_wr (w : World) (K : Nat → Prop) (hK : ∀ k, K k → k < w.heap.size) : Wr K (w.alloc (.cells #[.slice none 0 0] 88)) w.heap.size [] :=
  ⟨none, 0, heap_alloc_new w _, World.ownsRow_nil _ _ _ _, fun h => by have := hK _ h; omega, fun k hk => by simp [Value.ownBlock] at hk, fun k hk => by have := hK k hk; simp; omega⟩

theorem u32w (K : Nat → Prop) (w : World) (p : Nat) (l : List UInt8) (x : Int) (hx0 : 0 ≤ x) (h : Wr K w p l) (hl : l.length ≤ 100000000) :
    Calls Try.prog 21 #[.pointer (some ⟨p, 0, none⟩), .int .u32 x] w fun e w' => e = .returned (.tuple #[]) ∧ Wr K w' p (l ++ be 4 x.toNat) ∧ Keep K w w' := by
  have H := Lib.hid h
  clear h
  go_enter Try.func21, Try.ntmps21
  go_wp2_with fail
  refine (app32 K w p l x hx0 H.out hl).mono ?_
  rintro e w' ⟨rfl, h1, h2⟩
  have H1 := Lib.hid h1
  have H2 := Lib.hid h2
  clear h1 h2
  go_wp2
  go_end0
  exact ⟨rfl, H1.out, H2.out⟩

theorem u64w (K : Nat → Prop) (w : World) (p : Nat) (l : List UInt8) (x : Int) (hx0 : 0 ≤ x) (h : Wr K w p l) (hl : l.length ≤ 100000000) :
    Calls Try.prog 22 #[.pointer (some ⟨p, 0, none⟩), .int .u64 x] w fun e w' => e = .returned (.tuple #[]) ∧ Wr K w' p (l ++ be 8 x.toNat) ∧ Keep K w w' := by
  have H := Lib.hid h
  clear h
  go_enter Try.func22, Try.ntmps22
  go_wp2_with fail
  refine (app64 K w p l x hx0 H.out hl).mono ?_
  rintro e w' ⟨rfl, h1, h2⟩
  have H1 := Lib.hid h1
  have H2 := Lib.hid h2
  clear h1 h2
  go_wp2
  go_end0
  exact ⟨rfl, H1.out, H2.out⟩

/-- A bool as a number. -/
def b01 (b : Bool) : Nat := if b then 1 else 0
theorem out_any (K : Nat → Prop) (w : World) (p : Nat) (l : List UInt8) (h : Wr K w p l) (hl : l.length ≤ 300000000) :
    Calls Try.prog 24 #[.pointer (some ⟨p, 0, none⟩)] w fun e w' => ∃ A c, e = .returned (.slice A l.length c) ∧ Own w w' A l.length c l := by
  obtain ⟨A, c, hwr⟩ := h
  have hcell := hwr.cell
  have H := Lib.hid (BS.of_own hwr.2.1)
  clear hwr
  go_enter Try.func24, Try.ntmps24
  go_wp2_with fail
  refine (clone_any A l.length c l w H.out hl).mono ?_
  rintro e w' ⟨A', c', rfl, h1⟩
  have H1 := Lib.hid h1
  clear h1
  go_wp2
  go_ret
  exact ⟨A', c', rfl, H1.out⟩

/-- What Opaque puts for bytes. -/
def opq (l : List UInt8) : List UInt8 := be 4 l.length ++ l ++ List.replicate (pad l.length) 0
theorem opq_length (l : List UInt8) : (opq l).length = 4 + l.length + pad l.length := by simp [opq, be_length]; omega

set_option maxRecDepth 100000 in
set_option maxHeartbeats 1000000 in
theorem opaquew (K : Nat → Prop) (w : World) (p : Nat) (l : List UInt8) (A : Option Addr) (n c : Nat) (b : List UInt8) (h : Wr K w p l) (hb : BS w A n b) (hKb : 0 < n → ∀ ad, A = some ad → K ad.block) (hl : l.length ≤ 90000000) (hn : n ≤ 9000000) :
    Calls Try.prog 23 #[.pointer (some ⟨p, 0, none⟩), .slice A n c] w fun e w' => e = .returned (.tuple #[]) ∧ Wr K w' p (l ++ opq b) ∧ Keep K w w' := by
  obtain ⟨i0, hi0, hz0, hz1, hz2⟩ := info_parts info_u8
  have H := Lib.hid h
  have HB := Lib.hid hb
  have HKb := Lib.hid hKb
  have Hbn : Hid (b.length = n) := hb.1
  clear h hb hKb
  have wn : IntKind.u32.wrap (n : Int) = (n : Int) := by rw [IntKind.wrap_u32]; omega
  go_enter Try.func23, Try.ntmps23
  go_wp2_with fail
  refine (u32w K w p l _ (by omega) H.out (by omega)).mono ?_
  rintro e w1 ⟨rfl, h1, h2⟩
  rw [Int.toNat_natCast] at h1
  obtain ⟨A1, c1, hwr⟩ := h1
  have hcell := hwr.cell
  have hfroz := hwr.froz
  have hplt := hwr.lt
  have HK := Lib.hid h2
  have HW := Lib.hid hwr
  have HO := Lib.hid hwr.2.1
  have hne := Lib.hid hwr.ne
  have HB1 : Hid (BS w1 A n b) := by
    refine ⟨HB.out.1, fun hn => ?_⟩
    obtain ⟨bb, o, e, hc⟩ := HB.out.2 hn
    exact ⟨bb, o, e, fun j hj => (World.cell?_of_block (h2.block bb (HKb.out hn _ e))).trans (hc j hj)⟩
  have hml : (l ++ be 4 n).length ≤ 90000004 := by rw [List.length_append, be_length]; omega
  clear h2 hwr
  have HL : Hid ((l ++ be 4 n ++ b).length = (l ++ be 4 n).length + n) := by show _ = _; rw [List.length_append, Hbn.out]
  generalize hL1 : l ++ be 4 n = L1 at *
  have HL1 := Lib.hid hL1
  clear hL1
  go_wp2_with
    ((at_builtin
      refine wpList_append_bytes _ rfl (.tmp 15) (.tmp 16) 24 rfl 0 5 i0 Try.underlying24 hi0 hz0 hz1 hz2 A1 L1.length c1 L1 rfl HO.out
        A n c b rfl HB1.out (by omega) (by simp) ?_
      intro A2 c2 w2 hown hgrow hat
      have hs := HW.out.stepA HL.out hown hgrow (by
        intro g hg
        rcases hat with hat | hat
        · left; rw [← hat]; exact hg
        · right; rw [hat] at hg; injection hg with hg; omega)
      have cc := (hgrow.cell_far ⟨p, 0, none⟩ hplt (fun e => hne.out e.symm)).trans hcell
      have ff := (hgrow.frozen_far ⟨p, 0, none⟩ hplt (fun e => hne.out e.symm)).trans hfroz
      have HS := Lib.hid hs
      clear hs hown hgrow hat))
  clear hcell hfroz hplt HW HO hne HB1 cc ff
  generalize w2.setCell ⟨p, 0, none⟩ (.slice A2 (L1.length + n) c2) = w3 at *
  obtain ⟨hs1, hs2⟩ := HS.out
  have HS1 := Lib.hid hs1
  have HK1 := Lib.hid (HK.out.trans hs2)
  clear hs1 hs2 HS HK
  refine (padding_any _ _ (by omega) (by omega)).mono ?_
  rintro e w' ⟨rfl, rfl⟩
  rw [Int.toNat_natCast]
  have hq : pad n < 4 := pad_lt n
  have Hq : Hid (pad n = pad b.length) := by show _ = _; rw [Hbn.out]
  generalize pad n = q at *
  have hml2 : (L1 ++ b).length ≤ 99000004 := by rw [HL.out]; omega
  clear HL
  generalize hL2 : L1 ++ b = L2 at *
  have HL2 := Lib.hid hL2
  clear hL2
  go_wp2
  go_loopw [23] (fun i wr => ∃ k : Nat, k ≤ q ∧ i = .int .i64 k ∧ Hid (Wr K wr p (L2 ++ List.replicate k 0)) ∧ Hid (Keep K w wr)) (fun i _ => q - (intOf i).toNat)
  case atStart => exact ⟨0, by omega, rfl, by simpa [Hid] using HS1.out, HK1⟩
  case round =>
    obtain ⟨k, hk, rfl, HW, HK⟩ := hrel
    by_cases hlt : k < q
    · obtain ⟨A, c, hwr⟩ := HW.out
      clear HW
      have hcell := hwr.cell
      have hplt := hwr.lt
      have hne := Lib.hid hwr.ne
      have hfroz := hwr.froz
      have hm : (L2 ++ List.replicate k 0).length ≤ 99000008 := by rw [List.length_append, List.length_replicate]; omega
      have HE : Hid (L2 ++ List.replicate (k + 1) 0 = L2 ++ List.replicate k 0 ++ [0]) := by
        show _ = _
        rw [List.replicate_succ', List.append_assoc]
      have HL : Hid ((L2 ++ List.replicate (k + 1) 0).length = (L2 ++ List.replicate k 0).length + 1) := by
        show _ = _
        simp
        omega
      have HO := Lib.hid hwr.2.1
      have HW := Lib.hid hwr
      clear hwr
      generalize hL' : (L2 ++ List.replicate (k + 1) 0) = L' at *
      have HL' := Lib.hid hL'
      clear hL'
      generalize (L2 ++ List.replicate k 0) = L at *
      go_wp2_with
        ((at_builtin
          refine wpList_append_lies _ rfl (.tmp 29) (.tmp 30) 24 rfl 0 5 i0 _ 1 1 Try.underlying24 hi0 hz0 hz1 hz2 rfl (by omega) _ L.length _ rfl (HO.out.alloc _)
            ⟨wr.heap.size, 0, none⟩ 1 1 [.int .u8 0] rfl rfl (cell_one_new _ _ _) (by simp [Value.oneCell']) (by omega) (by unfold maxLen; omega) (by omega) (by simp) (wr.heap.size + 1) (by simp) ?_
          intro gg cap w1 hown1 hgrow hat hlt1
          have c1 : w1.cell? ⟨p, 0, none⟩ = some (.slice A L.length c) := (hgrow.cell_far ⟨p, 0, none⟩ (by simp; omega) (fun e => hne.out e.symm)).trans ((World.cell?_alloc_lt wr _ ⟨p, 0, none⟩ hplt).trans hcell)
          have f1 : w1.frozen? ⟨p, 0, none⟩ = false := (hgrow.frozen_far ⟨p, 0, none⟩ (by simp; omega) (fun e => hne.out e.symm)).trans ((World.frozen?_alloc_past _ _ _ hplt).trans hfroz)
          have hs := (HW.out.alloc _).step (L := L') (n := L.length + 1) HL.out (by rw [HE.out, bc_append]; exact hown1) hgrow (by rcases hat with hat | hat; exact .inl hat; exact .inr (by simp; omega))
          have HS := Lib.hid hs.1
          have HK2 := Lib.hid (HK.out.trans (((Keep.refl K wr).alloc HW.out.2.2.2.2 _).trans hs.2))
          clear hs hat hgrow hown1))
      go_roundw
      case rel => exact ⟨k + 1, by omega, by go_num, (by rw [HL'.out]; exact HS), HK2⟩
      case measure => simp [intOf]; omega
    · go_wp2
      go_end0
      have : k = q := by omega
      subst this
      refine ⟨rfl, ?_, HK.out⟩
      have := HW.out
      rw [← HL2.out, ← HL1.out, Hq.out, ← Hbn.out] at this
      unfold opq
      simpa [List.append_assoc] using this

/-! The nil Writer. -/
theorem app32_nil (w : World) (x n : Int) : Calls Try.prog 53 #[.pointer none, .int .u32 x, .int .i64 n] w fun e w' => e = .returned (.tuple #[]) ∧ w = w' := by
  go_enter Try.func53, Try.ntmps53
  go_wp2
  refine bodyPost_ret (results_none rfl _ _ _) rfl ?_
  exact ⟨rfl, rfl⟩
theorem u32w_nil (w : World) (x : Int) : Calls Try.prog 21 #[.pointer none, .int .u32 x] w fun e w' => e = .returned (.tuple #[]) ∧ w = w' := by
  go_enter Try.func21, Try.ntmps21
  go_wp2_with fail
  refine (app32_nil w x 4).mono ?_
  rintro e w' ⟨rfl, rfl⟩
  go_wp2
  go_end0
  exact ⟨rfl, rfl⟩
theorem opaquew_nil (w : World) (A : Option Addr) (n c : Nat) : Calls Try.prog 23 #[.pointer none, .slice A n c] w fun e w' => e = .returned (.tuple #[]) ∧ w = w' := by
  go_enter Try.func23, Try.ntmps23
  go_wp2
  refine bodyPost_ret (results_none rfl _ _ _) rfl ?_
  exact ⟨rfl, rfl⟩
theorem out_nil (w : World) : Calls Try.prog 24 #[.pointer none] w fun e w' => e = .returned (.slice none 0 0) ∧ w = w' := by
  go_enter Try.func24, Try.ntmps24
  go_wp2
  go_ret
  exact ⟨rfl, rfl⟩
end Go.Proofs.Ytbeahhijmgkfhaa
