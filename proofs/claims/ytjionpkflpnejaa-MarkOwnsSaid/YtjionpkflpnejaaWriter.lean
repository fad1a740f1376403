
/-
  Contracts of layer 1's Writer: what each call appends, and that it leaves all other memory alone.
-/
import Derived.Test.YtjionpkflpnejaaBase
import Derived.Test.YtjionpkflpnejaaProg
import Derived.Deep.RegionHeld3
import Derived.Deep.RegionLaw
import Derived.Deep.LoopGhost
import Derived.Deep.DeepMust
import Derived.KernelRfl
namespace Go.Proofs.Ytjionpkflpnejaa
open Go.RowKit

theorem info_u8 : (Try.prog.info? 5).map (fun i => (i.zero, i.size, i.bytes)) = some (some (.int .u8 0), 1, 1) := by kernel_rfl

/-- What is known of a Writer in block p whose field is the slice (A, l.length, c). -/
def WrAt (K : Nat → Prop) (w : World) (p : Nat) (l : List UInt8) (A : Option Addr) (c : Nat) : Prop :=
  w.heap[p]? = some (.cells #[.slice A l.length c] 86 (0, 0)) ∧ w.ownsRow 0 5 1 (.slice A l.length c) l.length (bc l) ∧
    ¬ K p ∧ (∀ k, (Value.slice A l.length c).ownBlock = some k → ¬ K k) ∧ ∀ k, K k → k < w.heap.size
/-- A Writer in block p has written l; K: blocks that it leaves alone. -/
def Wr (K : Nat → Prop) (w : World) (p : Nat) (l : List UInt8) : Prop := ∃ A c, WrAt K w p l A c

section
variable {K : Nat → Prop} {w : World} {p : Nat} {l : List UInt8} {A : Option Addr} {c : Nat}
theorem WrAt.cell (h : WrAt K w p l A c) : w.cell? ⟨p, 0, none⟩ = some (.slice A l.length c) := cell_of_row w p 0 _ _ (0, 0) h.1
theorem WrAt.froz (h : WrAt K w p l A c) : w.frozen? ⟨p, 0, none⟩ = false := by simp [World.frozen?, h.1]
theorem WrAt.lt (h : WrAt K w p l A c) : p < w.heap.size := World.block_lt_of_cell? w _ h.cell
theorem WrAt.ne (h : WrAt K w p l A c) : (Value.slice A l.length c).ownBlock ≠ some p := by
  intro he
  rcases h.2.1.2 with ⟨h1, _⟩ | ⟨g', cap', cur', h1, _, h2, _⟩
  · rw [h1] at he; cases he
  · rw [h1] at he
    have : g' = p := by simpa [Value.ownBlock] using he
    subst this
    rw [h.1] at h2
    injection h2 with h2
    injection h2 with _ h2 _
    cases h2
theorem WrAt.alloc (h : WrAt K w p l A c) (o : Obj) : WrAt K (w.alloc o) p l A c :=
  ⟨(Below.heap_alloc w o p h.lt).trans h.1, h.2.1.alloc o, h.2.2.1, h.2.2.2.1, fun k hk => by have := h.2.2.2.2 k hk; simp; omega⟩
theorem WrAt.drew (h : WrAt K w p l A c) : WrAt K w.drew p l A c := h
theorem Wr.alloc (h : Wr K w p l) (o : Obj) : Wr K (w.alloc o) p l := by obtain ⟨A, c, h⟩ := h; exact ⟨A, c, h.alloc o⟩
theorem Wr.ks (h : Wr K w p l) : ∀ k, K k → k < w.heap.size := by obtain ⟨_, _, h⟩ := h; exact h.2.2.2.2
/-- A new block may be added to what is left alone. -/
theorem Wr.add (h : Wr K w p l) (o : Obj) : Wr (fun k => K k ∨ k = w.heap.size) (w.alloc o) p l := by
  obtain ⟨A, c, h⟩ := h
  refine ⟨A, c, (h.alloc o).1, (h.alloc o).2.1, ?_, fun k hk => ?_, ?_⟩
  · rintro (hk | hk)
    · exact h.2.2.1 hk
    · have := h.lt; omega
  · rintro (h1 | h1)
    · exact h.2.2.2.1 k hk h1
    · have := (h.2.1.lt k hk).2; omega
  · rintro k (hk | rfl)
    · exact (h.alloc o).2.2.2.2 k hk
    · simp
/-- What an append and the store of its value make of a Writer. -/
theorem WrAt.stepA (h : WrAt K w p l A c) {w1 : World} {A' : Option Addr} {cap n : Nat} {L : List UInt8} (hn : L.length = n) (ho : w1.ownsRow 0 5 1 (.slice A' n cap) n (bc L))
    (hg : w.grownBy w1 (Value.slice A l.length c).ownBlock) (hat : ∀ g, (Value.slice A' n cap).ownBlock = some g → (Value.slice A l.length c).ownBlock = some g ∨ w.heap.size ≤ g) :
    Wr K (w1.setCell ⟨p, 0, none⟩ (.slice A' n cap)) p L ∧ Keep K w (w1.setCell ⟨p, 0, none⟩ (.slice A' n cap)) := by
  subst hn
  have hne := h.ne
  have hb : w1.heap[p]? = some (.cells #[.slice A l.length c] 86 (0, 0)) := (hg.block p h.lt (fun e => hne e.symm)).trans h.1
  have hKg : ∀ g, (Value.slice A' L.length cap).ownBlock = some g → ¬ K g := by
    intro g hgo
    rcases hat g hgo with hat | hat
    · exact h.2.2.2.1 g hat
    · intro hk; have := h.2.2.2.2 g hk; omega
  have hkeep : Keep K w (w1.setCell ⟨p, 0, none⟩ (.slice A' L.length cap)) :=
    ((Keep.refl K w).grown hg h.2.2.2.2 h.2.2.2.1).setCell (p := ⟨p, 0, none⟩) h.2.2.1 _
  refine ⟨⟨A', cap, ?_, ⟨ho.1, ?_⟩, h.2.2.1, hKg, ?_⟩, hkeep⟩
  · simp [World.setCell, Array.getElem?_modify, hb]
  · rcases ho.2 with h1 | ⟨g', cap', cur', h1, hz, h2, hr⟩
    · exact .inl h1
    · refine .inr ⟨g', cap', cur', h1, hz, ?_, hr⟩
      have hgp : g' ≠ p := by
        rintro rfl
        rw [hb] at h2
        injection h2 with h2
        injection h2 with _ h2 _
        cases h2
      exact (Below.heap_setCell w1 ⟨p, 0, none⟩ _ g' hgp).trans h2
  · intro k hk
    exact Nat.lt_of_lt_of_le (h.2.2.2.2 k hk) hkeep.size
theorem WrAt.step (h : WrAt K w p l A c) {w1 : World} {gg cap n : Nat} {L : List UInt8} (hn : L.length = n) (ho : w1.ownsRow 0 5 1 (.slice (some ⟨gg, 0, none⟩) n cap) n (bc L))
    (hg : w.grownBy w1 (Value.slice A l.length c).ownBlock) (hat : (Value.slice A l.length c).ownBlock = some gg ∨ w.heap.size ≤ gg) :
    Wr K (w1.setCell ⟨p, 0, none⟩ (.slice (some ⟨gg, 0, none⟩) n cap)) p L ∧ Keep K w (w1.setCell ⟨p, 0, none⟩ (.slice (some ⟨gg, 0, none⟩) n cap)) :=
  h.stepA hn ho hg (fun g hgo => by
    have : gg = g := by simpa [Value.ownBlock] using hgo
    exact this ▸ hat)
end

/-- A byte of a number, as the walk writes it. -/
theorem wrap_u8_shr (x : Int) (hx : 0 ≤ x) (n : Nat) (d : Int) (hd : d.toNat = n) : IntKind.u8.wrap (x / 2 ^ d.toNat) = ((UInt8.ofNat (x.toNat / 2 ^ n)).toNat : Int) := by
  obtain ⟨y, rfl⟩ := Int.eq_ofNat_of_zero_le hx
  rw [hd, IntKind.wrap_u8]
  simp

set_option maxRecDepth 100000 in
set_option maxHeartbeats 1000000 in
theorem app32 (K : Nat → Prop) (w : World) (p : Nat) (l : List UInt8) (x : Int) (hx0 : 0 ≤ x) (h : Wr K w p l) (hl : l.length ≤ 1000000) :
    Calls Try.prog 43 #[.pointer (some ⟨p, 0, none⟩), .int .u32 x, .int .i64 4] w fun e w' =>
      e = .returned (.tuple #[]) ∧ Wr K w' p (l ++ be 4 x.toNat) ∧ Keep K w w' := by
  obtain ⟨i0, hi0, hz0, hz1, hz2⟩ := info_parts info_u8
  have H := Lib.hid h
  clear h
  go_enter Try.func43, Try.ntmps43
  go_wp2
  go_loopw [10] (fun i wr => ∃ k : Nat, k ≤ 4 ∧ i = .int .i64 k ∧ Hid (Wr K wr p (l ++ (be 4 x.toNat).take k)) ∧ Hid (Keep K w wr)) (fun i _ => 4 - (intOf i).toNat)
  case atStart => exact ⟨0, by omega, rfl, by simpa [Hid] using H.out, Keep.refl _ _⟩
  case round =>
    obtain ⟨k, hk, rfl, HW, HK⟩ := hrel
    by_cases hlt : k < 4
    · obtain ⟨A, c, hwr⟩ := HW.out
      clear HW
      have hcell := hwr.cell
      have hplt := hwr.lt
      have hne := Lib.hid hwr.ne
      have hfroz := Lib.hid hwr.froz
      have hm : (l ++ (be 4 x.toNat).take k).length ≤ 1000004 := by rw [List.length_append, List.length_take, be_length]; omega
      have HL : Hid ((l ++ (be 4 x.toNat).take (k + 1)).length = (l ++ (be 4 x.toNat).take k).length + 1) := by
        show _ = _
        rw [List.length_append, List.length_append, List.length_take, List.length_take, be_length]; omega
      have HE : Hid (l ++ (be 4 x.toNat).take (k + 1) = l ++ (be 4 x.toNat).take k ++ [UInt8.ofNat (x.toNat / 2 ^ (8 * (3 - k)))]) := by
        show _ = _
        rw [be_take_snoc 4 x.toNat k hlt, List.append_assoc]
      have HO := Lib.hid hwr.2.1
      have HW := Lib.hid hwr
      clear hwr
      generalize hL' : (l ++ (be 4 x.toNat).take (k + 1)) = L' at *
      have HL' := Lib.hid hL'
      clear hL'
      generalize (l ++ (be 4 x.toNat).take k) = L at *
      go_wp2
      have a1 : IntKind.i64.wrap 3 = 3 := by rw [IntKind.wrap_i64]; omega
      have a2 : IntKind.i64.wrap (3 - (k : Int)) = 3 - (k : Int) := by rw [IntKind.wrap_i64]; omega
      have a3 : IntKind.i64.wrap (8 * (3 - (k : Int))) = 8 * (3 - (k : Int)) := by rw [IntKind.wrap_i64]; omega
      have a4 : (0 : Int) ≤ 8 * (3 - (k : Int)) := by omega
      have a5 : 8 * (3 - (k : Int)) ≤ 32 := by omega
      have a6 : Hid (IntKind.u8.wrap (x / 2 ^ (8 * (3 - (k : Int))).toNat) = ((UInt8.ofNat (x.toNat / 2 ^ (8 * (3 - k)))).toNat : Int)) := wrap_u8_shr x hx0 _ _ (by omega)
      go_region_law
        ((refine step_append_lies _ (by rfl) _ _ _ (by rfl) 0 5 i0 _ 1 1 Try.underlying27 hi0 hz0 hz1 hz2 rfl (by omega) _ L.length _ (by rfl) ((HO.out.alloc _).drew)
            ⟨wr.heap.size, 0, none⟩ 1 1 [_] (by rfl) (by rfl) (World.news_of_block (cs := #[_]) (t := 5) (fr := (0, 0)) (heap_alloc_new wr _)) (by simp [Value.oneCell'])
            (by omega) (by unfold maxLen; omega) (by omega) (by simp) (wr.heap.size + 1) (by simp) ?_
          intro gg cap w1 hown1 hgrow hat hlt1
          have c1 : w1.cell? ⟨p, 0, none⟩ = some (.slice A L.length c) := (hgrow.cell_far ⟨p, 0, none⟩ (by simp; omega) (fun e => hne.out e.symm)).trans ((World.cell?_alloc_lt wr _ ⟨p, 0, none⟩ hplt).trans hcell)
          have f1 : w1.frozen? ⟨p, 0, none⟩ = false := (hgrow.frozen_far ⟨p, 0, none⟩ (by simp; omega) (fun e => hne.out e.symm)).trans ((World.frozen?_alloc_past _ _ _ hplt).trans hfroz.out)))
      all_goals
        have hs := ((HW.out.alloc _).drew).step (L := L') (n := L.length + 1) HL.out (by rw [a6.out] at hown1; rw [HE.out, bc_append]; exact hown1) hgrow (by rcases hat with hat | hat; exact .inl hat; exact .inr (by simp; omega))
        have HS := Lib.hid hs.1
        have HK2 := Lib.hid (HK.out.trans (((Keep.refl K wr).alloc HW.out.2.2.2.2 _).drew.trans hs.2))
        clear hs hat hgrow hown1 a1 a2 a3 a4 a5 a6
        go_wp2
        go_roundw
        case rel => exact ⟨k + 1, by omega, by go_num, (by rw [HL'.out]; exact HS), HK2⟩
        case measure => simp [intOf]; omega
    · go_wp2
      go_end0
      have : k = 4 := by omega
      subst this
      refine ⟨rfl, ?_, HK.out⟩
      have := HW.out
      rwa [List.take_of_length_le (by rw [be_length]; omega)] at this

set_option maxRecDepth 100000 in
set_option maxHeartbeats 1000000 in
theorem app64 (K : Nat → Prop) (w : World) (p : Nat) (l : List UInt8) (x : Int) (hx0 : 0 ≤ x) (h : Wr K w p l) (hl : l.length ≤ 1000000) :
    Calls Try.prog 44 #[.pointer (some ⟨p, 0, none⟩), .int .u64 x, .int .i64 8] w fun e w' =>
      e = .returned (.tuple #[]) ∧ Wr K w' p (l ++ be 8 x.toNat) ∧ Keep K w w' := by
  obtain ⟨i0, hi0, hz0, hz1, hz2⟩ := info_parts info_u8
  have H := Lib.hid h
  clear h
  go_enter Try.func44, Try.ntmps44
  go_wp2
  go_loopw [10] (fun i wr => ∃ k : Nat, k ≤ 8 ∧ i = .int .i64 k ∧ Hid (Wr K wr p (l ++ (be 8 x.toNat).take k)) ∧ Hid (Keep K w wr)) (fun i _ => 8 - (intOf i).toNat)
  case atStart => exact ⟨0, by omega, rfl, by simpa [Hid] using H.out, Keep.refl _ _⟩
  case round =>
    obtain ⟨k, hk, rfl, HW, HK⟩ := hrel
    by_cases hlt : k < 8
    · obtain ⟨A, c, hwr⟩ := HW.out
      clear HW
      have hcell := hwr.cell
      have hplt := hwr.lt
      have hne := Lib.hid hwr.ne
      have hfroz := Lib.hid hwr.froz
      have hm : (l ++ (be 8 x.toNat).take k).length ≤ 1000008 := by rw [List.length_append, List.length_take, be_length]; omega
      have HL : Hid ((l ++ (be 8 x.toNat).take (k + 1)).length = (l ++ (be 8 x.toNat).take k).length + 1) := by
        show _ = _
        rw [List.length_append, List.length_append, List.length_take, List.length_take, be_length]; omega
      have HE : Hid (l ++ (be 8 x.toNat).take (k + 1) = l ++ (be 8 x.toNat).take k ++ [UInt8.ofNat (x.toNat / 2 ^ (8 * (7 - k)))]) := by
        show _ = _
        rw [be_take_snoc 8 x.toNat k hlt, List.append_assoc]
      have HO := Lib.hid hwr.2.1
      have HW := Lib.hid hwr
      clear hwr
      generalize hL' : (l ++ (be 8 x.toNat).take (k + 1)) = L' at *
      have HL' := Lib.hid hL'
      clear hL'
      generalize (l ++ (be 8 x.toNat).take k) = L at *
      go_wp2
      have a1 : IntKind.i64.wrap 7 = 7 := by rw [IntKind.wrap_i64]; omega
      have a2 : IntKind.i64.wrap (7 - (k : Int)) = 7 - (k : Int) := by rw [IntKind.wrap_i64]; omega
      have a3 : IntKind.i64.wrap (8 * (7 - (k : Int))) = 8 * (7 - (k : Int)) := by rw [IntKind.wrap_i64]; omega
      have a4 : (0 : Int) ≤ 8 * (7 - (k : Int)) := by omega
      have a5 : 8 * (7 - (k : Int)) ≤ 64 := by omega
      have a6 : Hid (IntKind.u8.wrap (x / 2 ^ (8 * (7 - (k : Int))).toNat) = ((UInt8.ofNat (x.toNat / 2 ^ (8 * (7 - k)))).toNat : Int)) := wrap_u8_shr x hx0 _ _ (by omega)
      go_region_law
        ((refine step_append_lies _ (by rfl) _ _ _ (by rfl) 0 5 i0 _ 1 1 Try.underlying27 hi0 hz0 hz1 hz2 rfl (by omega) _ L.length _ (by rfl) ((HO.out.alloc _).drew)
            ⟨wr.heap.size, 0, none⟩ 1 1 [_] (by rfl) (by rfl) (World.news_of_block (cs := #[_]) (t := 5) (fr := (0, 0)) (heap_alloc_new wr _)) (by simp [Value.oneCell'])
            (by omega) (by unfold maxLen; omega) (by omega) (by simp) (wr.heap.size + 1) (by simp) ?_
          intro gg cap w1 hown1 hgrow hat hlt1
          have c1 : w1.cell? ⟨p, 0, none⟩ = some (.slice A L.length c) := (hgrow.cell_far ⟨p, 0, none⟩ (by simp; omega) (fun e => hne.out e.symm)).trans ((World.cell?_alloc_lt wr _ ⟨p, 0, none⟩ hplt).trans hcell)
          have f1 : w1.frozen? ⟨p, 0, none⟩ = false := (hgrow.frozen_far ⟨p, 0, none⟩ (by simp; omega) (fun e => hne.out e.symm)).trans ((World.frozen?_alloc_past _ _ _ hplt).trans hfroz.out)))
      all_goals
        have hs := ((HW.out.alloc _).drew).step (L := L') (n := L.length + 1) HL.out (by rw [a6.out] at hown1; rw [HE.out, bc_append]; exact hown1) hgrow (by rcases hat with hat | hat; exact .inl hat; exact .inr (by simp; omega))
        have HS := Lib.hid hs.1
        have HK2 := Lib.hid (HK.out.trans (((Keep.refl K wr).alloc HW.out.2.2.2.2 _).drew.trans hs.2))
        clear hs hat hgrow hown1 a1 a2 a3 a4 a5 a6
        go_wp2
        go_roundw
        case rel => exact ⟨k + 1, by omega, by go_num, (by rw [HL'.out]; exact HS), HK2⟩
        case measure => simp [intOf]; omega
    · go_wp2
      go_end0
      have : k = 8 := by omega
      subst this
      refine ⟨rfl, ?_, HK.out⟩
      have := HW.out
      rwa [List.take_of_length_le (by rw [be_length]; omega)] at this
end Go.Proofs.Ytjionpkflpnejaa
