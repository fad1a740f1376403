/-
  The document's answers for layer 3, continued: Flush.
-/
import Derived.Test.YthokobooekmegaaDRef3
import Derived.StillTailTactics
namespace Go.Proofs.Ythokobooekmegaa
open Go.RowKit

set_option maxRecDepth 100000 in
set_option maxHeartbeats 1000000 in
theorem flushR_no (AL AW : Option Addr) (cL cW : Nat) (s : DS) (w : World) (hr : refus s 0 ≠ 0) :
    Calls Try.prog 17 #[dv AL cL AW cW s] w fun e w' => e = .returned (.tuple #[dv AL cL AW cW s, .int .i64 (refus s 0)]) ∧ Below w.heap.size w w' := by
  have HU := Lib.hid (fun W => up_any AL AW cL cW s 0 W)
  unfold dv at *
  go_enter Try.func17, Try.ntmps17
  go_wp2_with fail
  refine (HU.out _).mono ?_
  rintro e w1 ⟨rfl, hw1⟩
  obtain ⟨h1, h2, h3⟩ := two_D hw1
  have H1 := Lib.hid h1
  have H2 := Lib.hid h2
  have H3 := Lib.hid h3
  clear h1 h2 h3 hw1
  go_wp2_with (first
    | (refine wpList_load_row rfl 31 (.tmp 1) rfl w.heap.size rfl 31 #[.slice AL s.n cL, .slice AW s.pend.length cW, .int .i64 (nrm s.left), .bool s.down] (0, 0) _ H1.out Try.underlying31 rfl size_D ?_)
    | (refine wpList_store_any rfl 31 (.tmp 2) (.tmp 10) rfl (w.heap.size + 1) #[.slice AL s.n cL, .slice AW s.pend.length cW, .int .i64 (nrm s.left), .bool s.down] rfl rfl 31 _ H2.out size_D rfl (all_D _ _ _ _ _ _ _ _) ?_
       intro w2 hb2 hs2 hw2
       have HB2 := Lib.hid hb2
       have HW2 := Lib.hid hw2
       clear hb2 hs2 hw2))
  exact bodyPost_ret (results_D rfl _ w2 (w.heap.size + 1) _ _ _ _ _ (by rfl) (by rfl) HB2.out) rfl ⟨rfl, H3.out.trans (Keep.below (HW2.out.mono fun k hk => by omega))⟩

set_option maxRecDepth 100000 in
set_option maxHeartbeats 1000000 in
theorem flushR_down (AL AW : Option Addr) (cL cW : Nat) (s : DS) (w : World) (hr : refus s 0 = 0) (hd : s.down = false) (hl : s.left ≤ 9223372036854775807) (hcd : s.count.down = true) :
    Calls Try.prog 17 #[dv AL cL AW cW s] w fun e w' => e = .returned (.tuple #[dv AL cL AW cW s.count, .int .i64 20]) ∧ Below w.heap.size w w' := by
  have HU := Lib.hid (fun W => up_any AL AW cL cW s 0 W)
  have HCN := Lib.hid (fun W => counts_any AL AW cL cW s W hd hl)
  have HCE : Hid (cerr s = 20) := by show _ = _; simp [cerr, hcd]
  have HR := Lib.hid hr
  clear hr hd hl hcd
  unfold dv at *
  go_enter Try.func17, Try.ntmps17
  go_wp2_with fail
  refine (HU.out _).mono ?_
  rintro e w1 ⟨rfl, hw1⟩
  rw [HR.out]
  obtain ⟨h1, h2, h3⟩ := two_D hw1
  have H1 := Lib.hid h1
  have H2 := Lib.hid h2
  have H3 := Lib.hid h3
  clear h1 h2 h3 hw1
  go_wp2_with (refine wpList_load_row rfl 31 (.tmp 1) rfl w.heap.size rfl 31 #[.slice AL s.n cL, .slice AW s.pend.length cW, .int .i64 (nrm s.left), .bool s.down] (0, 0) _ H1.out Try.underlying31 rfl size_D ?_)
  refine (HCN.out _).mono ?_
  rintro e w2 ⟨rfl, hw2⟩
  rw [HCE.out]
  have HW2 := Lib.hid hw2
  have H12 := Lib.hid ((hw2.block _ (Array.getElem?_eq_some_iff.1 H1.out).1).trans H1.out)
  have H22 := Lib.hid ((hw2.block _ (Array.getElem?_eq_some_iff.1 H2.out).1).trans H2.out)
  clear hw2
  go_wp2_with (first
    | (refine wpList_store_any rfl 31 (.tmp 1) (.tmp 15) rfl w.heap.size #[.slice AL s.count.n cL, .slice AW s.count.pend.length cW, .int .i64 (nrm s.count.left), .bool s.count.down] rfl rfl 31 _ H12.out size_D rfl (all_D _ _ _ _ _ _ _ _) ?_
       intro w3 hb3 hs3 hw3
       have HB3 := Lib.hid hb3
       have HW3 := Lib.hid hw3
       have H23 := Lib.hid ((hw3.block (w.heap.size + 1) (by omega)).trans H22.out)
       clear hb3 hs3 hw3)
    | (refine wpList_load_row rfl 31 (.tmp 1) rfl w.heap.size rfl 31 #[.slice AL s.count.n cL, .slice AW s.count.pend.length cW, .int .i64 (nrm s.count.left), .bool s.count.down] (0, 0) _ HB3.out Try.underlying31 rfl size_D ?_)
    | (refine wpList_store_any rfl 31 (.tmp 2) (.tmp 19) rfl (w.heap.size + 1) #[.slice AL s.count.n cL, .slice AW s.count.pend.length cW, .int .i64 (nrm s.count.left), .bool s.count.down] rfl rfl 31 _ H23.out size_D rfl (all_D _ _ _ _ _ _ _ _) ?_
       intro w4 hb4 hs4 hw4
       have HB4 := Lib.hid hb4
       have HW4 := Lib.hid hw4
       clear hb4 hs4 hw4))
  exact bodyPost_ret (results_D rfl _ w4 (w.heap.size + 1) _ _ _ _ _ (by rfl) (by rfl) HB4.out) rfl ⟨rfl, ((H3.out.trans (HW2.out.mono H3.out.size)).trans (Keep.below (HW3.out.mono fun k hk => by omega))).trans (Keep.below (HW4.out.mono fun k hk => by omega))⟩

/-- The block of a state by values, while its sectors change. -/
def Hold (w : World) (AW : Option Addr) (cW : Nat) (s : DS) (F : Int → List UInt8) (A : Option Addr) (c : Nat) (W : World) : Prop :=
  W.heap[w.heap.size]? = some (.cells #[.slice A s.n c, .slice AW s.pend.length cW, .int .i64 (nrm s.left), .bool s.down] 31 (0, 0)) ∧
  W.heap[w.heap.size + 1]? = some (.cells #[.slice none 0 0, .slice none 0 0, .int .i64 0, .bool false] 31 (0, 0)) ∧
  Below w.heap.size w W ∧ TS W A s.n (fun j => F (j : Int)) ∧ WS W AW cW s.pend ∧ (∀ ad, A = some ad → 0 < s.n → ad.block ≠ w.heap.size ∧ ad.block ≠ w.heap.size + 1) ∧ (∀ ad, AW = some ad → 0 < s.pend.length → ad.block < w.heap.size)
theorem Hold.drew {w W : World} {AW A : Option Addr} {cW c : Nat} {s : DS} {F : Int → List UInt8} (h : Hold w AW cW s F A c W) : Hold w AW cW s F A c W.drew := by
  obtain ⟨h1, h2, h3, h4, h5, h6, h7⟩ := h
  exact ⟨h1, h2, h3.drew, h4, h5, h6, h7⟩
theorem Hold.sectors {w W W2 : World} {AW A : Option Addr} {cW c g c' : Nat} {s : DS} {F G : Int → List UInt8} (h : Hold w AW cW s F A c W) (hb : Below W.heap.size W W2) (hg : W.heap.size ≤ g) (ht : TS W2 (some ⟨g, 0, none⟩) s.n (fun j => G (j : Int))) :
    Hold w AW cW s G (some ⟨g, 0, none⟩) c' (W2.setCell ⟨w.heap.size, 0, none⟩ (.slice (some ⟨g, 0, none⟩) s.n c')) := by
  obtain ⟨h1, h2, h3, h4, h5, h6, h7⟩ := h
  have l1 := (Array.getElem?_eq_some_iff.1 h1).1
  have l2 := (Array.getElem?_eq_some_iff.1 h2).1
  have hx1 := (hb.block _ l1).trans h1
  have hx2 := (hb.block _ l2).trans h2
  have hfr : Fr (fun k => k = w.heap.size) W2 (W2.setCell ⟨w.heap.size, 0, none⟩ (.slice (some ⟨g, 0, none⟩) s.n c')) := Keep.setCell (Fr.refl (fun k => k = w.heap.size) W2) (p := ⟨w.heap.size, 0, none⟩) (fun h => h.2 rfl) _
  refine ⟨?_, ?_, (h3.trans (hb.mono h3.size)).setCell (p := ⟨w.heap.size, 0, none⟩) (Nat.le_refl _) _, ?_, ?_, ?_, h7⟩
  · rw [setCell_eq_setRow _ _ _ _ _ _ _ hx1]
    exact setRow_heap _ _ _ _ _ _ hx1
  · exact (Below.heap_setCell W2 ⟨w.heap.size, 0, none⟩ _ (w.heap.size + 1) (by simp)).trans hx2
  · refine ht.fr hfr (fun ad e h => ?_)
    cases e
    have h' : g = w.heap.size := h
    omega
  · refine ⟨h5.1, fun hp => ?_⟩
    obtain ⟨b, e, hc⟩ := (h5.below hb).2 hp
    have hlt := h7 _ e hp
    have hk : ∀ j, (W2.setCell ⟨w.heap.size, 0, none⟩ (.slice (some ⟨g, 0, none⟩) s.n c')).cell? ⟨b, j, none⟩ = W2.cell? ⟨b, j, none⟩ := fun j => World.cell?_of_block (a := ⟨b, j, none⟩) (Below.heap_setCell W2 ⟨w.heap.size, 0, none⟩ _ b (by show b ≠ w.heap.size; have : b < w.heap.size := hlt; omega))
    exact ⟨b, e, fun j hj => ⟨(hk _).trans (hc j hj).1, (hk _).trans (hc j hj).2⟩⟩
  · intro ad e _
    cases e
    exact ⟨by show g ≠ _; omega, by show g ≠ _; omega⟩
theorem Hold.cells {w W : World} {AW A : Option Addr} {cW c : Nat} {s : DS} {F : Int → List UInt8} (h : Hold w AW cW s F A c W) :
    W.cell? ⟨w.heap.size, 0, none⟩ = some (.slice A s.n c) ∧ W.cell? ⟨w.heap.size, 1, none⟩ = some (.slice AW s.pend.length cW) ∧ W.frozen? ⟨w.heap.size, 0, none⟩ = false ∧ W.frozen? ⟨w.heap.size, 1, none⟩ = false :=
  ⟨by rw [cell_of_row _ _ _ _ _ _ h.1]; rfl, by rw [cell_of_row _ _ _ _ _ _ h.1]; rfl, by simp [World.frozen?, h.1], by simp [World.frozen?, h.1]⟩
/-- The step of the sectors, by numbers. -/
theorem done_nat {s : DS} {k : Nat} (hk : k < s.pend.length) {j : Nat} (hj : s.pend[k].1 = (j : Int)) : (fun x : Nat => if x = j then s.pend[k].2 else (s.done k).F (x : Int)) = fun x : Nat => (s.done (k + 1)).F (x : Int) := by
  funext x
  rw [← DS.done_step hk]
  show _ = if (x : Int) = s.pend[k].1 then _ else _
  rw [hj]
  by_cases e : x = j
  · rw [if_pos e, if_pos (by rw [e])]
  · rw [if_neg e, if_neg (by omega)]
end Go.Proofs.Ythokobooekmegaa
