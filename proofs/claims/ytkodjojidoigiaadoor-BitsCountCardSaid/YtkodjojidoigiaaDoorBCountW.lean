/-
  BitsCount walked (layer 6).
-/
import Derived.Test.YtkodjojidoigiaaDoorBAwake
import Derived.IntWalk
import Derived.Laws.MakeOwn
namespace Go.Proofs.YtkodjojidoigiaaDoor
open Go.RowKit

theorem cnt_wit (L : List UInt8) (x : Nat) : ∀ N, Bt.cnt (Bt.wit L x true) N = Bt.cnt L N + if Bt.has L x = false ∧ x < N then 1 else 0
  | 0 => by simp [Bt.cnt_zero]
  | N + 1 => by
    rw [Bt.cnt_succ, cnt_wit L x N, Bt.cnt_succ, Bt.has_wit]
    by_cases e : N = x
    · subst e
      cases h : Bt.has L N <;> simp
    · rw [if_neg e]
      by_cases hx : x < N
      · have h2 : x < N + 1 := by omega
        simp only [hx, h2, and_true]
        omega
      · have h2 : ¬ x < N + 1 := by omega
        simp only [hx, h2, and_false, if_false]
        omega
theorem wf_u16 {n : Int} (h : (Lit.int .u16 n).wf = true) : 0 ≤ n ∧ n ≤ 65535 := by
  simp [Lit.wf, IntKind.min, IntKind.max, IntKind.bits, IntKind.signed] at h
  omega
/-- The cells of bools. -/
def boc (l : List Bool) : List Value := l.map Value.bool
theorem info_bool : (Tryd.prog.info? 4).map (fun i => (i.zero, i.size, i.bytes)) = some (some (.bool false), 1, 1) := by kernel_rfl
theorem made_bools (n : Nat) : madeCells (Value.bool false).cells (n * 1) = (boc (List.replicate n false)).toArray := by
  apply Array.ext'
  simp [madeCells, boc, Value.cells, Nat.mod_one]
  rw [List.eq_replicate_iff]
  simp
/-- make([]bool, n), the world under a name of its own. -/
theorem wpList_make_bools {o : Oper} {a : Act} {w : World} {ops : Array Oper} {rest : List Oper} {Q : Exit → Act → World → Prop} (hgd : o.guard = none) (l c : Operand) (ho : o.op = .makeSlice 40 l c) (n : Nat) (hl : a.eval l = .int .i64 (n : Int)) (hc : a.eval c = .int .i64 (n : Int)) (hn : n ≤ 1000000)
    (h : ∀ w', w'.heap[w.heap.size]? = some (.cells (boc (List.replicate n false)).toArray 4 (0, 0)) → w'.heap.size = w.heap.size + 1 → Below w.heap.size w w' → wpList Tryd.prog ops Q rest (a.put o.dst (.slice (some ⟨w.heap.size, 0, none⟩) n n)) w') : wpList Tryd.prog ops Q (o :: rest) a w := by
  obtain ⟨i, hi, hz, hs, hb⟩ := info_parts info_bool
  have hr := run_makeSlice (P := Tryd.prog) w 40 4 i (.bool false) Tryd.underlying40 hi hz .i64 .i64 (n : Int) (n : Int) (by omega) (by omega) (by rw [hs]; simp; omega) (by rw [hb]; omega) (by omega)
  rw [hs, Int.toNat_natCast, made_bools] at hr
  refine Did.list hgd (v := .slice (some ⟨w.heap.size, 0, none⟩) n n) (w' := w.alloc (.cells (boc (List.replicate n false)).toArray 4)) (.inl ?_) (h _ (heap_alloc_new w _) (by simp) ((Below.refl _ _).alloc (Nat.le_refl _) _))
  unfold execOp
  simp only [ho, hl, hc, Sem.run_bind, hr, Result.andThen_ok]
  rfl

/-- What BitsCount knows in its loop. -/
structure CW (w : World) (A : Option Addr) (n : Nat) (l : List UInt8) (g : Nat) (B : Option Addr) (m : Nat) (L : List UInt8) (W : World) : Prop where
  bel : Below w.heap.size w W
  one : BS W A n l
  two : BS W B m L
  box : W.heap[g]? = some (.cells (boc ((List.range 256).map (Bt.has L))).toArray 4 (0, 0))
  new : w.heap.size ≤ g
  len : L.length ≤ 32
theorem CW.cell {w W : World} {A B : Option Addr} {n m g : Nat} {l L : List UInt8} (h : CW w A n l g B m L W) {x : Nat} (hx : x < 256) : W.cell? ⟨g, x, none⟩ = some (.bool (Bt.has L x)) ∧ W.frozen? ⟨g, x, none⟩ = false := by
  refine ⟨?_, by simp [World.frozen?, h.box]⟩
  rw [cell_of_row _ _ _ _ _ _ h.box]
  simp [boc, hx]
/-- One more is taken: what With hands back, and the cell that is set then. -/
theorem CW.next {w W W' : World} {A B B' : Option Addr} {n m m' g : Nat} {l L : List UInt8} (h : CW w A n l g B m L W) (hb : Below W.heap.size W W') {x : Nat} (hx : x < 256) (h2 : BS W' B' m' (Bt.wit L x true)) :
    CW w A n l g B' m' (Bt.wit L x true) (W'.setCell ⟨g, x, none⟩ (.bool true)) := by
  have hg : g < W.heap.size := (Array.getElem?_eq_some_iff.1 h.box).1
  have hbox : W'.heap[g]? = some (.cells (boc ((List.range 256).map (Bt.has L))).toArray 4 (0, 0)) := (hb.block g hg).trans h.box
  have hk : Keep (· ≠ g) W' (W'.setCell ⟨g, x, none⟩ (.bool true)) := (Keep.refl _ _).setCell (p := ⟨g, x, none⟩) (fun h => h rfl) _
  have hq : ∀ o z, W'.cell? ⟨g, o, none⟩ ≠ some (.int .u8 z) := fun o z => by
    rw [cell_of_row _ _ _ _ _ _ hbox]
    simp [boc]
  refine ⟨?_, ?_, ?_, ?_, h.new, ?_⟩
  · exact (h.bel.trans (hb.mono h.bel.size)).trans (Keep.below (hk.mono fun k hk => by have := h.new; omega))
  · exact (h.one.below hb).off hq fun k _ hk' => hk.block k hk'
  · exact h2.off hq fun k _ hk' => hk.block k hk'
  · rw [setCell_eq_setRow _ _ _ _ _ _ _ hbox, setRow_heap _ _ _ _ _ _ hbox]
    congr 2
    apply Array.ext'
    simp only [Array.toList_setIfInBounds]
    apply List.ext_getElem
    · simp [boc]
    · intro i h1 h2
      simp only [boc, List.getElem_set, List.getElem_map, List.getElem_range, Bt.has_wit]
      by_cases e : x = i
      · subst e; simp
      · rw [if_neg e, if_neg (fun h => e h.symm)]
  · have := Bt.wit_length L x true
    have := h.len
    omega

set_option maxRecDepth 100000 in
set_option maxHeartbeats 2000000 in
theorem count_walk (A : Option Addr) (n c : Nat) (l : List UInt8) (N : Int) (w : World) (h : BS w A n l) (h0 : 0 ≤ N) (h1 : N ≤ 65535) :
    Calls Tryd.prog 6 #[.slice A n c, .int .u16 N] w fun e w' => e = .returned (.bool true) ∧ Below w.heap.size w w' := by
  obtain ⟨k, rfl⟩ := Int.eq_ofNat_of_zero_le h0
  have HL := Lib.hid h
  clear h
  by_cases hn : n ≤ 60
  · go_enter Tryd.func6, Tryd.ntmps6
    go_wp2_with fail
    refine (awake_any w).mono ?_
    rintro e w1 ⟨rfl, hb1⟩
    have HW1 := Lib.hid hb1
    have HL1 := Lib.hid (HL.out.below hb1)
    clear hb1
    go_wp2_with (refine wpList_make_bools rfl _ _ rfl 256 rfl rfl (by omega) ?_; intro w2 hw2 hz2 hb2; have HB2 := Lib.hid hw2; have HW2 := Lib.hid hb2; clear hw2 hz2 hb2)
    have HI : Hid (CW w A n l w1.heap.size none 0 [] w2) := by
      refine ⟨HW1.out.trans (HW2.out.mono HW1.out.size), HL1.out.below HW2.out, BS.nil, ?_, HW1.out.size, by simp⟩
      rw [HB2.out]
      congr 3
    go_loopw [9, 8, 6] (fun i y u wr => ∃ j : Nat, j ≤ n ∧ i = .int .i64 j ∧ ∃ B m c L, u = .slice B m c ∧ y = .int .i64 (Bt.cnt L k : Int) ∧ Hid (CW w A n l w1.heap.size B m L wr)) (fun i _ _ _ => n - (intOf i).toNat)
    case atStart => exact ⟨0, by omega, rfl, none, 0, 0, [], rfl, by rw [show Bt.cnt [] k = 0 by unfold Bt.cnt; simp [Bt.has]]; rfl, HI⟩
    case round =>
      clear HI
      obtain ⟨j, hj, rfl, B, m, cb, L, rfl, rfl, HI⟩ := hrel
      have hm : m ≤ 32 := by rw [← HI.out.two.1]; exact HI.out.len
      by_cases hlt : j < n
      · obtain ⟨b, o, rfl, hjl, hcell⟩ := HI.out.one.at hlt
        have hx := l[j].toNat_lt
        generalize l[j].toNat = x at *
        have hx' : x < 256 := hx
        have hcl := Bt.cnt_le L k
        go_wp2_with fail
        refine (with_any B m cb L (x : Int) true wr HI.out.two (by omega) (by omega)).mono ?_
        rintro e w3 ⟨B3, m3, c3, rfl, h3, hb3⟩
        rw [Bt.witI_nat] at h3
        obtain ⟨hgc, hgf⟩ := HI.out.cell hx'
        have hg : w1.heap.size < wr.heap.size := (Array.getElem?_eq_some_iff.1 HI.out.box).1
        have hcell3 : w3.cell? ⟨b, o + j, none⟩ = some (.int .u8 (x : Int)) := (hb3.cell (p := ⟨b, o + j, none⟩) (World.block_lt_of_cell? _ _ hcell)).trans hcell
        have hgc3 : w3.cell? ⟨w1.heap.size, x, none⟩ = some (.bool (Bt.has L x)) := (hb3.cell (p := ⟨w1.heap.size, x, none⟩) hg).trans hgc
        have hgf3 : w3.frozen? ⟨w1.heap.size, x, none⟩ = false := (hb3.frozen (p := ⟨w1.heap.size, x, none⟩) hg).trans hgf
        have HN := Lib.hid (HI.out.next hb3 hx' h3)
        have HC := Lib.hid (cnt_wit L x k)
        clear h3 hb3 hcell hgc hgf hg HI hx
        cases hh : Bt.has L x with
        | true =>
          rw [hh] at hgc3 HC
          clear hh
          go_wp2
          go_roundw
          case rel => exact ⟨j + 1, by omega, by go_num, B3, m3, c3, _, rfl, by rw [HC.out]; simp, HN⟩
          case measure => simp [intOf]; omega
        | false =>
          rw [hh] at hgc3 HC
          clear hh
          by_cases hxk : x < k
          · have hxk' : (x : Int) < (k : Int) := by omega
            have HCC : Hid (Bt.cnt (Bt.wit L x true) k = Bt.cnt L k + 1) := by show _ = _; rw [HC.out]; simp [hxk]
            clear hxk HC
            go_wp2
            go_roundw
            case rel => exact ⟨j + 1, by omega, by go_num, B3, m3, c3, _, rfl, by rw [HCC.out]; go_num, HN⟩
            case measure => simp [intOf]; omega
          · have hxk' : (k : Int) ≤ (x : Int) := by omega
            have HCC : Hid (Bt.cnt (Bt.wit L x true) k = Bt.cnt L k) := by show _ = _; rw [HC.out]; simp [hxk]
            clear hxk HC
            go_wp2
            go_roundw
            case rel => exact ⟨j + 1, by omega, by go_num, B3, m3, c3, _, rfl, by rw [HCC.out], HN⟩
            case measure => simp [intOf]; omega
      · have hjn : Hid (j = n) := by show _ = _; omega
        go_wp2_with fail
        refine (count_any B m cb L (k : Int) wr HI.out.two (by omega) (by omega)).mono ?_
        rintro e w3 ⟨rfl, d3, rfl⟩
        rw [Int.toNat_natCast]
        go_wp2_with fail
        refine (count_any none 0 0 [] (k : Int) _ BS.nil (by omega) (by omega)).mono ?_
        rintro e w4 ⟨rfl, d4, rfl⟩
        rw [Int.toNat_natCast, show Bt.cnt [] k = 0 by unfold Bt.cnt; simp [Bt.has]]
        go_wp2
        go_ret
        exact ⟨rfl, below_drewN HI.out.bel _⟩
  · have hn' : 60 < n := by omega
    go_enter Tryd.func6, Tryd.ntmps6
    go_wp2_with fail
    refine (awake_any w).mono ?_
    rintro e w1 ⟨rfl, hb1⟩
    have HW1 := Lib.hid hb1
    go_wp2
    go_ret
    exact ⟨rfl, HW1.out⟩
end Go.Proofs.YtkodjojidoigiaaDoor
