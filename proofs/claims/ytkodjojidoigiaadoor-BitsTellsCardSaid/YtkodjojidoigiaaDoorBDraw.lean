/-
  Contract of bits' Draw (layer 6).
-/
import Derived.Test.YtkodjojidoigiaaDoorBFree
import Derived.Test.YtkodjojidoigiaaDoorBMem
import Derived.IntWalk
namespace Go.Proofs.YtkodjojidoigiaaDoor
open Go.RowKit Go.Shelf
attribute [local go_sem] Oper.semAt_some

/-- The cells of numbers. -/
def ic (l : List Nat) : List Value := l.map fun k : Nat => Value.int .i64 (k : Int)
theorem ic_length (l : List Nat) : (ic l).length = l.length := by simp [ic]
theorem ic_append (a b : List Nat) : ic (a ++ b) = ic a ++ ic b := by simp [ic]
/-- A slice of numbers. -/
def NS (w : World) (A : Option Addr) (n : Nat) (l : List Nat) : Prop :=
  l.length = n ∧ (0 < n → ∃ b o, A = some ⟨b, o, none⟩ ∧ ∀ j (hj : j < l.length), w.cell? ⟨b, o + j, none⟩ = some (.int .i64 (l[j] : Int)))
theorem info_int : (Tryd.prog.info? 3).map (fun i => (i.zero, i.size, i.bytes)) = some (some (.int .i64 0), 1, 8) := by kernel_rfl

theorem many_eq (l : List UInt8) (n : Int) : max n 0 - (Bt.cnt l n.toNat : Int) = ((Bt.fr l n.toNat).length : Int) := by
  have := Bt.fr_cnt l n.toNat
  omega

set_option maxRecDepth 100000 in
set_option maxHeartbeats 1000000 in
theorem draw_no (A : Option Addr) (m c : Nat) (l : List UInt8) (n many : Int) (w : World) (h : BS w A m l) (hn : n ≤ 1000000) (hm : m ≤ 1000000) (hno : many < 0 ∨ (Bt.fr l n.toNat).length < many) :
    Calls Tryd.prog 9 #[.slice A m c, .int .i64 n, .int .i64 many] w fun e w' => e = .returned (.tuple #[.slice none 0 0, .int .i64 (Bt.drwE l n many)]) ∧ Below w.heap.size w w' := by
  have HL := Lib.hid h
  have HLN : Hid (l.length = m) := h.1
  clear h
  by_cases h0 : many < 0
  · have HE : Hid (Bt.drwE l n many = 1) := by show _ = _; unfold Bt.drwE; rw [if_pos h0]
    clear hno
    go_enter Tryd.func9, Tryd.ntmps9
    go_wp2
    go_ret2
    rw [HE.out]
    exact ⟨rfl, (Below.refl _ _).alloc (Nat.le_refl _) _⟩
  · have hlt : ((Bt.fr l n.toNat).length : Int) < many := by omega
    have HE : Hid (Bt.drwE l n many = 66) := by show _ = _; unfold Bt.drwE; rw [if_neg h0, if_pos hlt]
    have hm := many_eq l n
    have hc := Bt.cnt_le l n.toNat
    have hw : IntKind.i64.wrap (max n 0 - (Bt.cnt l n.toNat : Int)) = ((Bt.fr l n.toNat).length : Int) := by rw [hm]; exact IntWalk.i64_in _ (by have := Bt.fr_len_le l n.toNat; omega)
    have hd : decide (((Bt.fr l n.toNat).length : Int) < many) = true := by simpa using hlt
    clear hm hc
    go_enter Tryd.func9, Tryd.ntmps9
    go_wp2_with fail
    go_quiet ((go_at_call 15; exact Calls.quiet_of (count_any A m c l n _ (HL.out.alloc _) hn (by omega))))
    go_wp2
    go_ret2
    rw [HE.out]
    exact ⟨rfl, below_drewN ((Below.refl _ _).alloc (Nat.le_refl _) _) _⟩

/-- What Draw knows between two rounds: what was drawn lies in the row that it made. -/
structure DrI (W0 : World) (g Bd many : Nat) (pre : List Nat) (W : World) : Prop where
  keep : Keep (fun k => k ≠ g ∧ k ≠ Bd ∧ k < W0.heap.size) W0 W
  row : W.ownsRow g 3 1 (.slice (some ⟨g, 0, none⟩) pre.length many) pre.length (ic pre)
  box : W.heap[Bd]? = some (.cells #[.slice (some ⟨g, 0, none⟩) pre.length many] 24 (0, 0))
  few : pre.length ≤ many
  glt : g < W0.heap.size
  blt : Bd < W0.heap.size
  ne : g ≠ Bd
theorem DrI.grown {W0 : World} {g Bd many : Nat} {pre : List Nat} {W W' : World} {row : Option Nat} (h : DrI W0 g Bd many pre W) (hg : W.grownBy W' row) (hr : ∀ r, row = some r → W0.heap.size ≤ r) : DrI W0 g Bd many pre W' :=
  have hs := h.keep.size
  ⟨h.keep.trans ⟨hg.os, hg.tape, hg.output, hg.size, fun k hk => hg.block k (by omega) (fun e => by have := hr k e.symm; omega)⟩,
    h.row.kept hg (.inr fun e => by have := hr g (by rw [← e]; rfl); have := h.glt; omega), (hg.block _ (by have := h.blt; omega) (fun e => by have := hr Bd e.symm; have := h.blt; omega)).trans h.box, h.few, h.glt, h.blt, h.ne⟩
theorem DrI.own {W0 : World} {g Bd many : Nat} : OwnFrom W0.heap.size (DrI W0 g Bd many) := fun _ _ _ _ h hg hr => h.grown hg fun r e => (hr r e).1

theorem NS.of_row {w : World} {g n c : Nat} {l : List Nat} (h : w.ownsRow g 3 1 (.slice (some ⟨g, 0, none⟩) n c) n (ic l)) : NS w (some ⟨g, 0, none⟩) n l := by
  have hl : l.length = n := by have := h.1; rw [ic_length] at this; omega
  refine ⟨hl, fun _ => ⟨g, 0, rfl, fun j hj => ?_⟩⟩
  have := h.cells (g := g) rfl j (.int .i64 (l[j] : Int)) (by simp [ic, hj])
  rwa [add_plain] at this
/-- At the end: the mark of the calls that wait is put away. -/
theorem DrI.end {w W0 W : World} {g Bd many D : Nat} {pre : List Nat} (h : DrI W0 g Bd many pre W) (hb : Below w.heap.size w W0) (hg : w.heap.size ≤ g) (hB : w.heap.size ≤ Bd) (hD : W0.heap.size ≤ D) (hp : pre.length = many) (o : Obj) :
    NS (W.putObj D o) (some ⟨g, 0, none⟩) many pre ∧ Below w.heap.size w (W.putObj D o) := by
  have h2 := h.grown (grownBy_putObj' W D o) (fun r e => by cases e; exact hD)
  have hr := h2.row
  rw [hp] at hr
  have hs := hb.size
  exact ⟨NS.of_row hr, hb.trans (Keep.below (h2.keep.mono fun k hk => ⟨by omega, by omega, by omega⟩))⟩

set_option maxRecDepth 100000 in
set_option maxHeartbeats 2000000 in
theorem draw_ok (A : Option Addr) (m c : Nat) (l : List UInt8) (n : Int) (many : Nat) (w : World) (h : BS w A m l) (hn : n ≤ 1000000) (hm : m ≤ 1000000) (hok : many ≤ (Bt.fr l n.toNat).length) :
    Calls Tryd.prog 9 #[.slice A m c, .int .i64 n, .int .i64 (many : Int)] w fun e w' => ∃ A' c', e = .returned (.tuple #[.slice A' many c', .int .i64 0]) ∧ NS w' A' many ((Bt.fr l n.toNat).take many) ∧ Below w.heap.size w w' := by
  have HL := Lib.hid h
  have HLN : Hid (l.length = m) := h.1
  clear h
  have hme := many_eq l n
  have hfl := Bt.fr_len_le l n.toNat
  obtain ⟨ii, hii, hiz, his, hib⟩ := info_parts info_int
  have hw : IntKind.i64.wrap (max n 0 - (Bt.cnt l n.toNat : Int)) = ((Bt.fr l n.toNat).length : Int) := by rw [hme]; exact IntWalk.i64_in _ (by omega)
  have hd : decide ((Bt.fr l n.toNat).length < many) = false := by simp; omega
  have hd3 : decide ((many : Int) < 0) = false := by simp
  have hmy : (many : Int) ≤ 2147483647 := by omega
  have hd2 : decide ((2147483647 : Int) < (many : Int)) = false := by simp; omega
  have HMY : Hid (many ≤ 1000000) := by show _ ≤ _; omega
  have HOK := Lib.hid hok
  clear hme hfl hmy hok
  refine (callsIn_wide (n := 9)).1 ?_
  refine callsIn_of_wp_marks Tryd.func9 rfl trivial ?_ rfl
  simp only [Tryd.ntmps9, List.size_toArray, List.length_cons, List.length_nil, Nat.reduceAdd, Nat.reduceSub, Array.replicate_succ, Array.replicate_zero, List.push_toArray, List.append_toArray, List.nil_append, List.cons_append]
  refine wpIn_wide.2 ?_
  go_wp2_with fail
  go_quiet ((go_at_call 15; exact Calls.quiet_of (count_any A m c l n _ (HL.out.alloc _) hn (by omega))))
  clear hw hd hd2 hd3
  have HW1 : Hid (Below w.heap.size w ((w.alloc (.cells #[.int .i64 (many : Int)] 3)).drewN nq)) := below_drewN ((Below.refl _ _).alloc (Nat.le_refl _) _) _
  have HB1 : Hid (((w.alloc (.cells #[.int .i64 (many : Int)] 3)).drewN nq).heap[w.heap.size]? = some (.cells #[.int .i64 (many : Int)] 3 (0, 0))) := heap_alloc_new w _
  have HZ1 : Hid (((w.alloc (.cells #[.int .i64 (many : Int)] 3)).drewN nq).heap.size = w.heap.size + 1) := by show _ = _; simp
  generalize (w.alloc (.cells #[.int .i64 (many : Int)] 3)).drewN nq = w1 at *
  have c1 : w1.cell? ⟨w.heap.size, 0, none⟩ = some (.int .i64 (many : Int)) := by rw [cell_of_row _ _ _ _ _ _ HB1.out]; rfl
  obtain ⟨w2, hr2, ho2, hg2⟩ := run_make_own (P := Tryd.prog) w1 w1.heap.size 24 3 ii (.int .i64 0) 1 Tryd.underlying24 hii hiz his .i64 .i64 many (by rw [hib]; have := HMY.out; omega) (by have := HMY.out; unfold maxLen; omega) (Nat.le_refl _)
  have hz2 := hg2.size
  have HO2 := Lib.hid ho2
  have HG2 := Lib.hid hg2
  clear ho2 hg2
  have hgl : w1.heap.size < w2.heap.size := (HO2.out.lt _ rfl).2
  go_wp2_with fail
  refine (free_any A m c n _).mono ?_
  rintro e W0 ⟨rfl, hW0⟩
  have HBW : Hid (Below w.heap.size w W0) := by
    show Below _ _ _
    rw [hW0]
    exact ((((HW1.out.grown HG2.out HW1.out.size (fun k e => by cases e)).alloc (by have := HW1.out.size; omega) _).alloc (by have := HW1.out.size; simp; omega) _).alloc (by have := HW1.out.size; simp; omega) _)
  have HZ0 : Hid (W0.heap.size = w2.heap.size + 3) := by show _ = _; rw [hW0]; simp
  have HI0 : Hid (DrI W0 w1.heap.size w2.heap.size many [] W0) := by
    refine ⟨Keep.refl _ _, ?_, ?_, Nat.zero_le _, by rw [HZ0.out]; omega, by rw [HZ0.out]; omega, by omega⟩
    · rw [hW0]; exact ((HO2.out.alloc _).alloc _).alloc _
    · rw [hW0, Below.heap_alloc _ _ _ (by simp; omega), Below.heap_alloc _ _ _ (by simp)]; exact heap_alloc_new w2 _
  have HP0 : Hid (W0.heap[w2.heap.size + 1]? = some (.cells #[.slice A m c] 22 (0, 0))) := by
    show _ = _
    rw [hW0, Below.heap_alloc _ _ _ (by simp)]
    have := heap_alloc_new (w2.alloc (.cells #[.slice (some ⟨w1.heap.size, 0, none⟩) 0 many] 24)) (.cells #[.slice A m c] 22)
    rwa [World.size_alloc] at this
  have HN0 : Hid (W0.heap[w2.heap.size + 2]? = some (.cells #[.int .i64 n] 3 (0, 0))) := by
    show _ = _
    rw [hW0]
    have := heap_alloc_new ((w2.alloc (.cells #[.slice (some ⟨w1.heap.size, 0, none⟩) 0 many] 24)).alloc (.cells #[.slice A m c] 22)) (.cells #[.int .i64 n] 3)
    rwa [World.size_alloc, World.size_alloc] at this
  have HM0 : Hid (W0.heap[w.heap.size]? = some (.cells #[.int .i64 (many : Int)] 3 (0, 0))) := by
    show _ = _
    have hz1 := HZ1.out
    rw [hW0, Below.heap_alloc _ _ _ (by simp; omega), Below.heap_alloc _ _ _ (by simp; omega), Below.heap_alloc _ _ _ (by omega), HG2.out.block _ (by omega) (by simp)]
    exact HB1.out
  clear hW0 hr2 hz2 c1
  go_wp2_with fail
  refine (wpIn_wide (n := 9)).1 ?_
  refine wpIn_rangeFunc_ownG rfl (by omega) (gf := 24) (lb := #[.pointer (some ⟨w2.heap.size + 2, 0, none⟩), .pointer (some ⟨w2.heap.size + 1, 0, none⟩)]) ?hg trivial (enters_of Tryd.func24 (by kernel_rfl) rfl)
    (free_stops (9 - 1) (by omega) (w2.heap.size + 2) (w2.heap.size + 1) n n.toNat rfl A m c l (fun k => k ≠ w1.heap.size ∧ k ≠ w2.heap.size ∧ k < W0.heap.size) W0 (by rw [cell_of_row _ _ _ _ _ _ HN0.out]; rfl) (by rw [cell_of_row _ _ _ _ _ _ HP0.out]; rfl) (HL.out.below HBW.out) ⟨by omega, by omega, by have := HZ0.out; omega⟩
      (fun hm0 ad ha => by have h1 := HL.out.lt_block hm0 ad ha; have := HZ0.out; have := HZ1.out; exact ⟨by omega, by omega, by omega⟩) (by omega) (by omega) (by have := HZ0.out; omega) (by have := HZ0.out; omega))
    (fun h k => Keep.trans h k) ?hKb (Below.refl _ _) (fun _ => rfl) (DrI W0 w1.heap.size w2.heap.size many) (fun c xs W => c = Code.exit 0 ∧ DrI W0 w1.heap.size w2.heap.size many xs.dropLast W ∧ xs.dropLast.length = many) DrI.own ?hIx HI0.out
    (fun x => { tmps := #[.slice A m c, .int .i64 n, .int .i64 (many : Int), undef, undef, .pointer (some ⟨w.heap.size, 0, none⟩), .slice none 0 0, .int .i64 0, .pointer (some ⟨w2.heap.size, 0, none⟩), .int .i64 (x : Int), .int .i64 (many : Int), .bool false, .int .i64 (many : Int), .int .i64 n, .int .i64 (max n 0), .slice A m c, .int .i64 n, .int .i64 (Bt.cnt l n.toNat : Int), .int .i64 ((Bt.fr l n.toNat).length : Int), .bool false, .bool false, .int .i64 (many : Int), .bool false, .bool false, .int .i64 (many : Int), .slice (some ⟨w1.heap.size, 0, none⟩) 0 many, .slice A m c, .int .i64 n, .func (.func 24) #[] #[.pointer (some ⟨w2.heap.size + 2, 0, none⟩), .pointer (some ⟨w2.heap.size + 1, 0, none⟩)], .int .i64 (x : Int), undef, undef, undef, undef, undef, undef, undef, undef, undef], defers := [] }) ?assign ?body ?done ?stop
  case hg => rfl
  case hKb =>
    intro W l o o' hl hb ho hw'
    have hg := grownBy_putObj' W l o'
    have hlt := (Array.getElem?_eq_some_iff.1 hb).1
    exact ⟨hg.os, hg.tape, hg.output, hg.size, fun k hk => hg.block k (by omega) (fun e => by cases e; omega)⟩
  case hIx =>
    intro c xs W W' row h hgr hr
    exact ⟨h.1, DrI.own _ _ _ _ h.2.1 hgr hr, h.2.2⟩
  case assign =>
    intro l x W K hK
    gi_wp2
    exact hK
  case body =>
    rintro lp pre x W hI hlen
    have HI := Lib.hid hI
    have hz0 := HZ0.out
    have hz1 := HZ1.out
    have HMW : Hid (W.heap[w.heap.size]? = some (.cells #[.int .i64 (many : Int)] 3 (0, 0))) := (hI.keep.block _ ⟨by omega, by omega, by omega⟩).trans HM0.out
    have cm : W.cell? ⟨w.heap.size, 0, none⟩ = some (.int .i64 (many : Int)) := by rw [cell_of_row _ _ _ _ _ _ HMW.out]; rfl
    have cb : W.cell? ⟨w2.heap.size, 0, none⟩ = some (.slice (some ⟨w1.heap.size, 0, none⟩) pre.length many) := by rw [cell_of_row _ _ _ _ _ _ hI.box]; rfl
    have hws := hI.keep.size
    clear hI
    by_cases hpm : pre.length = many
    · have hd : ((pre.length : Int) == (many : Int)) = true := by simp; omega
      have HPM := Lib.hid hpm
      clear hpm hz0 hz1
      gi_wp2
      exact ⟨KeepsFrom.refl _ _, rfl, by rw [List.dropLast_concat]; exact HI.out, by rw [List.dropLast_concat]; exact HPM.out⟩
    · have hlt : pre.length < many := by have := HI.out.few; omega
      have hd : ((pre.length : Int) == (many : Int)) = false := by simp; omega
      have cb1 : (W.alloc (.cells #[.int .i64 (x : Int)] 3)).cell? ⟨w2.heap.size, 0, none⟩ = some (.slice (some ⟨w1.heap.size, 0, none⟩) pre.length many) := (World.cell?_alloc_lt _ _ _ (by show w2.heap.size < _; omega)).trans cb
      have HROW := Lib.hid (HI.out.row.alloc (.cells #[.int .i64 (x : Int)] 3))
      have HNEW : Hid (∀ j u, [Value.int .i64 (x : Int)][j]? = some u → (W.alloc (.cells #[.int .i64 (x : Int)] 3)).cell? ((⟨W.heap.size, 0, none⟩ : Addr).add j) = some u) := cell_one_new W _ _
      have hbl : w2.heap.size < W.heap.size := by omega
      have hgW : w1.heap.size < W.heap.size := by omega
      clear hpm hz0 hz1
      gi_wp2_with (first
        | (gi_at_builtin; refine wpListIn_append_fits _ rfl _ _ 24 rfl w1.heap.size 3 ii 1 Tryd.underlying24 hii his w1.heap.size pre.length many (ic pre) rfl HROW.out ⟨W.heap.size, 0, none⟩ 1 1 [.int .i64 (x : Int)] rfl rfl HNEW.out (fun u hu => by obtain rfl := List.mem_singleton.1 hu; rfl) (by omega) ?_
           intro w4 ho4 hg4
           have HB4 : Hid (w4.heap[w2.heap.size]? = some (.cells #[.slice (some ⟨w1.heap.size, 0, none⟩) pre.length many] 24 (0, 0))) := (hg4.block _ (by simp; omega) (by simp; omega)).trans ((Below.heap_alloc _ _ _ (by omega)).trans HI.out.box)
           have cb4 : w4.cell? ⟨w2.heap.size, 0, none⟩ = some (.slice (some ⟨w1.heap.size, 0, none⟩) pre.length many) := by rw [cell_of_row _ _ _ _ _ _ HB4.out]; rfl
           have fb4 : w4.frozen? ⟨w2.heap.size, 0, none⟩ = false := by simp [World.frozen?, HB4.out]
           have HO4 := Lib.hid ho4
           have HG4 := Lib.hid hg4
           clear ho4 hg4))
      have hz0 := HZ0.out
      have hz1 := HZ1.out
      have hk4 : Keep (fun k => k ≠ w1.heap.size ∧ k ≠ w2.heap.size ∧ k < W.heap.size) W (w4.setCell ⟨w2.heap.size, 0, none⟩ (.slice (some ⟨w1.heap.size, 0, none⟩) (pre.length + 1) many)) :=
        Keep.setCell (((Keep.refl _ W).alloc (fun k hk => hk.2.2) _).trans ⟨HG4.out.os, HG4.out.tape, HG4.out.output, HG4.out.size, fun k hk => HG4.out.block k (by simp; omega) (fun e => hk.1 (by simpa using e))⟩) (p := ⟨w2.heap.size, 0, none⟩) (fun h => h.2.1 rfl) _
      refine ⟨⟨hk4.size, fun k o hB hk ho => (hk4.block k ⟨by omega, by omega, (Array.getElem?_eq_some_iff.1 hk).1⟩).trans hk⟩, hk4.mono (fun k hk => ⟨hk.1, hk.2.1, by omega⟩), ?_⟩
      refine ⟨HI.out.keep.trans (hk4.mono fun k hk => ⟨hk.1, hk.2.1, by omega⟩), ?_, ?_, by rw [List.length_append]; simp; omega, by omega, by omega, by omega⟩
      · have hr := HO4.out.kept (w' := w4.setCell ⟨w2.heap.size, 0, none⟩ (.slice (some ⟨w1.heap.size, 0, none⟩) (pre.length + 1) many)) (row := some w2.heap.size) ⟨rfl, rfl, rfl, by simp [World.setCell], fun k _ hk => Below.heap_setCell _ _ _ _ (fun e => hk (by rw [e]))⟩ (.inr (by simp [Value.ownBlock]; omega))
        have e1 : (pre ++ [x]).length = pre.length + 1 := by simp
        rw [e1, ic_append]
        exact hr
      · rw [setCell_eq_setRow _ _ _ _ _ _ _ HB4.out, setRow_heap _ _ _ _ _ _ HB4.out]
        simp
  case done =>
    rintro D ys W hD rfl hI hK
    have HI := Lib.hid hI
    have hmany : (Bt.fr l n.toNat).length = many := by have := hI.few; have := HOK.out; omega
    have cb : W.cell? ⟨w2.heap.size, 0, none⟩ = some (.slice (some ⟨w1.heap.size, 0, none⟩) (Bt.fr l n.toNat).length many) := by rw [cell_of_row _ _ _ _ _ _ hI.box]; rfl
    have HMA := Lib.hid hmany
    have HK := Lib.hid hK
    clear hI hmany hK
    go_wp2
    obtain ⟨h1, h2⟩ := DrI.end HI.out HBW.out (by have := HZ1.out; omega) (by have := HZ1.out; omega) hD HMA.out (.deferred none)
    refine ⟨by simp, .inl ⟨_, _, rfl, run_takeDeferred HK.out, ?_⟩⟩
    refine ⟨_, results_tmp2 rfl _ _ _, some ⟨w1.heap.size, 0, none⟩, many, ?_, ?_, h2⟩
    · rw [← HMA.out]; rfl
    · rw [← HMA.out, List.take_length]; rw [HMA.out]; exact h1
  case stop =>
    rintro D c pre W hD ⟨r, hr⟩ ⟨rfl, hI, hlen⟩ hK
    obtain ⟨r', hr'⟩ : ∃ r', Bt.fr l n.toNat = pre.dropLast ++ r' := by
      rcases List.eq_nil_or_concat pre with e | ⟨a, b, e⟩
      · subst e; exact ⟨r, hr⟩
      · subst e; exact ⟨[b] ++ r, by rw [hr]; simp⟩
    clear hr
    generalize pre.dropLast = q at *
    have HI := Lib.hid hI
    have cb : W.cell? ⟨w2.heap.size, 0, none⟩ = some (.slice (some ⟨w1.heap.size, 0, none⟩) q.length many) := by rw [cell_of_row _ _ _ _ _ _ hI.box]; rfl
    have HK := Lib.hid hK
    have HR := Lib.hid hr'
    have HLE := Lib.hid hlen
    clear hI hK hr' hlen
    refine wpIn_wide.2 ?_
    go_wp2
    obtain ⟨h1, h2⟩ := DrI.end HI.out HBW.out (by have := HZ1.out; omega) (by have := HZ1.out; omega) hD HLE.out (.deferred none)
    refine ⟨by simp, .inl ⟨_, _, rfl, run_takeDeferred HK.out, ?_⟩⟩
    refine ⟨_, results_tmp2 rfl _ _ _, some ⟨w1.heap.size, 0, none⟩, many, ?_, ?_, h2⟩
    · rw [← HLE.out]; rfl
    · rw [HR.out, ← HLE.out, List.take_left]
      rw [HLE.out]
      exact h1

theorem draw_any (A : Option Addr) (m c : Nat) (l : List UInt8) (n many : Int) (w : World) (h : BS w A m l) (hn : n ≤ 1000000) (hm : m ≤ 1000000) :
    Calls Tryd.prog 9 #[.slice A m c, .int .i64 n, .int .i64 many] w fun e w' => ∃ A' k c', e = .returned (.tuple #[.slice A' k c', .int .i64 (Bt.drwE l n many)]) ∧ NS w' A' k (Bt.drw l n many) ∧ Below w.heap.size w w' := by
  by_cases hno : many < 0 ∨ (Bt.fr l n.toNat).length < many
  · refine (draw_no A m c l n many w h hn hm hno).mono ?_
    rintro e w' ⟨rfl, hb⟩
    have e2 : Bt.drw l n many = [] := by
      unfold Bt.drw
      rcases hno with h1 | h1
      · rw [if_pos h1]
      · split
        · rfl
        · rfl
    exact ⟨none, 0, 0, rfl, by rw [e2]; exact ⟨rfl, fun h => absurd h (by omega)⟩, hb⟩
  · obtain ⟨k, rfl⟩ := Int.eq_ofNat_of_zero_le (show 0 ≤ many by omega)
    refine (draw_ok A m c l n k w h hn hm (by omega)).mono ?_
    rintro e w' ⟨A', c', rfl, h1, h2⟩
    have e1 : Bt.drwE l n (k : Int) = 0 := by unfold Bt.drwE; rw [if_neg (by omega), if_neg (by omega)]
    have e2 : Bt.drw l n (k : Int) = (Bt.fr l n.toNat).take k := by unfold Bt.drw; rw [if_neg (by omega), if_neg (by omega)]; simp
    exact ⟨A', k, c', by rw [e1], by rw [e2]; exact h1, h2⟩
end Go.Proofs.YtkodjojidoigiaaDoor
