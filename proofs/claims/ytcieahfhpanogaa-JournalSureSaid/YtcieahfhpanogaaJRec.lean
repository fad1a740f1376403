/-
  Contract of a journal's record.
-/
import Derived.Test.YtcieahfhpanogaaJNeat
import Derived.Laws.EntriesVeiled
namespace Go.Proofs.Ytcieahfhpanogaa
open Go.RowKit Go.Shelf
attribute [local go_sem] Oper.semAt_some

theorem build_run {P : Program} {o : Oper} {a : Act} (t : TypeId) (parts : Array (Nat × Operand)) (ho : o.op = .build t parts) (cells : Array Value) (hf : P.built t (parts.map fun (i, x) => (i, a.eval x)).toList = some cells) (w : World) : (execOp a.eval o).run P w = .ok (.value (.agg cells)) w := by
  unfold execOp
  simp only [ho, Sem.run_bind, run_build w t _ cells hf, Result.andThen_ok]
  rfl
theorem sectors_any (n p : Nat) (N : Int) (w : World) :
    CallsIn Fence.wide n Try.prog 43 #[.pointer (some ⟨p, 0, none⟩), .int .i64 N] w fun e w' =>
      e = .returned (.func (.func 55) #[] #[.pointer (some ⟨w.heap.size + 1, 0, none⟩), .pointer (some ⟨w.heap.size, 0, none⟩)]) ∧ w'.heap.size = w.heap.size + 2 ∧ w'.heap[w.heap.size]? = some (.cells #[.pointer (some ⟨p, 0, none⟩)] 30 (0, 0)) ∧ w'.heap[w.heap.size + 1]? = some (.cells #[.int .i64 N] 3 (0, 0)) ∧ Below w.heap.size w w' := by
  refine (sectors_in Fence.wide n trivial rfl p N w).mono ?_
  rintro e w' ⟨rfl, rfl⟩
  refine ⟨rfl, by simp, ?_, ?_, ((Below.refl _ _).alloc (Nat.le_refl _) _).alloc (by simp) _⟩
  · rw [Below.heap_alloc _ _ _ (by simp), heap_alloc_new]
  · have := heap_alloc_new (w.alloc (.cells #[.pointer (some ⟨p, 0, none⟩)] 30)) (.cells #[.int .i64 N] 3)
    rw [World.size_alloc] at this
    exact this
/-- Four new blocks. -/
theorem four_new (w : World) (o0 o1 o2 o3 : Obj) : ∃ W, W = (((w.alloc o0).alloc o1).alloc o2).alloc o3 ∧ W.heap.size = w.heap.size + 4 ∧ W.heap[w.heap.size]? = some o0 ∧ W.heap[w.heap.size + 1]? = some o1 ∧ W.heap[w.heap.size + 1 + 1]? = some o2 ∧ W.heap[w.heap.size + 1 + 1 + 1]? = some o3 ∧ Below w.heap.size w W := by
  refine ⟨_, rfl, by simp, ?_, ?_, ?_, ?_, (((((Below.refl _ _).alloc (Nat.le_refl _) _).alloc (by simp) _).alloc (by simp; omega) _).alloc (by simp; omega) _)⟩
  · rw [Below.heap_alloc _ _ _ (by simp; omega), Below.heap_alloc _ _ _ (by simp; omega), Below.heap_alloc _ _ _ (by simp), heap_alloc_new]
  · rw [Below.heap_alloc _ _ _ (by simp), Below.heap_alloc _ _ _ (by simp)]
    have := heap_alloc_new (w.alloc o0) o1
    rw [World.size_alloc] at this
    exact this
  · rw [Below.heap_alloc _ _ _ (by simp)]
    have := heap_alloc_new ((w.alloc o0).alloc o1) o2
    rw [World.size_alloc, World.size_alloc] at this
    exact this
  · have := heap_alloc_new (((w.alloc o0).alloc o1).alloc o2) o3
    rw [World.size_alloc, World.size_alloc, World.size_alloc] at this
    exact this

/-- What record knows between two rounds. -/
structure RcI (W0 : World) (p dp : Nat) (S D : Nat → Prop) (l : List (Int × List UInt8)) (x0 : DS × J.JS) {N : Nat} (pre : List (Fin N)) (W : World) : Prop where
  st : ∃ S' D', JD W p dp S' D' (recF l x0 pre).2 (recF l x0 pre).1 ∧ (∀ k, S' k → S k ∨ W0.heap.size ≤ k) ∧ (∀ k, D' k → D k ∨ W0.heap.size ≤ k) ∧ ∀ k, S' k ∨ D' k → k < W0.heap.size ∨ IsCells W k
  fr : Fr (fun k => S k ∨ D k) W0 W
theorem RcI.own {W0 : World} {p dp : Nat} {S D : Nat → Prop} {l : List (Int × List UInt8)} {x0 : DS × J.JS} {N : Nat} : OwnFrom W0.heap.size (RcI W0 p dp S D l x0 (N := N)) := fun pre W W' row h hg hr => by
  obtain ⟨S', D', h1, h2, h3, h4⟩ := h.st
  have hne : ∀ k, S' k ∨ D' k → some k ≠ row := fun k hk e => by
    obtain ⟨r1, o, r2, r3⟩ := hr k e.symm
    rcases h4 k hk with h5 | ⟨o', h5, h6⟩
    · omega
    · rw [r2] at h5
      cases h5
      rw [r3] at h6
      cases h6
  have hf : Fr (fun k => some k = row) W W' := ⟨hg.os, hg.tape, hg.output, hg.size, fun k hk => hg.block k hk.1 hk.2⟩
  have hlt := h1.lt
  refine ⟨⟨S', D', h1.keep hf (fun k hk e => hne k (.inl hk) e) (fun k hk e => hne k (.inr hk) e), h2, h3, fun k hk => (h4 k hk).imp id fun ⟨o, h5, h6⟩ => ⟨o, (hg.block k (hlt k hk) (hne k hk)).trans h5, h6⟩⟩, ?_⟩
  exact h.fr.trans hf fun k e => .inr (hr k e.symm).1
/-- A block that is neither the journal's nor the disk's is as it was. -/
theorem RcI.block {W0 : World} {p dp : Nat} {S D : Nat → Prop} {l : List (Int × List UInt8)} {x0 : DS × J.JS} {N : Nat} {pre : List (Fin N)} {W : World} (h : RcI W0 p dp S D l x0 pre W) {k : Nat} {o : Obj} (hk : W0.heap[k]? = some o) (hn : ¬ (S k ∨ D k)) : W.heap[k]? = some o :=
  (h.fr.block k ⟨(Array.getElem?_eq_some_iff.1 hk).1, hn⟩).trans hk
/-- A round's step. -/
theorem RcI.step {W0 : World} {p dp : Nat} {S D : Nat → Prop} {l : List (Int × List UInt8)} {x0 : DS × J.JS} {N : Nat} {pre : List (Fin N)} {x : Fin N} {W W1 W2 : World} {S' D' : Nat → Prop} (hmp : x0.1.mp < W0.heap.size) (hWs : W0.heap.size ≤ W.heap.size) (hfr : Fr (fun k => S k ∨ D k) W0 W) (h2 : ∀ k, S' k → S k ∨ W0.heap.size ≤ k) (h3 : ∀ k, D' k → D k ∨ W0.heap.size ≤ k)
    (h4 : ∀ k, S' k ∨ D' k → k < W0.heap.size ∨ IsCells W k) (hb : Below W.heap.size W W1) (hs : JStep p dp S' D' (recF l x0 (pre ++ [x])).2 (recF l x0 (pre ++ [x])).1 W1 W2) : KeepsFrom W0.heap.size W W2 ∧ RcI W0 p dp S D l x0 (pre ++ [x]) W2 ∧ Fr (fun k => S' k ∨ D' k) W W2 := by
  obtain ⟨S2, D2, k1, k2, k3, k4⟩ := hs
  obtain ⟨S3, D3, n1, n2, n3, n4⟩ := k1.neat
  have hf : Fr (fun k => S' k ∨ D' k) W W2 := (Fr.of_below hb).trans k2 fun _ h => .inl h
  have hmp2 : (recF l x0 (pre ++ [x])).1.mp = x0.1.mp := (recF_alike l (pre ++ [x]) x0).2.2
  refine ⟨⟨hf.size, fun k o hB hk ho => ?_⟩, ⟨⟨S3, D3, n1, fun k hk => ?_, fun k hk => ?_, fun k hk => (n4 k hk).imp (fun e => by rw [e, hmp2]; exact hmp) id⟩, ?_⟩, hf⟩
  · refine (hf.block k ⟨(Array.getElem?_eq_some_iff.1 hk).1, fun hk' => ?_⟩).trans hk
    rcases h4 k hk' with h5 | ⟨o', h5, h6⟩
    · omega
    · rw [hk] at h5
      cases h5
      rw [ho] at h6
      cases h6
  · rcases k3 k (n2 k hk) with h | h
    · exact h2 k h
    · exact .inr (by have := hb.size; omega)
  · rcases k4 k (n3 k hk) with h | h
    · exact h3 k h
    · exact .inr (by have := hb.size; omega)
  · exact hfr.trans hf fun k hk => hk.elim (fun h => (h2 k h).imp .inl id) fun h => (h3 k h).imp .inr id

/-- What a round keeps for the sectors. -/
theorem RcI.kp {W0 : World} {p dp : Nat} {S D : Nat → Prop} {l : List (Int × List UInt8)} {x0 : DS × J.JS} {N : Nat} {pre : List (Fin N)} {W W2 : World} {S1 D1 : Nat → Prop} {jx : J.JS} {dx : DS} (hk : JD W p dp S1 D1 jx dx) (ha : Alike x0.2 jx) (h : RcI W0 p dp S D l x0 pre W2) (hf : Fr (fun k => S1 k ∨ D1 k) W W2) {g : Nat} (hg : g < W.heap.size) (hn : ¬ (S1 g ∨ D1 g)) : KpJ p (fun k => k = g) W W2 := by
  obtain ⟨S', D', h1, _⟩ := h.st
  obtain ⟨_, c1, _, c4, _⟩ := h1.cell
  obtain ⟨_, e1, _, e4, _⟩ := hk.cell
  obtain ⟨a1, _⟩ := recF_alike l pre x0
  refine ⟨Keep.mono hf fun k hk => by rw [hk]; exact ⟨hg, hn⟩, ?_, ?_⟩
  · rw [c1, e1, a1.1, ha.1]
  · rw [c4, e4, a1.2.2.2.2.1, ha.2.2.2.2.1]

section
variable {w : World} {p dp : Nat} {S D : Nat → Prop} {j : J.JS} {d : DS}
set_option maxRecDepth 100000 in
set_option maxHeartbeats 8000000 in
theorem record_in (h : JD w p dp S D j d) (hl4 : 4 ≤ j.log) (hl : j.log ≤ 200) (hnb : j.nb ≤ 400) (hpl : j.place < j.log) (hsq : j.seq + 1 < 18446744073709551616) (hs : d.pend.length ≤ 900000) (X : Nat → Prop) (A : Option Addr) (n c : Nat) (l : List (Int × List UInt8)) (hw : WS w X A n l) (hX : ∀ k, X k → k < w.heap.size ∧ ¬ (S k ∨ D k)) (hn : n ≤ 100) (hok : ∀ x ∈ l, 0 ≤ x.1 ∧ x.1 < (j.nb : Int) ∧ x.2.length ≤ 96) :
    CallsIn Fence.wide 9 Try.prog 31 #[.pointer (some ⟨p, 0, none⟩), .slice A n c] w fun e w' =>
      e = .returned (.int .i64 (flushJ (recF l (d, j) (fins (n + 1) (n + 1))).1 (recF l (d, j) (fins (n + 1) (n + 1))).2).2.err) ∧
        JStep p dp S D (flushJ (recF l (d, j) (fins (n + 1) (n + 1))).1 (recF l (d, j) (fins (n + 1) (n + 1))).2).2 (flushJ (recF l (d, j) (fins (n + 1) (n + 1))).1 (recF l (d, j) (fins (n + 1) (n + 1))).2).1 w w' := by
  have HJ := Lib.hid h
  have HW := Lib.hid hw
  have HX := Lib.hid hX
  have HOK := Lib.hid hok
  have Hn : Hid (l.length = n) := hw.1
  clear h hw hX hok
  refine callsIn_of_wp_marks Try.func31 rfl trivial ?_ rfl
  simp only [Try.ntmps31, List.size_toArray, List.length_cons, List.length_nil, Nat.reduceAdd, Nat.reduceSub, Array.replicate_succ, Array.replicate_zero, List.push_toArray, List.append_toArray, List.nil_append, List.cons_append]
  gi_wp2_with (first
    | (refine ⟨trivial, ?_⟩; gi_at_call 36; refine (callsIn_wide.2 (writer_any _ p)).mono ?_; rintro e w' ⟨rfl, rfl⟩))
  obtain ⟨W1, hW1, hS1, hb0, hb1, hb2, hb3, hB1⟩ := four_new w (.cells #[.pointer (some ⟨p, 0, none⟩)] 30) (.cells #[.slice A n c] 35) (.cells #[.pointer (some ⟨p, 0, none⟩)] 30) (.cells #[.func (.func 45) #[] #[.pointer (some ⟨w.heap.size + 1 + 1, 0, none⟩)]] 72)
  rw [← hW1]
  have HS1 := Lib.hid hS1
  have HB0 := Lib.hid hb0
  have HB1 := Lib.hid hb1
  have HB2 := Lib.hid hb2
  have HB3 := Lib.hid hb3
  have HBW := Lib.hid hB1
  have c0 : W1.cell? ⟨w.heap.size, 0, none⟩ = some (.pointer (some ⟨p, 0, none⟩)) := by rw [cell_of_row _ _ _ _ _ _ hb0]; rfl
  have c1 : W1.cell? ⟨w.heap.size + 1, 0, none⟩ = some (.slice A n c) := by rw [cell_of_row _ _ _ _ _ _ hb1]; rfl
  clear hW1 hS1 hb0 hb1 hb2 hb3 hB1
  with_reducible refine (wideF_wide _).region 3 (by kernel_rfl) (by kernel_rfl) (by kernel_rfl) ?_
  simp only [List.take_succ_cons, List.take_zero, List.drop_succ_cons, List.drop_zero]
  iterate 2 still_step
  still_call (size_still A n c W1.drew (by omega))
  refine wpStill_nil ?_
  change wpListIn _ _ _ _ _ _ _ (World.drew _)
  clear c0 c1
  gi_wp2_with (first
    | (refine ⟨trivial, ?_⟩; gi_at_call 43; refine (sectors_any _ p _ _).mono ?_; rintro e W0 ⟨rfl, hs0, hb4, hb5, hB0⟩))
  have hs0' : W0.heap.size = w.heap.size + 6 := by rw [hs0]; show W1.heap.size + 2 = _; rw [HS1.out]
  have HS0 := Lib.hid hs0'
  have HB4 : Hid (W0.heap[W1.heap.size]? = some (.cells #[.pointer (some ⟨p, 0, none⟩)] 30 (0, 0))) := hb4
  have HB5 : Hid (W0.heap[W1.heap.size + 1]? = some (.cells #[.int .i64 ((n + 1 : Nat) : Int)] 3 (0, 0))) := hb5
  have HBL : Hid (Below W1.heap.size W1 W0) := (Below.refl _ _).drew.trans hB0
  have HBW0 : Hid (Below w.heap.size w W0) := HBW.out.trans (HBL.out.mono HBW.out.size)
  have HLT : Hid (∀ k, S k ∨ D k → k < w.heap.size) := HJ.out.lt
  have HJ0 := Lib.hid (HJ.out.below HBW0.out)
  have HWS0 : Hid (WS W0 X A n l) := HW.out.keepK ((Keep.of_below HBW0.out).mono fun k hk => (HX.out k hk).1)
  have HMP : Hid (d.mp < w.heap.size) := by
    obtain ⟨_, _, _, b, _, _, hb, _⟩ := HJ.out.dk
    exact hb.2 ▸ HJ.out.dk.2.1 b hb.1
  clear hs0 hb4 hb5 hB0 hs0'
  obtain ⟨_, q1, _, q4, _⟩ := HJ0.out.cell
  refine wpIn_rangeFunc_ownG rfl (by omega) (gf := 55) (lb := #[.pointer (some ⟨W1.heap.size + 1, 0, none⟩), .pointer (some ⟨W1.heap.size, 0, none⟩)]) rfl trivial (enters_of Try.func55 (by kernel_rfl) rfl)
    (sectors_stops (9 - 1) (W1.heap.size + 1) W1.heap.size p (n + 1) j.log j.place (fun k => k = W1.heap.size) W0 (by rw [cell_of_row _ _ _ _ _ _ HB5.out]; rfl) (by rw [cell_of_row _ _ _ _ _ _ HB4.out]; rfl) q1 q4 rfl (by omega) (by omega) (by omega) (by omega))
    (fun h k => KpJ.trans h k) ?hKb (Below.refl _ _) (fun _ => rfl) (RcI W0 p dp S D l (d, j)) (fun _ _ _ => False) RcI.own (fun _ _ _ _ _ hs _ _ => hs) ?h0
    (fun x => { tmps := #[.pointer (some ⟨p, 0, none⟩), .slice A n c, .pointer (some ⟨w.heap.size, 0, none⟩), .pointer (some ⟨w.heap.size + 1, 0, none⟩), .int .i64 0, .pointer (some ⟨w.heap.size + 1 + 1 + 1, 0, none⟩), .int .i64 (x.1 : Int), .int .i64 (secAt j.log j.place x.1), undef, .pointer (some ⟨p, 0, none⟩), .func (.func 45) #[] #[.pointer (some ⟨w.heap.size + 1 + 1, 0, none⟩)], .pointer (some ⟨p, 0, none⟩), .slice A n c, .int .i64 ((n : Int) + 1), .func (.func 55) #[] #[.pointer (some ⟨W1.heap.size + 1, 0, none⟩), .pointer (some ⟨W1.heap.size, 0, none⟩)], .int .i64 (x.1 : Int), .int .i64 (secAt j.log j.place x.1), undef, undef, undef, undef, undef, undef, undef, undef, undef, undef, undef, undef, undef, undef, undef, undef, undef, undef, undef, undef, undef, undef, undef, undef, undef, undef, undef, undef, undef, undef, undef, undef, undef, undef, undef, undef, undef, undef, undef], defers := [] }) ?assign ?body ?done ?stop
  case hKb =>
    intro W g o o' hg hb ho hw'
    have hgr := grownBy_putObj' W g o'
    have hplt : p < W0.heap.size := HJ0.out.plt
    have hglt := (Array.getElem?_eq_some_iff.1 hb).1
    have hS := HS1.out
    have hS0 := HS0.out
    refine ⟨⟨hgr.os, hgr.tape, hgr.output, hgr.size, fun k hk => hgr.block k (by omega) (fun e => by cases e; omega)⟩, ?_, ?_⟩
    · exact World.cell?_of_block (a := ⟨p, 1, none⟩) (hgr.block p (by omega) (fun e => by cases e; omega))
    · exact World.cell?_of_block (a := ⟨p, 4, none⟩) (hgr.block p (by omega) (fun e => by cases e; omega))
  case h0 =>
    obtain ⟨S3, D3, n1, n2, n3, n4⟩ := HJ0.out.neat
    refine ⟨⟨S3, D3, n1, fun k hk => .inl (n2 k hk), fun k hk => .inl (n3 k hk), fun k hk => .inl ?_⟩, Fr.refl _ _⟩
    have := HLT.out k (hk.imp (n2 k) (n3 k))
    have := HS0.out
    omega
  case assign =>
    intro l x W K hK
    gi_wp2
    exact hK
  case stop =>
    rintro D c pre W _ _ h _
    exact h.elim
  case body =>
    rintro lp pre x W hI hlen
    have HI := Lib.hid hI
    obtain ⟨S1, D1, k1, k2, k3, k4⟩ := hI.st
    obtain ⟨hal, hpe, hmp⟩ := recF_alike l pre (d, j)
    have HNX := Lib.hid (recF_snoc l pre (d, j) x)
    have HPE : Hid ((recF l (d, j) pre).1.pend.length ≤ 900000 + 101) := by have h1 := hlen; have h2 := hs; show _ ≤ _; dsimp only at hpe; omega
    clear hI hlen hpe
    have hS := HS0.out
    have hS1 := HS1.out
    have nB : ∀ k, w.heap.size ≤ k → ¬ (S k ∨ D k) := fun k hk h => by have := HLT.out k h; omega
    have HX0 : Hid (W.heap[w.heap.size]? = some (.cells #[.pointer (some ⟨p, 0, none⟩)] 30 (0, 0))) := HI.out.block ((HBL.out.block _ (by omega)).trans HB0.out) (nB _ (by omega))
    have HX1 : Hid (W.heap[w.heap.size + 1]? = some (.cells #[.slice A n c] 35 (0, 0))) := HI.out.block ((HBL.out.block _ (by omega)).trans HB1.out) (nB _ (by omega))
    have HX2 : Hid (W.heap[w.heap.size + 1 + 1]? = some (.cells #[.pointer (some ⟨p, 0, none⟩)] 30 (0, 0))) := HI.out.block ((HBL.out.block _ (by omega)).trans HB2.out) (nB _ (by omega))
    have HX3 : Hid (W.heap[w.heap.size + 1 + 1 + 1]? = some (.cells #[.func (.func 45) #[] #[.pointer (some ⟨w.heap.size + 1 + 1, 0, none⟩)]] 72 (0, 0))) := HI.out.block ((HBL.out.block _ (by omega)).trans HB3.out) (nB _ (by omega))
    have HX4 : Hid (W.heap[W1.heap.size]? = some (.cells #[.pointer (some ⟨p, 0, none⟩)] 30 (0, 0))) := HI.out.block HB4.out (nB _ (by omega))
    have HWS : Hid (WS W X A n l) := HWS0.out.fr HI.out.fr fun k hk => ⟨Nat.lt_of_lt_of_le (HX.out k hk).1 HBW0.out.size, (HX.out k hk).2⟩
    have HWsz : Hid (w.heap.size + 6 ≤ W.heap.size) := by have := HI.out.fr.size; show _ ≤ _; omega
    have HNB := Lib.hid nB
    clear nB hS hS1
    have HFR := Lib.hid HI.out.fr
    have HRS : Hid (∀ (W1' W2 : World), Below W.heap.size W W1' → JStep p dp S1 D1 (recS l (recF l (d, j) pre) x.1).2 (recS l (recF l (d, j) pre) x.1).1 W1' W2 → KeepsFrom W0.heap.size W W2 ∧ RcI W0 p dp S D l (d, j) (pre ++ [x]) W2 ∧ Fr (fun k => S1 k ∨ D1 k) W W2) := fun W1' W2 hb hs => by
      rw [← HNX.out] at hs
      exact RcI.step (by show d.mp < _; have := HMP.out; have := HS0.out; omega) HI.out.fr.size HI.out.fr k2 k3 k4 hb hs
    clear HI HNX k4
    generalize recF l (d, j) pre = y at *
    obtain ⟨dx, jx⟩ := y
    dsimp only at *
    have HK1 := Lib.hid k1
    have HK2 := Lib.hid k2
    have HK3 := Lib.hid k3
    have HAL := Lib.hid hal
    obtain ⟨_, _, q3, _, _⟩ := k1.cell
    have b0 : W.cell? ⟨w.heap.size, 0, none⟩ = some (.pointer (some ⟨p, 0, none⟩)) := by rw [cell_of_row _ _ _ _ _ _ HX0.out]; rfl
    have b1 : W.cell? ⟨w.heap.size + 1, 0, none⟩ = some (.slice A n c) := by rw [cell_of_row _ _ _ _ _ _ HX1.out]; rfl
    have HSQ : Hid (jx.seq + 1 < 18446744073709551616) := by show _ < _; rw [hal.2.2.2.1]; exact hsq
    have hsx := HSQ.out
    have HSS : Hid ((fun V : World => V.cell? ⟨w.heap.size, 0, none⟩ = some (.pointer (some ⟨p, 0, none⟩)) ∧ V.cell? ⟨w.heap.size + 1, 0, none⟩ = some (.slice A n c) ∧ V.cell? ⟨p, 3, none⟩ = some (.int .u64 (jx.seq : Int))) W.drew) := ⟨b0, b1, q3⟩
    clear k1 k2 k3 hal q1 q4 b0 b1 q3
    gi_wp2
    have hxn : x.1 < n + 1 := x.2
    have hwq : IntKind.u64.wrap ((jx.seq : Int) + 1) = (jx.seq : Int) + 1 := by rw [IntKind.wrap_u64]; omega
    with_reducible refine (wideF_round _ lp).regionH (S := fun V : World => V.cell? ⟨w.heap.size, 0, none⟩ = some (.pointer (some ⟨p, 0, none⟩)) ∧ V.cell? ⟨w.heap.size + 1, 0, none⟩ = some (.slice A n c) ∧ V.cell? ⟨p, 3, none⟩ = some (.int .u64 (jx.seq : Int))) (by kernel_rfl) (by kernel_rfl) ?_
    change wpAnyH _ _ _ _ _ 11 (Array.replicate 11 false) _ _
    refine wpAnyH_takeTo (i := 0) 17 (.int .i64 (x.1 : Int)) rfl rfl (by kernel_rfl) (by kernel_rfl) (by kernel_rfl) rfl (fun V hV => by obtain ⟨h0, h1, h2⟩ := hV; go_simp) HSS.out ?_
    refine wpAnyH_takeTo (i := 1) 18 (.slice A n c) rfl rfl (by kernel_rfl) (by kernel_rfl) (by kernel_rfl) rfl (fun V hV => by obtain ⟨h0, h1, h2⟩ := hV; go_simp) HSS.out ?_
    refine wpAnyH_takeTo (i := 2) 19 (.int .i64 (n : Int)) rfl rfl (by kernel_rfl) (by kernel_rfl) (by kernel_rfl) rfl (fun V hV => by obtain ⟨h0, h1, h2⟩ := hV; go_simp) HSS.out ?_
    refine wpAnyH_takeTo (i := 3) 20 (.pointer (some ⟨p, 0, none⟩)) rfl rfl (by kernel_rfl) (by kernel_rfl) (by kernel_rfl) rfl (fun V hV => by obtain ⟨h0, h1, h2⟩ := hV; go_simp) HSS.out ?_
    refine wpAnyH_takeTo (i := 4) 21 (.pointer (some ⟨p, 0, none⟩)) rfl rfl (by kernel_rfl) (by kernel_rfl) (by kernel_rfl) rfl (fun V hV => by obtain ⟨h0, h1, h2⟩ := hV; go_simp) HSS.out ?_
    refine wpAnyH_takeTo (i := 5) 22 (.pointer (some ⟨p, 3, none⟩)) rfl rfl (by kernel_rfl) (by kernel_rfl) (by kernel_rfl) rfl (fun V hV => by obtain ⟨h0, h1, h2⟩ := hV; go_simp) HSS.out ?_
    refine wpAnyH_takeTo (i := 6) 23 (.int .u64 (jx.seq : Int)) rfl rfl (by kernel_rfl) (by kernel_rfl) (by kernel_rfl) rfl (fun V hV => by obtain ⟨h0, h1, h2⟩ := hV; go_simp) HSS.out ?_
    refine wpAnyH_takeTo (i := 7) 24 (.int .u64 ((jx.seq : Int) + 1)) rfl rfl (by kernel_rfl) (by kernel_rfl) (by kernel_rfl) rfl (fun V hV => by obtain ⟨h0, h1, h2⟩ := hV; go_simp) HSS.out ?_
    refine wpAnyH_takeTo (i := 8) 25 (.agg (frc 3 x.1 n ((jx.seq : Int) + 1) 0 none 0 0)) rfl rfl (by kernel_rfl) (by kernel_rfl) (by kernel_rfl) rfl (fun V _ => build_run 76 _ rfl _ (by kernel_rfl) V) HSS.out ?_
    have HE1 : Hid (Below W.heap.size W (W.drew.alloc (.cells (Value.agg (frc 0 0 0 0 0 none 0 0)).cells 76))) := ((Below.refl _ _).drew.alloc (Nat.le_refl _) _)
    have HE2 : Hid ((W.drew.alloc (.cells (Value.agg (frc 0 0 0 0 0 none 0 0)).cells 76)).heap[W.heap.size]? = some (.cells (Value.agg (frc 0 0 0 0 0 none 0 0)).cells 76 (0, 0))) := heap_alloc_new W.drew _
    refine wpAnyH_all (rs := [9]) (by kernel_rfl) (by simp) fun i9 h9 => ?_
    obtain rfl : i9 = 9 := by simpa using h9
    refine (did_alloc 76 rfl _ zero_frame).op rfl rfl ⟨?sA, ?_⟩
    case sA =>
      obtain ⟨h0, h1, h2⟩ := HSS.out
      exact ⟨(HE1.out.cell (p := ⟨w.heap.size, 0, none⟩) (World.block_lt_of_cell? _ _ h0)).trans h0, (HE1.out.cell (p := ⟨w.heap.size + 1, 0, none⟩) (World.block_lt_of_cell? _ _ h1)).trans h1, (HE1.out.cell (p := ⟨p, 3, none⟩) (World.block_lt_of_cell? _ _ h2)).trans h2⟩
    generalize W.drew.alloc (.cells (Value.agg (frc 0 0 0 0 0 none 0 0)).cells 76) = w4 at *
    refine wpAnyH_all (rs := [10]) (by kernel_rfl) (by simp) fun i10 h10 => ?_
    obtain rfl : i10 = 10 := by simpa using h10
    have HE3 := Lib.hid (setRow_heap w4 W.heap.size _ (frc 3 x.1 n ((jx.seq : Int) + 1) 0 none 0 0) _ _ HE2.out)
    have HE4 : Hid (Below W.heap.size W (w4.setRow W.heap.size (frc 3 x.1 n ((jx.seq : Int) + 1) 0 none 0 0))) := HE1.out.trans (Keep.below ((setRow_keep W.heap.size _).mono fun k hk => by omega))
    refine Did.op (v := undef) (w' := w4.setRow W.heap.size (frc 3 x.1 n ((jx.seq : Int) + 1) 0 none 0 0)) rfl rfl ?dd ⟨?sB, ?_⟩
    case dd => exact did_store 76 (.tmp 8) (.tmp 25) rfl W.heap.size (frc 3 x.1 n ((jx.seq : Int) + 1) 0 none 0 0) (by kernel_rfl) (by kernel_rfl) 76 _ HE2.out size_frame rfl (frc_all _ _ _ _ _ _ _ _)
    case sB =>
      obtain ⟨h0, h1, h2⟩ := HSS.out
      exact ⟨(HE4.out.cell (p := ⟨w.heap.size, 0, none⟩) (World.block_lt_of_cell? _ _ h0)).trans h0, (HE4.out.cell (p := ⟨w.heap.size + 1, 0, none⟩) (World.block_lt_of_cell? _ _ h1)).trans h1, (HE4.out.cell (p := ⟨p, 3, none⟩) (World.block_lt_of_cell? _ _ h2)).trans h2⟩
    generalize w4.setRow W.heap.size (frc 3 x.1 n ((jx.seq : Int) + 1) 0 none 0 0) = w5 at *
    refine wpAnyH_done (by kernel_rfl) ?_ _
    clear HE1 HE2 hwq
    obtain ⟨h0, h1, h2⟩ := HSS.out
    have b1 : w5.cell? ⟨w.heap.size + 1, 0, none⟩ = some (.slice A n c) := (HE4.out.cell (p := ⟨w.heap.size + 1, 0, none⟩) (World.block_lt_of_cell? _ _ h1)).trans h1
    clear h0 h1 h2 HSS
    have hws := HWsz.out
    have HNS : Hid (∀ g, w.heap.size ≤ g → g < w.heap.size + 6 → ¬ (S1 g ∨ D1 g)) := fun g hg hg6 h => by
      rcases h with h | h
      · rcases HK2.out _ h with h | h
        · have := HLT.out _ (.inl h); omega
        · have := HS0.out; omega
      · rcases HK3.out _ h with h | h
        · have := HLT.out _ (.inr h); omega
        · have := HS0.out; omega
    have HNK : Hid (¬ (S1 W1.heap.size ∨ D1 W1.heap.size)) := HNS.out _ (by have := HS1.out; omega) (by have := HS1.out; omega)
    have b0 : w5.cell? ⟨w.heap.size, 0, none⟩ = some (.pointer (some ⟨p, 0, none⟩)) := by rw [cell_of_row _ _ _ _ _ _ ((HE4.out.block _ (by omega)).trans HX0.out)]; rfl
    have b3 : w5.cell? ⟨w.heap.size + 1 + 1 + 1, 0, none⟩ = some (.func (.func 45) #[] #[.pointer (some ⟨w.heap.size + 1 + 1, 0, none⟩)]) := by rw [cell_of_row _ _ _ _ _ _ ((HE4.out.block _ (by omega)).trans HX3.out)]; rfl
    have g0 : w5.cell? ⟨W.heap.size, 0, none⟩ = some (.int .i64 3) := by rw [cell_of_row _ _ _ _ _ _ HE3.out]; rfl
    have g4 : w5.cell? ⟨W.heap.size, 4, none⟩ = some (.int .u32 0) := by rw [cell_of_row _ _ _ _ _ _ HE3.out]; rfl
    have g5 : w5.cell? ⟨W.heap.size, 5, none⟩ = some (.slice none 0 0) := by rw [cell_of_row _ _ _ _ _ _ HE3.out]; rfl
    have z0 : w5.frozen? ⟨W.heap.size, 0, none⟩ = false := by simp [World.frozen?, HE3.out]
    have z4 : w5.frozen? ⟨W.heap.size, 4, none⟩ = false := by simp [World.frozen?, HE3.out]
    have z5 : w5.frozen? ⟨W.heap.size, 5, none⟩ = false := by simp [World.frozen?, HE3.out]
    have e0 : ¬ W.heap.size = w.heap.size := by omega
    have e1 : ¬ W.heap.size = w.heap.size + 1 := by omega
    have e3 : ¬ W.heap.size = w.heap.size + 1 + 1 + 1 := by omega
    by_cases hxl : x.1 < n
    · obtain ⟨b, o, y, hkl, rfl, -, r1, r2, r3, -, -⟩ := HWS.out.at x.1 hxl
      obtain ⟨o1, o2, o3⟩ := HOK.out _ (List.getElem_mem hkl)
      have hbl : b < W.heap.size := World.block_lt_of_cell? W _ r1
      have r1' : w5.cell? ⟨b, o + x.1 * 2, none⟩ = some (.int .i64 l[x.1].1) := (HE4.out.cell (p := ⟨b, o + x.1 * 2, none⟩) hbl).trans r1
      have r2' : w5.cell? ⟨b, o + x.1 * 2 + 1, none⟩ = some (.slice y.a y.n y.c) := (HE4.out.cell (p := ⟨b, o + x.1 * 2 + 1, none⟩) hbl).trans r2
      have HR3 : Hid (BS w5 y.a y.n l[x.1].2) := r3.below HE4.out
      have Hyn : Hid (y.n ≤ 96) := by show _ ≤ _; rw [← r3.1]; exact o3
      have HRC : Hid (recS l (dx, jx) x.1 = layJ dx jx (secAt jx.log jx.place x.1) (J.dataF (jx.seq + 1) l.length x.1 (l[x.1].1.toNat, l[x.1].2))) := by show _ = _; unfold recS; rw [dif_pos hkl]
      have e4 : ¬ W.heap.size = b := by omega
      clear r1 r2 r3 o3
      generalize l[x.1].1 = v at *
      generalize l[x.1].2 = body at *
      obtain ⟨at_, rfl⟩ := Int.eq_ofNat_of_zero_le o1
      have hcv : IntKind.u32.wrap (at_ : Int) = (at_ : Int) := by rw [IntKind.wrap_u32]; omega
      have HFV : Hid (fv (J.dataF (jx.seq + 1) l.length x.1 ((at_ : Int).toNat, body)) y.a y.n y.c = frc 2 x.1 n ((jx.seq : Int) + 1) at_ y.a y.n y.c) := by
        have h1 : (UInt8.ofNat x.1).toNat = x.1 := J.ofNat_toNat (by omega)
        have h2 : (UInt8.ofNat l.length).toNat = n := by rw [Hn.out]; exact J.ofNat_toNat (by omega)
        show frc _ ((UInt8.ofNat x.1).toNat : Int) ((UInt8.ofNat l.length).toNat : Int) _ _ _ _ _ = _
        rw [h1, h2]
        rfl
      have HB6 : Hid ((((w5.setCell ⟨W.heap.size, 0, none⟩ (.int .i64 2)).setCell ⟨W.heap.size, 4, none⟩ (.int .u32 (at_ : Int))).setCell ⟨W.heap.size, 5, none⟩ (.slice y.a y.n y.c)).heap[W.heap.size]? = some (.cells (fv (J.dataF (jx.seq + 1) l.length x.1 ((at_ : Int).toNat, body)) y.a y.n y.c) 76 (0, 0))) := by
        have h1 := setRow_heap w5 W.heap.size _ ((frc 3 x.1 n ((jx.seq : Int) + 1) 0 none 0 0).setIfInBounds 0 (.int .i64 2)) _ _ HE3.out
        rw [← setCell_eq_setRow w5 W.heap.size 0 _ _ _ (.int .i64 2) HE3.out] at h1
        have h2 := setRow_heap _ W.heap.size _ (((frc 3 x.1 n ((jx.seq : Int) + 1) 0 none 0 0).setIfInBounds 0 (.int .i64 2)).setIfInBounds 4 (.int .u32 (at_ : Int))) _ _ h1
        rw [← setCell_eq_setRow _ W.heap.size 4 _ _ _ (.int .u32 (at_ : Int)) h1] at h2
        have h3 := setRow_heap _ W.heap.size _ ((((frc 3 x.1 n ((jx.seq : Int) + 1) 0 none 0 0).setIfInBounds 0 (.int .i64 2)).setIfInBounds 4 (.int .u32 (at_ : Int))).setIfInBounds 5 (.slice y.a y.n y.c)) _ _ h2
        rw [← setCell_eq_setRow _ W.heap.size 5 _ _ _ (.slice y.a y.n y.c) h2] at h3
        show _ = _
        rw [h3, HFV.out]
        rfl
      have HNW6 : Hid (∀ j u, (fv (J.dataF (jx.seq + 1) l.length x.1 ((at_ : Int).toNat, body)) y.a y.n y.c).toList[j]? = some u → (((w5.setCell ⟨W.heap.size, 0, none⟩ (.int .i64 2)).setCell ⟨W.heap.size, 4, none⟩ (.int .u32 (at_ : Int))).setCell ⟨W.heap.size, 5, none⟩ (.slice y.a y.n y.c)).cell? ((⟨W.heap.size, 0, none⟩ : Addr).add j) = some u) := fun j u hu => World.news_of_block HB6.out j u (by simpa [fv, frc] using hu)
      have HBW6 : Hid (Below W.heap.size W (((w5.setCell ⟨W.heap.size, 0, none⟩ (.int .i64 2)).setCell ⟨W.heap.size, 4, none⟩ (.int .u32 (at_ : Int))).setCell ⟨W.heap.size, 5, none⟩ (.slice y.a y.n y.c))) :=
        ((HE4.out.setCell (p := ⟨W.heap.size, 0, none⟩) (Nat.le_refl _) _).setCell (p := ⟨W.heap.size, 4, none⟩) (Nat.le_refl _) _).setCell (p := ⟨W.heap.size, 5, none⟩) (Nat.le_refl _) _
      have HNBY : Hid (∀ o z, w5.cell? ⟨W.heap.size, o, none⟩ ≠ some (.int .u8 z)) := fun o z => by
        rw [cell_of_row _ _ _ _ _ _ HE3.out]
        match o with
        | 0 | 1 | 2 | 3 | 4 | 5 => simp [frc]
        | n + 6 => simp [frc]
      have HR6 : Hid (BS (((w5.setCell ⟨W.heap.size, 0, none⟩ (.int .i64 2)).setCell ⟨W.heap.size, 4, none⟩ (.int .u32 (at_ : Int))).setCell ⟨W.heap.size, 5, none⟩ (.slice y.a y.n y.c)) y.a y.n body) :=
        HR3.out.off HNBY.out fun k _ hk => by rw [Below.heap_setCell _ _ _ _ hk, Below.heap_setCell _ _ _ _ hk, Below.heap_setCell _ _ _ _ hk]
      have HDF : Hid ((J.dataF (jx.seq + 1) l.length x.1 ((at_ : Int).toNat, body)).ok) := J.dataF_ok HSQ.out (by show (at_ : Int).toNat < _; omega) (by show body.length ≤ 108; rw [HR3.out.1]; have := Hyn.out; omega)
      dsimp only [only]
      go_frame
      gi_wp2_with (first
        | (refine Did.listIn rfl (by intro c h; cases h) (by intro c h; cases h) (did_load 76 (.tmp 8) rfl ⟨W.heap.size, 0, none⟩ rfl _ Try.underlying76 rfl (fv (J.dataF (jx.seq + 1) l.length x.1 ((at_ : Int).toNat, body)) y.a y.n y.c).toList size_frame HNW6.out) ?_
           clear HNW6
           generalize ((w5.setCell ⟨W.heap.size, 0, none⟩ (.int .i64 2)).setCell ⟨W.heap.size, 4, none⟩ (.int .u32 (at_ : Int))).setCell ⟨W.heap.size, 5, none⟩ (.slice y.a y.n y.c) = w6 at *)
        | (refine ⟨trivial, ?_⟩
           gi_at_call 45
           refine (CallsIn.inRound lp (callsIn_wide.2 (layJ_any (HK1.out.below HBW6.out) (by have := HPE.out; omega) (secAt j.log j.place x.1) (J.dataF (jx.seq + 1) l.length x.1 ((at_ : Int).toNat, body)) HDF.out y.a y.n y.c HR6.out (w.heap.size + 1 + 1) (by rw [cell_of_row _ _ _ _ _ _ ((HBW6.out.block _ (by omega)).trans HX2.out)]; rfl) (HNS.out _ (by omega) (by omega))))).mono ?_
           rintro e w9 ⟨⟨v, rfl⟩, hst⟩
           have HST := Lib.hid hst
           clear hst))
      obtain ⟨h1, h2, h3⟩ := HRS.out w6 w9 HBW6.out (by rw [HRC.out, HAL.out.1, HAL.out.2.2.2.2.1]; exact HST.out)
      exact ⟨h1, RcI.kp HK1.out HAL.out h2 h3 (by have := HS1.out; omega) HNK.out, h2⟩
    · have hxe : x.1 = n := by omega
      have HRC : Hid (recS l (dx, jx) x.1 = layJ (flushJ dx jx).1 (flushJ dx jx).2 (secAt jx.log jx.place x.1) (J.endF (jx.seq + 1) l.length)) := by show _ = _; unfold recS; rw [dif_neg (by rw [Hn.out]; omega)]
      have HFV : Hid (fv (J.endF (jx.seq + 1) l.length) none 0 0 = frc 3 x.1 n ((jx.seq : Int) + 1) 0 none 0 0) := by
        have h2 : (UInt8.ofNat l.length).toNat = n := by rw [Hn.out]; exact J.ofNat_toNat (by omega)
        show frc _ ((UInt8.ofNat l.length).toNat : Int) ((UInt8.ofNat l.length).toNat : Int) _ _ _ _ _ = _
        rw [h2, hxe]
        rfl
      have hxl' : ¬ (x.1 : Int) < (n : Int) := by omega
      have HXE := Lib.hid hxe
      clear hxe hxl hxn
      have HK5 := Lib.hid (HK1.out.below HE4.out)
      have HG1 : Hid (∀ k, S1 k ∨ D1 k → k < W.heap.size) := HK1.out.lt
      have HG5 : Hid (W.heap.size < w5.heap.size) := (Array.getElem?_eq_some_iff.1 HE3.out).1
      have HTOK : Hid True := trivial
      dsimp only [only]
      go_frame
      gi_wp2_with (first
        | (refine ⟨trivial, ?_⟩
           gi_at_call 37
           have HT := HTOK
           refine (CallsIn.inRound lp (callsIn_wide.2 (flushJ_any HK5.out (by have := HPE.out; omega)))).mono ?_
           rintro e w7 ⟨⟨v, rfl⟩, hst⟩
           obtain ⟨S7, D7, m1, m2, m3, m4⟩ := hst
           have HM1 := Lib.hid m1
           have HM2 := Lib.hid m2
           have HM3 := Lib.hid m3
           have HM4 := Lib.hid m4
           have HE7 : Hid (w7.heap[W.heap.size]? = some (.cells (fv (J.endF (jx.seq + 1) l.length) none 0 0) 76 (0, 0))) := by
             show _ = _
             rw [HFV.out, m2.block W.heap.size ⟨HG5.out, fun h => by have := HG1.out _ h; omega⟩]
             exact HE3.out
           have HNW7 : Hid (∀ j u, (fv (J.endF (jx.seq + 1) l.length) none 0 0).toList[j]? = some u → w7.cell? ((⟨W.heap.size, 0, none⟩ : Addr).add j) = some u) := fun j u hu => World.news_of_block HE7.out j u (by simpa [fv, frc] using hu)
           have b3' : w7.cell? ⟨w.heap.size + 1 + 1 + 1, 0, none⟩ = some (.func (.func 45) #[] #[.pointer (some ⟨w.heap.size + 1 + 1, 0, none⟩)]) := by
             rw [cell_of_row _ _ _ _ _ _ ((m2.block _ ⟨by have := HG5.out; omega, HNS.out _ (by omega) (by omega)⟩).trans ((HE4.out.block _ (by omega)).trans HX3.out))]
             rfl
           clear m1 m2 m3 m4 HTOK HT)
        | (refine Did.listIn rfl (by intro c h; cases h) (by intro c h; cases h) (did_load 76 (.tmp 8) rfl ⟨W.heap.size, 0, none⟩ rfl _ Try.underlying76 rfl (fv (J.endF (jx.seq + 1) l.length) none 0 0).toList size_frame HNW7.out) ?_)
        | (refine ⟨trivial, ?_⟩
           gi_at_call 45
           refine (CallsIn.inRound lp (callsIn_wide.2 (layJ_any HM1.out (by have := HPE.out; have := (flushJ_alike dx jx).2; omega) (secAt j.log j.place x.1) (J.endF (jx.seq + 1) l.length) (J.endF_ok HSQ.out) none 0 0 BS.nil (w.heap.size + 1 + 1)
             (by rw [cell_of_row _ _ _ _ _ _ ((HM2.out.block _ ⟨by have := HG5.out; omega, HNS.out _ (by omega) (by omega)⟩).trans ((HE4.out.block _ (by omega)).trans HX2.out))]; rfl)
             (fun h => by
               have h6 := HG5.out
               rcases h with h | h
               · rcases HM3.out _ h with h | h
                 · exact HNS.out _ (by omega) (by omega) (.inl h)
                 · omega
               · rcases HM4.out _ h with h | h
                 · exact HNS.out _ (by omega) (by omega) (.inr h)
                 · omega)))).mono ?_
           rintro e w9 ⟨⟨v, rfl⟩, hst⟩
           have HST := Lib.hid hst
           clear hst))
      obtain ⟨h1, h2, h3⟩ := HRS.out w5 w9 HE4.out (by rw [HRC.out, HAL.out.1, HAL.out.2.2.2.2.1]; exact JStep.trans HM2.out HM3.out HM4.out HST.out)
      exact ⟨h1, RcI.kp HK1.out HAL.out h2 h3 (by have := HS1.out; omega) HNK.out, h2⟩
  case done =>
    rintro Dd ys W hDd rfl hI hK
    have HI := Lib.hid hI
    have HKD := Lib.hid hK
    obtain ⟨S1, D1, k1, k2, k3, k4⟩ := hI.st
    obtain ⟨hal, hpe, hmp⟩ := recF_alike l (fins (n + 1) (n + 1)) (d, j)
    have HPE : Hid ((recF l (d, j) (fins (n + 1) (n + 1))).1.pend.length ≤ 900000 + 101) := by rw [fins_len _ (Nat.le_refl _)] at hpe; show _ ≤ _; dsimp only at hpe; omega
    have HDN : Hid (¬ (S1 Dd ∨ D1 Dd)) := fun h => by
      rcases k4 Dd h with h5 | ⟨o, h5, h6⟩
      · omega
      · rw [hK] at h5
        cases h5
        cases h6
    have HDD := Lib.hid hDd
    have HK1 := Lib.hid k1
    have HK2 := Lib.hid k2
    have HK3 := Lib.hid k3
    have HX0 : Hid (W.heap[w.heap.size]? = some (.cells #[.pointer (some ⟨p, 0, none⟩)] 30 (0, 0))) := HI.out.block ((HBL.out.block _ (by have := HS1.out; omega)).trans HB0.out) (fun h => by have := HLT.out _ h; omega)
    have b0 : W.cell? ⟨w.heap.size, 0, none⟩ = some (.pointer (some ⟨p, 0, none⟩)) := by rw [cell_of_row _ _ _ _ _ _ HX0.out]; rfl
    have HNS : Hid (¬ (S1 w.heap.size ∨ D1 w.heap.size)) := fun h => by
      have h6 := HS0.out
      rcases h with h | h
      · rcases k2 _ h with h | h
        · have := HLT.out _ (.inl h); omega
        · omega
      · rcases k3 _ h with h | h
        · have := HLT.out _ (.inr h); omega
        · omega
    clear hI hK k1 k2 k3 k4 hal hpe hmp hDd q1 q4
    generalize hy : recF l (d, j) (fins (n + 1) (n + 1)) = y at HPE HK1
    have HY := Lib.hid hy
    clear hy
    gi_wp2_with (first
      | (refine ⟨trivial, ?_⟩
         gi_at_call 37
         refine (callsIn_wide.2 (flushJ_any HK1.out (by have := HPE.out; omega))).mono ?_
         rintro e w7 ⟨⟨v, rfl⟩, hst⟩
         obtain ⟨S7, D7, m1, m2, m3, m4⟩ := hst
         have HM1 := Lib.hid m1
         have HM2 := Lib.hid m2
         have HM3 := Lib.hid m3
         have HM4 := Lib.hid m4
         have b0' : w7.cell? ⟨w.heap.size, 0, none⟩ = some (.pointer (some ⟨p, 0, none⟩)) := by
           rw [cell_of_row _ _ _ _ _ _ ((m2.block _ ⟨(Array.getElem?_eq_some_iff.1 HX0.out).1, HNS.out⟩).trans HX0.out)]
           rfl
         obtain ⟨-, -, -, -, -, c6, -⟩ := m1.cell
         clear m1 m2 m3 m4 b0))
    have hDlt : Dd < W.heap.size := (Array.getElem?_eq_some_iff.1 HKD.out).1
    have HK7 : Hid (w7.heap[Dd]? = some (.deferred (some []))) := (HM2.out.block Dd ⟨hDlt, HDN.out⟩).trans HKD.out
    refine ⟨by simp, .inl ⟨_, _, rfl, run_takeDeferred HK7.out, ?_⟩⟩
    refine ⟨_, results_tmp rfl _ _ _, ?_⟩
    rw [HY.out]
    refine ⟨rfl, ?_⟩
    have hg := grownBy_putObj' w7 Dd (.deferred none)
    have hf7 : Fr (fun k => k = Dd) w7 (w7.putObj Dd (.deferred none)) := ⟨hg.os, hg.tape, hg.output, hg.size, fun k hk => hg.block k hk.1 (fun e => hk.2 (by simpa using e))⟩
    have hn7 : ¬ (S7 Dd ∨ D7 Dd) := fun h => by
      rcases h with h | h
      · rcases HM3.out _ h with h | h
        · exact HDN.out (.inl h)
        · omega
      · rcases HM4.out _ h with h | h
        · exact HDN.out (.inr h)
        · omega
    have hsz := HI.out.fr.size
    have hs0 := HS0.out
    have hdd := HDD.out
    refine ⟨S7, D7, HM1.out.keep hf7 (fun k hk e => hn7 (.inl (e ▸ hk))) (fun k hk e => hn7 (.inr (e ▸ hk))), ?_, fun k hk => ?_, fun k hk => ?_⟩
    · exact (((Fr.of_below (S := fun k => S k ∨ D k) HBW0.out).trans HI.out.fr fun k hk => .inl hk).trans HM2.out fun k hk => hk.elim (fun h => (HK2.out k h).imp .inl (fun h => by omega)) fun h => (HK3.out k h).imp .inr (fun h => by omega)).trans hf7 fun k hk => .inr (by omega)
    · rcases HM3.out k hk with h | h
      · exact (HK2.out k h).imp id (fun h => by omega)
      · exact .inr (by omega)
    · rcases HM4.out k hk with h | h
      · exact (HK3.out k h).imp id (fun h => by omega)
      · exact .inr (by omega)
end
end Go.Proofs.Ytcieahfhpanogaa
