/-
  Contract of Crash (layer 3).
-/
import Derived.Test.YtcieahfhpanogaaDPick
import Derived.Test.YtcieahfhpanogaaDStill
namespace Go.Proofs.Ytcieahfhpanogaa
open Go.RowKit Go.Shelf
attribute [local go_sem] Oper.semAt_some

/-- Of writes, those whose bits are set, of the first k. -/
def cho (L : List UInt8) (l : List (Int × List UInt8)) : Nat → List (Int × List UInt8)
  | 0 => []
  | k + 1 => cho L l k ++ (if dbit L k then l[k]?.toList else [])
theorem cho_picks (L : List UInt8) (l : List (Int × List UInt8)) : ∀ k, k ≤ l.length → (picks L l.length k).map (fun i => l[i.1]) = cho L l k
  | 0, _ => rfl
  | k + 1, h => by
    have ih := cho_picks L l k (by omega)
    by_cases hb : dbit L k = true
    · rw [picks_yes (by omega) hb, List.map_append, ih]
      simp [cho, hb, show k < l.length by omega]
    · have hb' : dbit L k = false := by simpa using hb
      rw [picks_no hb', ih]
      simp [cho, hb']
/-- Behind writes that were done. -/
def DS.doneL (s : DS) (l : List (Int × List UInt8)) : DS := { s with F := fun i => rd l i (s.F i) }
/-- Behind a crash. -/
def DS.crashed (s : DS) (L : List UInt8) : DS := { n := s.n, F := fun i => rd (cho L s.pend s.pend.length) i (s.F i), pend := [], left := -1, down := false, mp := s.mp }
theorem DS.doneL_step (s : DS) (l : List (Int × List UInt8)) (x : Int × List UInt8) : (fun j => if j = x.1 then x.2 else (s.doneL l).F j) = (s.doneL (l ++ [x])).F := by
  funext j
  show _ = rd (l ++ [x]) j (s.F j)
  rw [rd_snoc]
  by_cases e : j = x.1
  · rw [if_pos e, if_pos e.symm]
  · rw [if_neg e, if_neg (fun h => e h.symm)]
    rfl
theorem mem_map_get {l : List (Int × List UInt8)} (h : ∀ x ∈ l, x.2.length = 128) (pre : List (Fin l.length)) : ∀ x ∈ pre.map (fun i => l[i.1]), x.2.length = 128 := by
  intro x hx
  obtain ⟨i, _, rfl⟩ := List.mem_map.1 hx
  exact h _ (List.getElem_mem _)

/-- What Crash knows between two rounds. -/
def CrI (w : World) (p : Nat) (S : Nat → Prop) (s : DS) (A2 : Option Addr) (c2 : Nat) (pre : List (Fin s.pend.length)) (W : World) : Prop :=
  Dk W p S (s.doneL (pre.map fun i => s.pend[i.1])) ∧ Fr S w W ∧ W.heap[w.heap.size]? = some (.cells #[.pointer (some ⟨p, 0, none⟩)] 26 (0, 0)) ∧ W.heap[w.heap.size + 1]? = some (.cells #[.int .i64 (pre.length : Int)] 3 (0, 0)) ∧
    W.cell? ⟨p, 2, none⟩ = some (.slice A2 s.pend.length c2) ∧ (∀ k, S k → k < w.heap.size) ∧ w.heap.size + 4 ≤ W.heap.size

theorem CrI.keep {w : World} {p : Nat} {S : Nat → Prop} {s : DS} {A2 : Option Addr} {c2 : Nat} {pre : List (Fin s.pend.length)} {W W' : World} (h : CrI w p S s A2 c2 pre W) (hk : Keep (· < w.heap.size + 2) W W') : CrI w p S s A2 c2 pre W' := by
  obtain ⟨h1, h2, h3, h4, h5, h6, h7⟩ := h
  have hd : Fr (fun k => w.heap.size + 2 ≤ k) W W' := hk.mono fun k hk => by omega
  refine ⟨h1.keep hd (fun k hk => by have := h6 k hk; omega), Fr.trans h2 (S' := fun k => w.heap.size + 2 ≤ k) hd (fun k hk => .inr (by omega)), (hk.block _ (by omega)).trans h3, (hk.block _ (by omega)).trans h4, ?_, h6, Nat.le_trans h7 hk.size⟩
  exact (World.cell?_of_block (a := ⟨p, 2, none⟩) (hk.block p (by have := h6 p h1.2.2.1; show p < _; omega))).trans h5
theorem CrI.own {w : World} {p : Nat} {S : Nat → Prop} {s : DS} {A2 : Option Addr} {c2 B : Nat} (hB : w.heap.size + 2 ≤ B) : OwnFrom B (CrI w p S s A2 c2) := fun pre W W' row h hg hr =>
  h.keep ⟨hg.os, hg.tape, hg.output, hg.size, fun k hk => by
    refine hg.block k ?_ (fun e => by have := (hr k e.symm).1; omega)
    have h4 := (Array.getElem?_eq_some_iff.1 h.2.2.2.1).1
    omega⟩

theorem Dk.map_in {w : World} {p : Nat} {S : Nat → Prop} {s : DS} (h : Dk w p S s) {b : Nat} (hc : w.cell? ⟨p, 1, none⟩ = some (.map (some b))) : S b := by
  obtain ⟨_, _, _, b', A, c, hSb, _, _, _, hb⟩ := h
  rw [cell_of_row _ _ _ _ _ _ hb] at hc
  simp at hc
  exact hc ▸ hSb.1
theorem crash_start {w : World} {p : Nat} {S : Nat → Prop} {s : DS} {A2 : Option Addr} {c2 : Nat} (h : Dk w p S s) (hc : w.cell? ⟨p, 2, none⟩ = some (.slice A2 s.pend.length c2)) (A : Option Addr) (m c : Nat) :
    ∃ W0, W0 = ((((w.alloc (.cells #[.pointer (some ⟨p, 0, none⟩)] 26)).alloc (.cells #[.int .i64 0] 3)).alloc (.cells #[.slice A m c] 23)).alloc (.cells #[.int .i64 (s.pend.length : Int)] 3)) ∧
      CrI w p S s A2 c2 [] W0 ∧ Below w.heap.size w W0 ∧ W0.heap.size = w.heap.size + 4 ∧ W0.cell? ⟨w.heap.size + 1 + 1, 0, none⟩ = some (.slice A m c) ∧ W0.cell? ⟨w.heap.size + 1 + 1 + 1, 0, none⟩ = some (.int .i64 (s.pend.length : Int)) := by
  have hb : Below w.heap.size w ((((w.alloc (.cells #[.pointer (some ⟨p, 0, none⟩)] 26)).alloc (.cells #[.int .i64 0] 3)).alloc (.cells #[.slice A m c] 23)).alloc (.cells #[.int .i64 (s.pend.length : Int)] 3)) :=
    ((((Below.refl _ _).alloc (Nat.le_refl _) _).alloc (by simp) _).alloc (by simp; omega) _).alloc (by simp; omega) _
  refine ⟨_, rfl, ⟨h.below hb, Fr.of_below hb, ?_, ?_, (World.cell?_of_block (a := ⟨p, 2, none⟩) (hb.block p h.lt)).trans hc, h.2.1, by simp⟩, hb, by simp, ?_, ?_⟩
  · rw [Below.heap_alloc _ _ _ (by simp; omega), Below.heap_alloc _ _ _ (by simp; omega), Below.heap_alloc _ _ _ (by simp), heap_alloc_new]
  · rw [Below.heap_alloc _ _ _ (by simp), Below.heap_alloc _ _ _ (by simp)]
    have := heap_alloc_new (w.alloc (.cells #[.pointer (some ⟨p, 0, none⟩)] 26)) (.cells #[.int .i64 0] 3)
    rw [World.size_alloc] at this
    exact this
  · rw [World.cell?_alloc_lt _ _ _ (by simp)]
    have := heap_alloc_new ((w.alloc (.cells #[.pointer (some ⟨p, 0, none⟩)] 26)).alloc (.cells #[.int .i64 0] 3)) (.cells #[.slice A m c] 23)
    rw [World.size_alloc, World.size_alloc] at this
    rw [cell_of_row _ _ _ _ _ _ this]
    rfl
  · have := heap_alloc_new (((w.alloc (.cells #[.pointer (some ⟨p, 0, none⟩)] 26)).alloc (.cells #[.int .i64 0] 3)).alloc (.cells #[.slice A m c] 23)) (.cells #[.int .i64 (s.pend.length : Int)] 3)
    rw [World.size_alloc, World.size_alloc, World.size_alloc] at this
    rw [cell_of_row _ _ _ _ _ _ this]
    rfl

set_option maxRecDepth 100000 in
set_option maxHeartbeats 2000000 in
theorem crash_in (F : Fence) (n : Nat) (h20 : F.fn 15) (h33 : F.fn 34) (h36 : F.fn 44) (hro : F.round = none) (hn : 3 ≤ n) (p : Nat) (S : Nat → Prop) (s : DS) (A : Option Addr) (m c : Nat) (L : List UInt8) (w : World)
    (h : Dk w p S s) (hs : s.pend.length ≤ 1000000) (hL : BS w A m L) (hA : 0 < m → ∀ ad, A = some ad → ¬ S ad.block) (hm : m ≤ maxLen) :
    CallsIn F n Try.prog 15 #[.pointer (some ⟨p, 0, none⟩), .slice A m c] w fun e w' =>
      e = .returned (.int .i64 ((cho L s.pend s.pend.length).length : Int)) ∧ Dk w' p S (s.crashed L) ∧ Fr S w w' := by
  have h1 : 1 ≤ n := by omega
  have h1' : 1 ≤ n - 1 := by omega
  have HD := Lib.hid h
  have HL := Lib.hid hL
  have HA := Lib.hid hA
  have HM := Lib.hid hm
  have hplt := h.lt
  obtain ⟨b0, A2, c2, hcb, hmb, hc2, ho2, hst2⟩ := h.stored
  have HC2 := Lib.hid hc2
  clear h hL hA hm hcb hmb ho2 hst2
  refine callsIn_of_wp_marks Try.func15 rfl h20 ?_ hro
  simp only [Try.ntmps15, List.size_toArray, List.length_cons, List.length_nil, Nat.reduceAdd, Nat.reduceSub, Array.replicate_succ, Array.replicate_zero, List.push_toArray, List.append_toArray, List.nil_append, List.cons_append]
  gi_wp2_with (gi_at_call 34; refine (picked_in F (n - 1) h33 hro _ _ _ _ _).mono ?_; rintro e w' ⟨rfl, rfl⟩)
  obtain ⟨W0, hW0, hI0, hB0, hS0, hcp, hcn⟩ := crash_start HD.out HC2.out A m c
  rw [← hW0]
  have HB0 := Lib.hid hB0
  have HS0 := Lib.hid hS0
  have HI0 := Lib.hid hI0
  have HCP := Lib.hid hcp
  have HCN := Lib.hid hcn
  have HSlt : Hid (∀ k, S k → k < w.heap.size) := HD.out.2.1
  clear hW0 hB0 hS0 hI0 hcp hcn hc2
  refine wpIn_rangeFunc_ownG hro h1 (gf := 44) (lb := #[.pointer (some ⟨w.heap.size + 1 + 1 + 1, 0, none⟩), .pointer (some ⟨w.heap.size + 1 + 1, 0, none⟩)]) rfl h36 (enters_of Try.func44 (by kernel_rfl) rfl)
    (picked_stops F (n - 1) h36 hro (by omega) (w.heap.size + 1 + 1 + 1) (w.heap.size + 1 + 1) s.pend.length A m c L (fun k => k < w.heap.size + 4 ∧ ¬ S k ∧ k ≠ w.heap.size + 1) W0 HCN.out HCP.out (HL.out.below HB0.out) ⟨by omega, fun h => by have := HSlt.out _ h; omega, by omega⟩
      (fun hm0 ad ha => ⟨by have := HL.out.lt_block hm0 ad ha; omega, HA.out hm0 ad ha, by have := HL.out.lt_block hm0 ad ha; omega⟩) hs HM.out (by rw [HS0.out]; omega) (by rw [HS0.out]; omega))
    (fun h k => Keep.trans h k) ?hKb (Below.refl _ _) (fun _ => rfl) (CrI w p S s A2 c2) (fun _ _ _ => False) (CrI.own (by rw [HS0.out]; omega)) (fun _ _ _ _ _ hs _ _ => hs) HI0.out
    (fun x => { tmps := #[.pointer (some ⟨p, 0, none⟩), .slice A m c, .pointer (some ⟨w.heap.size, 0, none⟩), undef, .int .i64 0, .pointer (some ⟨w.heap.size + 1, 0, none⟩), .int .i64 (x.1 : Int), undef, .pointer (some ⟨p, 0, none⟩), .bool false, .slice A m c, .pointer (some ⟨p, 0, none⟩), .pointer (some ⟨p, 0, none⟩), .pointer (some ⟨p, 2, none⟩), .slice A2 s.pend.length c2, .int .i64 (s.pend.length : Int), .func (.func 44) #[] #[.pointer (some ⟨w.heap.size + 1 + 1 + 1, 0, none⟩), .pointer (some ⟨w.heap.size + 1 + 1, 0, none⟩)], .int .i64 (x.1 : Int), undef, undef, undef, undef, undef, undef, undef, undef, undef, undef, undef, undef, undef, undef, undef, undef, undef, undef, undef, undef, undef, undef, undef, undef, undef, undef, undef], defers := [] }) ?assign ?body ?done ?stop
  case hKb =>
    intro W l o o' hl hb ho hw'
    have hg := grownBy_putObj' W l o'
    exact ⟨hg.os, hg.tape, hg.output, hg.size, fun k hk => by
      have hlt := (Array.getElem?_eq_some_iff.1 hb).1
      rw [HS0.out] at hl
      exact hg.block k (by have := hk.1; omega) (fun e => by cases e; omega)⟩
  case assign =>
    intro l x W K hK
    gi_wp2
    exact hK
  case stop =>
    rintro D c pre W _ _ h _
    exact h.elim
  case body =>
    rintro l pre x W hI hlen
    have HI := Lib.hid hI
    have hxlt : x.1 < s.pend.length := x.2
    obtain ⟨hd, hfr, hb2, hb5, hc2, _, hW4⟩ := hI
    obtain ⟨b', A', c', h1d, hmd, h2d, hod, hstd⟩ := hd.stored
    obtain ⟨rfl, rfl⟩ : A2 = A' ∧ c2 = c' := by
      have := hc2.symm.trans h2d
      simp only [Option.some.injEq, Value.slice.injEq] at this
      exact ⟨this.1, this.2.2⟩
    obtain ⟨g, rfl, hcx1, hcx2, hcx3⟩ := pend_cell (l := s.pend) hd.1.1 hod x.1 hxlt
    have hbx : W.cell? ⟨w.heap.size, 0, none⟩ = some (.pointer (some ⟨p, 0, none⟩)) := by rw [cell_of_row _ _ _ _ _ _ hb2]; rfl
    have HALL := Lib.hid hcx3
    have HLB : Hid ((s.pend[x.1].2).length = 128) := hd.1.1 _ (List.getElem_mem hxlt)
    have HST := Lib.hid (DS.doneL_step s (pre.map fun i => s.pend[i.1]) s.pend[x.1])
    have HWS : Hid (w.heap.size + 4 ≤ W.heap.size) := hW4
    have HPR : Hid (pre.length + 1 ≤ 1000000) := by show _ ≤ _; omega
    have HLEN : Hid (((pre ++ [x]).map fun i => s.pend[i.1]) = (pre.map fun i => s.pend[i.1]) ++ [s.pend[x.1]]) := by show _ = _; simp
    clear hd hfr hb2 hb5 hW4 h1d hmd h2d hod hstd hcx1 hcx2 hcx3 hlen
    have HSZ : Hid ((Try.prog.info? 70).map (·.size) = some (Value.int .i64 s.pend[x.1].1 :: bc s.pend[x.1].2).length) := by show _ = _; rw [size_write, List.length_cons, bc_length, HLB.out]
    have HSA : Hid ((Try.prog.info? 70).map (·.size) = some (Value.int .i64 s.pend[x.1].1 :: bc s.pend[x.1].2).toArray.size) := by show _ = _; rw [List.size_toArray]; exact HSZ.out
    have HZA : Hid ((Value.agg (.int .i64 0 :: bc zs).toArray).cells.size = (Value.int .i64 s.pend[x.1].1 :: bc s.pend[x.1].2).toArray.size) := by show _ = _; rw [cells_zw]; simp [bc_length, HLB.out]
    gi_wp2_with (first
      | (refine Did.listIn rfl (by intro c h; cases h) (by intro c h; cases h) (did_load 70 (.tmp 23) rfl ⟨g, x.1 * 129, none⟩ rfl _ Try.underlying70 rfl (Value.int .i64 s.pend[x.1].1 :: bc s.pend[x.1].2) HSZ.out HALL.out) ?_)
      | (refine wpListIn_alloc_any rfl 70 rfl _ zero_write ?_; intro w2 hb2 hs2 hw2; have HB2 := Lib.hid hb2; have HS2 := Lib.hid hs2; have HW2 := Lib.hid hw2; clear hb2 hs2 hw2)
      | (refine wpListIn_store_any rfl 70 (.tmp 7) (.tmp 24) rfl W.heap.size (Value.int .i64 s.pend[x.1].1 :: bc s.pend[x.1].2).toArray rfl rfl 70 _ HB2.out HSA.out HZA.out (wr_all _ _) ?_
         intro w3 hb3 hs3 hw3
         have HB3 := Lib.hid hb3
         have HS3 := Lib.hid hs3
         have HW3 := Lib.hid hw3
         clear hb3 hs3 hw3))
    have HW : Hid (Below W.heap.size W w3) := HW2.out.trans (Keep.below (HW3.out.mono fun k' hk' => by omega))
    have HI3 : Hid (CrI w p S s (some ⟨g, 0, none⟩) c2 pre w3) := HI.out.keep ((Keep.of_below HW.out).mono fun k hk => by have := HWS.out; omega)
    obtain ⟨b3, A3, c3, h13, hm3, h23, ho3, hst3⟩ := HI3.out.1.stored
    have HM3 : Hid (IsMap w3.drew b3 zs (s.doneL (pre.map fun i => s.pend[i.1])).F) := hm3
    have HST3 := Lib.hid hst3
    have hcl : w3.cell? ⟨W.heap.size, 0, none⟩ = some (.int .i64 s.pend[x.1].1) := by rw [cell_of_row _ _ _ _ _ _ HB3.out]; rfl
    have hbx3 : w3.cell? ⟨w.heap.size, 0, none⟩ = some (.pointer (some ⟨p, 0, none⟩)) := by rw [cell_of_row _ _ _ _ _ _ HI3.out.2.2.1]; rfl
    have HSS : Hid ((Try.prog.info? 68).map (·.size) = some (bc s.pend[x.1].2).length) := by show _ = _; rw [size_sector, bc_length, HLB.out]
    have HNB : Hid (∀ j u, (bc s.pend[x.1].2)[j]? = some u → w3.drew.cell? ((⟨W.heap.size, 1, none⟩ : Addr).add j) = some u) := fun j u hu => by
      rw [add_plain]
      have := World.news_of_block HB3.out (j + 1) u (by simpa using hu)
      rw [add_plain] at this
      rwa [show 1 + j = 0 + (j + 1) by omega]
    have H23 := Lib.hid h23
    clear hm3 h23 ho3 hst3
    refine wpIn_region_still_one 8 _ (by kernel_rfl) (by kernel_rfl) rfl (by kernel_rfl) ?_
    simp only [List.take_succ_cons, List.take_zero]
    iterate 7 still_step
    refine wpStill_did rfl (did_load 68 (.tmp 31) rfl ⟨W.heap.size, 1, none⟩ rfl _ Try.underlying68 rfl (bc s.pend[x.1].2) HSS.out HNB.out) ?_
    refine wpStill_nil ?_
    go_frame
    refine wpListIn_update_any rfl HM3.out 54 3 68 (.tmp 28) (.tmp 30) (.tmp 32) rfl Try.underlying54 Try.underlying3 s.pend[x.1].1 s.pend[x.1].2 rfl rfl rfl ?_
    rw [HST.out]
    intro w4 hm4 hg4 hs4
    have hg4' : w3.grownBy w4 (some b3) := ⟨hg4.os, hg4.tape, hg4.output, hg4.size, hg4.block⟩
    obtain ⟨hd4, hf4, h14, h24⟩ := HST3.out w4 _ hg4' hm4 (fun i => rd_len _ (by rw [← HLEN.out]; exact mem_map_get HD.out.1.1 _) i _ (HD.out.1.2.1 i))
    have HSb : Hid (S b3) := HI3.out.1.map_in h13
    have HG4 := Lib.hid hg4'
    have HD4 := Lib.hid hd4
    have HF4 := Lib.hid hf4
    have H24 := Lib.hid h24
    have HK4 : Hid (Keep (fun k => k < w3.heap.size ∧ k ≠ b3) w3 w4) := ⟨hg4.os, hg4.tape, hg4.output, hg4.size, fun k hk => hg4.block k hk.1 (fun e => hk.2 (by simpa using e))⟩
    have HB5 : Hid (w4.heap[w.heap.size + 1]? = some (.cells #[.int .i64 (pre.length : Int)] 3 (0, 0))) :=
      (HK4.out.block _ ⟨by have := HW.out.size; have := HWS.out; omega, fun e => by have := HSlt.out _ HSb.out; omega⟩).trans HI3.out.2.2.2.1
    have HB2' : Hid (w4.heap[w.heap.size]? = some (.cells #[.pointer (some ⟨p, 0, none⟩)] 26 (0, 0))) :=
      (HK4.out.block _ ⟨by have := HW.out.size; have := HWS.out; omega, fun e => by have := HSlt.out _ HSb.out; omega⟩).trans HI3.out.2.2.1
    have hc5 : w4.cell? ⟨w.heap.size + 1, 0, none⟩ = some (.int .i64 (pre.length : Int)) := by rw [cell_of_row _ _ _ _ _ _ HB5.out]; rfl
    have hf5 : w4.frozen? ⟨w.heap.size + 1, 0, none⟩ = false := by simp [World.frozen?, HB5.out]
    have hpr := HPR.out
    clear hg4 hg4' hd4 hf4 h14 h24 hm4 hs4 hbx3 hcl hbx h13 HNB HSS HALL HSZ HSA HZA
    gi_wp2
    have hb3 : b3 < w.heap.size := HSlt.out _ HSb.out
    have hws := HWS.out
    have hk5 : Keep (fun k => k < W.heap.size ∧ k ≠ b3 ∧ k ≠ w.heap.size + 1) W (w4.setCell ⟨w.heap.size + 1, 0, none⟩ (.int .i64 ((pre.length : Int) + 1))) :=
      Keep.setCell (((Keep.of_below HW.out).mono fun k hk => hk.1).trans (HK4.out.mono fun k hk => ⟨Nat.lt_of_lt_of_le hk.1 HW.out.size, hk.2.1⟩)) (p := ⟨w.heap.size + 1, 0, none⟩) (fun h => h.2.2 rfl) _
    refine ⟨⟨hk5.size, fun k o hB hk ho => (hk5.block k ⟨(Array.getElem?_eq_some_iff.1 hk).1, by rw [HS0.out] at hB; omega, by rw [HS0.out] at hB; omega⟩).trans hk⟩, hk5.mono (fun k hk => ⟨by omega, fun e => hk.2.1 (e ▸ HSb.out), hk.2.2⟩), ?_⟩
    have hs1 : ∀ k, S k → k ≠ w.heap.size + 1 := fun k hk e => by have := HSlt.out k hk; omega
    have hf5' : Fr (fun k => k = w.heap.size + 1) w4 (w4.setCell ⟨w.heap.size + 1, 0, none⟩ (.int .i64 ((pre.length : Int) + 1))) := Keep.setCell (Fr.refl (fun k => k = w.heap.size + 1) w4) (p := ⟨w.heap.size + 1, 0, none⟩) (fun h => h.2 rfl) _
    refine ⟨?_, ?_, ?_, ?_, ?_, HSlt.out, Nat.le_trans hws hk5.size⟩
    · rw [HLEN.out]
      exact HD4.out.keep hf5' (fun k hk e => hs1 k hk e)
    · exact (HI3.out.2.1.trans HF4.out fun k hk => .inl hk).trans hf5' fun k hk => .inr (by omega)
    · exact (hf5'.block _ ⟨by have := (Array.getElem?_eq_some_iff.1 HB2'.out).1; omega, by omega⟩).trans HB2'.out
    · rw [setCell_eq_setRow _ _ _ _ _ _ _ HB5.out, setRow_heap _ _ _ _ _ _ HB5.out]
      simp
    · rw [World.cell?_of_block (a := ⟨p, 2, none⟩) (hf5'.block p ⟨HD4.out.lt, by omega⟩), H24.out]
      exact H23.out.symm.trans HI3.out.2.2.2.2.1
  case done =>
    rintro D ys W hD rfl hI hK
    obtain ⟨hd, hfr, hb2, hb5, _, _, hW4⟩ := hI
    rw [cho_picks L s.pend _ (Nat.le_refl _)] at hd
    have hlen : (picks L s.pend.length s.pend.length).length = (cho L s.pend s.pend.length).length := by rw [← cho_picks L s.pend _ (Nat.le_refl _), List.length_map]
    rw [hlen] at hb5
    have hbx : W.cell? ⟨w.heap.size, 0, none⟩ = some (.pointer (some ⟨p, 0, none⟩)) := by rw [cell_of_row _ _ _ _ _ _ hb2]; rfl
    have hpf : W.cell? ⟨w.heap.size + 1, 0, none⟩ = some (.int .i64 ((cho L s.pend s.pend.length).length : Int)) := by rw [cell_of_row _ _ _ _ _ _ hb5]; rfl
    obtain ⟨b', A', c', _, _, _, _, hp2, hp3, hp4⟩ := hd.cells
    have hf2 := hd.froz 2
    have hf3 := hd.froz 3
    have hf4 := hd.froz 4
    have n1 : ¬ w.heap.size = p := by omega
    have n2 : ¬ p = w.heap.size := by omega
    have n3 : ¬ w.heap.size + 1 = p := by omega
    have n4 : ¬ p = w.heap.size + 1 := by omega
    have c1 := hd.cleared
    have c2' := c1.1.put (s' := { n := s.n, F := (s.doneL (cho L s.pend s.pend.length)).F, pend := [], left := -1, down := s.down, mp := s.mp }) ⟨by simp, c1.1.1.2.1, c1.1.1.2.2.1, by simp, by simp⟩ rfl rfl rfl 3 (.int .i64 (-1)) (fun x y z => rfl)
    have c3' := c2'.1.put (s' := s.crashed L) ⟨by simp [DS.crashed], c1.1.1.2.1, c1.1.1.2.2.1, by simp [DS.crashed], by simp [DS.crashed]⟩ rfl rfl rfl 4 (.bool false) (fun x y z => rfl)
    have HD9 := Lib.hid c3'.1
    have HF9 : Hid (Fr S w (((W.setCell ⟨p, 2, none⟩ (.slice none 0 0)).setCell ⟨p, 3, none⟩ (.int .i64 (-1))).setCell ⟨p, 4, none⟩ (.bool false))) := ((hfr.trans c1.2 fun k hk => .inl hk).trans c2'.2 fun k hk => .inl hk).trans c3'.2 fun k hk => .inl hk
    have HK : Hid ((((W.setCell ⟨p, 2, none⟩ (.slice none 0 0)).setCell ⟨p, 3, none⟩ (.int .i64 (-1))).setCell ⟨p, 4, none⟩ (.bool false)).heap[D]? = some (.deferred (some []))) :=
      (KeepsOthers.setCell _ _ _).same D _ ((KeepsOthers.setCell _ _ _).same D _ ((KeepsOthers.setCell _ _ _).same D _ hK rfl) rfl) rfl
    have HDD : Hid (w.heap.size + 4 ≤ D) := by rw [HS0.out] at hD; exact hD
    clear hd hfr hb2 hb5 hW4 c1 c2' c3' hlen hK hD
    gi_wp2
    refine ⟨by simp, .inl ⟨_, _, rfl, run_takeDeferred HK.out, ?_⟩⟩
    refine ⟨_, results_tmp rfl _ _ _, rfl, ?_, ?_⟩
    · have hg := grownBy_putObj' (((W.setCell ⟨p, 2, none⟩ (.slice none 0 0)).setCell ⟨p, 3, none⟩ (.int .i64 (-1))).setCell ⟨p, 4, none⟩ (.bool false)) D (.deferred none)
      exact HD9.out.keep (S' := fun k => k = D) ⟨hg.os, hg.tape, hg.output, hg.size, fun k hk => hg.block k hk.1 (fun e => hk.2 (by simpa using e))⟩ (fun k hk e => by have := HSlt.out k hk; have := HDD.out; omega)
    · have hg := grownBy_putObj' (((W.setCell ⟨p, 2, none⟩ (.slice none 0 0)).setCell ⟨p, 3, none⟩ (.int .i64 (-1))).setCell ⟨p, 4, none⟩ (.bool false)) D (.deferred none)
      exact HF9.out.trans (S' := fun k => k = D) ⟨hg.os, hg.tape, hg.output, hg.size, fun k hk => hg.block k hk.1 (fun e => hk.2 (by simpa using e))⟩ (fun k hk => .inr (by have := HDD.out; omega))
end Go.Proofs.Ytcieahfhpanogaa
