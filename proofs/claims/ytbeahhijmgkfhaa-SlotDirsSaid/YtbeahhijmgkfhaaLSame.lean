/-
  Contracts of package slot's Handle and Same (layer 11).
-/
import Derived.Test.YtbeahhijmgkfhaaLGet
import Derived.Test.YtbeahhijmgkfhaaShelf
namespace Go.Proofs.Ytbeahhijmgkfhaa
open Go.RowKit Go.Shelf

theorem built_Hd (a b : Int) : Try.prog.built 37 [(0, .int .u32 a), (1, .int .u32 b)] = some #[.int .u32 a, .int .u32 b] := by kernel_rfl
set_option maxRecDepth 100000 in
set_option maxHeartbeats 1000000 in
theorem handleS_any (s : Vl.Th) (v : Value) (w : World) :
    Calls Try.prog 13 #[.agg (sc s v).toArray] w fun e w' => e = .returned (.agg (hc s.ino s.gen).toArray) ∧ Below w.heap.size w w' := by
  have HB0 : Hid (Bw (w.alloc (.cells (sc s v).toArray 26)) w.heap.size (sc s v) 26) := heap_alloc_new w _
  have HW0 : Hid (Below w.heap.size w (w.alloc (.cells (sc s v).toArray 26))) := (Below.refl _ w).alloc (Nat.le_refl _) _
  go_enter Try.func13, Try.ntmps13
  go_upto_region 1 with (refine wpList_alloc_any rfl 37 rfl _ zero_H ?_; intro w1 hb1 hs1 hw1)
  have HB1 := Lib.hid (HB0.out.below hw1)
  have HW1 := Lib.hid (HW0.out.trans (hw1.mono HW0.out.size))
  have HR1 : Hid (Bw w1 (w.alloc (.cells (sc s v).toArray 26)).heap.size (hc 0 0) 37) := hb1
  have HS0 : Hid (w.heap.size ≤ (w.alloc (.cells (sc s v).toArray 26)).heap.size) := HW0.out.size
  clear hb1 hs1 hw1 HB0 HW0
  generalize (w.alloc (.cells (sc s v).toArray 26)).heap.size = g at *
  have c0 := HB1.out.cell 0 _ rfl
  have c2 := HB1.out.cell 2 _ rfl
  clear HB1
  go_wp2_with (refine wpList_store_part rfl 37 (.tmp 2) (.tmp 7) rfl g 0 (hc s.ino s.gen) rfl rfl 37 _ HR1.out size_H (by simp [hc]) (hc_one _ _) ?_
               intro y hb _ hk
               have HB := Lib.hid hb
               have HK := Lib.hid hk
               clear hb hk)
  exact bodyPost_ret (results_one rfl _ y g HB.out size_H (by rfl) Try.underlying37) rfl ⟨rfl, HW1.out.trans (HK.out.below2 (fun k hk => by have := HS0.out; omega))⟩

/-- Two of them, in blocks. -/
structure SB (p q : Nat) (s t : Vl.Th) (v u : Value) (w W : World) : Prop where
  one : Bw W p (sc s v) 26
  two : Bw W q (sc t u) 26
  bel : Below w.heap.size w W
theorem SB.below {p q : Nat} {s t : Vl.Th} {v u : Value} {w W W' : World} (h : SB p q s t v u w W) (hb : Below W.heap.size W W') : SB p q s t v u w W' := ⟨h.one.below hb, h.two.below hb, h.bel.trans (hb.mono h.bel.size)⟩
theorem SB.drew {p q : Nat} {s t : Vl.Th} {v u : Value} {w W : World} (h : SB p q s t v u w W) : SB p q s t v u w W.drew := ⟨h.one, h.two, h.bel.drew⟩
theorem hEq (a b c d : Nat) (w : World) : (binOp .eql 37 (.agg (hc a b).toArray) (.agg (hc c d).toArray)).run Try.prog w = .ok (.bool (decide (a = c) && decide (b = d))) w := by
  unfold hc
  by_cases h1 : a = c
  · subst h1
    by_cases h2 : b = d
    · subst h2
      go_simp
    · have hb : ((b : Int) == (d : Int)) = false := by simp; omega
      go_simp
  · have hb : ((a : Int) == (c : Int)) = false := by simp; omega
    go_simp
theorem run_hEq {o : Oper} {a : Act} {x y : Operand} (ho : o.op = .binOp .eql 37 x y 37) (A B C D : Nat) (hx : a.eval x = .agg (hc A B).toArray) (hy : a.eval y = .agg (hc C D).toArray) (w : World) :
    (execOp a.eval o).run Try.prog w = .ok (.value (.bool (decide (A = C) && decide (B = D)))) w := by
  unfold execOp
  simp [eqGuard, ho, hx, hy, hEq]

set_option maxRecDepth 100000 in
set_option maxHeartbeats 2000000 in
theorem same1_any (s t : Vl.Th) (v u : Value) (p q : Nat) (w : World) (h1 : Bw w p (sc s v) 26) (h2 : Bw w q (sc t u) 26) :
    Calls Try.prog 38 #[.pointer (some ⟨p, 0, none⟩), .pointer (some ⟨q, 0, none⟩)] w fun e w' => e = .returned (.bool (decide (s.ino = t.ino) && decide (s.gen = t.gen))) ∧ Below w.heap.size w w' := by
  have HGd : Hid (SB p q s t v u w w.drew) := ⟨h1, h2, (Below.refl _ _).drew⟩
  have HSd : Hid ((fun W : World => Bw W p (sc s v) 26 ∧ Bw W q (sc t u) 26) w.drew) := ⟨h1, h2⟩
  clear h1 h2
  go_enter Try.func38, Try.ntmps38
  go_upto_region 1 with fail
  refine wp_region_held_drew (S := fun W : World => Bw W p (sc s v) 26 ∧ Bw W q (sc t u) 26) (by kernel_rfl) HSd.out (fun _ => ?_)
  change wpAnyH _ _ _ _ _ 6 (Array.replicate 6 false) _ _
  refine takeH (i := 0) 3 (.agg (sc s v).toArray) rfl rfl (by kernel_rfl) (by kernel_rfl) (by kernel_rfl) (fun _ _ _ h => h) (.inl ⟨by rfl, fun W hW => by (exact run_load_part 26 (.tmp 0) rfl p 0 rfl _ Try.underlying26 rfl (sc s v) 26 _ hW.1 size_Sl (fun j u hu => by rw [Nat.zero_add]; exact hu))⟩) HSd.out ?_
  simp only [Act.put, List.setIfInBounds_toArray, List.set_cons_zero, List.set_cons_succ]
  refine takeH (i := 2) 5 (.agg (sc t u).toArray) rfl rfl (by kernel_rfl) (by kernel_rfl) (by kernel_rfl) (fun _ _ _ h => h) (.inl ⟨by rfl, fun W hW => by (exact run_load_part 26 (.tmp 1) rfl q 0 rfl _ Try.underlying26 rfl (sc t u) 26 _ hW.2 size_Sl (fun j u hu => by rw [Nat.zero_add]; exact hu))⟩) HSd.out ?_
  simp only [Act.put, List.setIfInBounds_toArray, List.set_cons_zero, List.set_cons_succ]
  refine wpAnyH_ready (rs := [1]) (by kernel_rfl) (by simp) ?_
  refine AllReadyH.cons rfl (fun K hK => ?_) AllReadyH.nil
  go_simp
  refine (handleS_any s v _).mono ?_
  rintro e y1 ⟨rfl, hb⟩
  have HG1 := Lib.hid (HGd.out.below hb)
  have HS1 : Hid ((fun W : World => Bw W p (sc s v) 26 ∧ Bw W q (sc t u) 26) y1) := ⟨HG1.out.one, HG1.out.two⟩
  refine hK.out _ _ HS1.out fun _ => ?_
  clear hK K hb HGd HSd
  refine wpAnyH_ready (rs := [3]) (by kernel_rfl) (by simp) ?_
  refine AllReadyH.cons rfl (fun K hK => ?_) AllReadyH.nil
  go_simp
  refine (handleS_any t u _).mono ?_
  rintro e y2 ⟨rfl, hb⟩
  have HG2 := Lib.hid (HG1.out.below hb)
  have HS2 : Hid ((fun W : World => Bw W p (sc s v) 26 ∧ Bw W q (sc t u) 26) y2) := ⟨HG2.out.one, HG2.out.two⟩
  refine hK.out _ _ HS2.out fun _ => ?_
  clear hK K hb HG1 HS1
  refine takeH (i := 4) 7 (.bool (decide (s.ino = t.ino) && decide (s.gen = t.gen))) rfl rfl (by kernel_rfl) (by kernel_rfl) (by kernel_rfl) (fun _ _ _ h => h) (.inl ⟨by rfl, fun W hW => by (exact run_hEq (x := .tmp 4) (y := .tmp 6) rfl s.ino s.gen t.ino t.gen rfl rfl W)⟩) HS2.out ?_
  simp only [Act.put, List.setIfInBounds_toArray, List.set_cons_zero, List.set_cons_succ]
  refine takeH (i := 5) 2 (.bool (decide (s.ino = t.ino) && decide (s.gen = t.gen))) rfl rfl (by kernel_rfl) (by kernel_rfl) (by kernel_rfl) (fun _ _ _ h => h) (.inl ⟨by rfl, fun W hW => by go_simp⟩) HS2.out ?_
  simp only [Act.put, List.setIfInBounds_toArray, List.set_cons_zero, List.set_cons_succ]
  refine wpAnyH_done (by kernel_rfl) ?_ _
  go_wp2_with fail
  go_ret
  exact ⟨rfl, HG2.out.bel⟩

set_option maxRecDepth 100000 in
set_option maxHeartbeats 1000000 in
theorem same2_any (s t : Vl.Th) (v u : Value) (p q : Nat) (w : World) (h1 : Bw w p (sc s v) 26) (h2 : Bw w q (sc t u) 26) :
    Calls Try.prog 39 #[.pointer (some ⟨p, 0, none⟩), .pointer (some ⟨q, 0, none⟩)] w fun e w' => e = .returned (.bool (decide (s.kind = t.kind) && decide (s.links = t.links) && decide (s.mode = t.mode))) ∧ w = w' := by
  have a1 := h1.cell 1 _ rfl
  have a2 := h1.cell 3 _ rfl
  have a3 := h1.cell 4 _ rfl
  have b1 := h2.cell 1 _ rfl
  have b2 := h2.cell 3 _ rfl
  have b3 := h2.cell 4 _ rfl
  clear h1 h2
  by_cases g1 : s.kind = t.kind
  rotate_left
  · have hb : ((s.kind : Int) == (t.kind : Int)) = false := by simp; omega
    rw [decide_eq_false g1]
    clear g1
    go_enter Try.func39, Try.ntmps39
    go_wp2
    go_ret
    exact ⟨rfl, rfl⟩
  have hb : ((s.kind : Int) == (t.kind : Int)) = true := by simp; omega
  rw [decide_eq_true g1]
  clear g1
  by_cases g2 : s.links = t.links
  rotate_left
  · have hc : ((s.links : Int) == (t.links : Int)) = false := by simp; omega
    rw [decide_eq_false g2]
    clear g2
    go_enter Try.func39, Try.ntmps39
    go_wp2
    go_ret
    exact ⟨rfl, rfl⟩
  have hc : ((s.links : Int) == (t.links : Int)) = true := by simp; omega
  rw [decide_eq_true g2]
  clear g2
  by_cases g3 : s.mode = t.mode
  rotate_left
  · have hd : ((s.mode : Int) == (t.mode : Int)) = false := by simp; omega
    rw [decide_eq_false g3]
    clear g3
    go_enter Try.func39, Try.ntmps39
    go_wp2
    go_ret
    exact ⟨rfl, rfl⟩
  have hd : ((s.mode : Int) == (t.mode : Int)) = true := by simp; omega
  rw [decide_eq_true g3]
  clear g3
  go_enter Try.func39, Try.ntmps39
  go_wp2
  go_ret
  exact ⟨rfl, rfl⟩

set_option maxRecDepth 100000 in
set_option maxHeartbeats 1000000 in
theorem same3_any (s t : Vl.Th) (v u : Value) (p q : Nat) (w : World) (h1 : Bw w p (sc s v) 26) (h2 : Bw w q (sc t u) 26) :
    Calls Try.prog 40 #[.pointer (some ⟨p, 0, none⟩), .pointer (some ⟨q, 0, none⟩)] w fun e w' => e = .returned (.bool (decide (s.change = t.change) && decide (s.cookie = t.cookie) && decide (s.verf = t.verf))) ∧ w = w' := by
  have a1 := h1.cell 5 _ rfl
  have a2 := h1.cell 6 _ rfl
  have a3 := h1.cell 7 _ rfl
  have b1 := h2.cell 5 _ rfl
  have b2 := h2.cell 6 _ rfl
  have b3 := h2.cell 7 _ rfl
  clear h1 h2
  by_cases g1 : s.change = t.change
  rotate_left
  · have hb : ((s.change : Int) == (t.change : Int)) = false := by simp; omega
    rw [decide_eq_false g1]
    clear g1
    go_enter Try.func40, Try.ntmps40
    go_wp2
    go_ret
    exact ⟨rfl, rfl⟩
  have hb : ((s.change : Int) == (t.change : Int)) = true := by simp; omega
  rw [decide_eq_true g1]
  clear g1
  by_cases g2 : s.cookie = t.cookie
  rotate_left
  · have hc : ((s.cookie : Int) == (t.cookie : Int)) = false := by simp; omega
    rw [decide_eq_false g2]
    clear g2
    go_enter Try.func40, Try.ntmps40
    go_wp2
    go_ret
    exact ⟨rfl, rfl⟩
  have hc : ((s.cookie : Int) == (t.cookie : Int)) = true := by simp; omega
  rw [decide_eq_true g2]
  clear g2
  by_cases g3 : s.verf = t.verf
  rotate_left
  · have hd : ((s.verf : Int) == (t.verf : Int)) = false := by simp; omega
    rw [decide_eq_false g3]
    clear g3
    go_enter Try.func40, Try.ntmps40
    go_wp2
    go_ret
    exact ⟨rfl, rfl⟩
  have hd : ((s.verf : Int) == (t.verf : Int)) = true := by simp; omega
  rw [decide_eq_true g3]
  clear g3
  go_enter Try.func40, Try.ntmps40
  go_wp2
  go_ret
  exact ⟨rfl, rfl⟩

set_option maxRecDepth 100000 in
set_option maxHeartbeats 1000000 in
theorem same4_any (s t : Vl.Th) (A : Option Addr) (n cp : Nat) (B : Option Addr) (m cq : Nat) (p q : Nat) (w : World) (h1 : Bw w p (sc s (.slice A n cp)) 26) (h2 : Bw w q (sc t (.slice B m cq)) 26) (hx : BS w A n s.dt) (hy : BS w B m t.dt) :
    Calls Try.prog 41 #[.pointer (some ⟨p, 0, none⟩), .pointer (some ⟨q, 0, none⟩)] w fun e w' => e = .returned (.bool (decide (s.dt = t.dt))) ∧ w = w' := by
  have a8 := h1.cell 8 _ rfl
  have b8 := h2.cell 8 _ rfl
  have HC := Lib.hid (Try.bytes_Equal_strs (.slice A n cp) (.slice B m cq) (txt s.dt) (txt t.dt) w (run_convert_bs _ _ _ _ _ hx) (run_convert_bs _ _ _ _ _ hy))
  have HE : Hid (((txt s.dt).toList == (txt t.dt).toList) = decide (s.dt = t.dt)) := by
    show _ = _
    rw [txt_toList, txt_toList, Bool.eq_iff_iff]
    simp
  rw [HE.out] at HC
  clear h1 h2 hx hy HE
  go_enter Try.func41, Try.ntmps41
  go_wp2_with fail
  refine HC.out.mono ?_
  rintro e w1 ⟨rfl, rfl⟩
  go_wp2_with fail
  go_ret
  exact ⟨rfl, rfl⟩

def sameFs (p q : Nat) : List (Nat × Array Value) := [(38, #[.pointer (some ⟨p, 0, none⟩), .pointer (some ⟨q, 0, none⟩)]), (39, #[.pointer (some ⟨p, 0, none⟩), .pointer (some ⟨q, 0, none⟩)]), (40, #[.pointer (some ⟨p, 0, none⟩), .pointer (some ⟨q, 0, none⟩)]), (41, #[.pointer (some ⟨p, 0, none⟩), .pointer (some ⟨q, 0, none⟩)])]
def sameBs (s t : Vl.Th) : List Bool := [decide (s.ino = t.ino) && decide (s.gen = t.gen), decide (s.kind = t.kind) && decide (s.links = t.links) && decide (s.mode = t.mode), decide (s.change = t.change) && decide (s.cookie = t.cookie) && decide (s.verf = t.verf), decide (s.dt = t.dt)]
theorem same_bools (s t : Vl.Th) : (sameBs s t).all id = decide (s = t) := by
  obtain ⟨a0, a1, a2, a3, a4, a5, a6, a7, a8⟩ := s
  obtain ⟨b0, b1, b2, b3, b4, b5, b6, b7, b8⟩ := t
  rw [Bool.eq_iff_iff]
  simp only [sameBs, List.all_cons, List.all_nil, Bool.and_true, id_eq, Bool.and_eq_true, decide_eq_true_eq, Vl.Th.mk.injEq]
  constructor
  · rintro ⟨⟨h0, h2⟩, ⟨⟨h1, h3⟩, h4⟩, ⟨⟨h5, h6⟩, h7⟩, h8⟩
    exact ⟨h0, h1, h2, h3, h4, h5, h6, h7, h8⟩
  · rintro ⟨h0, h1, h2, h3, h4, h5, h6, h7, h8⟩
    exact ⟨⟨h0, h2⟩, ⟨⟨h1, h3⟩, h4⟩, ⟨⟨h5, h6⟩, h7⟩, h8⟩
theorem same_asked (s t : Vl.Th) (A : Option Addr) (n cp : Nat) (B : Option Addr) (m cq : Nat) (p q : Nat) (w : World) (h1 : Bw w p (sc s (.slice A n cp)) 26) (h2 : Bw w q (sc t (.slice B m cq)) 26) (hx : BS w A n s.dt) (hy : BS w B m t.dt) : Asked w (sameFs p q) (sameBs s t) := by
  refine ⟨rfl, fun j hj hb _ W hW => ?_⟩
  have h1W := h1.below hW
  have h2W := h2.below hW
  rcases j with _ | _ | _ | _ | j
  · exact ⟨enters_of Try.func38 (by kernel_rfl) rfl, same1_any s t _ _ p q W h1W h2W⟩
  · exact ⟨enters_of Try.func39 (by kernel_rfl) rfl, still_below (same2_any s t _ _ p q W h1W h2W)⟩
  · exact ⟨enters_of Try.func40 (by kernel_rfl) rfl, still_below (same3_any s t _ _ p q W h1W h2W)⟩
  · exact ⟨enters_of Try.func41 (by kernel_rfl) rfl, still_below (same4_any s t A n cp B m cq p q W h1W h2W (hx.below hW) (hy.below hW))⟩
  · exact absurd hj (by simp [sameFs])
set_option maxRecDepth 100000 in
set_option maxHeartbeats 1000000 in
theorem sameS_any (s t : Vl.Th) (A : Option Addr) (n cp : Nat) (B : Option Addr) (m cq : Nat) (w : World) (hx : BS w A n s.dt) (hy : BS w B m t.dt) :
    Calls Try.prog 16 #[.agg (sc s (.slice A n cp)).toArray, .agg (sc t (.slice B m cq)).toArray] w fun e w' => e = .returned (.bool (decide (s = t))) ∧ Below w.heap.size w w' := by
  have HX := Lib.hid hx
  have HY := Lib.hid hy
  have HB0 : Hid (Bw ((w.alloc (.cells (sc s (.slice A n cp)).toArray 26)).alloc (.cells (sc t (.slice B m cq)).toArray 26)) w.heap.size (sc s (.slice A n cp)) 26) := (Below.heap_alloc _ _ _ (by simp)).trans (heap_alloc_new w _)
  have HD0 : Hid (Bw ((w.alloc (.cells (sc s (.slice A n cp)).toArray 26)).alloc (.cells (sc t (.slice B m cq)).toArray 26)) (w.heap.size + 1) (sc t (.slice B m cq)) 26) := by
    have := heap_alloc_new (w.alloc (.cells (sc s (.slice A n cp)).toArray 26)) (.cells (sc t (.slice B m cq)).toArray 26)
    show Bw _ _ _ _
    unfold Bw
    simpa using this
  have HW0 : Hid (Below w.heap.size w ((w.alloc (.cells (sc s (.slice A n cp)).toArray 26)).alloc (.cells (sc t (.slice B m cq)).toArray 26))) := ((Below.refl _ _).alloc (Nat.le_refl _) _).alloc (by simp) _
  have HOK := Lib.hid (same_bools s t)
  clear hx hy
  have hmf : ∀ (fn : Fn) (first cap : Array Value) (w : World), (Instr.makeFunc fn first cap).run Try.prog w = .ok (.func fn first cap) w := fun _ _ _ _ => rfl
  go_enter Try.func16, Try.ntmps16
  go_upto_region 1 with fail
  generalize (w.alloc (.cells (sc s (.slice A n cp)).toArray 26)).alloc (.cells (sc t (.slice B m cq)).toArray 26) = w0 at *
  go_wp2_with fail
  refine (all_any w0.heap.size 4 4 (sameFs w.heap.size (w.heap.size + 1)) (sameBs s t) _ (FS.new w0 (sameFs w.heap.size (w.heap.size + 1)) _ _ rfl) (by omega) ?_).mono ?_
  · have hal : Below w0.heap.size w0 (w0.alloc (.cells ((sameFs w.heap.size (w.heap.size + 1)).map fun f => fnV f.1 f.2).toArray 27)) := (Below.refl _ _).alloc (Nat.le_refl _) _
    exact same_asked s t A n cp B m cq _ _ _ (HB0.out.below hal) (HD0.out.below hal) ((HX.out.below HW0.out).alloc _) ((HY.out.below HW0.out).alloc _)
  rintro e w1 ⟨rfl, hb1⟩
  have HW1 : Hid (Below w.heap.size w w1) := HW0.out.trans (((Below.refl w0.heap.size w0).alloc (Nat.le_refl _) _).trans (hb1.mono (by simp)) |>.mono HW0.out.size)
  clear hb1
  rw [HOK.out]
  clear HOK
  go_wp2_with fail
  go_ret
  exact ⟨rfl, HW1.out⟩
end Go.Proofs.Ytbeahhijmgkfhaa
