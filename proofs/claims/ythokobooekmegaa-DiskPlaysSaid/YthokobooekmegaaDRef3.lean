/-
  The document's answers for layer 3, continued: Write.
-/
import Derived.Test.YthokobooekmegaaDRef2
import Derived.Deep.Cut
namespace Go.Proofs.Ythokobooekmegaa
open Go.RowKit

theorem size_D : (Try.prog.info? 31).map (·.size) = some 4 := by kernel_rfl
theorem results_D {fn : Func} {p q : Tmp} (h : fn.results = #[.cell p 31, .tmp q]) (tmps : Array Value) (w : World) (g : Nat) (a0 a1 a2 a3 v : Value) (hp : tmps.getD p undef = .pointer (some ⟨g, 0, none⟩)) (hq : tmps.getD q undef = v)
    (hg : w.heap[g]? = some (.cells #[a0, a1, a2, a3] 31 (0, 0))) : (results fn tmps).run Try.prog w = .ok (.tuple #[.agg #[a0, a1, a2, a3], v]) w := by
  have hp' : tmps[p]?.getD undef = .pointer (some ⟨g, 0, none⟩) := by simpa using hp
  have hq' : tmps[q]?.getD undef = v := by simpa using hq
  have hl := run_loadVar_row (P := Try.prog) w g 31 31 #[a0, a1, a2, a3] (0, 0) _ hg Try.underlying31 rfl size_D
  simp [results, h, hp', hq', asAddr, hl]
theorem all_D (A : Option Addr) (n c : Nat) (B : Option Addr) (m d : Nat) (x : Int) (y : Bool) : (#[.slice A n c, .slice B m d, .int .i64 x, .bool y] : Array Value).all (·.oneCell') = true := by simp [Value.oneCell']
/-- The two blocks of a call of the document's: the state that came in, and the one that goes out. -/
theorem two_D {w w1 : World} {a b c d : Value} (hw1 : Below ((w.alloc (.cells #[a, b, c, d] 31)).alloc (.cells #[.slice none 0 0, .slice none 0 0, .int .i64 0, .bool false] 31)).heap.size ((w.alloc (.cells #[a, b, c, d] 31)).alloc (.cells #[.slice none 0 0, .slice none 0 0, .int .i64 0, .bool false] 31)) w1) :
    w1.heap[w.heap.size]? = some (.cells #[a, b, c, d] 31 (0, 0)) ∧ w1.heap[w.heap.size + 1]? = some (.cells #[.slice none 0 0, .slice none 0 0, .int .i64 0, .bool false] 31 (0, 0)) ∧ Below w.heap.size w w1 := by
  refine ⟨?_, ?_, (((Below.refl _ w).alloc (Nat.le_refl _) _).alloc (by simp) _).trans (hw1.mono (by simp; omega))⟩
  · rw [hw1.block _ (by simp; omega), Below.heap_alloc _ _ _ (by simp), heap_alloc_new]
  · rw [hw1.block _ (by simp)]
    have := heap_alloc_new (w.alloc (.cells #[a, b, c, d] 31)) (.cells #[.slice none 0 0, .slice none 0 0, .int .i64 0, .bool false] 31)
    rw [World.size_alloc] at this
    exact this

set_option maxRecDepth 100000 in
set_option maxHeartbeats 1000000 in
theorem writeR_no (AL AW : Option Addr) (cL cW : Nat) (s : DS) (i : Int) (b : List UInt8) (w : World) (hr : refus s i ≠ 0) :
    Calls Try.prog 15 #[dv AL cL AW cW s, .int .i64 i, .string (txt b)] w fun e w' => e = .returned (.tuple #[dv AL cL AW cW s, .int .i64 (refus s i)]) ∧ Below w.heap.size w w' := by
  have HU := Lib.hid (fun W => up_any AL AW cL cW s i W)
  unfold dv at *
  go_enter Try.func15, Try.ntmps15
  go_wp2_with fail
  refine (HU.out _).mono ?_
  rintro e w1 ⟨rfl, hw1⟩
  obtain ⟨h1, h2, h3⟩ := two_D hw1
  have H1 := Lib.hid h1
  have H2 := Lib.hid h2
  have H3 := Lib.hid h3
  clear h1 h2 h3 hw1
  go_wp2_with (first
    | (refine wpList_load_row rfl 31 (.tmp 3) rfl w.heap.size rfl 31 #[.slice AL s.n cL, .slice AW s.pend.length cW, .int .i64 (nrm s.left), .bool s.down] (0, 0) _ H1.out Try.underlying31 rfl size_D ?_)
    | (refine wpList_store_any rfl 31 (.tmp 6) (.tmp 15) rfl (w.heap.size + 1) #[.slice AL s.n cL, .slice AW s.pend.length cW, .int .i64 (nrm s.left), .bool s.down] rfl rfl 31 _ H2.out size_D rfl (all_D _ _ _ _ _ _ _ _) ?_
       intro w2 hb2 hs2 hw2
       have HB2 := Lib.hid hb2
       have HW2 := Lib.hid hw2
       clear hb2 hs2 hw2))
  exact bodyPost_ret (results_D rfl _ w2 (w.heap.size + 1) _ _ _ _ _ (by rfl) (by rfl) HB2.out) rfl ⟨rfl, H3.out.trans (Keep.below (HW2.out.mono fun k hk => by omega))⟩
set_option maxRecDepth 100000 in
set_option maxHeartbeats 1000000 in
theorem writeR_arg (AL AW : Option Addr) (cL cW : Nat) (s : DS) (i : Int) (b : List UInt8) (w : World) (hr : refus s i = 0) (hb : b.length ≠ 128) :
    Calls Try.prog 15 #[dv AL cL AW cW s, .int .i64 i, .string (txt b)] w fun e w' => e = .returned (.tuple #[dv AL cL AW cW s, .int .i64 1]) ∧ Below w.heap.size w w' := by
  have HU := Lib.hid (fun W => up_any AL AW cL cW s i W)
  have HR := Lib.hid hr
  have hsz : (txt b).size = b.length := txt_size b
  have hne : ¬ (b.length : Int) = 128 := by omega
  clear hr
  unfold dv at *
  go_enter Try.func15, Try.ntmps15
  go_wp2_with fail
  refine (HU.out _).mono ?_
  rintro e w1 ⟨rfl, hw1⟩
  rw [HR.out]
  obtain ⟨h1, h2, h3⟩ := two_D hw1
  have H1 := Lib.hid h1
  have H2 := Lib.hid h2
  have H3 := Lib.hid h3
  clear h1 h2 h3 hw1
  go_wp2_with (first
    | (refine wpList_load_row rfl 31 (.tmp 3) rfl w.heap.size rfl 31 #[.slice AL s.n cL, .slice AW s.pend.length cW, .int .i64 (nrm s.left), .bool s.down] (0, 0) _ H1.out Try.underlying31 rfl size_D ?_)
    | (refine wpList_store_any rfl 31 (.tmp 6) (.tmp 20) rfl (w.heap.size + 1) #[.slice AL s.n cL, .slice AW s.pend.length cW, .int .i64 (nrm s.left), .bool s.down] rfl rfl 31 _ H2.out size_D rfl (all_D _ _ _ _ _ _ _ _) ?_
       intro w2 hb2 hs2 hw2
       have HB2 := Lib.hid hb2
       have HW2 := Lib.hid hw2
       clear hb2 hs2 hw2))
  exact bodyPost_ret (results_D rfl _ w2 (w.heap.size + 1) _ _ _ _ _ (by rfl) (by rfl) HB2.out) rfl ⟨rfl, H3.out.trans (Keep.below (HW2.out.mono fun k hk => by omega))⟩

set_option maxRecDepth 100000 in
set_option maxHeartbeats 1000000 in
theorem writeR_down (AL AW : Option Addr) (cL cW : Nat) (s : DS) (i : Int) (b : List UInt8) (w : World) (hr : refus s i = 0) (hb : b.length = 128) (hd : s.down = false) (hl : s.left ≤ 9223372036854775807) (hcd : s.count.down = true) :
    Calls Try.prog 15 #[dv AL cL AW cW s, .int .i64 i, .string (txt b)] w fun e w' => e = .returned (.tuple #[dv AL cL AW cW s.count, .int .i64 20]) ∧ Below w.heap.size w w' := by
  have HU := Lib.hid (fun W => up_any AL AW cL cW s i W)
  have HCN := Lib.hid (fun W => counts_any AL AW cL cW s W hd hl)
  have HCE : Hid (cerr s = 20) := by show _ = _; simp [cerr, hcd]
  have HR := Lib.hid hr
  have hsz : (txt b).size = 128 := by rw [txt_size, hb]
  clear hr hb hd hl hcd
  unfold dv at *
  go_enter Try.func15, Try.ntmps15
  go_wp2_with fail
  refine (HU.out _).mono ?_
  rintro e w1 ⟨rfl, hw1⟩
  rw [HR.out]
  obtain ⟨h1, h2, h3⟩ := two_D hw1
  have H1 := Lib.hid h1
  have H2 := Lib.hid h2
  have H3 := Lib.hid h3
  clear h1 h2 h3 hw1
  go_wp2_with (refine wpList_load_row rfl 31 (.tmp 3) rfl w.heap.size rfl 31 #[.slice AL s.n cL, .slice AW s.pend.length cW, .int .i64 (nrm s.left), .bool s.down] (0, 0) _ H1.out Try.underlying31 rfl size_D ?_)
  refine (HCN.out _).mono ?_
  rintro e w2 ⟨rfl, hw2⟩
  rw [HCE.out]
  have HW2 := Lib.hid hw2
  have H12 := Lib.hid ((hw2.block _ (Array.getElem?_eq_some_iff.1 H1.out).1).trans H1.out)
  have H22 := Lib.hid ((hw2.block _ (Array.getElem?_eq_some_iff.1 H2.out).1).trans H2.out)
  clear hw2
  go_wp2_with (first
    | (refine wpList_store_any rfl 31 (.tmp 3) (.tmp 24) rfl w.heap.size #[.slice AL s.count.n cL, .slice AW s.count.pend.length cW, .int .i64 (nrm s.count.left), .bool s.count.down] rfl rfl 31 _ H12.out size_D rfl (all_D _ _ _ _ _ _ _ _) ?_
       intro w3 hb3 hs3 hw3
       have HB3 := Lib.hid hb3
       have HW3 := Lib.hid hw3
       have H23 := Lib.hid ((hw3.block (w.heap.size + 1) (by omega)).trans H22.out)
       clear hb3 hs3 hw3)
    | (refine wpList_load_row rfl 31 (.tmp 3) rfl w.heap.size rfl 31 #[.slice AL s.count.n cL, .slice AW s.count.pend.length cW, .int .i64 (nrm s.count.left), .bool s.count.down] (0, 0) _ HB3.out Try.underlying31 rfl size_D ?_)
    | (refine wpList_store_any rfl 31 (.tmp 6) (.tmp 28) rfl (w.heap.size + 1) #[.slice AL s.count.n cL, .slice AW s.count.pend.length cW, .int .i64 (nrm s.count.left), .bool s.count.down] rfl rfl 31 _ H23.out size_D rfl (all_D _ _ _ _ _ _ _ _) ?_
       intro w4 hb4 hs4 hw4
       have HB4 := Lib.hid hb4
       have HW4 := Lib.hid hw4
       clear hb4 hs4 hw4))
  exact bodyPost_ret (results_D rfl _ w4 (w.heap.size + 1) _ _ _ _ _ (by rfl) (by rfl) HB4.out) rfl ⟨rfl, ((H3.out.trans (HW2.out.mono H3.out.size)).trans (Keep.below (HW3.out.mono fun k hk => by omega))).trans (Keep.below (HW4.out.mono fun k hk => by omega))⟩

/-- append of nothing onto nothing. -/
theorem wpList_append_none {o : Oper} {a : Act} {w : World} {ops : Array Oper} {rest : List Oper} {Q : Exit → Act → World → Prop} (hgd : o.guard = none) (s x : Operand) (ho : o.op = .call { callee := .builtin .append, args := #[s, x], argTypes := #[29, 29] })
    (hs : a.eval s = .slice none 0 0) (hx : a.eval x = .slice none 0 0) (h : wpList Try.prog ops Q rest (a.put o.dst (.slice none 0 0)) w) : wpList Try.prog ops Q (o :: rest) a w := by
  obtain ⟨i0, hi0, hz0, hz1, hz2⟩ := info_parts info_w
  have hr : (Builtin.append_ #[29, 29] o.type #[.slice none 0 0, .slice none 0 0]).run Try.prog w = .ok (.slice none 0 0) w := by
    simp [Builtin.append_, run_underlying Try.underlying29, sizeOf, typeInfo, hi0, Builtin.lenOf, Builtin.firstCells]
  refine Did.list hgd (v := .slice none 0 0) (w' := w) (.inl ?_) h
  unfold execOp
  simp only [ho, resolve, invoke, builtin, Sem.run_bind, Sem.run_pure, Result.andThen_ok, List.map_toArray, List.map_cons, List.map_nil, hs, hx, hr]
/-- What is known behind the append of a write. -/
theorem push_world {w w3 w5 : World} {AL : Option Addr} {n cL : Nat} {X : Value} {lf : Int} {dn : Bool} {Z : Array Value} {base g cap : Nat} {l : List (Int × List UInt8)} {m : Nat} (hm : l.length = m) (h0 : 0 < m) (hW3 : Below w.heap.size w w3)
    (hB3 : w3.heap[w.heap.size]? = some (.cells #[.slice AL n cL, X, .int .i64 lf, .bool dn] 31 (0, 0))) (h23 : w3.heap[w.heap.size + 1]? = some (.cells Z 31 (0, 0))) (hb5 : Below w3.heap.size w3 w5)
    (ho : w5.ownsRow base 69 2 (.slice (some ⟨g, 0, none⟩) m cap) m (wc l)) (hg : w3.heap.size ≤ g) :
    (w5.cell? ⟨w.heap.size, 1, none⟩ = some X ∧ w5.frozen? ⟨w.heap.size, 1, none⟩ = false) ∧
    (w5.setCell ⟨w.heap.size, 1, none⟩ (.slice (some ⟨g, 0, none⟩) m cap)).heap[w.heap.size]? = some (.cells #[.slice AL n cL, .slice (some ⟨g, 0, none⟩) m cap, .int .i64 lf, .bool dn] 31 (0, 0)) ∧
    (w5.setCell ⟨w.heap.size, 1, none⟩ (.slice (some ⟨g, 0, none⟩) m cap)).heap[w.heap.size + 1]? = some (.cells Z 31 (0, 0)) ∧
    Below w.heap.size w (w5.setCell ⟨w.heap.size, 1, none⟩ (.slice (some ⟨g, 0, none⟩) m cap)) ∧ WS (w5.setCell ⟨w.heap.size, 1, none⟩ (.slice (some ⟨g, 0, none⟩) m cap)) (some ⟨g, 0, none⟩) cap l ∧ w.heap.size + 1 < g := by
  have l1 := (Array.getElem?_eq_some_iff.1 hB3).1
  have l2 := (Array.getElem?_eq_some_iff.1 h23).1
  have hx1 := (hb5.block _ l1).trans hB3
  have hx2 := (hb5.block _ l2).trans h23
  refine ⟨⟨by rw [cell_of_row _ _ _ _ _ _ hx1]; rfl, by simp [World.frozen?, hx1]⟩, ?_, ?_, (hW3.trans (hb5.mono hW3.size)).setCell (p := ⟨w.heap.size, 1, none⟩) (Nat.le_refl _) _, ?_, by omega⟩
  · rw [setCell_eq_setRow _ _ _ _ _ _ _ hx1]
    exact setRow_heap _ _ _ _ _ _ hx1
  · exact (Below.heap_setCell w5 ⟨w.heap.size, 1, none⟩ _ (w.heap.size + 1) (by simp)).trans hx2
  · have hws : WS w5 (some ⟨g, 0, none⟩) cap l := WS.of_own hm h0 ho
    refine hws.fr (S := fun k => k = w.heap.size) (Keep.setCell (Fr.refl (fun k => k = w.heap.size) w5) (p := ⟨w.heap.size, 1, none⟩) (fun h => h.2 rfl) _) (fun ad e h => ?_)
    cases e
    have h' : g = w.heap.size := h
    omega
theorem below_ne {B g k n c : Nat} (hg : B ≤ g) (hk : k < B) : some k ≠ (Value.slice (some ⟨g, 0, none⟩) n c).ownBlock := by
  intro e
  have e' : k = g := by simpa [Value.ownBlock] using e
  omega
theorem wOne (i : Int) (b : List UInt8) : ∀ u ∈ [Value.int .i64 i, .string (txt b)], u.oneCell' = true := by
  intro u hu
  rcases List.mem_cons.1 hu with rfl | hu
  · rfl
  · obtain rfl : u = .string (txt b) := by simpa using hu
    rfl
set_option maxRecDepth 100000 in
set_option maxHeartbeats 2000000 in
theorem writeR_up (AL AW : Option Addr) (cL cW : Nat) (s : DS) (i : Int) (b : List UInt8) (w : World) (h : RefD w AL AW cW s) (hr : refus s i = 0) (hb : b.length = 128) (hd : s.down = false) (hl : s.left ≤ 9223372036854775807) (hcd : s.count.down = false) (hs : s.pend.length ≤ 1000000) :
    Calls Try.prog 15 #[dv AL cL AW cW s, .int .i64 i, .string (txt b)] w fun e w' =>
      ∃ g c', e = .returned (.tuple #[dv AL cL (some ⟨g, 0, none⟩) c' (s.count.push i b), .int .i64 0]) ∧ RefD w' AL (some ⟨g, 0, none⟩) c' (s.count.push i b) ∧ Below w.heap.size w w' ∧ w.heap.size ≤ g := by
  have HU := Lib.hid (fun W => up_any AL AW cL cW s i W)
  have HCN := Lib.hid (fun W => counts_any AL AW cL cW s W hd hl)
  have HCE : Hid (cerr s = 0) := by show _ = _; simp [cerr, hcd]
  have HR := Lib.hid hr
  have HD : Hid (RefD w AL AW cW s.count) := by show RefD _ _ _ _ _; unfold RefD; rw [DS.count_n, DS.count_F, DS.count_pend]; exact h
  have hsz : (txt b).size = 128 := by rw [txt_size, hb]
  have hpl : s.count.pend.length ≤ 1000000 := by rw [DS.count_pend]; exact hs
  clear hr hb hd hl hcd h
  unfold dv at *
  obtain ⟨i0, hi0, hz0, hz1, hz2⟩ := info_parts info_w
  have HI0 := Lib.hid hi0
  have HZ0 := Lib.hid hz0
  have HZ1 := Lib.hid hz1
  have HZ2 := Lib.hid hz2
  clear hi0 hz0 hz1 hz2
  go_enter Try.func15, Try.ntmps15
  go_wp2_with fail
  refine (HU.out _).mono ?_
  rintro e w1 ⟨rfl, hw1⟩
  rw [HR.out]
  obtain ⟨h1, h2, h3⟩ := two_D hw1
  have H1 := Lib.hid h1
  have H2 := Lib.hid h2
  have H3 := Lib.hid h3
  clear h1 h2 h3 hw1
  go_wp2_with (refine wpList_load_row rfl 31 (.tmp 3) rfl w.heap.size rfl 31 #[.slice AL s.n cL, .slice AW s.pend.length cW, .int .i64 (nrm s.left), .bool s.down] (0, 0) _ H1.out Try.underlying31 rfl size_D ?_)
  refine (HCN.out _).mono ?_
  rintro e w2 ⟨rfl, hw2⟩
  rw [HCE.out]
  have HW2 := Lib.hid hw2
  have H12 := Lib.hid ((hw2.block _ (Array.getElem?_eq_some_iff.1 H1.out).1).trans H1.out)
  have H22 := Lib.hid ((hw2.block _ (Array.getElem?_eq_some_iff.1 H2.out).1).trans H2.out)
  clear hw2
  obtain ⟨s1, hs1⟩ : ∃ s1, s.count = s1 := ⟨_, rfl⟩
  rw [hs1] at HD hpl ⊢
  have HS1 := Lib.hid hs1
  clear hs1
  have HWL : Hid ([Value.int .i64 i, .string (txt b)].length = 1 * 2) := rfl
  have HPU : Hid (wc s1.pend ++ [.int .i64 i, .string (txt b)] = wc (s1.push i b).pend) := by
    show _ = wc (s1.pend ++ [(i, b)])
    rw [wc_append]
    rfl
  have HPN : Hid ((s1.push i b).pend.length = s1.pend.length + 1) := by show (s1.pend ++ [(i, b)]).length = _; simp
  by_cases h0 : s1.pend.length = 0
  · have he : s1.pend = [] := List.eq_nil_of_length_eq_zero h0
    obtain ⟨rfl, rfl⟩ := HD.out.2.1 he
    have HE := Lib.hid he
    clear he h0
    go_wp2_with (first
      | (refine wpList_store_any rfl 31 (.tmp 3) (.tmp 24) rfl w.heap.size #[.slice AL s1.n cL, .slice none s1.pend.length 0, .int .i64 (nrm s1.left), .bool s1.down] rfl rfl 31 _ H12.out size_D rfl (all_D _ _ _ _ _ _ _ _) ?_
         intro w3 hb3 hs3 hw3
         have HB3 := Lib.hid hb3
         have HW3 : Hid (Below w.heap.size w w3) := (H3.out.trans (HW2.out.mono H3.out.size)).trans (Keep.below (hw3.mono fun k hk => by omega))
         have H23 := Lib.hid ((hw3.block (w.heap.size + 1) (by omega)).trans H22.out)
         have c1 : w3.cell? ⟨w.heap.size, 1, none⟩ = some (.slice none 0 0) := by rw [cell_of_row _ _ _ _ _ _ hb3]; show some (Value.slice none s1.pend.length 0) = _; rw [HE.out]; rfl
         have HD3 := Lib.hid (HD.out.below HW3.out)
         clear hb3 hs3 hw3)
      | (refine wpList_append_none rfl (.tmp 30) (.tmp 32) rfl rfl rfl ?_)
      | (refine wpList_append_lies _ rfl (.tmp 34) (.tmp 38) 29 rfl w3.heap.size 69 i0 _ 2 24 Try.underlying29 HI0.out HZ0.out HZ1.out HZ2.out rfl (by omega) (.slice none 0 0) 0 [] rfl (World.ownsRow_nil _ _ _ _) ⟨w3.heap.size, 0, none⟩ 1 1 [.int .i64 i, .string (txt b)] rfl HWL.out (World.news_of_block (heap_alloc_new w3 _)) (wOne i b) (by omega) (by unfold maxLen; omega) (by omega) (by simp) (w3.heap.size + 1) (by simp) ?_
         intro g cap w5 ho5 hg5 hat5 hlt5
         rw [Nat.zero_add, List.nil_append] at ho5
         rw [Nat.zero_add]
         have hgl : w3.heap.size ≤ g := by rcases hat5 with h | h; cases h; omega
         have hb5 : Below w3.heap.size w3 w5 := ((Below.refl w3.heap.size w3).alloc (Nat.le_refl _) _).trans ⟨hg5.os, hg5.tape, hg5.output, hg5.size, fun k hk => hg5.block k (Nat.lt_of_lt_of_le hk (by simp)) (by simp [Value.ownBlock])⟩
         obtain ⟨⟨c5, f5⟩, hx6, hy6, hb6, ho6, hgl2⟩ := push_world (m := 1) (l := (s1.push i b).pend) (by rw [HPN.out, HE.out]; rfl) (by omega) HW3.out HB3.out H23.out hb5 (by rw [← HPU.out, HE.out]; exact ho5) hgl
         have HX6 := Lib.hid hx6
         have HY6 := Lib.hid hy6
         have HB6 := Lib.hid hb6
         have HO6 := Lib.hid ho6
         have HGL2 := Lib.hid hgl2
         clear ho5 hg5 hat5 hlt5 hgl hb5 hx6 hy6 hb6 ho6 hgl2)
      | (refine wpList_load_row rfl 31 (.tmp 3) rfl w.heap.size rfl 31 #[.slice AL s1.n cL, .slice (some ⟨g, 0, none⟩) 1 cap, .int .i64 (nrm s1.left), .bool s1.down] (0, 0) _ HX6.out Try.underlying31 rfl size_D ?_)
      | (refine wpList_store_any rfl 31 (.tmp 6) (.tmp 41) rfl (w.heap.size + 1) #[.slice AL s1.n cL, .slice (some ⟨g, 0, none⟩) 1 cap, .int .i64 (nrm s1.left), .bool s1.down] rfl rfl 31 _ HY6.out size_D rfl (all_D _ _ _ _ _ _ _ _) ?_
         intro w7 hb7 hs7 hw7
         have HB7 := Lib.hid hb7
         have HW7 := Lib.hid hw7
         clear hb7 hs7 hw7))
    have HW7B : Hid (Below w.heap.size w w7) := HB6.out.trans (Keep.below (HW7.out.mono fun k hk => by omega))
    refine bodyPost_ret (results_D rfl _ w7 (w.heap.size + 1) _ _ _ _ _ (by rfl) (by rfl) HB7.out) rfl ⟨g, cap, ?_, ⟨?_, ?_⟩, HW7B.out, by have := HGL2.out; omega⟩
    · rw [HS1.out, HPN.out, HE.out]
      rfl
    · rw [HS1.out]
      exact HD.out.1.below HW7B.out
    · rw [HS1.out]
      exact HO6.out.fr (S := fun k => k = w.heap.size + 1) (HW7.out.mono fun k hk => hk.2) (fun ad e h => by cases e; have h' : g = w.heap.size + 1 := h; have := HGL2.out; omega)
  · obtain ⟨b0, rfl, hbc⟩ := HD.out.2.2 (by omega)
    clear hbc
    have HLN : Hid ((wc s1.pend).length = s1.pend.length * 2) := wc_len _
    go_upto_region 11 with (first
      | (refine wpList_store_any rfl 31 (.tmp 3) (.tmp 24) rfl w.heap.size #[.slice AL s1.n cL, .slice (some ⟨b0, 0, none⟩) s1.pend.length cW, .int .i64 (nrm s1.left), .bool s1.down] rfl rfl 31 _ H12.out size_D rfl (all_D _ _ _ _ _ _ _ _) ?_
         intro w3 hb3 hs3 hw3
         have HB3 := Lib.hid hb3
         have HW3 : Hid (Below w.heap.size w w3) := (H3.out.trans (HW2.out.mono H3.out.size)).trans (Keep.below (hw3.mono fun k hk => by omega))
         have H23 := Lib.hid ((hw3.block (w.heap.size + 1) (by omega)).trans H22.out)
         have c1 : w3.cell? ⟨w.heap.size, 1, none⟩ = some (.slice (some ⟨b0, 0, none⟩) s1.pend.length cW) := by rw [cell_of_row _ _ _ _ _ _ hb3]; rfl
         have HN3 : Hid (∀ j u, (wc s1.pend)[j]? = some u → w3.cell? ((⟨b0, 0, none⟩ : Addr).add j) = some u) := by
           obtain ⟨b1, e1, hc1⟩ := (HD.out.below HW3.out).2.2 (by omega)
           cases e1
           exact WS.news hc1
         clear hb3 hs3 hw3)
      | (at_builtin
         refine wpList_append_lies _ rfl (.tmp 30) (.tmp 32) 29 rfl w3.heap.size 69 i0 _ 2 24 Try.underlying29 HI0.out HZ0.out HZ1.out HZ2.out rfl (by omega) (.slice none 0 0) 0 [] rfl (World.ownsRow_nil _ _ _ _) ⟨b0, 0, none⟩ s1.pend.length cW (wc s1.pend) rfl HLN.out HN3.out (wc_one _) (by omega) (by unfold maxLen; omega) (by omega) (Nat.le_refl _) w3.heap.size rfl ?_
         intro g4 cap4 w4 ho4 hg4 hat4 hlt4
         rw [Nat.zero_add, List.nil_append] at ho4
         rw [Nat.zero_add]
         have HO4 := Lib.hid ho4
         have HG4 : Hid (w3.heap.size ≤ g4) := by rcases hat4 with h | h; cases h; show _ ≤ _; omega
         have HB4 : Hid (Below w3.heap.size w3 w4) := ⟨hg4.os, hg4.tape, hg4.output, hg4.size, fun k hk => hg4.block k hk (by simp [Value.ownBlock])⟩
         clear c1 ho4 hg4 hat4 hlt4))
    go_wp2_with (first
      | (at_builtin
         refine wpList_append_lies _ rfl (.tmp 34) (.tmp 38) 29 rfl w3.heap.size 69 i0 _ 2 24 Try.underlying29 HI0.out HZ0.out HZ1.out HZ2.out rfl (by omega) (.slice (some ⟨g4, 0, none⟩) s1.pend.length cap4) s1.pend.length (wc s1.pend) rfl (HO4.out.alloc _) ⟨w4.heap.size, 0, none⟩ 1 1 [.int .i64 i, .string (txt b)] rfl HWL.out (World.news_of_block (heap_alloc_new w4 _)) (wOne i b) (by omega) (by unfold maxLen; omega) (by omega) (Nat.le_trans HB4.out.size (by simp)) (w4.heap.size + 1) (by simp) ?_
         intro g cap w5 ho5 hg5 hat5 hlt5
         have hgl : w3.heap.size ≤ g := by
           rcases hat5 with h | h
           · have : g4 = g := by simpa [Value.ownBlock] using h
             rw [← this]; exact HG4.out
           · have := HB4.out.size; omega
         have hb5 : Below w3.heap.size w3 w5 := (HB4.out.alloc HB4.out.size _).trans ⟨hg5.os, hg5.tape, hg5.output, hg5.size, fun k hk => hg5.block k (Nat.lt_of_lt_of_le hk (Nat.le_trans HB4.out.size (by simp))) (fun e => below_ne HG4.out hk e)⟩
         obtain ⟨⟨c5, f5⟩, hx6, hy6, hb6, ho6, hgl2⟩ := push_world (m := s1.pend.length + 1) (l := (s1.push i b).pend) HPN.out (by omega) HW3.out HB3.out H23.out hb5 (by rw [← HPU.out]; exact ho5) hgl
         have HX6 := Lib.hid hx6
         have HY6 := Lib.hid hy6
         have HB6 := Lib.hid hb6
         have HO6 := Lib.hid ho6
         have HGL2 := Lib.hid hgl2
         clear ho5 hg5 hat5 hlt5 hgl hb5 hx6 hy6 hb6 ho6 hgl2)
      | (refine wpList_load_row rfl 31 (.tmp 3) rfl w.heap.size rfl 31 #[.slice AL s1.n cL, .slice (some ⟨g, 0, none⟩) (s1.pend.length + 1) cap, .int .i64 (nrm s1.left), .bool s1.down] (0, 0) _ HX6.out Try.underlying31 rfl size_D ?_)
      | (refine wpList_store_any rfl 31 (.tmp 6) (.tmp 41) rfl (w.heap.size + 1) #[.slice AL s1.n cL, .slice (some ⟨g, 0, none⟩) (s1.pend.length + 1) cap, .int .i64 (nrm s1.left), .bool s1.down] rfl rfl 31 _ HY6.out size_D rfl (all_D _ _ _ _ _ _ _ _) ?_
         intro w7 hb7 hs7 hw7
         have HB7 := Lib.hid hb7
         have HW7 := Lib.hid hw7
         clear hb7 hs7 hw7))
    have HW7B : Hid (Below w.heap.size w w7) := HB6.out.trans (Keep.below (HW7.out.mono fun k hk => by omega))
    refine bodyPost_ret (results_D rfl _ w7 (w.heap.size + 1) _ _ _ _ _ (by rfl) (by rfl) HB7.out) rfl ⟨g, cap, ?_, ⟨?_, ?_⟩, HW7B.out, by have := HGL2.out; omega⟩
    · rw [HS1.out, HPN.out]
      rfl
    · rw [HS1.out]
      exact HD.out.1.below HW7B.out
    · rw [HS1.out]
      exact HO6.out.fr (S := fun k => k = w.heap.size + 1) (HW7.out.mono fun k hk => hk.2) (fun ad e h => by cases e; have h' : g = w.heap.size + 1 := h; have := HGL2.out; omega)
end Go.Proofs.Ythokobooekmegaa
