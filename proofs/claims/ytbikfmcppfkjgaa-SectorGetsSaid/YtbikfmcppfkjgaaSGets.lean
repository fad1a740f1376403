/-
  The walk of SectorGets: what any bytes hold, also with a right sum, is the document's, or refused; what is got is put as the same bytes: the law's function returns true for every input.
-/
import Derived.Test.YtbikfmcppfkjgaaSConv
import Derived.Test.YtbikfmcppfkjgaaSPuts
namespace Go.Proofs.Ytbikfmcppfkjgaa
open Go.RowKit

/-- What was got, in block q, what the document got, in block r, and the bytes, in block g. -/
structure UW (f : Fm) (w : World) (q r : Nat) (B : Option Addr) (n cap g : Nat) (T : List UInt8) (W : World) : Prop where
  one : FI w q f.k.toNat f.i.toNat f.c.toNat f.s f.a B n cap W
  two : W.heap[r]? = some (.cells #[.int .i64 (f.k.toNat : Int), .int .i64 (f.i.toNat : Int), .int .i64 (f.c.toNat : Int), .int .u64 (f.s : Int), .int .u32 (f.a : Int), .string (txt f.b)] 34 (0, 0))
  got : BS W B n f.b
  raw : BS W (some ⟨g, 0, none⟩) T.length T
section
variable {f : Fm} {w W W' : World} {q r : Nat} {B : Option Addr} {n cap g : Nat} {T : List UInt8}
theorem UW.step (h : UW f w q r B n cap g T W) (hb : Below W.heap.size W W') : UW f w q r B n cap g T W' :=
  ⟨h.one.step hb, (hb.block r (Array.getElem?_eq_some_iff.1 h.two).1).trans h.two, h.got.below hb, h.raw.below hb⟩
theorem UW.new (h : FI w q f.k.toNat f.i.toNat f.c.toNat f.s f.a B n cap W) (hg : BS W B n f.b) (hr : BS W (some ⟨g, 0, none⟩) T.length T) :
    UW f w q W.heap.size B n cap g T (W.alloc (.cells #[.int .i64 (f.k.toNat : Int), .int .i64 (f.i.toNat : Int), .int .i64 (f.c.toNat : Int), .int .u64 (f.s : Int), .int .u32 (f.a : Int), .string (txt f.b)] 34)).drew :=
  ⟨(h.step ((Below.refl _ W).alloc (Nat.le_refl _) _)).drew, heap_alloc_new W _, hg.alloc _, hr.alloc _⟩
theorem UW.cells (h : UW f w q r B n cap g T W) : W.cell? ⟨q, 0, none⟩ = some (.int .i64 (f.k.toNat : Int)) ∧ W.cell? ⟨q, 1, none⟩ = some (.int .i64 (f.i.toNat : Int)) ∧ W.cell? ⟨q, 2, none⟩ = some (.int .i64 (f.c.toNat : Int)) ∧ W.cell? ⟨q, 3, none⟩ = some (.int .u64 (f.s : Int)) ∧ W.cell? ⟨q, 4, none⟩ = some (.int .u32 (f.a : Int)) ∧ W.cell? ⟨q, 5, none⟩ = some (.slice B n cap) ∧ W.cell? ⟨r, 0, none⟩ = some (.int .i64 (f.k.toNat : Int)) ∧ W.cell? ⟨r, 1, none⟩ = some (.int .i64 (f.i.toNat : Int)) ∧ W.cell? ⟨r, 2, none⟩ = some (.int .i64 (f.c.toNat : Int)) ∧ W.cell? ⟨r, 3, none⟩ = some (.int .u64 (f.s : Int)) ∧ W.cell? ⟨r, 4, none⟩ = some (.int .u32 (f.a : Int)) ∧ W.cell? ⟨r, 5, none⟩ = some (.string (txt f.b)) := by
  obtain ⟨c0, c1, c2, c3, c4, c5⟩ := h.one.cells
  have e : ∀ j v, (#[.int .i64 (f.k.toNat : Int), .int .i64 (f.i.toNat : Int), .int .i64 (f.c.toNat : Int), .int .u64 (f.s : Int), .int .u32 (f.a : Int), .string (txt f.b)] : Array Value)[j]? = some v → W.cell? ⟨r, j, none⟩ = some v := fun j v hv => by
    rw [cell_of_row _ _ _ _ _ _ h.two]
    exact hv
  exact ⟨c0, c1, c2, c3, c4, c5, e 0 _ rfl, e 1 _ rfl, e 2 _ rfl, e 3 _ rfl, e 4 _ rfl, e 5 _ rfl⟩
end

set_option maxRecDepth 100000 in
set_option maxHeartbeats 4000000 in
theorem gets_big (A : Option Addr) (n c : Nat) (sl : Bool) (w : World) (h : 200 < n) :
    Calls Try.prog 4 #[.slice A n c, .bool sl] w fun e w' => e = .returned (.bool true) ∧ Below w.heap.size w w' := by
  have HA := Lib.hid awake_any
  go_enter Try.func4, Try.ntmps4
  have hd : decide ((200 : Int) < (n : Int)) = true := by simp; omega
  go_wp2_with fail
  refine (HA.out _).mono ?_
  rintro e w1 ⟨rfl, hw1⟩
  have HW1 := Lib.hid hw1
  clear hw1
  go_wp2_with fail
  go_ret
  exact ⟨rfl, HW1.out⟩

set_option maxRecDepth 100000 in
set_option maxHeartbeats 8000000 in
theorem gets_walk (A : Option Addr) (n c : Nat) (l : List UInt8) (sl : Bool) (w : World) (hb : BS w A n l) :
    Calls Try.prog 4 #[.slice A n c, .bool sl] w fun e w' => e = .returned (.bool true) ∧ Below w.heap.size w w' := by
  by_cases h : 200 < n
  · exact gets_big A n c sl w h
  have HA := Lib.hid awake_any
  have HB := Lib.hid hb
  have Hn := Lib.hid hb.1
  clear hb
  have hd : decide ((200 : Int) < (n : Int)) = false := by simp; omega
  go_enter Try.func4, Try.ntmps4
  go_wp2_with fail
  refine (HA.out _).mono ?_
  rintro e w1 ⟨rfl, hw1⟩
  have HW1 := Lib.hid hw1
  have v1 := run_convert_bs w1 A n c l (HB.out.below hw1)
  have hsz : (txt l).size = n := by rw [txt_size, Hn.out]
  clear hw1
  go_upto_if 22 with (fail)
  clear v1
  go_cut [6] (fun s6 W => ∃ T : List UInt8, T.length ≤ 200 ∧ s6 = .string (txt T) ∧ Hid (Below w.heap.size w W))
  case first =>
    cases sl
    · go_wp2_with fail
      go_meet
      exact ⟨l, by rw [Hn.out]; omega, rfl, HW1⟩
    · obtain ⟨M, m, r, hM, hmr, hE⟩ : ∃ (M : List UInt8) (m r : Nat), M.length = m ∧ m + r = 124 ∧ ((124 < n ∧ M = l.take 124) ∨ (¬ 124 < n ∧ M = l)) := by
        by_cases h124 : 124 < n
        · exact ⟨l.take 124, 124, 0, by rw [List.length_take, Hn.out]; omega, rfl, .inl ⟨h124, rfl⟩⟩
        · exact ⟨l, n, 124 - n, Hn.out, by omega, .inr ⟨h124, rfl⟩⟩
      have hr : (124 : Int) - (m : Int) = (r : Int) := by omega
      have HM := Lib.hid hM
      have hszM : (txt M).size = m := by rw [txt_size, hM]
      have hszR : (txt (List.replicate r 0)).size = r := by rw [txt_size, List.length_replicate]
      rcases hE with ⟨h124, hE⟩ | ⟨h124, hE⟩
      · have hd2 : decide ((124 : Int) < (n : Int)) = true := by simp; omega
        have hx : (txt l).extract 0 124 = txt M := by rw [txt_take, hE]
        clear hE hM
        go_wp2_with (refine wpList_make_bytes rfl (.tmp 31) (.tmp 31) rfl r rfl rfl (by omega) ?_
                     intro w2 hb2 hs2 hw2
                     have v2 := run_convert_bs w2 _ r r _ (by have := BS.of_block hb2; rw [List.length_replicate] at this; exact this)
                     have HW2 := Lib.hid (HW1.out.trans (hw2.mono HW1.out.size))
                     clear hb2 hs2 hw2)
        rw [txt_append]
        refine (refSealed _ w2 (by rw [List.length_append, HM.out, List.length_replicate]; omega)).mono ?_
        rintro e w3 ⟨rfl, hb3⟩
        have HW3 := Lib.hid (HW2.out.trans (hb3.mono HW2.out.size))
        clear hb3 v2
        go_wp2_with fail
        go_meet
        exact ⟨_, by rw [sealed_length, List.length_append, HM.out, List.length_replicate]; omega, rfl, HW3⟩
      · have hd2 : decide ((124 : Int) < (n : Int)) = false := by simp; omega
        subst hE
        have hmn : n = m := by rw [← hM, Hn.out]
        subst hmn
        clear hM
        go_wp2_with (refine wpList_make_bytes rfl (.tmp 31) (.tmp 31) rfl r rfl rfl (by omega) ?_
                     intro w2 hb2 hs2 hw2
                     have v2 := run_convert_bs w2 _ r r _ (by have := BS.of_block hb2; rw [List.length_replicate] at this; exact this)
                     have HW2 := Lib.hid (HW1.out.trans (hw2.mono HW1.out.size))
                     clear hb2 hs2 hw2)
        rw [txt_append]
        refine (refSealed _ w2 (by rw [List.length_append, HM.out, List.length_replicate]; omega)).mono ?_
        rintro e w3 ⟨rfl, hb3⟩
        have HW3 := Lib.hid (HW2.out.trans (hb3.mono HW2.out.size))
        clear hb3 v2
        go_wp2_with fail
        go_meet
        exact ⟨_, by rw [sealed_length, List.length_append, HM.out, List.length_replicate]; omega, rfl, HW3⟩
  case rest =>
    clear hsz HW1 HB Hn hd h
    obtain ⟨T, hT, rfl, HW⟩ := hcut
    obtain ⟨cc, w6, hmk, hbs6, hw6, hcc⟩ := run_bytes_txt wc T
    have HB6 := Lib.hid hbs6
    have HW6 := Lib.hid (HW.out.trans (hw6.mono HW.out.size))
    have HPG := Lib.hid (put_get T)
    clear hbs6 hw6
    go_wp2_with fail
    refine (get_any (some ⟨wc.heap.size, 0, none⟩) T.length cc T w6 HB6.out hcc).mono ?_
    rintro e w7 ⟨B, nb, cap, rfl, hb7, hw7⟩
    have HB7 := Lib.hid hb7
    have HC7 := Lib.hid (HB6.out.below hw7)
    have HW7 := Lib.hid (HW6.out.trans (hw7.mono HW6.out.size))
    have HR := Lib.hid (refGet_any T)
    unfold GotR at HR
    clear hb7 hw7 hmk HB6 HW6
    generalize getF T = f at *
    generalize getE T = E at *
    have v7 := run_convert_bs (w7.alloc (.cells #[.int .i64 (f.k.toNat : Int), .int .i64 (f.i.toNat : Int), .int .i64 (f.c.toNat : Int), .int .u64 (f.s : Int), .int .u32 (f.a : Int), .slice B nb cap] 26)) (some ⟨wc.heap.size, 0, none⟩) T.length cc T (HC7.out.alloc _)
    unfold fv frc
    go_wp2_with fail
    refine (HR.out _).mono ?_
    rintro e w8 ⟨rfl, hw8⟩
    have HF8 : Hid (FI w w7.heap.size f.k.toNat f.i.toNat f.c.toNat f.s f.a B nb cap w8) := (FI.new HW7.out rfl).step hw8
    have HB8 := Lib.hid ((HB7.out.alloc _).below hw8)
    have HC8 := Lib.hid ((HC7.out.alloc _).below hw8)
    clear hw8 v7 HW7 HB7 HC7
    generalize w7.heap.size = q at *
    unfold rv rfc
    go_upto_region 14 with (fail)
    have U8 : Hid (UW f w q w8.heap.size B nb cap wc.heap.size T (w8.alloc (.cells #[.int .i64 (f.k.toNat : Int), .int .i64 (f.i.toNat : Int), .int .i64 (f.c.toNat : Int), .int .u64 (f.s : Int), .int .u32 (f.a : Int), .string (txt f.b)] 34)).drew) := UW.new HF8.out HB8.out HC8.out
    clear HF8 HB8 HC8
    generalize w8.alloc (.cells #[.int .i64 (f.k.toNat : Int), .int .i64 (f.i.toNat : Int), .int .i64 (f.c.toNat : Int), .int .u64 (f.s : Int), .int .u32 (f.a : Int), .string (txt f.b)] 34) = w9 at *
    generalize w8.heap.size = r at *
    go_region_held (fun W => W.cell? ⟨q, 0, none⟩ = some (.int .i64 (f.k.toNat : Int)) ∧ W.cell? ⟨q, 1, none⟩ = some (.int .i64 (f.i.toNat : Int)) ∧ W.cell? ⟨q, 2, none⟩ = some (.int .i64 (f.c.toNat : Int)) ∧ W.cell? ⟨q, 3, none⟩ = some (.int .u64 (f.s : Int)) ∧ W.cell? ⟨q, 4, none⟩ = some (.int .u32 (f.a : Int)) ∧ W.cell? ⟨q, 5, none⟩ = some (.slice B nb cap) ∧ W.cell? ⟨r, 0, none⟩ = some (.int .i64 (f.k.toNat : Int)) ∧ W.cell? ⟨r, 1, none⟩ = some (.int .i64 (f.i.toNat : Int)) ∧ W.cell? ⟨r, 2, none⟩ = some (.int .i64 (f.c.toNat : Int)) ∧ W.cell? ⟨r, 3, none⟩ = some (.int .u64 (f.s : Int)) ∧ W.cell? ⟨r, 4, none⟩ = some (.int .u32 (f.a : Int)) ∧ W.cell? ⟨r, 5, none⟩ = some (.string (txt f.b)))
      (first | exact U8.out.cells | exact U10.out.cells)
      (first
        | (go_at_call 11
           with_reducible refine (frameOf_lit _ _ _ _ _ B nb cap f.b _ (UW.got (Hid.out (p := UW f w q r B nb cap wc.heap.size T _) (by assumption)))).mono ?_
           rintro e w10 ⟨rfl, hb10⟩
           have U10 : Hid (UW f w q r B nb cap wc.heap.size T w10) := UW.step (Hid.out (by assumption)) hb10
           clear hb10))
    all_goals
      clear U8
      by_cases hE : E = 0
      · obtain ⟨hok, hTe⟩ := HPG.out hE
        have HOK := Lib.hid hok
        have HTE := Lib.hid hTe
        subst hE
        clear hok hTe HPG
        obtain ⟨c0, c1, c2, c3, c4, c5⟩ := U10.out.one.cells
        go_wp2_with fail
        refine (put_ok f B nb cap w10 U10.out.got HOK.out).mono ?_
        rintro e w11 ⟨A11, c11, rfl, ho⟩
        have HW11 := Lib.hid (U10.out.one.below.trans (ho.2.mono U10.out.one.below.size))
        have v11 := run_convert_bs w11 _ _ c11 _ ho.bs
        rw [HTE.out] at v11
        have v12 := run_convert_bs w11 _ _ cc _ (U10.out.raw.below ho.2)
        clear ho
        go_wp2_with fail
        go_ret
        exact ⟨rfl, HW11.out⟩
      · have hd1 : (E != 0) = true := by simp; exact hE
        go_wp2_with fail
        go_ret
        exact ⟨rfl, U10.out.one.below⟩
end Go.Proofs.Ytbikfmcppfkjgaa
