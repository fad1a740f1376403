/-
  The document's Changes, and the law's same (layer 10).
-/
import Derived.Test.YtnjkcodegcojcaaTRefPut
import Derived.StillTail
import Derived.StillTailTactics
namespace Go.Proofs.Ytnjkcodegcojcaa
open Go.RowKit

/-- The cells of the document's writes. -/
def xc (x : Nat × List UInt8) : List Value := [.int .i64 (x.1 : Int), .string (txt x.2)]
def xcs (l : List (Nat × List UInt8)) : List Value := l.flatMap xc
theorem xcs_length (l : List (Nat × List UInt8)) : (xcs l).length = l.length * 2 := by
  induction l with
  | nil => rfl
  | cons e r ih => show (xc e ++ xcs r).length = _; rw [List.length_append, ih, List.length_cons]; simp [xc]; omega
theorem xcs_snoc (l : List (Nat × List UInt8)) (x : Nat × List UInt8) : xcs (l ++ [x]) = xcs l ++ xc x := by simp [xcs]
theorem xcs_get (es : List (Nat × List UInt8)) : ∀ (j : Nat) (hj : j < es.length) (i : Nat) (v : Value), (xc es[j])[i]? = some v → (xcs es)[j * 2 + i]? = some v := by
  induction es with
  | nil => intro j hj; exact absurd hj (Nat.not_lt_zero _)
  | cons e r ih =>
    intro j hj i v hv
    show (xc e ++ xcs r)[j * 2 + i]? = _
    have hl : ∀ y, (xc y).length = 2 := fun _ => rfl
    cases j with
    | zero =>
      have hv' : (xc e)[i]? = some v := hv
      have hi := (List.getElem?_eq_some_iff.1 hv').1
      rw [Nat.zero_mul, Nat.zero_add, List.getElem?_append_left hi]
      exact hv'
    | succ j =>
      rw [List.getElem?_append_right (by rw [hl]; omega), hl, show (j + 1) * 2 + i - 2 = j * 2 + i by omega]
      exact ih j (by simpa using hj) i v hv
theorem infoW : (Try.prog.info? 63).map (fun i => (i.zero, i.size, i.bytes)) = some (some (.agg (xc (0, [])).toArray), 2, 24) := by kernel_rfl
/-- The document's writes in a row of the call's own. -/
def XR (W : World) (base : Nat) (A : Option Addr) (c : Nat) (l : List (Nat × List UInt8)) : Prop := W.ownsRow base 63 2 (.slice A l.length c) l.length (xcs l)
section
variable {W W' w2 w8 : World} {base : Nat} {A A' : Option Addr} {c c' : Nat} {l : List (Nat × List UInt8)}
theorem XR.nil (W : World) (base : Nat) : XR W base none 0 [] := World.ownsRow_nil _ _ _ _
theorem XR.below (h : XR W base A c l) (hb : Below W.heap.size W W') : XR W' base A c l := by
  refine ⟨h.1, ?_⟩
  rcases h.2 with h1 | ⟨g, cap, cur, h1, h2, h3, h4⟩
  · exact .inl h1
  · exact .inr ⟨g, cap, cur, h1, h2, (hb.block g (Array.getElem?_eq_some_iff.1 h3).1).trans h3, h4⟩
theorem XR.at (h : XR W base A c l) {k : Nat} (hk : k < l.length) : ∃ g, A = some ⟨g, 0, none⟩ ∧ base ≤ g ∧ W.cell? ⟨g, k * 2, none⟩ = some (.int .i64 (l[k].1 : Int)) ∧ W.cell? ⟨g, k * 2 + 1, none⟩ = some (.string (txt l[k].2)) := by
  rcases h.2 with ⟨_, h0⟩ | ⟨g, cap, cur, h1, h2, h3, _⟩
  · omega
  · injection h1 with h1
    subst h1
    have cell : ∀ i v, (xc l[k])[i]? = some v → W.cell? ⟨g, k * 2 + i, none⟩ = some v := fun i v hv => by
      have := World.ownsRow.cells h (g := g) rfl (k * 2 + i) v (xcs_get l k hk i v hv)
      rwa [add_plain, Nat.zero_add] at this
    exact ⟨g, rfl, h2, cell 0 _ rfl, cell 1 _ rfl⟩
theorem XR.place (h : XR W base A c l) (b : Nat) (e : (Value.slice A l.length c).ownBlock = some b) : base ≤ b ∧ b < W.heap.size := by
  rcases h.2 with ⟨h0, _⟩ | ⟨g, cap, cur, h1, h2, h3, h4⟩
  · rw [h0] at e; cases e
  · rw [h1] at e
    obtain rfl : g = b := by simpa [Value.ownBlock] using e
    exact ⟨h2, (Array.getElem?_eq_some_iff.1 h3).1⟩
theorem XR.news (w2 : World) (x : Nat × List UInt8) : ∀ j u, (xc x)[j]? = some u → (w2.alloc (.cells #[.int .i64 (x.1 : Int), .string (txt x.2)] 63)).cell? ((⟨w2.heap.size, 0, none⟩ : Addr).add j) = some u := fun j u hu =>
  World.news_of_block (heap_alloc_new w2 (.cells #[.int .i64 (x.1 : Int), .string (txt x.2)] 63)) j u (by simpa [xc] using hu)
theorem XR.push (h : XR W base A c l) (hsz : base ≤ W.heap.size) (hb : Below W.heap.size W w2) (x : Nat × List UInt8) (h8 : w8.ownsRow base 63 2 (.slice A' (l.length + 1) c') (l.length + 1) (xcs l ++ xc x)) (hg : (w2.alloc (.cells #[.int .i64 (x.1 : Int), .string (txt x.2)] 63)).grownBy w8 (Value.slice A l.length c).ownBlock) : XR w8 base A' c' (l ++ [x]) ∧ Below base W w8 := by
  have hB : Below W.heap.size W (w2.alloc (.cells #[.int .i64 (x.1 : Int), .string (txt x.2)] 63)) := hb.alloc hb.size _
  refine ⟨?_, (hB.mono hsz).trans ((fr_grown hg).below (Nat.le_trans hsz hB.size) fun k e => (h.place k e).1)⟩
  unfold XR
  rw [List.length_append, xcs_snoc]
  exact h8
end
theorem cmpT (a b : List UInt8) (v : Bool) (h : decide (a ≠ b) = v) : ((txt a).toList == (txt b).toList) = (!v) ∧ ((txt a).toList != (txt b).toList) = v := by
  rw [txt_toList, txt_toList]
  subst h
  by_cases e : a = b
  · subst e; simp
  · simp [e]
set_option maxRecDepth 100000 in
set_option maxHeartbeats 2000000 in
theorem refChg_any {n : Nat} {x y : Sl} {X : TX} {w : World} (h : RT w n x y X) (hn : n ≤ 1000) :
    Calls Try.prog 19 #[TV x y] w fun e w' => ∃ A c, e = .returned (.slice A (X.chs n).length c) ∧ XR w' w.heap.size A c (X.chs n) ∧ Below w.heap.size w w' := by
  obtain ⟨i0, hi0, hz0, hz1, hz2⟩ := info_parts infoW
  have HI0 := Lib.hid hi0
  have HZ0 := Lib.hid hz0
  have HZ1 := Lib.hid hz1
  have HZ2 := Lib.hid hz2
  clear hi0 hz0 hz1 hz2
  unfold TV
  have HT := Lib.hid h
  have HN : Hid (n ≤ 1000) := hn
  have hyn := h.yn.symm
  have hxn := h.xn.symm
  clear h hn
  obtain ⟨xa, xn, xc'⟩ := x
  obtain ⟨ya, yn, yc⟩ := y
  dsimp only at *
  subst hxn
  subst hyn
  have HB0 : Hid (Below w.heap.size w (w.alloc (.cells #[.slice xa n xc', .slice ya n yc] 31))) := (Below.refl _ _).alloc (Nat.le_refl _) _
  have HX0 : Hid ((w.alloc (.cells #[.slice xa n xc', .slice ya n yc] 31)).heap[w.heap.size]? = some (.cells #[.slice xa n xc', .slice ya n yc] 31 (0, 0))) := heap_alloc_new w _
  go_enter Try.func19, Try.ntmps19
  go_wp2_with fail
  generalize w.alloc (.cells #[.slice xa n xc', .slice ya n yc] 31) = w1 at *
  go_loopw [3, 4] (fun s i wr => ∃ (k c : Nat) (A : Option Addr), k ≤ n ∧ i = .int .i64 k ∧ s = .slice A (X.chs k).length c ∧ Hid (XR wr w1.heap.size A c (X.chs k)) ∧ Hid (Below w1.heap.size w1 wr)) (fun _ i _ => n - (intOf i).toNat)
  case atStart => exact ⟨0, 0, none, by omega, rfl, rfl, XR.nil _ _, Below.refl _ _⟩
  case round =>
    obtain ⟨k, c, A, hk, rfl, rfl, HR, HB⟩ := hrel
    rename World => wr
    have hn1 := HN.out
    have hlt1 : w.heap.size < w1.heap.size := (Array.getElem?_eq_some_iff.1 HX0.out).1
    have hx0 : wr.heap[w.heap.size]? = some (.cells #[.slice xa n xc', .slice ya n yc] 31 (0, 0)) := (HB.out.block _ hlt1).trans HX0.out
    have c0 : wr.cell? ⟨w.heap.size, 0, none⟩ = some (.slice xa n xc') := by rw [cell_of_row _ _ _ _ _ _ hx0]; rfl
    have c1 : wr.cell? ⟨w.heap.size, 1, none⟩ = some (.slice ya n yc) := by rw [cell_of_row _ _ _ _ _ _ hx0]; rfl
    clear hx0 hlt1
    by_cases hlt : k < n
    · have HTr := Lib.hid (HT.out.below (HB0.out.trans (HB.out.mono HB0.out.size)))
      obtain ⟨b1, o1, e1, hj1, d1⟩ := HTr.out.was.at hlt
      obtain ⟨b2, o2, e2, hj2, d2⟩ := HTr.out.now.at hlt
      dsimp only at e1 e2
      rw [e1] at c0
      rw [e2] at c1
      have hw1 : X.l[k] = X.was k := by simp [TX.was, List.getD, show k < X.l.length from hj1]
      rw [hw1] at d1
      rw [wasL_at X hlt] at d2
      obtain ⟨v, hv⟩ : ∃ v, X.chg k = v := ⟨_, rfl⟩
      obtain ⟨f1, f2⟩ := cmpT (X.get k) (X.was k) v hv
      have HLE := Lib.hid (TX.chs_len X k)
      cases v with
      | false =>
        have HE : Hid (X.chs (k + 1) = X.chs k) := TX.chs_no hv
        clear hv hw1 e1 e2 hj1 hj2
        go_wp2_with fail
        with_reducible refine wp_region_still_lit (by kernel_rfl) (by kernel_rfl) ?_
        change wpStill _ _ (World.drew _) _ _ _
        iterate 11 (with_reducible refine wpStill_step (fun K hK => ?_); go_simp; with_reducible refine hK _ ?_; clear hK K)
        with_reducible refine wpStill_nil ?_
        go_wp2
        go_roundw
        case rel => exact ⟨k + 1, c, A, by omega, by go_num, by rw [HE.out], by show XR _ _ _ _ _; rw [HE.out]; exact HR.out.below (Below.refl _ _).drew, HB.out.drew⟩
        case measure => simp [intOf]; omega
      | true =>
        have HE : Hid (X.chs (k + 1) = X.chs k ++ [(k, X.get k)]) := TX.chs_yes hv
        clear hv hw1 e1 e2 hj1 hj2
        go_wp2_with fail
        with_reducible refine wp_region_still_lit (by kernel_rfl) (by kernel_rfl) ?_
        change wpStill _ _ (World.drew _) _ _ _
        iterate 11 (with_reducible refine wpStill_step (fun K hK => ?_); go_simp; with_reducible refine hK _ ?_; clear hK K)
        with_reducible refine wpStill_nil ?_
        clear c0 d1 f1 f2
        have HR5 : Hid ((wr.alloc (.cells #[.int .i64 (k : Int), .string (txt (X.get k))] 63)).drew.ownsRow w1.heap.size 63 2 (.slice A (X.chs k).length c) (X.chs k).length (xcs (X.chs k))) := HR.out.below ((Below.refl _ _).alloc (Nat.le_refl _) _).drew
        have hsz : w1.heap.size ≤ (wr.alloc (.cells #[.int .i64 (k : Int), .string (txt (X.get k))] 63)).drew.heap.size := by
          have h6 := HB.out.size
          show _ ≤ (wr.alloc (.cells #[.int .i64 (k : Int), .string (txt (X.get k))] 63)).heap.size
          rw [World.size_alloc]
          omega
        have HL1 : Hid ((X.chs k).length ≤ 1000) := by
          have h5 := HLE.out
          show _ ≤ _
          omega
        go_wp2_with (at_builtin
                     go_must (refine wpList_append_own_at _ rfl (.tmp 23) (.tmp 31) 46 rfl w1.heap.size 63 i0 _ 2 24 Try.underlying46 HI0.out HZ0.out HZ1.out HZ2.out rfl (by omega) (.slice A (X.chs k).length c) (X.chs k).length (xcs (X.chs k)) rfl HR5.out ⟨wr.heap.size, 0, none⟩ 1 1 (xc (k, X.get k)) rfl (by simp [xc]) (XR.news wr (k, X.get k)) (by simp [xc, Value.oneCell']) (by have := HL1.out; unfold maxLen; omega) (by have := HL1.out; omega) hsz ?_)
                     intro v' w8 hown' hgrow _ hat
                     obtain ⟨g', cap', rfl⟩ := ownsRow_succ hown'
                     have HMO := Lib.hid (HR.out.push (w2 := wr.drew) HB.out.size (Below.refl _ _).drew (k, X.get k) hown' hgrow)
                     clear hown' hgrow hat)
        go_roundw
        case rel => exact ⟨k + 1, cap', some ⟨g', 0, none⟩, by omega, by go_num, by rw [HE.out]; simp, by show XR _ _ _ _ _; rw [HE.out]; exact HMO.out.1, HB.out.trans HMO.out.2⟩
        case measure => simp [intOf]; omega
    · obtain rfl : n = k := by omega
      have HRe : Hid (XR wr w.heap.size A c (X.chs n)) := ⟨HR.out.1, HR.out.2.imp id fun ⟨g, cap, cur, h1, h2, h3⟩ => ⟨g, cap, cur, h1, Nat.le_trans HB0.out.size h2, h3⟩⟩
      go_wp2
      go_ret
      exact ⟨A, c, rfl, HRe.out, HB0.out.trans (HB.out.mono HB0.out.size)⟩
end Go.Proofs.Ytnjkcodegcojcaa
