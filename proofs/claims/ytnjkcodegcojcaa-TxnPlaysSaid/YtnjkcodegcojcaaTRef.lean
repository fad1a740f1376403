/-
  The document's answers of layer 10 (removalistref10), and the law's texts: slices of texts, New, Get.
-/
import Derived.Test.YtnjkcodegcojcaaTForksM
import Derived.Maps.AppendAt
namespace Go.Proofs.Ytnjkcodegcojcaa
open Go.RowKit

/-- A slice that reads as texts. -/
def TS (w : World) (A : Option Addr) (n : Nat) (l : List (List UInt8)) : Prop :=
  l.length = n ∧ (0 < n → ∃ b o, A = some ⟨b, o, none⟩ ∧ ∀ j (hj : j < l.length), w.cell? ⟨b, o + j, none⟩ = some (.string (txt l[j])))
section
variable {w w' : World} {A : Option Addr} {n : Nat} {l : List (List UInt8)}
theorem TS.keep (h : TS w A n l) (hk : ∀ b o z, w.cell? ⟨b, o, none⟩ = some (.string z) → w'.cell? ⟨b, o, none⟩ = w.cell? ⟨b, o, none⟩) : TS w' A n l :=
  ⟨h.1, fun hn => by
    obtain ⟨b, o, e, hc⟩ := h.2 hn
    exact ⟨b, o, e, fun j hj => (hk b _ _ (hc j hj)).trans (hc j hj)⟩⟩
theorem TS.below (h : TS w A n l) (hb : Below w.heap.size w w') : TS w' A n l := h.keep fun b o _ hz => hb.cell (p := ⟨b, o, none⟩) (World.block_lt_of_cell? w _ hz)
theorem TS.ch {Q : Nat → Prop} (h : TS w A n l) (hc : Ch Q w w') : TS w' A n l := h.keep fun b o _ hz => World.cell?_of_block (a := ⟨b, o, none⟩) (hc.1.block b ⟨World.block_lt_of_cell? w _ hz, fun hq => (hc.2 b hq).no_str _ _ hz⟩)
/-- Whatever becomes of a block without texts. -/
theorem TS.off {q : Nat} (h : TS w A n l) (hq : ∀ o z, w.cell? ⟨q, o, none⟩ ≠ some (.string z)) (hk : ∀ k, k < w.heap.size → k ≠ q → w'.heap[k]? = w.heap[k]?) : TS w' A n l :=
  h.keep fun b o z hz => World.cell?_of_block (a := ⟨b, o, none⟩) (hk b (World.block_lt_of_cell? w _ hz) fun e => hq o z (by rw [← e]; exact hz))
theorem TS.at (h : TS w A n l) {k : Nat} (hk : k < n) : ∃ b o, A = some ⟨b, o, none⟩ ∧ ∃ hj : k < l.length, w.cell? ⟨b, o + k, none⟩ = some (.string (txt l[k])) := by
  obtain ⟨b, o, e, hc⟩ := h.2 (by omega)
  have hj : k < l.length := by rw [h.1]; exact hk
  exact ⟨b, o, e, hj, hc k hj⟩
theorem SR.ts {base c : Nat} (h : SR w base A c l) : TS w A l.length l := ⟨rfl, fun hn => by
  obtain ⟨g, e, _, _⟩ := h.at hn
  refine ⟨g, 0, e, fun j hj => ?_⟩
  obtain ⟨g', e', _, hc⟩ := h.at hj
  rw [e] at e'
  cases e'
  rw [Nat.zero_add]
  exact hc⟩
theorem TS.news (h : TS w A n l) {ad : Addr} (hA : A = some ad) : ∀ j u, (sc l)[j]? = some u → w.cell? (ad.add j) = some u := by
  intro j u hu
  have hj : j < l.length := by
    have := (List.getElem?_eq_some_iff.1 hu).1
    rwa [sc_length] at this
  obtain ⟨b, o, e, hc⟩ := h.2 (by rw [← h.1]; omega)
  rw [hA] at e
  cases e
  rw [add_plain, hc j hj, ← hu]
  simp [sc, hj]
end

set_option maxRecDepth 100000 in
set_option maxHeartbeats 1000000 in
theorem texts_any (A : Option Addr) (n c : Nat) (ls : List (List UInt8)) (w : World) (h : RI w A n ls) (hn : n ≤ 1000) :
    Calls Try.prog 11 #[.slice A n c] w fun e w' => ∃ A' c', e = .returned (.slice A' n c') ∧ SR w' w.heap.size A' c' ls ∧ Below w.heap.size w w' := by
  obtain ⟨i0, hi0, hz0, hz1, hz2⟩ := info_parts info_str
  have HI0 := Lib.hid hi0
  have HZ0 := Lib.hid hz0
  have HZ1 := Lib.hid hz1
  have HZ2 := Lib.hid hz2
  clear hi0 hz0 hz1 hz2
  have HA := Lib.hid h
  have HLL : Hid (ls.length = n) := h.1
  have HN : Hid (n ≤ 1000) := hn
  clear h hn
  go_enter Try.func11, Try.ntmps11
  go_wp2_with fail
  go_loopw [3, 4] (fun s i wr => ∃ (k c' : Nat) (A' : Option Addr), k ≤ n ∧ i = .int .i64 k ∧ s = .slice A' k c' ∧ Hid (SR wr w.heap.size A' c' (ls.take k)) ∧ Hid (Below w.heap.size w wr)) (fun _ i _ => n - (intOf i).toNat)
  case atStart => exact ⟨0, 0, none, by omega, rfl, rfl, by rw [List.take_zero]; exact SR.nil _ _, Below.refl _ _⟩
  case round =>
    obtain ⟨k, c', A', hk, rfl, rfl, HR, HB⟩ := hrel
    rename World => wr
    have hn1 := HN.out
    by_cases hlt : k < n
    · obtain ⟨b, o, x, rfl, hc0, hx, -⟩ := HA.out.at hlt
      have hc := (HB.out.cell (p := ⟨b, o + k, none⟩) (World.block_lt_of_cell? w _ hc0)).trans hc0
      have cv := run_convert_bs wr x.a x.n x.c _ (hx.below HB.out)
      have hkl : k < ls.length := by rw [HLL.out]; exact hlt
      have HTK : Hid (ls.take (k + 1) = ls.take k ++ [ls.getD k []]) := by
        show _ = _
        rw [List.take_succ_eq_append_getElem hkl]
        simp [List.getD, hkl]
      have HL4 : Hid ((ls.take k).length = k) := by show _ = _; rw [List.length_take]; omega
      have HR5 : Hid ((wr.alloc (.cells #[.string (txt (ls.getD k []))] 9)).ownsRow w.heap.size 9 1 (.slice A' k c') k (sc (ls.take k))) := by
        have := HR.out.below ((Below.refl _ _).alloc (Nat.le_refl _) (.cells #[.string (txt (ls.getD k []))] 9))
        unfold SR at this
        rwa [HL4.out] at this
      have HN5 := Lib.hid (SR.news wr (ls.getD k []))
      have hsz : w.heap.size ≤ (wr.alloc (.cells #[.string (txt (ls.getD k []))] 9)).heap.size := by
        have h6 := HB.out.size
        rw [World.size_alloc]
        omega
      have HPU : Hid (∀ A'' c'' w8, w8.ownsRow w.heap.size 9 1 (.slice A'' (k + 1) c'') (k + 1) (sc (ls.take k) ++ [.string (txt (ls.getD k []))]) → (wr.alloc (.cells #[.string (txt (ls.getD k []))] 9)).grownBy w8 (Value.slice A' k c').ownBlock → SR w8 w.heap.size A'' c'' (ls.take (k + 1)) ∧ Below w.heap.size wr w8) := fun A'' c'' w8 h8 hg => by
        have := HR.out.push (A' := A'') (c' := c'') HB.out.size (Below.refl _ _) (ls.getD k []) (by rw [HL4.out]; exact h8) (by rw [HL4.out]; exact hg)
        rwa [← HTK.out] at this
      clear hc0 hx HTK
      generalize ls.getD k [] = bg at *
      go_wp2_with (at_builtin
                   go_must (refine wpList_append_own_at _ rfl (.tmp 11) (.tmp 17) 29 rfl w.heap.size 9 i0 _ 1 16 Try.underlying29 HI0.out HZ0.out HZ1.out HZ2.out rfl (by omega) (.slice A' k c') k (sc (ls.take k)) rfl HR5.out ⟨wr.heap.size, 0, none⟩ 1 1 [.string (txt bg)] rfl rfl HN5.out (by simp [Value.oneCell']) (by unfold maxLen; omega) (by omega) hsz ?_)
                   intro v' w8 hown' hgrow _ hat
                   obtain ⟨g', cap', rfl⟩ := ownsRow_succ hown'
                   have HMO := Lib.hid (HPU.out _ _ _ hown' hgrow)
                   clear hown' hgrow hat)
      go_roundw
      case rel => exact ⟨k + 1, cap', some ⟨g', 0, none⟩, by omega, by go_num, rfl, HMO.out.1, HB.out.trans HMO.out.2⟩
      case measure => simp [intOf]; omega
    · obtain rfl : n = k := by omega
      have HR1 : Hid (SR wr w.heap.size A' c' ls) := by
        have := HR.out
        rwa [List.take_of_length_le (by rw [HLL.out]; omega)] at this
      go_wp2
      go_ret
      exact ⟨A', c', rfl, HR1.out, HB.out⟩

/-- The document's value of a transaction: what was, and what is about to be, as texts. -/
def TV (x y : Sl) : Value := .agg #[.slice x.a x.n x.c, .slice y.a y.n y.c]
/-- .. of X, over n blocks. -/
structure RT (w : World) (n : Nat) (x y : Sl) (X : TX) : Prop where
  len : X.l.length = n
  xn : x.n = n
  yn : y.n = n
  was : TS w x.a n X.l
  now : TS w y.a n (wasL X n)
theorem RT.below {w w' : World} {n : Nat} {x y : Sl} {X : TX} (h : RT w n x y X) (hb : Below w.heap.size w w') : RT w' n x y X := ⟨h.len, h.xn, h.yn, h.was.below hb, h.now.below hb⟩
theorem RT.ch {w w' : World} {n : Nat} {x y : Sl} {X : TX} {Q : Nat → Prop} (h : RT w n x y X) (hc : Ch Q w w') : RT w' n x y X := ⟨h.len, h.xn, h.yn, h.was.ch hc, h.now.ch hc⟩
theorem size_T : (Try.prog.info? 31).map (·.size) = some 2 := by kernel_rfl
theorem zero_T : (Try.prog.info? 31).bind (·.zero) = some (.agg #[.slice none 0 0, .slice none 0 0]) := by kernel_rfl

set_option maxRecDepth 100000 in
set_option maxHeartbeats 1000000 in
theorem refNew_any (A : Option Addr) (n c : Nat) (w : World) :
    Calls Try.prog 10 #[.slice A n c] w fun e w' => e = .returned (TV ⟨A, n, c⟩ ⟨A, n, c⟩) ∧ Below w.heap.size w w' := by
  go_enter Try.func10, Try.ntmps10
  go_wp2_with fail
  refine bodyPost_ret (v := TV ⟨A, n, c⟩ ⟨A, n, c⟩) (by simp [TV, results, Try.results10, go_sem]) rfl ⟨rfl, ?_⟩
  exact (Below.refl _ _).alloc (Nat.le_refl _) _
/-- What Get answers. -/
def gotT (X : TX) (n : Nat) (i : Int) : List UInt8 := if hasB n i then X.get i.toNat else []
set_option maxRecDepth 100000 in
set_option maxHeartbeats 1000000 in
theorem refGet_any {n : Nat} {x y : Sl} {X : TX} {w : World} (h : RT w n x y X) (i : Int) :
    Calls Try.prog 16 #[TV x y, .int .i64 i] w fun e w' => e = .returned (.string (txt (gotT X n i))) ∧ Below w.heap.size w w' := by
  unfold TV
  have hyn := h.yn
  cases hh : hasB n i with
  | false =>
    have HE : Hid (gotT X n i = []) := by show _ = _; simp [gotT, hh]
    by_cases h0 : i < 0
    · clear h hyn hh
      go_enter Try.func16, Try.ntmps16
      go_wp2
      go_ret
      rw [HE.out]
      exact ⟨rfl, (Below.refl _ _).alloc (Nat.le_refl _) _⟩
    · have h1 : (y.n : Int) ≤ i := by
        simp only [hasB, Bool.and_eq_false_iff, decide_eq_false_iff_not] at hh
        omega
      clear h hyn hh
      go_enter Try.func16, Try.ntmps16
      go_wp2
      go_ret
      rw [HE.out]
      exact ⟨rfl, (Below.refl _ _).alloc (Nat.le_refl _) _⟩
  | true =>
    have HE : Hid (gotT X n i = X.get i.toNat) := by show _ = _; simp [gotT, hh]
    simp only [hasB, Bool.and_eq_true, decide_eq_true_eq] at hh
    obtain ⟨k, rfl⟩ := Int.eq_ofNat_of_zero_le hh.1
    have hk : k < n := by omega
    obtain ⟨b, o, hya, hj, hc⟩ := h.now.at hk
    have hg : (wasL X n)[k] = X.get k := wasL_at X hk
    rw [hg] at hc
    have hlt := World.block_lt_of_cell? w _ hc
    have hc1 : ∀ ob, (w.alloc ob).cell? ⟨b, o + k, none⟩ = some (.string (txt (X.get k))) := fun ob => (World.cell?_alloc_lt w ob ⟨b, o + k, none⟩ hlt).trans hc
    have hky : (k : Int) < (y.n : Int) := by omega
    have d1 : decide (y.n ≤ k) = false := by simp; omega
    obtain ⟨ya, yn, yc⟩ := y
    dsimp only at *
    subst hya
    clear h hyn hg hc hj hh
    go_enter Try.func16, Try.ntmps16
    go_wp2
    go_ret
    rw [HE.out]
    exact ⟨rfl, (Below.refl _ _).alloc (Nat.le_refl _) _⟩
end Go.Proofs.Ytnjkcodegcojcaa
