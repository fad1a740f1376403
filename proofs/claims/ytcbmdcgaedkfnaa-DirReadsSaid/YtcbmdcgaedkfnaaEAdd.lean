/-
  Contracts of package dir's Add and Remove (layer 8).
-/
import Derived.Test.YtcbmdcgaedkfnaaECat
namespace Go.Proofs.Ytcbmdcgaedkfnaa
open Go.RowKit Go.Shelf

theorem zsize_E : (Try.prog.info? 41).map (fun i => (i.zero, i.size)) = some (some (.agg (ec ⟨0, 0, 0, []⟩).toArray), 4) := by kernel_rfl
theorem own_le {w : World} {base : Nat} {e : TypeId} {A : Option Addr} {n c : Nat} {xs : List Value} (h : w.ownsRow base e 4 (.slice A n c) n xs) : n ≤ c ∧ c ≤ 9223372036854775807 := by
  rcases h.2 with ⟨h1, h2⟩ | ⟨g, cap, cur, h1, _, _, h2, h3, _⟩
  · injection h1 with _ _ h1
    omega
  · injection h1 with _ _ h1
    unfold maxLen at h3
    omega
/-- A slice of entries, and its error. -/
def EsQ (es : List En) (z : Int) (w : World) (en : Ending) (w' : World) : Prop := ∃ A n c, en = .returned (.tuple #[.slice A n c, .int .i64 z]) ∧ ES w' A n es ∧ (n ≤ c ∧ c ≤ 9223372036854775807) ∧ Below w.heap.size w w'
theorem EsQ.nil {w w' : World} {es : List En} {z : Int} (he : es = []) (hb : Below w.heap.size w w') : EsQ es z w (.returned (.tuple #[.slice none 0 0, .int .i64 z])) w' := by
  subst he
  exact ⟨none, 0, 0, rfl, ES.nil, ⟨Nat.le_refl _, Nat.zero_le _⟩, hb⟩

set_option maxRecDepth 100000 in
set_option maxHeartbeats 2000000 in
theorem add_any (A : Option Addr) (n cp : Nat) (es : List En) (e : En) (w : World) (h : ES w A n es) (hw : ∀ x ∈ es, x.Wide) (he : e.Wide) (hn : n ≤ 10000000) :
    Calls Try.prog 22 #[.slice A n cp, .agg (ec e).toArray] w (EsQ (addL es e) (addE es e) w) := by
  have HX := Lib.hid h
  have HA : Hid (Below w.heap.size w (w.alloc (.cells (ec e).toArray 41))) := (Below.refl _ _).alloc (Nat.le_refl _) _
  have HE : Hid (EB (w.alloc (.cells (ec e).toArray 41)) w.heap.size 41 e) := EB.new _ _ _
  have HW := Lib.hid hw
  have hec := he.c
  have HLW : Hid (lastCk es < 18446744073709551616) := lastAt_lt es hw es.length
  clear h hw he
  have c3 := HE.out.c3
  by_cases h1 : nameOk e.nm = true
  rotate_left
  · have h1 : nameOk e.nm = false := by simpa using h1
    have h2 : nameE e.nm = 67 := if_neg (by rw [h1]; simp)
    have hE : addE es e = 67 := if_pos h1
    have hL : addL es e = [] := by unfold addL; rw [hE]; rfl
    have HL := Lib.hid hL
    rw [hE]
    have HN := fun W => Lib.hid (name_any e.nm W)
    rw [h2] at HN
    clear h1 h2 hE hL
    go_enter Try.func22, Try.ntmps22
    go_wp2_with fail
    refine ((HN _).out).mono ?_
    rintro en w1 ⟨rfl, hb1⟩
    have HB1 := Lib.hid (HA.out.trans (hb1.mono HA.out.size))
    clear hb1
    go_wp2_with fail
    go_ret2
    exact EsQ.nil HL.out HB1.out
  have h2 : nameE e.nm = 0 := if_pos h1
  have HN := fun W => Lib.hid (name_any e.nm W)
  rw [h2] at HN
  clear h2
  by_cases h3 : 0 ≤ fnd es e.nm
  · have hE : addE es e = 61 := by unfold addE; rw [if_neg (by rw [h1]; simp), if_pos h3]
    have hL : addL es e = [] := by unfold addL; rw [hE]; rfl
    have HL := Lib.hid hL
    rw [hE]
    clear h1 hE hL
    go_enter Try.func22, Try.ntmps22
    go_wp2_with fail
    refine ((HN _).out).mono ?_
    rintro en w1 ⟨rfl, hb1⟩
    have HB1 := Lib.hid (HA.out.trans (hb1.mono HA.out.size))
    have HE1 := Lib.hid (HE.out.below' hb1)
    clear hb1 HN HE HA c3
    have c3 := HE1.out.c3
    go_wp2_with fail
    refine (find_any A n cp es e.nm w1 (HX.out.below HB1.out) (by omega)).mono ?_
    rintro en w2 ⟨rfl, hb2⟩
    have HB2 := Lib.hid (HB1.out.trans (hb2.mono HB1.out.size))
    clear hb2 HE1 HB1 c3
    go_wp2_with fail
    go_ret2
    exact EsQ.nil HL.out HB2.out
  have h3' : fnd es e.nm < 0 := by omega
  have Hh3 := Lib.hid h3
  have Hh1 := Lib.hid h1
  go_enter Try.func22, Try.ntmps22
  clear h1 h3
  go_wp2_with fail
  refine ((HN _).out).mono ?_
  rintro en w1 ⟨rfl, hb1⟩
  have HB1 := Lib.hid (HA.out.trans (hb1.mono HA.out.size))
  have HE1 := Lib.hid (HE.out.below' hb1)
  clear hb1 HN HE HA c3
  have c3 := HE1.out.c3
  go_wp2_with fail
  refine (find_any A n cp es e.nm w1 (HX.out.below HB1.out) (by omega)).mono ?_
  rintro en w2 ⟨rfl, hb2⟩
  have HB2 := Lib.hid (HB1.out.trans (hb2.mono HB1.out.size))
  have HE2 := Lib.hid (HE1.out.below' hb2)
  have HX2 := Lib.hid (HX.out.below HB2.out)
  clear hb2 HE1 HB1 c3
  have c0 := HE2.out.c0
  go_wp2_with fail
  go_quiet ((go_at_call 50; exact Calls.quiet_of_same ((lastCookie_any A n cp es _ (HX2.out.drewN _) (by omega)).mono fun _ _ hh => ⟨hh.1, hh.2.symm⟩)))
  have HB3 : Hid (Below w.heap.size w (w2.drewN nq)) := ⟨HB2.out.os, HB2.out.tape, HB2.out.output, HB2.out.size, HB2.out.block⟩
  have HE3 : Hid (EB (w2.drewN nq) w.heap.size 41 e) := HE2.out
  have HX3 : Hid (ES (w2.drewN nq) A n es) := HX2.out
  clear HB2 HE2 HX2 c0
  generalize w2.drewN nq = w3 at *
  by_cases hck : e.ck ≤ lastCk es
  · have hE : addE es e = 70 := by unfold addE; rw [if_neg (by rw [Hh1.out]; simp), if_neg (Int.not_le.2 Hh3.out), if_pos hck]
    have hL : addL es e = [] := by unfold addL; rw [hE]; rfl
    have HL := Lib.hid hL
    have HEE := Lib.hid hE
    have hd : decide (e.ck ≤ lastCk es) = true := decide_eq_true hck
    rw [hd]
    clear hck hE hL hd
    go_wp2_with fail
    go_ret2
    rw [HEE.out]
    exact EsQ.nil HL.out HB3.out
  · have hE : addE es e = 0 := by unfold addE; rw [if_neg (by rw [Hh1.out]; simp), if_neg (Int.not_le.2 Hh3.out), if_neg hck]
    have hL : addL es e = es ++ [e] := if_pos hE
    have HL := Lib.hid hL
    have HEE := Lib.hid hE
    have hd : decide (e.ck ≤ lastCk es) = false := decide_eq_false hck
    rw [hd]
    clear hck hE hL hd
    have HZ : Hid ((w3.alloc (.cells (ec e).toArray 41)).heap.size = w3.heap.size + 1) := by show _ = _; simp
    have hecl := ec_length e
    go_wp2_with (first
      | (refine wpList_load_row rfl 41 (.tmp 3) rfl _ rfl 41 (ec e).toArray (0, 0) _ HE3.out Try.underlying41 rfl size_E ?_))
    have hb : Below w3.heap.size w3 ((w3.alloc (.cells (ec e).toArray 41)).alloc (.cells #[.slice A n cp, .slice (some ⟨w3.heap.size, 0, none⟩) 1 1] 24)) := ((Below.refl _ _).alloc (Nat.le_refl _) _).alloc (by simp) _
    have hg : ((w3.alloc (.cells (ec e).toArray 41)).alloc (.cells #[.slice A n cp, .slice (some ⟨w3.heap.size, 0, none⟩) 1 1] 24)).heap[w3.heap.size + 1]? = some (.cells #[.slice A n cp, .slice (some ⟨w3.heap.size, 0, none⟩) 1 1] 24 (0, 0)) := by
      have := heap_alloc_new (w3.alloc (.cells (ec e).toArray 41)) (.cells #[.slice A n cp, .slice (some ⟨w3.heap.size, 0, none⟩) 1 1] 24)
      rwa [HZ.out] at this
    refine (concat_any _ _ n cp 1 1 (w3.heap.size + 1) es [e] ((w3.alloc (.cells (ec e).toArray 41)).alloc (.cells #[.slice A n cp, .slice (some ⟨w3.heap.size, 0, none⟩) 1 1] 24)) hg (HX3.out.below hb) ((EB.new w3 41 e).es.alloc _) (by omega)).mono ?_
    rintro en w4 ⟨A4, c4, rfl, hown, hb4⟩
    have HO4 := Lib.hid hown
    have HB4 := Lib.hid (HB3.out.trans ((hb.trans (hb4.mono hb.size)).mono HB3.out.size))
    clear hown hb4 hb hg
    go_wp2_with fail
    go_ret2
    rw [HEE.out, HL.out]
    exact ⟨A4, n + 1, c4, rfl, ES.of_own HO4.out, own_le HO4.out, HB4.out⟩
end Go.Proofs.Ytcbmdcgaedkfnaa
