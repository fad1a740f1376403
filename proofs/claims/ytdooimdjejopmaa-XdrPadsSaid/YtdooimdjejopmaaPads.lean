/-
  The walk of XdrPads: bytes whose filling isn't noughts are refused: the law's function returns true for every input.
-/
import Derived.Test.YtdooimdjejopmaaRow3
namespace Go.Proofs.Ytdooimdjejopmaa
open Go.RowKit

/-- One byte of a slice is set. -/
theorem BS.set_ {w : World} {b o n : Nat} {l : List UInt8} (h : BS w (some ⟨b, o, none⟩) n l) {i : Nat} (x : UInt8) :
    BS (w.setCell ⟨b, o + i, none⟩ (.int .u8 (x.toNat : Int))) (some ⟨b, o, none⟩) n (l.set i x) := by
  refine ⟨by rw [List.length_set, h.1], fun hn => ⟨b, o, rfl, fun j hj => ?_⟩⟩
  obtain ⟨b', o', e, hc⟩ := h.2 hn
  injection e with e
  injection e with e1 e2 _
  subst e1 e2
  have hjl : j < l.length := by rwa [List.length_set] at hj
  by_cases hij : i = j
  · subst hij
    rw [World.cell?_setCell_same (u := .int .u8 (l[i].toNat : Int)) (h := hc i hjl)]
    simp
  · rw [World.cell?_setCell_other (h := by intro e; injection e with _ e _; omega), hc j hjl]
    simp [hij]
theorem Own.addr {w w' : World} {A : Option Addr} {n c : Nat} {l : List UInt8} (h : Own w w' A n c l) (hn : 0 < n) : ∃ g, A = some ⟨g, 0, none⟩ ∧ w.heap.size ≤ g ∧ n ≤ c ∧ ∀ i, w'.frozen? ⟨g, i, none⟩ = false := by
  rcases h.1.2 with ⟨_, h0⟩ | ⟨g, cap, cur, h1, h2, h3, h4, _⟩
  · omega
  · injection h1 with h1 _ h5
    subst h5
    exact ⟨g, h1, h2, h4, fun i => by simp [World.frozen?, h3]⟩

/-- A filling that isn't noughts is refused. -/
theorem rdO_pads (m : Int) (b : List UInt8) (i : Nat) (x : UInt8) (hi : i < pad b.length) (hx : x ≠ 0) (hb : b.length < 4294967296) (hm : (b.length : Int) ≤ m) :
    ∃ l, rdO m ((opq b).set (4 + b.length + i) x, 0) = ((l, 11), []) := by
  have e0 : (opq b).set (4 + b.length + i) x = be 4 b.length ++ (b ++ (List.replicate (pad b.length) 0).set i x) := by
    unfold opq
    have hl : (be 4 b.length ++ b).length = 4 + b.length := by rw [List.length_append, be_length]
    rw [List.set_append_right _ _ (by rw [hl]; omega), hl, show 4 + b.length + i - (4 + b.length) = i by omega, List.append_assoc]
  have e : rdN 4 ((opq b).set (4 + b.length + i) x, 0) = ((b ++ (List.replicate (pad b.length) 0).set i x, 0), b.length) := by
    rw [e0, rdN_be 4 b.length _ (by simpa using hb)]
  have hn : noughts ((List.replicate (pad b.length) 0).set i x) = false := by
    unfold noughts
    rw [List.all_eq_false]
    exact ⟨x, List.mem_iff_getElem.2 ⟨i, by simpa using hi, by simp⟩, by simpa using hx⟩
  unfold rdO
  rw [e]
  simp only [ne_eq, not_true_eq_false, if_false]
  rw [if_neg (by omega), if_neg (by simp), List.drop_append_of_le_length (Nat.le_refl _), List.drop_of_length_le (Nat.le_refl _), List.nil_append, List.take_of_length_le (by simp), hn, if_neg (by simp)]
  exact ⟨_, rfl⟩
theorem set_opq (b : List UInt8) (i : Nat) : (opq b).set (4 + b.length + i) 0 = opq b := by
  unfold opq
  have hl : (be 4 b.length ++ b).length = 4 + b.length := by rw [List.length_append, be_length]
  rw [List.set_append_right _ _ (by rw [hl]; omega), hl, show 4 + b.length + i - (4 + b.length) = i by omega]
  congr 1
  apply List.ext_getElem
  · simp
  · intro j h1 h2
    rw [List.getElem_set]
    split <;> simp

set_option maxRecDepth 100000 in
set_option maxHeartbeats 4000000 in
theorem pads_walk (A : Option Addr) (n c : Nat) (b : List UInt8) (at_ x : Int) (w : World) (hb : BS w A n b) (ha0 : 0 ≤ at_) (ha1 : at_ ≤ 255) (hx0 : 0 ≤ x) (hx1 : x ≤ 255) :
    Calls Try.prog 7 #[.slice A n c, .int .u8 at_, .int .u8 x] w fun e w' => e = .returned (.bool true) ∧ Below w.heap.size w w' := by
  have HA := Lib.hid (awake_any w)
  have HB := Lib.hid hb
  have Hn : Hid (b.length = n) := hb.1
  clear hb
  by_cases h100 : 100 < n
  · go_enter Try.func7, Try.ntmps7
    have hd : decide ((100 : Int) < (n : Int)) = true := by simp; omega
    go_wp2_with fail
    refine HA.out.mono ?_
    rintro e w1 ⟨rfl, hw1⟩
    have HW1 := Lib.hid hw1
    clear hw1
    go_wp2_with fail
    go_ret
    exact ⟨rfl, HW1.out⟩
  · go_enter Try.func7, Try.ntmps7
    have hd : decide ((100 : Int) < (n : Int)) = false := by simp; omega
    go_wp2_with fail
    refine HA.out.mono ?_
    rintro e w1 ⟨rfl, hw1⟩
    have HW1 := Lib.hid hw1
    have hs1 := hw1.size
    clear hw1
    go_wp2_with fail
    refine (newWriter_op w1).mono ?_
    rintro e w2 ⟨p, rfl, hw, hbe⟩
    have HW := Lib.hid hw
    have HK := Lib.hid ((Keep.of_below HW1.out).trans ((Keep.of_below hbe).mono (fun k h => Nat.lt_of_lt_of_le h hs1)))
    have HB2 := Lib.hid (HB.out.kept HK.out)
    clear hw hbe
    go_wp2_with fail
    refine (opaquew _ w2 p [] A n c b HW.out HB2.out (fun h ad ha => Nat.lt_of_lt_of_le (HB.out.lt_block h ad ha) hs1) (by simp) (by omega)).mono ?_
    rintro e w3 ⟨rfl, hw, hk⟩
    rw [List.nil_append] at hw
    have HW3 := Lib.hid hw
    have HK3 := Lib.hid (HK.out.trans (hk.mono (fun k h => Nat.lt_of_lt_of_le h hs1)))
    have hpb := pad_lt n
    have Hol : Hid ((opq b).length = 4 + n + pad n) := by show _ = _; rw [opq_length, Hn.out]
    clear hw hk HW HK HB2
    go_wp2_with fail
    refine (out_any _ w3 p _ HW3.out (by rw [Hol.out]; omega)).mono ?_
    rintro e w4 ⟨A4, c4, rfl, ho⟩
    rw [Hol.out] at ho ⊢
    have HO4 := Lib.hid ho
    have HK4 := Lib.hid (HK3.out.trans ((Keep.of_below ho.2).mono (fun k h => Nat.lt_of_lt_of_le h HK3.out.size)))
    clear ho HW3
    generalize hp : pad n = pn at *
    have Hp := Lib.hid hp
    clear hp
    obtain ⟨y, rfl⟩ : ∃ y : UInt8, x = (y.toNat : Int) := ⟨UInt8.ofNat x.toNat, by simp; omega⟩
    have s1 : (4 : Int) + (n : Int) + (pn : Int) - 4 - (n : Int) = (pn : Int) := by omega
    by_cases hz : pn = 0
    · subst hz
      clear s1
      go_wp2_with fail
      refine (newReader_any A4 _ c4 _ w4 HO4.out.bs (by omega)).mono ?_
      rintro e w5 ⟨q, rfl, hr, hbe, hq⟩
      have HR5 := Lib.hid hr
      have HK5 := Lib.hid (HK4.out.trans ((Keep.of_below hbe).mono (fun k h => Nat.lt_of_lt_of_le h HK4.out.size)))
      have hq0 : w.heap.size ≤ q := Nat.le_trans HK4.out.size hq
      clear hr hbe HK4 hq HO4
      go_wp2_with fail
      refine (opaquer w5 q (opq b) 0 100 (by omega) (by omega) HR5.out).mono ?_
      have hro := rdO_opq 100 b [] (by rw [Hn.out]; omega) (by rw [Hn.out]; omega)
      rw [List.append_nil] at hro
      rw [hro]
      rintro e w6 ⟨A6, c6, rfl, hbs, hr, hg, hA⟩
      rw [Hn.out] at hbs ⊢
      have HR6 := Lib.hid hr
      have HK6 := Lib.hid (HK5.out.grown hg (fun k h => Nat.lt_of_lt_of_le h HK5.out.size) (fun k h h' => by injection h with h; omega))
      have v1 := run_convert_bs w6 A6 n c6 b hbs
      have v2 := run_convert_bs w6 A n c b (HB.out.kept HK6.out)
      clear hbs hr hg hA hro HR5 HK5
      go_wp2_with fail
      refine (end_any w6 q [] 0 HR6.out).mono ?_
      rw [rd4]
      rintro e w9 ⟨rfl, rfl⟩
      go_wp2_with fail
      go_ret
      exact ⟨rfl, HK6.out.below⟩
    · have hpz : 0 < pn := by omega
      clear hz
      obtain ⟨g, rfl, hg, hnc, hfr⟩ := HO4.out.addr (by omega)
      have a1 : (0 : Int) ≤ at_ % (pn : Int) := Int.emod_nonneg _ (by omega)
      have a2 : at_ % (pn : Int) < (pn : Int) := Int.emod_lt_of_pos _ (by omega)
      obtain ⟨i, hi⟩ := Int.eq_ofNat_of_zero_le a1
      have hip : i < pn := by omega
      clear a1 a2
      have s2 : ((4 : Int) + (n : Int) + (i : Int)).toNat = 4 + n + i := by omega
      have hbs4 := HO4.out.bs
      have hjl : 4 + n + i < (opq b).length := by rw [Hol.out]; omega
      obtain ⟨_, _, hee, hcs⟩ := hbs4.2 (by omega)
      injection hee with hee
      injection hee with h1 h2 _
      subst h1 h2
      have hcell := hcs (4 + n + i) hjl
      rw [Nat.zero_add] at hcell
      have hfi := hfr (4 + n + i)
      have HS4 := Lib.hid (hbs4.set_ (i := 4 + n + i) y)
      have HK5 := Lib.hid (HK4.out.setCell (p := ⟨g, 0 + (4 + n + i), none⟩) (by show ¬ g < w.heap.size; have := HK3.out.size; omega) (.int .u8 (y.toNat : Int)))
      rw [Nat.zero_add] at HS4 HK5
      generalize (opq b)[4 + n + i].toNat = oldv at *
      clear hcs hbs4 hfr hjl
      go_wp2_with fail
      clear hcell hfi s2
      generalize w4.setCell ⟨g, 4 + n + i, none⟩ (.int .u8 (y.toNat : Int)) = w5 at *
      refine (newReader_any _ _ c4 _ w5 HS4.out (by omega)).mono ?_
      rintro e w6 ⟨q, rfl, hr, hbe, hq⟩
      have HR6 := Lib.hid hr
      have HK6 := Lib.hid (HK5.out.trans ((Keep.of_below hbe).mono (fun k h => Nat.lt_of_lt_of_le h HK5.out.size)))
      have hq0 : w.heap.size ≤ q := Nat.le_trans HK5.out.size hq
      clear hr hbe HK4 hq HO4 HK5 HS4
      go_wp2_with fail
      refine (opaquer w6 q _ 0 100 (by omega) (by omega) HR6.out).mono ?_
      by_cases hy : y = 0
      · subst hy
        have hro := rdO_opq 100 b [] (by rw [Hn.out]; omega) (by rw [Hn.out]; omega)
        rw [List.append_nil] at hro
        have hst := set_opq b i
        rw [Hn.out] at hst
        rw [hst, hro]
        rintro e w7 ⟨A7, c7, rfl, hbs, hr, hg, hA⟩
        rw [Hn.out] at hbs ⊢
        have HR7 := Lib.hid hr
        have HK7 := Lib.hid (HK6.out.grown hg (fun k h => Nat.lt_of_lt_of_le h HK6.out.size) (fun k h h' => by injection h with h; omega))
        have v1 := run_convert_bs w7 A7 n c7 b hbs
        have v2 := run_convert_bs w7 A n c b (HB.out.kept HK7.out)
        clear hbs hr hg hA hro HR6 HK6 hst
        go_wp2_with fail
        refine (end_any w7 q [] 0 HR7.out).mono ?_
        rw [rd4]
        rintro e w9 ⟨rfl, rfl⟩
        go_wp2_with fail
        go_ret
        exact ⟨rfl, HK7.out.below⟩
      · obtain ⟨l', hro⟩ := rdO_pads 100 b i y (by rw [Hn.out, Hp.out]; exact hip) hy (by rw [Hn.out]; omega) (by rw [Hn.out]; omega)
        rw [Hn.out] at hro
        rw [hro]
        rintro e w7 ⟨A7, c7, rfl, hbs, hr, hg, hA⟩
        have HR7 := Lib.hid hr
        have HK7 := Lib.hid (HK6.out.grown hg (fun k h => Nat.lt_of_lt_of_le h HK6.out.size) (fun k h h' => by injection h with h; omega))
        have hy1 : ((y.toNat : Int) != 0) = true := by
          rw [bne_iff_ne]
          intro h
          exact hy (UInt8.toNat_inj.1 (by simpa using h))
        clear hbs hr hg hA hro HR6 HK6 hy
        go_wp2_with fail
        refine (err_any w7 q l' 11 HR7.out).mono ?_
        rintro e w8 ⟨rfl, rfl⟩
        go_wp2_with fail
        go_ret
        exact ⟨rfl, HK7.out.below⟩
end Go.Proofs.Ytdooimdjejopmaa
