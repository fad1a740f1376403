/-
  slices.Clone of bytes and of slots (layer 13).
-/
import Derived.Test.YtpbpdnjlomhkdaaGreatOPC
import Derived.Test.YtpbpdnjlomhkdaaGreatOPB
import Derived.Maps.AppendAt
namespace Go.Proofs.YtpbpdnjlomhkdaaGreat
open Go.RowKit Go.Shelf

set_option maxHeartbeats 1000000 in
theorem cloneB_any (A : Option Addr) (n c : Nat) (l : List UInt8) (w : World) (h : BS w A n l) (hn : n ≤ 3000000) :
    Calls Tryz.prog 52 #[.slice A n c] w fun e w' => ∃ A' c', e = .returned (.slice A' n c') ∧ Own w w' A' n c' l := by
  obtain ⟨i0, hi0, hz0, hz1, hz2⟩ := info_parts info_u8
  have H := Lib.hid h
  clear h
  have hnil := fun W => Lib.run_eql_slice_nil (P := Tryz.prog) W 38 5 A n c 0 0 Tryz.underlying38
  rcases A with _ | ad
  · have hn0 : n = 0 := by
      rcases Nat.eq_zero_or_pos n with h0 | h0
      · exact h0
      · obtain ⟨b, o, h, _⟩ := H.out.2 h0
        cases h
    subst hn0
    have hl : l = [] := List.eq_nil_of_length_eq_zero H.out.1
    subst hl
    go_enter Tryz.func52, Tryz.ntmps52
    go_wp2
    go_ret
    exact ⟨none, 0, rfl, World.ownsRow_nil _ _ _ _, Below.refl _ _⟩
  · go_enter Tryz.func52, Tryz.ntmps52
    go_wp2_with
      ((at_builtin
        refine wpList_append_bytes _ rfl (.tmp 5) (.tmp 6) 38 rfl w.heap.size 5 i0 Tryz.underlying38 hi0 hz0 hz1 hz2 (some ⟨w.heap.size, 0, none⟩) 0 0 [] rfl (World.ownsRow_made w #[] 0 (Nat.le_refl _) (by unfold maxLen; omega) rfl)
          (some ad) n c l rfl (H.out.alloc _) (by omega) (by simp) ?_
        intro A' c' w1 hown hgrow hat))
    have HO : Hid (w1.ownsRow w.heap.size 5 1 (.slice A' n c') n (bc l)) := by simpa [Hid] using hown
    have HB : Hid (Below w.heap.size w w1) := ((Below.refl _ _).alloc (Nat.le_refl _) _).grown hgrow (by simp) (fun k hk => by simp [Value.ownBlock] at hk; omega)
    clear hown hgrow hat
    go_ret
    exact ⟨A', c', rfl, HO.out, HB.out⟩
/-- Where the data of slots lie. -/
theorem SS.all {w : World} {A : Option Addr} {N : Nat → Vl.Th} (h : SS w A 24 ((List.range 24).map N)) : ∃ b o, A = some ⟨b, o, none⟩ ∧ ∃ sl : Nat → Sl, ∀ i, i < 24 → (∀ j u, (sc (N i) (.slice (sl i).a (sl i).n (sl i).c))[j]? = some u → w.cell? ⟨b, o + i * 9 + j, none⟩ = some u) ∧ BS w (sl i).a (sl i).n (N i).dt ∧ (sl i).n ≤ (sl i).c := by
  obtain ⟨b, o, e, hc⟩ := h.2 (by omega)
  have key : ∀ i, ∃ y : Sl, i < 24 → (∀ j u, (sc (N i) (.slice y.a y.n y.c))[j]? = some u → w.cell? ⟨b, o + i * 9 + j, none⟩ = some u) ∧ BS w y.a y.n (N i).dt ∧ y.n ≤ y.c := fun i => by
    by_cases hi : i < 24
    · obtain ⟨y, h1, h2, h3⟩ := hc i (by simpa using hi)
      simp only [List.getElem_map, List.getElem_range] at h1 h2
      exact ⟨y, fun _ => ⟨h1, h2, h3⟩⟩
    · exact ⟨⟨none, 0, 0⟩, fun h => absurd h hi⟩
  exact ⟨b, o, e, fun i => Classical.choose (key i), fun i hi => Classical.choose_spec (key i) hi⟩
theorem kro_news {w : World} {b o : Nat} {N : Nat → Vl.Th} {sl : Nat → Sl} (h : ∀ i, i < 24 → ∀ j u, (sc (N i) (.slice (sl i).a (sl i).n (sl i).c))[j]? = some u → w.cell? ⟨b, o + i * 9 + j, none⟩ = some u) : ∀ j u, (kro N sl 24)[j]? = some u → w.cell? ((⟨b, o, none⟩ : Addr).add j) = some u := fun j u hu => by
  have hj : j < 24 * 9 := by have := (List.getElem?_eq_some_iff.1 hu).1; rwa [kro_len] at this
  have hq : j / 9 * 9 + j % 9 = j := by omega
  rw [← hq, kro_get N sl (j / 9) (j % 9) (by omega) 24 (by omega)] at hu
  rw [add_plain]
  have := h (j / 9) (by omega) (j % 9) u hu
  rw [show o + j / 9 * 9 + j % 9 = o + j by omega] at this
  exact this
set_option maxRecDepth 100000 in
set_option maxHeartbeats 2000000 in
theorem cloneS_any (A : Option Addr) (c : Nat) (N : Nat → Vl.Th) (w : World) (h : SS w A 24 ((List.range 24).map N)) :
    Calls Tryz.prog 51 #[.slice A 24 c] w fun e w' => ∃ g k sl, e = .returned (.slice (some ⟨g, 0, none⟩) 24 k) ∧ SX w' g k N sl ∧ w.heap.size ≤ g ∧ Below w.heap.size w w' := by
  obtain ⟨i0, hi0, hz0, hz1, hz2⟩ := info_parts infos_Sl
  obtain ⟨b, o, rfl, sl, hsl⟩ := h.all
  have HN : Hid (∀ W', Below w.heap.size w W' → ∀ j u, (kro N sl 24)[j]? = some u → W'.cell? ((⟨b, o, none⟩ : Addr).add j) = some u) := fun W' hb => kro_news fun i hi j u hu => (hb.cell (World.block_lt_of_cell? w _ ((hsl i hi).1 j u hu))).trans ((hsl i hi).1 j u hu)
  have HS : Hid (∀ i, i < 24 → BS w (sl i).a (sl i).n (N i).dt ∧ (sl i).n ≤ (sl i).c) := fun i hi => (hsl i hi).2
  have HL : Hid ((kro N sl 24).length = 24 * 9) := kro_len N sl 24
  have HONE := Lib.hid (kro_one N sl 24)
  clear h hsl
  have hnil := fun W => Lib.run_eql_slice_nil (P := Tryz.prog) W 24 92 (some ⟨b, o, none⟩) 24 c 0 0 Tryz.underlying24
  have HOFF : Hid (∀ i, i < 24 → Off w.heap.size (sl i).a (sl i).n) := fun i hi => (HS.out i hi).1.off_new (Nat.le_refl _)
  obtain ⟨K, hK⟩ : ∃ K, K = kro N sl 24 := ⟨_, rfl⟩
  rw [← hK] at HN HL HONE
  have HK := Lib.hid hK
  clear hK
  go_enter Tryz.func51, Tryz.ntmps51
  go_wp2_with
    ((at_builtin
      refine wpList_append_own_at _ rfl (.tmp 5) (.tmp 6) 24 rfl w.heap.size 92 i0 _ 9 72 Tryz.underlying24 hi0 hz0 hz1 hz2 rfl (by omega) (.slice (some ⟨w.heap.size, 0, none⟩) 0 0) 0 [] rfl (World.ownsRow_made w #[] 0 (Nat.le_refl _) (by unfold maxLen; omega) rfl)
        ⟨b, o, none⟩ 24 c K rfl HL.out (HN.out _ (alloc_below w _)) HONE.out (by unfold maxLen; omega) (by omega) (by simp) ?_
      intro v' w8 hown hgrow _ hat))
  have HB : Hid (Below w.heap.size w w8) := (alloc_below w _).grown hgrow (by simp) (fun k hk => by simp [Value.ownBlock] at hk; omega)
  rcases hown.2 with ⟨_, h0⟩ | ⟨g, cap, cur, rfl, hg, hcur, hcap, _, _, htake⟩
  · omega
  have HR : Hid (∃ rest, Bw w8 g (K ++ rest) 92) := ⟨cur.toList.drop (24 * 9), by
    unfold Bw
    rw [hcur]
    have e : cur = (K ++ cur.toList.drop (24 * 9)).toArray := by
      have h2 : cur.toList.take (24 * 9) = K := by simpa using htake
      rw [← h2, List.take_append_drop]
    rw [← e]⟩
  have HG : Hid (w.heap.size ≤ g ∧ 24 ≤ cap) := ⟨hg, by omega⟩
  clear hown hgrow hat hcur hcap htake hg HOFF
  go_ret
  refine ⟨g, cap, sl, rfl, ⟨by rw [← HK.out]; exact HR.out, HG.out.2, fun i hi => ?_⟩, HG.out.1, HB.out⟩
  exact ⟨(HS.out i hi).1.below HB.out, (HS.out i hi).2, (HS.out i hi).1.off_new HG.out.1⟩
/-- A slice of bytes that was cloned. -/
theorem cloneB_off (A : Option Addr) (n c : Nat) (l : List UInt8) (w : World) (h : BS w A n l) (hn : n ≤ 3000000) :
    Calls Tryz.prog 52 #[.slice A n c] w fun e w' => ∃ A' c', e = .returned (.slice A' n c') ∧ BS w' A' n l ∧ n ≤ c' ∧ (∀ g, g < w.heap.size → Off g A' n) ∧ Below w.heap.size w w' :=
  (cloneB_any A n c l w h hn).mono fun e w' ⟨A', c', h1, h2⟩ => ⟨A', c', h1, h2.bs, h2.cap, fun g hg _ ad e => by
    have := h2.new ad e
    omega, h2.2⟩
/-- What copyOf hands back. -/
def CopyQ (t : Op.TT) (w : World) (e : Ending) (w' : World) : Prop := ∃ g k sl, e = .returned (.agg (tc t (.slice (some ⟨g, 0, none⟩) 24 k)).toArray) ∧ SX w' g k t.s sl ∧ w.heap.size ≤ g ∧ Below w.heap.size w w'
/-- While things are copied. -/
structure CX (w : World) (b1 b2 g k : Nat) (t : Op.TT) (sl : Nat → Sl) (W : World) : Prop where
  bel : Below w.heap.size w W
  sx : SX W g k t.s sl
  one : Bw W b1 (tc t (.slice (some ⟨g, 0, none⟩) 24 k)) 27
  two : Bw W b2 (tc Op.zeroT (.slice none 0 0)) 27
  pos : w.heap.size ≤ b1 ∧ w.heap.size ≤ b2 ∧ w.heap.size ≤ g ∧ b1 ≠ g ∧ b2 ≠ g ∧ b1 ≠ b2
theorem CX.below {w W W' : World} {b1 b2 g k : Nat} {t : Op.TT} {sl : Nat → Sl} (h : CX w b1 b2 g k t sl W) (hb : Below W.heap.size W W') : CX w b1 b2 g k t sl W' :=
  ⟨h.bel.trans (hb.mono h.bel.size), h.sx.below hb, h.one.below hb, h.two.below hb, h.pos⟩
theorem CX.set {w W : World} {b1 b2 g k : Nat} {t : Op.TT} {sl : Nat → Sl} (h : CX w b1 b2 g k t sl W) {i : Nat} (hi : i < 24) {A : Option Addr} {n c : Nat} (hb : BS W A n (t.s i).dt) (hc : n ≤ c) (ho : Off g A n) : CX w b1 b2 g k t (Vl.upd sl i ⟨A, n, c⟩) (W.setCell ⟨g, i * 9 + 8, none⟩ (.slice A n c)) := by
  have hs := h.sx.set hi 8 (by omega) (.slice A n c) (x := t.s i) (s := ⟨A, n, c⟩) rfl hb hc ho
  rw [upd_self] at hs
  exact ⟨h.bel.setCell (p := ⟨g, i * 9 + 8, none⟩) h.pos.2.2.1 _, hs, h.one.off h.pos.2.2.2.1 _, h.two.off h.pos.2.2.2.2.1 _, h.pos⟩
theorem things_row (t : Op.TT) (A : Option Addr) (n c : Nat) : ∀ v ∈ tc t (.slice A n c), v.oneCell' = true := by
  intro v hv
  simp only [tc, List.mem_cons, List.not_mem_nil, or_false] at hv
  rcases hv with rfl | rfl | rfl <;> rfl
set_option maxRecDepth 100000 in
set_option maxHeartbeats 4000000 in
theorem copyOf_any {A : Option Addr} {c : Nat} {t : Op.TT} {w : World} (h : SS w A 24 ((List.range 24).map t.s)) (hn : ∀ i, i < 24 → (t.s i).dt.length ≤ 1000000) :
    Calls Tryz.prog 34 #[.agg (tc t (.slice A 24 c)).toArray] w (CopyQ t w) := by
  have H0 := Lib.hid h
  have HN := Lib.hid hn
  clear h hn
  have HA := Lib.hid (alloc_below w (.cells (tc t (.slice A 24 c)).toArray 27))
  have HB1 : Hid (Bw (w.alloc (.cells (tc t (.slice A 24 c)).toArray 27)) w.heap.size (tc t (.slice A 24 c)) 27) := heap_alloc_new w _
  have HSZ : Hid ((w.alloc (.cells (tc t (.slice A 24 c)).toArray 27)).heap.size = w.heap.size + 1) := World.size_alloc _ _
  go_enter Tryz.func34, Tryz.ntmps34
  go_upto_region 1 with (refine wpList_alloc_any rfl 27 rfl _ zero_Th ?_; intro w2 hb2 hs2 hw2)
  have HB12 : Hid (Bw w2 w.heap.size (tc t (.slice A 24 c)) 27) := HB1.out.below hw2
  have HB22 : Hid (Bw w2 (w.heap.size + 1) (tc Op.zeroT (.slice none 0 0)) 27) := by rw [← HSZ.out]; exact hb2
  have HW2 : Hid (Below w.heap.size w w2) := HA.out.trans (hw2.mono HA.out.size)
  have HS2 : Hid (w2.heap.size = w.heap.size + 2) := by show _ = _; rw [hs2, HSZ.out]
  rw [HSZ.out]
  clear hb2 hs2 hw2 HA HB1 HSZ
  have c0 := HB12.out.cell 0 _ rfl
  go_wp2_with fail
  refine (cloneS_any A c t.s w2 (H0.out.below HW2.out)).mono ?_
  rintro e w3 ⟨g, k, sl, rfl, h1, h2, h3⟩
  have hg2 : w.heap.size + 2 ≤ g := by rw [← HS2.out]; exact h2
  have HX3 := Lib.hid h1
  have HB13 := Lib.hid (HB12.out.below h3)
  have HB23 := Lib.hid (HB22.out.below h3)
  have HW3 : Hid (Below w.heap.size w w3) := HW2.out.trans (h3.mono HW2.out.size)
  clear h1 h2 h3 HB12 HB22 HW2 HS2 c0 H0
  have c0 := HB13.out.cell 0 _ rfl
  have f0 := HB13.out.froz 0
  go_upto_region 2 with fail
  have HC : Hid (CX w w.heap.size (w.heap.size + 1) g k t sl (w3.setCell ⟨w.heap.size, 0, none⟩ (.slice (some ⟨g, 0, none⟩) 24 k))) := by
    refine ⟨HW3.out.setCell (p := ⟨w.heap.size, 0, none⟩) (Nat.le_refl _) _, ?_, HB13.out.set 0 _, HB23.out.off (by show w.heap.size + 1 ≠ w.heap.size; omega) _, by omega⟩
    refine HX3.out.other (p := w.heap.size) (by omega) (fun o z hz => ?_) ((Keep.refl _ w3).setCell (p := ⟨w.heap.size, 0, none⟩) (fun h => h rfl) _)
    rw [cell_of_row _ _ _ _ _ _ HB13.out] at hz
    match o, hz with
    | 0, hz => simp [tc] at hz
    | 1, hz => simp [tc] at hz
    | 2, hz => simp [tc] at hz
    | o + 3, hz => simp [tc] at hz
  generalize w3.setCell ⟨w.heap.size, 0, none⟩ (.slice (some ⟨g, 0, none⟩) 24 k) = w4 at *
  have HQ : Hid (w.heap.size = w.heap.size) := rfl
  clear c0 f0 HX3 HB13 HB23 HW3
  have c1 := HC.out.one.cell 0 _ rfl
  go_upto_region 3 with fail
  go_loopw [12] (fun i wr => ∃ (j : Nat) (sl : Nat → Sl), j ≤ 24 ∧ i = .int .i64 j ∧ Hid (CX w w.heap.size (w.heap.size + 1) g k t sl wr)) (fun i _ => 24 - (intOf i).toNat)
  case atStart => exact ⟨0, sl, by omega, rfl, HC.out⟩
  case round =>
    clear HC c1 sl
    obtain ⟨i, sl, hi, rfl, HC⟩ := hrel
    by_cases hlt : i < 24
    · have HL := Lib.hid (HC.out.sx.load hlt)
      go_upto_region 5 with (first
        | (refine Did.list rfl (did_load 92 (.tmp 15) rfl ⟨g, i * 9, none⟩ rfl _ Tryz.underlying92 rfl (sc (t.s i) (.slice (sl i).a (sl i).n (sl i).c)) size_Sl HL.out) ?_)
        | (refine wpList_alloc_any rfl 92 rfl _ zero_Sl ?_; intro w5 hb5 hs5 hw5)
        | (refine wpList_store_part rfl 92 (.tmp 4) (.tmp 16) rfl wr.heap.size 0 (sc (t.s i) (.slice (sl i).a (sl i).n (sl i).c)) rfl rfl 92 _ hb5 size_Sl (by simp [sc]) (sc_row _ _ _ _) ?_
           intro w6 hb6 hs6 hk6))
      have hbw : Below wr.heap.size wr w6 := hw5.trans (hk6.below2 (fun k hk => by omega))
      have HC6 := Lib.hid (HC.out.below hbw)
      have HV6 : Hid (Bw w6 wr.heap.size (sc (t.s i) (.slice (sl i).a (sl i).n (sl i).c)) 92) := hb6
      have hgr : g < wr.heap.size ∧ w.heap.size < wr.heap.size := ⟨HC.out.sx.lt, HC.out.one.lt⟩
      clear hb5 hs5 hw5 hb6 hs6 hk6 hbw HL HC
      obtain ⟨G1, hG1⟩ : ∃ G1, G1 = w.heap.size := ⟨_, rfl⟩
      obtain ⟨G4, hG4⟩ : ∃ G4, G4 = wr.heap.size := ⟨_, rfl⟩
      rw [← hG4] at HV6 hgr
      rw [← hG1] at hgr
      have HG := Lib.hid hG1
      rw [← hG4, ← hG1]
      clear hG4 hG1
      have HS : Hid ((fun W : World => W.cell? ⟨G1, 0, none⟩ = some (.slice (some ⟨g, 0, none⟩) 24 k) ∧ W.cell? ⟨G4, 8, none⟩ = some (.slice (sl i).a (sl i).n (sl i).c)) w6.drew) := ⟨by rw [HG.out]; exact HC6.out.one.cell 0 _ rfl, HV6.out.cell 8 _ rfl⟩
      have HCd := Lib.hid (HC6.out.below (Below.refl _ w6).drew)
      have HVd : Hid (Bw w6.drew G4 (sc (t.s i) (.slice (sl i).a (sl i).n (sl i).c)) 92) := HV6.out
      clear HC6 HV6
      refine wp_region_held_drew (S := (fun W : World => W.cell? ⟨G1, 0, none⟩ = some (.slice (some ⟨g, 0, none⟩) 24 k) ∧ W.cell? ⟨G4, 8, none⟩ = some (.slice (sl i).a (sl i).n (sl i).c))) (by kernel_rfl) HS.out (fun _ => ?_)
      change wpAnyH _ _ _ _ _ 9 (Array.replicate 9 false) _ _
      refine takeH (i := 0) 17 (.pointer (some ⟨G1, 0, none⟩)) rfl rfl (by kernel_rfl) (by kernel_rfl) (by kernel_rfl) (fun _ _ _ h => h) (.inl ⟨by rfl, fun W hW => by go_simp⟩) HS.out ?_
      simp only [Act.put, List.setIfInBounds_toArray, List.set_cons_zero, List.set_cons_succ]
      refine takeH (i := 1) 18 (.slice (some ⟨g, 0, none⟩) 24 k) rfl rfl (by kernel_rfl) (by kernel_rfl) (by kernel_rfl) (fun _ _ _ h => h) (.inl ⟨by rfl, fun W hW => by (have hz := hW.1; go_simp)⟩) HS.out ?_
      simp only [Act.put, List.setIfInBounds_toArray, List.set_cons_zero, List.set_cons_succ]
      refine takeH (i := 2) 19 (.int .i64 (i : Int)) rfl rfl (by kernel_rfl) (by kernel_rfl) (by kernel_rfl) (fun _ _ _ h => h) (.inl ⟨by rfl, fun W hW => by go_simp⟩) HS.out ?_
      simp only [Act.put, List.setIfInBounds_toArray, List.set_cons_zero, List.set_cons_succ]
      refine takeH (i := 3) 20 (.pointer (some ⟨G4, 8, none⟩)) rfl rfl (by kernel_rfl) (by kernel_rfl) (by kernel_rfl) (fun _ _ _ h => h) (.inl ⟨by rfl, fun W hW => by go_simp⟩) HS.out ?_
      simp only [Act.put, List.setIfInBounds_toArray, List.set_cons_zero, List.set_cons_succ]
      refine takeH (i := 4) 21 (.slice (sl i).a (sl i).n (sl i).c) rfl rfl (by kernel_rfl) (by kernel_rfl) (by kernel_rfl) (fun _ _ _ h => h) (.inl ⟨by rfl, fun W hW => by (have hz := hW.2; go_simp)⟩) HS.out ?_
      simp only [Act.put, List.setIfInBounds_toArray, List.set_cons_zero, List.set_cons_succ]
      refine wpAnyH_ready (rs := [5]) (by kernel_rfl) (by simp) ?_
      refine AllReadyH.cons rfl (fun K hK => ?_) AllReadyH.nil
      go_simp
      have hbs := HCd.out.sx.bs i hlt
      refine (cloneB_off (sl i).a (sl i).n (sl i).c (t.s i).dt w6.drew hbs.1 (by have := HN.out i hlt; rw [← hbs.1.1]; omega)).mono ?_
      rintro e w7 ⟨A2, c2, rfl, h1, h2, h3, h4⟩
      have HC7 := Lib.hid (HCd.out.below h4)
      have HV7 : Hid (Bw w7 G4 (sc (t.s i) (.slice (sl i).a (sl i).n (sl i).c)) 92) := HVd.out.below h4
      have HS7 : Hid ((fun W : World => W.cell? ⟨G1, 0, none⟩ = some (.slice (some ⟨g, 0, none⟩) 24 k) ∧ W.cell? ⟨G4, 8, none⟩ = some (.slice (sl i).a (sl i).n (sl i).c)) w7) := ⟨by rw [HG.out]; exact HC7.out.one.cell 0 _ rfl, HV7.out.cell 8 _ rfl⟩
      have HC8 := Lib.hid (HC7.out.set hlt h1 h2 (h3 g HCd.out.sx.lt))
      have HS8 : Hid ((fun W : World => W.cell? ⟨G1, 0, none⟩ = some (.slice (some ⟨g, 0, none⟩) 24 k) ∧ W.cell? ⟨G4, 8, none⟩ = some (.slice (sl i).a (sl i).n (sl i).c)) (w7.setCell ⟨g, i * 9 + 8, none⟩ (.slice A2 (sl i).n c2))) := ⟨by rw [HG.out]; exact HC8.out.one.cell 0 _ rfl, (HV7.out.off (by show G4 ≠ g; omega) _).cell 8 _ rfl⟩
      refine hK.out _ _ HS7.out fun _ => ?_
      clear hK K h1 h2 h3 h4 hbs
      refine takeH (i := 6) 23 (.pointer (some ⟨g, i * 9, none⟩)) rfl rfl (by kernel_rfl) (by kernel_rfl) (by kernel_rfl) (fun _ _ _ h => h) (.inl ⟨by rfl, fun W hW => by go_simp⟩) HS7.out ?_
      simp only [Act.put, List.setIfInBounds_toArray, List.set_cons_zero, List.set_cons_succ]
      refine takeH (i := 7) 24 (.pointer (some ⟨g, i * 9 + 8, none⟩)) rfl rfl (by kernel_rfl) (by kernel_rfl) (by kernel_rfl) (fun _ _ _ h => h) (.inl ⟨by rfl, fun W hW => by go_simp⟩) HS7.out ?_
      simp only [Act.put, List.setIfInBounds_toArray, List.set_cons_zero, List.set_cons_succ]
      refine wpAnyH_ready (rs := [8]) (by kernel_rfl) (by simp) ?_
      refine AllReadyH.cons rfl (fun K hK => ?_) AllReadyH.nil
      have k8 := HC7.out.sx.cellS hlt 8 _ rfl
      have f8 := HC7.out.sx.frozS (i * 9 + 8)
      go_simp
      refine hK.out _ _ HS8.out fun _ => ?_
      clear hK K k8 f8
      refine wpAnyH_done (by kernel_rfl) ?_ _
      have hG1 := HG.out
      clear HS HS7 HS8 HCd HVd HC7 HV7 HG
      subst hG1
      go_wp2_with fail
      go_roundw
      case rel => exact ⟨i + 1, _, by omega, by go_num, HC8.out⟩
      case measure => simp [intOf]; omega
    · obtain rfl : i = 24 := by omega
      have HC1 := HC.out.one
      go_wp2_with (first
        | (refine wpList_load_part rfl 27 (.tmp 1) rfl w.heap.size 0 rfl _ Tryz.underlying27 rfl (tc t (.slice (some ⟨g, 0, none⟩) 24 k)) 27 _ HC.out.one size_Th (fun j u hu => by rw [Nat.zero_add]; exact hu) ?_)
        | (refine wpList_store_part rfl 27 (.tmp 2) (.tmp 26) rfl (w.heap.size + 1) 0 (tc t (.slice (some ⟨g, 0, none⟩) 24 k)) rfl rfl 27 _ HC.out.two size_Th (by simp [tc]) (things_row _ _ _ _) ?_
           intro w9 hb9 hs9 hk9))
      refine bodyPost_ret (results_one rfl _ w9 (w.heap.size + 1) hb9 size_Th (by rfl) Tryz.underlying27) rfl ?_
      refine ⟨g, k, sl, rfl, HC.out.sx.other (p := w.heap.size + 1) HC.out.pos.2.2.2.2.1 (fun o z hz => ?_) hk9, HC.out.pos.2.2.1, HC.out.bel.trans (hk9.below2 (fun k hk => by have := HC.out.bel.size; omega))⟩
      rw [cell_of_row _ _ _ _ _ _ HC.out.two] at hz
      match o, hz with
      | 0, hz => simp [tc] at hz
      | 1, hz => simp [tc] at hz
      | 2, hz => simp [tc] at hz
      | o + 3, hz => simp [tc] at hz
end Go.Proofs.YtpbpdnjlomhkdaaGreat
