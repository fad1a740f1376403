/-
  Contracts of a journal's small calls: home, size, frame, flush, writer and what it hands back.
-/
import Derived.Test.YtcieahfhpanogaaJMem
namespace Go.Proofs.Ytcieahfhpanogaa
open Go.RowKit

section
variable {w : World} {p dp : Nat} {S D : Nat → Prop} {j : J.JS} {d : DS}
set_option maxHeartbeats 400000 in
theorem home_any (h : JD w p dp S D j d) (i : Nat) (hl : j.log ≤ 200) (hi : i ≤ 400) : Calls Try.prog 39 #[.pointer (some ⟨p, 0, none⟩), .int .i64 (i : Int)] w fun e w' => e = .returned (.int .i64 ((1 + j.log + i : Nat) : Int)) ∧ w = w' := by
  obtain ⟨_, h1, _⟩ := h.cell
  clear h
  go_enter Try.func39, Try.ntmps39
  go_wp2
  go_ret
  exact ⟨ret_int (by push_cast; omega), rfl⟩
set_option maxHeartbeats 400000 in
theorem size_any (A : Option Addr) (n c : Nat) (w : World) (hn : n ≤ 1000000) : Calls Try.prog 30 #[.slice A n c] w fun e w' => e = .returned (.int .i64 ((n + 1 : Nat) : Int)) ∧ w = w' := by
  go_enter Try.func30, Try.ntmps30
  go_wp2
  go_ret
  exact ⟨rfl, rfl⟩
/-- The frame in a sector. -/
def frm (d : DS) (i : Int) : Fm := if refus d i = 0 then getF (d.read i) else Fm.zero
theorem results_fr1 {t : TypeId} {fs : Array Field} {cs : Array Value} {fn : Func} {p : Tmp} (h : fn.results = #[.cell p t]) (tmps : Array Value) (w : World) (g : Nat) (hg : w.heap[g]? = some (.cells cs t (0, 0))) (hi : (Try.prog.info? t).map (·.size) = some cs.size)
    (hp : tmps.getD p undef = .pointer (some ⟨g, 0, none⟩)) (hu : Try.prog.underlying t = some (.struct fs)) : (results fn tmps).run Try.prog w = .ok (.agg cs) w := by
  have hp' : tmps[p]?.getD undef = .pointer (some ⟨g, 0, none⟩) := by simpa using hp
  have hl := run_loadVar_row (P := Try.prog) w g t t cs (0, 0) _ hg hu rfl hi
  simp [results, h, hp', asAddr, hl]
theorem fv_size (f : Fm) (B : Option Addr) (n c : Nat) : (Try.prog.info? 76).map (·.size) = some (fv f B n c).size := size_frame
theorem fv_one (f : Fm) (B : Option Addr) (n c : Nat) : (fv f B n c).all (·.oneCell') = true := frc_all _ _ _ _ _ _ _ _
set_option maxRecDepth 100000 in
set_option maxHeartbeats 1000000 in
theorem frame_any (h : JD w p dp S D j d) (hs : d.pend.length ≤ 1000000) (i : Int) : Calls Try.prog 38 #[.pointer (some ⟨p, 0, none⟩), .int .i64 i] w fun e w' =>
    ∃ A n c, e = .returned (.agg (fv (frm d i) A n c)) ∧ BS w' A n (frm d i).b ∧ n ≤ c ∧ (∀ ad, A = some ad → w.heap.size ≤ ad.block) ∧ Below w.heap.size w w' := by
  have HJ := Lib.hid h
  clear h
  go_enter Try.func38, Try.ntmps38
  go_wp2_with (first
    | (refine wpList_alloc_at rfl 76 rfl _ zero_frame w.heap.size rfl ?_
       intro w1 hb1 hw1
       have HB1 := Lib.hid hb1
       have HW1 := Lib.hid hw1
       have HJ1 := Lib.hid (HJ.out.below hw1)
       obtain ⟨h0, _⟩ := HJ1.out.cell
       clear hb1 hw1))
  refine (read_all dp D d i w1 HJ1.out.dk hs).mono ?_
  rintro e w2 ⟨A2, n2, c2, rfl, hc2, hb2, hn2, hw2⟩
  have HB2 := Lib.hid hb2
  have HW2 := Lib.hid hw2
  clear hb2 hw2 hn2 h0
  by_cases hr : refus d i = 0
  · have HF : Hid (frm d i = getF (d.read i)) := by show _ = _; unfold frm; rw [if_pos hr]
    rw [if_pos hr] at HB2
    rw [hr]
    clear hr
    go_wp2_with fail
    refine (get_any A2 n2 c2 _ w2 HB2.out hc2).mono ?_
    rintro e w3 ⟨A3, n3, c3, rfl, hb3, hw3, hn3, hc3⟩
    have HB3 := Lib.hid hb3
    have HW3 := Lib.hid hw3
    have HN3 := Lib.hid hn3
    have HC3 := Lib.hid hc3
    clear hb3 hw3 hn3 hc3 hc2
    go_wp2_with (first
      | (refine wpList_alloc_at rfl 76 rfl _ zero_frame w3.heap.size rfl ?_
         intro w4 hb4 hw4
         have HB4 := Lib.hid hb4
         have HW4 := Lib.hid hw4
         clear hb4 hw4)
      | (refine wpList_store_any rfl 76 (.tmp 7) (.tmp 24) rfl w3.heap.size (fv (getF (d.read i)) A3 n3 c3) rfl rfl 76 _ HB4.out (fv_size _ _ _ _) rfl (fv_one _ _ _ _) ?_
         intro w5 hb5 hs5 hw5
         have HB5 := Lib.hid hb5
         have HS5 := Lib.hid hs5
         have HW5 := Lib.hid hw5
         clear hb5 hs5 hw5)
      | (refine Did.list rfl (did_load 76 (.tmp 7) rfl ⟨w3.heap.size, 0, none⟩ rfl _ Try.underlying76 rfl (fv (getF (d.read i)) A3 n3 c3).toList size_frame (fun j u hu => World.news_of_block HB5.out j u (by simpa [fv, frc] using hu))) ?_)
      | (have HB6 : Hid (w5.heap[w.heap.size]? = some (.cells (Value.agg (frc 0 0 0 0 0 none 0 0)).cells 76 (0, 0))) := by
           have h1 := (Array.getElem?_eq_some_iff.1 HB1.out).1
           have h2 := HW2.out.size
           have h3 := HW3.out.size
           show _ = _
           rw [HW5.out.block _ (by omega), HW4.out.block _ (by omega), HW3.out.block _ (by omega), HW2.out.block _ (by omega)]
           exact HB1.out
         refine wpList_store_any rfl 76 (.tmp 4) (.tmp 26) rfl w.heap.size (fv (getF (d.read i)) A3 n3 c3) rfl rfl 76 _ HB6.out (fv_size _ _ _ _) rfl (fv_one _ _ _ _) ?_
         intro w7 hb7 hs7 hw7
         have HB7 := Lib.hid hb7
         have HW7 := Lib.hid hw7
         clear hb7 hs7 hw7))
    have hW3 : Below w.heap.size w w3 := HW1.out.trans ((HW2.out.mono HW1.out.size).trans (HW3.out.mono (Nat.le_trans HW1.out.size HW2.out.size)))
    have hlt : w.heap.size < w2.heap.size := Nat.lt_of_lt_of_le (Array.getElem?_eq_some_iff.1 HB1.out).1 HW2.out.size
    have hs3 := HW3.out.size
    have hW5 : Below w3.heap.size w3 w5 := HW4.out.trans (Keep.below (HW5.out.mono fun k hk => by omega))
    refine bodyPost_ret (results_fr1 rfl _ w7 w.heap.size HB7.out (fv_size _ _ _ _) (by rfl) Try.underlying76) rfl ⟨A3, n3, c3, by rw [HF.out], ?_, HC3.out, fun ad e => Nat.le_trans (Nat.le_of_lt hlt) (HN3.out ad e), ?_⟩
    · rw [HF.out]
      exact (HB3.out.below hW5).aside HW7.out (fun ad e => by have := HN3.out ad e; omega)
    · exact hW3.trans ((hW5.mono (by omega)).trans (Keep.below (HW7.out.mono fun k hk => by omega)))
  · have HF : Hid (frm d i = Fm.zero) := by show _ = _; unfold frm; rw [if_neg hr]
    go_wp2_with (first
      | (refine Did.list rfl (did_build 76 #[] rfl (frc 0 0 0 0 0 none 0 0) built_zero) ?_)
      | (have HB6 : Hid (w2.heap[w.heap.size]? = some (.cells (Value.agg (frc 0 0 0 0 0 none 0 0)).cells 76 (0, 0))) := by
           have h1 := (Array.getElem?_eq_some_iff.1 HB1.out).1
           show _ = _
           rw [HW2.out.block _ (by omega)]
           exact HB1.out
         refine wpList_store_any rfl 76 (.tmp 4) (.tmp 20) rfl w.heap.size (fv Fm.zero none 0 0) rfl rfl 76 _ HB6.out (fv_size _ _ _ _) rfl (fv_one _ _ _ _) ?_
         intro w7 hb7 hs7 hw7
         have HB7 := Lib.hid hb7
         have HW7 := Lib.hid hw7
         clear hb7 hs7 hw7))
    refine bodyPost_ret (results_fr1 rfl _ w7 w.heap.size HB7.out (fv_size _ _ _ _) (by rfl) Try.underlying76) rfl ⟨none, 0, 0, by rw [HF.out], ?_, Nat.le_refl _, fun ad e => by (cases e), ?_⟩
    · rw [HF.out]
      exact BS.nil
    · exact HW1.out.trans ((HW2.out.mono HW1.out.size).trans (Keep.below (HW7.out.mono fun k hk => by omega)))

/-- A flush, unless there was an error. -/
def flushJ (d : DS) (j : J.JS) : DS × J.JS := if j.err = 0 then (fst d, { j with err := fer d }) else (d, j)
set_option maxHeartbeats 400000 in
theorem flushJ_any (h : JD w p dp S D j d) (hs : d.pend.length ≤ 1000000) : Calls Try.prog 37 #[.pointer (some ⟨p, 0, none⟩)] w fun e w' => (∃ v, e = .returned v) ∧ JStep p dp S D (flushJ d j).2 (flushJ d j).1 w w' := by
  have HJ := Lib.hid h
  obtain ⟨h0, _, _, _, _, h6, _⟩ := h.cell
  clear h
  by_cases he : j.err = 0
  · have HE : Hid (flushJ d j = (fst d, { j with err := fer d })) := by show _ = _; unfold flushJ; rw [if_pos he]
    rw [he] at h6
    go_enter Try.func37, Try.ntmps37
    go_wp2_with fail
    refine (flush_all dp D d w HJ.out.dk hs).mono ?_
    rintro e w1 ⟨rfl, hst⟩
    obtain ⟨D1, hJ1, hf1, _, hD1⟩ := HJ.out.disk hst
    have HJ1 := Lib.hid hJ1
    have HF1 := Lib.hid hf1
    have HD1 := Lib.hid hD1
    obtain ⟨_, _, _, _, _, h6', hfz⟩ := hJ1.cell
    have hz6 := hfz 6
    clear hst hJ1 hf1 hD1 hfz h0 h6
    go_wp2
    go_end0
    rw [HE.out]
    obtain ⟨h1, h2⟩ := HJ1.out.put (j' := { j with err := fer d }) 6 (.int .i64 (fer d)) (fun q => rfl) rfl rfl
    exact ⟨⟨_, rfl⟩, S, D1, h1, HF1.out.trans h2 (fun k hk => .inl (.inl hk)), fun _ h => .inl h, HD1.out⟩
  · have HE : Hid (flushJ d j = (d, j)) := by show _ = _; unfold flushJ; rw [if_neg he]
    go_enter Try.func37, Try.ntmps37
    go_wp2
    go_end0
    rw [HE.out]
    exact ⟨⟨_, rfl⟩, HJ.out.stay (Below.refl _ _)⟩

set_option maxHeartbeats 400000 in
theorem writer_any (w : World) (p : Nat) : Calls Try.prog 36 #[.pointer (some ⟨p, 0, none⟩)] w fun e w' =>
    e = .returned (.func (.func 45) #[] #[.pointer (some ⟨w.heap.size, 0, none⟩)]) ∧ w' = w.alloc (.cells #[.pointer (some ⟨p, 0, none⟩)] 30) := by
  go_enter Try.func36, Try.ntmps36
  go_wp2
  go_ret
  exact ⟨rfl, rfl⟩

theorem Own.new {w w' : World} {A : Option Addr} {n c : Nat} {l : List UInt8} (h : Own w w' A n c l) : ∀ ad, A = some ad → w.heap.size ≤ ad.block := by
  intro ad e
  rcases h.1.2 with ⟨h1, _⟩ | ⟨g, cap, cur, h1, h2, _⟩
  · injection h1 with h1 _ _
    rw [h1] at e
    cases e
  · injection h1 with h1 _ _
    rw [h1] at e
    cases e
    exact h2
/-- A frame is written, unless there was an error. -/
def layJ (d : DS) (j : J.JS) (i : Int) (f : Fm) : DS × J.JS := if j.err = 0 then (wst d i (sealed f.enc), { j with err := wer d i (sealed f.enc) }) else (d, j)
set_option maxRecDepth 100000 in
set_option maxHeartbeats 1000000 in
theorem layJ_any (h : JD w p dp S D j d) (hs : d.pend.length ≤ 1000000) (i : Int) (f : Fm) (hf : f.ok) (A : Option Addr) (n c : Nat) (hb : BS w A n f.b) (bx : Nat) (hx : w.cell? ⟨bx, 0, none⟩ = some (.pointer (some ⟨p, 0, none⟩))) (hxT : ¬ (S bx ∨ D bx)) :
    Calls Try.prog 45 #[.int .i64 i, .agg (fv f A n c), .pointer (some ⟨bx, 0, none⟩)] w fun e w' => (∃ v, e = .returned v) ∧ JStep p dp S D (layJ d j i f).2 (layJ d j i f).1 w w' := by
  have HJ := Lib.hid h
  have HB := Lib.hid hb
  have HF := Lib.hid hf
  have HX := Lib.hid hx
  have HXT := Lib.hid hxT
  have HXL := Lib.hid (World.block_lt_of_cell? w _ hx)
  clear h hb hf hx hxT
  go_enter Try.func45, Try.ntmps45
  go_upto_region 1 with (fail)
  have HW1 : Hid (Below w.heap.size w (w.alloc (.cells (fv f A n c) 76))) := (Below.refl _ _).alloc (Nat.le_refl _) _
  have HB1 : Hid ((w.alloc (.cells (fv f A n c) 76)).heap[w.heap.size]? = some (.cells (fv f A n c) 76 (0, 0))) := heap_alloc_new w _
  generalize w.alloc (.cells (fv f A n c) 76) = w1 at *
  have HJ1 := Lib.hid (HJ.out.below HW1.out)
  have hx1 : w1.cell? ⟨bx, 0, none⟩ = some (.pointer (some ⟨p, 0, none⟩)) := (HW1.out.cell (p := ⟨bx, 0, none⟩) HXL.out).trans HX.out
  obtain ⟨_, _, _, _, _, h6, _⟩ := HJ1.out.cell
  by_cases he : j.err = 0
  · have HE : Hid (layJ d j i f = (wst d i (sealed f.enc), { j with err := wer d i (sealed f.enc) })) := by show _ = _; unfold layJ; rw [if_pos he]
    rw [he] at h6
    go_wp2_with (first
      | (refine Did.list rfl (did_load 76 (.tmp 4) rfl ⟨w.heap.size, 0, none⟩ rfl _ Try.underlying76 rfl (fv f A n c).toList size_frame (fun j u hu => World.news_of_block HB1.out j u (by simpa [fv, frc] using hu))) ?_))
    refine (put_ok f A n c w1 (HB.out.below HW1.out) HF.out).mono ?_
    rintro e w2 ⟨A2, c2, rfl, ho2⟩
    have HO2 := Lib.hid ho2
    have HJ2 := Lib.hid (HJ1.out.below ho2.2)
    have HX2 : Hid (w2.cell? ⟨bx, 0, none⟩ = some (.pointer (some ⟨p, 0, none⟩))) := (ho2.2.cell (p := ⟨bx, 0, none⟩) (Nat.lt_of_lt_of_le HXL.out HW1.out.size)).trans hx1
    have hx2 := HX2.out
    obtain ⟨h02, _⟩ := HJ2.out.cell
    clear ho2 hx1 h6
    go_wp2_with fail
    refine (write_all dp D d i A2 128 c2 (sealed f.enc) w2 HJ2.out.dk hs HO2.out.bs (fun ad e hD => by have := HO2.out.new ad e; have := HJ1.out.lt _ (.inr hD); omega)).mono ?_
    rintro e w3 ⟨rfl, hst⟩
    obtain ⟨D3, hJ3, hf3, hfD, hD3⟩ := HJ2.out.disk hst
    have HJ3 := Lib.hid hJ3
    have HF3 := Lib.hid hf3
    have HD3 := Lib.hid hD3
    have hx3 : w3.cell? ⟨bx, 0, none⟩ = some (.pointer (some ⟨p, 0, none⟩)) := (World.cell?_of_block (a := ⟨bx, 0, none⟩) (hf3.block bx ⟨World.block_lt_of_cell? w2 _ HX2.out, HXT.out⟩)).trans HX2.out
    obtain ⟨_, _, _, _, _, h63, hfz⟩ := hJ3.cell
    have hz6 := hfz 6
    clear hst hJ3 hf3 hfD hD3 hfz hx2 h02
    go_wp2
    go_end0
    rw [HE.out]
    obtain ⟨h1, h2⟩ := HJ3.out.put (j' := { j with err := wer d i (sealed f.enc) }) 6 (.int .i64 (wer d i (sealed f.enc))) (fun q => rfl) rfl rfl
    have hB2 : Below w.heap.size w w2 := HW1.out.trans (HO2.out.2.mono HW1.out.size)
    refine ⟨⟨_, rfl⟩, S, D3, h1, ((Fr.of_below (S := fun k => S k ∨ D k) hB2).trans HF3.out (fun k hk => .inl hk)).trans h2 (fun k hk => .inl (.inl hk)), fun _ h => .inl h, fun k hk => (HD3.out k hk).imp id fun h => Nat.le_trans hB2.size h⟩
  · have HE : Hid (layJ d j i f = (d, j)) := by show _ = _; unfold layJ; rw [if_neg he]
    go_wp2
    refine bodyPost_ret (results_none rfl _ _ _) rfl ?_
    rw [HE.out]
    exact ⟨⟨_, rfl⟩, HJ.out.stay HW1.out⟩
end
end Go.Proofs.Ytcieahfhpanogaa
