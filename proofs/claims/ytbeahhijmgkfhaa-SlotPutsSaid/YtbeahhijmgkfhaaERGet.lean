
/-
  Contract of the reference's Get (layer 8).
-/
import Derived.Test.YtbeahhijmgkfhaaEMay
import Derived.Test.YtbeahhijmgkfhaaEGet
import Derived.Test.YtbeahhijmgkfhaaRefR2
import Derived.BigQuiet
namespace Go.Proofs.Ytbeahhijmgkfhaa
open Go.RowKit Go.Shelf

theorem size_R : (Try.prog.info? 78).map (·.size) = some 2 := by kernel_rfl
theorem zero_R : (Try.prog.info? 78).bind (·.zero) = some (.agg #[.string (txt []), .int .i64 0]) := by kernel_rfl
theorem built_R (b : ByteArray) : Try.prog.built 78 [(0, .string b)] = some #[.string b, .int .i64 0] := by kernel_rfl
theorem built_F0 : Try.prog.built 69 [] = some (ec ⟨0, 0, 0, []⟩).toArray := by kernel_rfl

/-- Within a round of the reference's Get. -/
structure GF (w : World) (q g : Nat) (s : List UInt8) (er : Int) (es : List En) (A : Option Addr) (c : Nat) (e : En) (W : World) : Prop where
  rd : Two W q (.string (txt s)) (.int .i64 er)
  eb : EB W g 69 e
  row : W.ownsRow w.heap.size 69 4 (.slice A es.length c) es.length (ecs es)
  bel : Below w.heap.size w W
  hq : w.heap.size ≤ q
  hg : w.heap.size ≤ g
  qg : q ≠ g
  rg : (Value.slice A es.length c).ownBlock ≠ some g
section
variable {w W W' : World} {q g : Nat} {s s' : List UInt8} {er er' : Int} {es : List En} {A : Option Addr} {c : Nat} {e e' : En}
theorem GF.below (h : GF w q g s er es A c e W) (hb : Below W.heap.size W W') : GF w q g s er es A c e W' :=
  ⟨h.rd.below hb h.rd.lt, h.eb.below' hb, h.row.kept (below_grown hb) (Classical.em _), h.bel.trans (hb.mono h.bel.size), h.hq, h.hg, h.qg, h.rg⟩
theorem GF.stored (h : GF w q g s er es A c e W) (hr : W'.heap[q]? = some (.cells #[.string (txt s'), .int .i64 er'] 78 (0, 0))) (hk : Keep (· ≠ q) W W') : GF w q g s' er' es A c e W' := by
  have hq := h.hq
  have hg : W.grownBy W' (some q) := ⟨hk.os, hk.tape, hk.output, hk.size, fun j _ hj => hk.block j (fun e => hj (by rw [e]))⟩
  exact ⟨hr, (hk.block g (fun e => h.qg e.symm)).trans h.eb, h.row.kept hg (.inr (own_type h.row h.rd (by decide))),
    h.bel.trans (Keep.below (hk.mono fun k hk2 => by omega)), h.hq, h.hg, h.qg, h.rg⟩
theorem GF.set (h : GF w q g s er es A c e W) (k : Nat) (v : Value) (he : (ec e').toArray = (ec e).toArray.setIfInBounds k v) : GF w q g s er es A c e' (W.setCell ⟨g, k, none⟩ v) := by
  have hg := h.hg
  exact ⟨h.rd.far (p := ⟨g, k, none⟩) h.qg, h.eb.set k v he, h.row.kept (off_setCell W g k v) (.inr h.rg), h.bel.setCell (p := ⟨g, k, none⟩) hg v, h.hq, h.hg, h.qg, h.rg⟩
theorem GF.grown (h : GF w q g s er es A c e W) (hg : W.grownBy W' (Value.slice A es.length c).ownBlock) : Two W' q (.string (txt s)) (.int .i64 er) :=
  (hg.block q h.rd.lt (fun e => own_type h.row h.rd (by decide) e.symm)).trans h.rd
end

set_option maxRecDepth 100000 in
set_option maxHeartbeats 8000000 in
theorem refGet_any (l : List UInt8) (w : World) (hn : l.length ≤ 10000000) : Calls Try.prog 37 #[.string (txt l)] w (EsQ (gotE l) (errE l) w) := by
  obtain ⟨i0, hi0, hz0, hz1, hz2⟩ := info_parts info_F
  have HI0 := Lib.hid hi0
  have HZ0 := Lib.hid hz0
  have HZ1 := Lib.hid hz1
  have HZ2 := Lib.hid hz2
  clear hi0 hz0 hz1 hz2
  obtain ⟨n, hln⟩ : ∃ n, l.length = n := ⟨_, rfl⟩
  have HN := Lib.hid hln
  rw [hln] at hn
  clear hln
  go_enter Try.func37, Try.ntmps37
  go_wp2_with (first
    | (refine Did.list rfl (did_build 78 #[(0, .tmp 11)] rfl _ (built_R (txt l))) ?_)
    | (refine wpList_alloc_any rfl 78 rfl _ zero_R ?_
       intro w1 hb1 hs1 hw1
       have HB1 := Lib.hid hb1
       have HW1 := Lib.hid hw1
       clear hb1 hs1 hw1)
    | (refine wpList_store_any rfl 78 (.tmp 4) (.tmp 12) rfl w.heap.size #[.string (txt l), .int .i64 0] rfl rfl 78 _ HB1.out size_R rfl (by simp [Value.oneCell']) ?_
       intro w2 hb2 hs2 hw2
       have HT2 : Hid (Two w2 w.heap.size (.string (txt l)) (.int .i64 0)) := hb2
       have HW2 : Hid (Below w.heap.size w w2) := HW1.out.trans (Keep.below (hw2.mono fun k hk => by omega))
       clear hb2 hs2 hw2))
  have HQ : Hid (w.heap.size ≤ w.heap.size) := Nat.le_refl _
  clear HB1 HW1
  obtain ⟨q, hq⟩ : ∃ q, w.heap.size = q := ⟨_, rfl⟩
  have HQ : Hid (w.heap.size ≤ q) := by show _ ≤ _; omega
  rw [hq] at HT2 ⊢
  clear hq
  go_loopg [5] n (fun gg s4 wr => ∃ k A2 c2, s4 = .slice A2 (reads k l).2.2.length c2 ∧ (reads k l).1.length ≤ gg ∧ Hid ((reads k l).2.1 = 0) ∧ Hid ((reads k l).2.2.length = k) ∧ Hid (Two wr q (.string (txt (reads k l).1)) (.int .i64 0)) ∧ Hid (wr.ownsRow w.heap.size 69 4 (.slice A2 (reads k l).2.2.length c2) (reads k l).2.2.length (ecs (reads k l).2.2)) ∧ Hid (Below w.heap.size w wr))
  case atStart => exact ⟨0, none, 0, rfl, by show l.length ≤ n; rw [HN.out]; exact Nat.le_refl _, rfl, rfl, HT2.out, World.ownsRow_nil _ _ _ _, HW2.out⟩
  case round =>
    obtain ⟨k, A2, c2, rfl, hgg, H0, HLK, HR, HROW, HW⟩ := hrel
    have HBK := Lib.hid (reads_back l k H0.out)
    have HWD := Lib.hid (reads_wide l k)
    have HKL : Hid (20 * k + (reads k l).1.length ≤ n) := by
      show _ ≤ _
      have h1 := HBK.out
      have h2 := congrArg List.length h1
      rw [List.length_append, HN.out] at h2
      have h3 := encs_min (reads k l).2.2
      rw [HLK.out] at h3
      omega
    have HNXT := Lib.hid (reads_more k l H0.out)
    have hErr : ∀ j, j ≤ l.length → ((reads j l).2.1 ≠ 0 ∨ (reads j l).1 = []) → errE l = (if (reads j l).2.1 ≠ 0 then (reads j l).2.1 else chkE (reads j l).2.2) ∧ ((reads j l).2.1 = 0 → gotE l = if okB (reads j l).2.2 then (reads j l).2.2 else []) := by
      intro j hj hs
      have e := all_of j l hj hs
      refine ⟨by unfold errE; rw [e], fun h0 => ?_⟩
      unfold gotE errE
      rw [e, h0]
      unfold chkE
      cases okB (reads j l).2.2 <;> simp
    have HERR := Lib.hid hErr
    clear hErr HBK
    generalize hrd : reads k l = R at *
    have HRDK := Lib.hid hrd
    clear hrd
    obtain ⟨s, er0, es⟩ := R
    dsimp only at *
    obtain rfl : k = es.length := HLK.out.symm
    by_cases hs : s = []
    · subst hs
      have hE := HERR.out es.length (by have := HKL.out; have := HN.out; omega) (.inr (by rw [HRDK.out]))
      rw [HRDK.out] at hE
      dsimp only at hE
      have h0 := H0.out
      rw [if_neg (by rw [h0]; simp)] at hE
      have HE1 := Lib.hid hE.1
      have HE2 := Lib.hid (hE.2 h0)
      clear hE h0
      have HES := Lib.hid (ES.of_own HROW.out)
      have HLE := Lib.hid (own_le HROW.out)
      have hel : es.length ≤ 10000000 := by have := HKL.out; omega
      have t0 := HR.out.c0
      have ht := txt_toList []
      go_wp2_with fail
      refine (refMay_any A2 es.length c2 es wr HES.out hel).mono ?_
      rintro en w2 ⟨rfl, hb2⟩
      have HB2 := Lib.hid (HW.out.trans (hb2.mono HW.out.size))
      have HES2 := Lib.hid (HES.out.below hb2)
      clear hb2 HES hel HERR HNXT
      unfold chkE at HE1
      cases hok : okB es
      · rw [hok] at HE1 HE2
        clear hok
        go_wp2_with fail
        go_ret2
        rw [show errE l = 11 from HE1.out]
        exact EsQ.nil HE2.out HB2.out
      · rw [hok] at HE1 HE2
        clear hok
        go_wp2_with fail
        go_ret2
        rw [show errE l = 0 from HE1.out, show gotE l = es from HE2.out]
        exact ⟨A2, _, c2, rfl, HES2.out, HLE.out, HB2.out⟩
    · have hsp : 0 < s.length := List.length_pos_iff.2 hs
      have HN1 := Lib.hid (HNXT.out hs)
      have HERR1 := fun hx => Lib.hid (HERR.out (es.length + 1) (by have := HKL.out; have := HN.out; omega) (.inl hx))
      have ht := txt_toList s
      have hse : (s == []) = false := beq_false_of_ne hs
      have hse2 : s.isEmpty = false := by cases s with | nil => exact absurd rfl hs | cons a b => rfl
      have t0 := HR.out.c0
      clear HNXT HERR
      have HOWN : Hid (∀ j, (Value.slice A2 es.length c2).ownBlock = some j → j < wr.heap.size) := fun j e => (HROW.out.lt j e).2
      go_upto_region 5 with (first
        | (refine Did.list rfl (did_build 69 #[] rfl (ec ⟨0, 0, 0, []⟩).toArray built_F0) ?_)
        | (refine wpList_alloc_any rfl 69 rfl _ zero_F ?_
           intro w3 hb3 hs3 hw3
           have HB3 := Lib.hid hb3
           have HW3 := Lib.hid hw3
           clear hb3 hs3 hw3)
        | (refine wpList_store_any rfl 69 (.tmp 6) (.tmp 16) rfl wr.heap.size (ec ⟨0, 0, 0, []⟩).toArray rfl rfl 69 _ HB3.out size_F rfl (ec_one _) ?_
           intro w4 hb4 hs4 hw4
           have HB4 := Lib.hid hb4
           have HW4 : Hid (Below wr.heap.size wr w4) := HW3.out.trans (Keep.below (hw4.mono fun k hk => by omega))
           clear hb4 hs4 hw4))
      have G4 : Hid (GF w q wr.heap.size s 0 es A2 c2 ⟨0, 0, 0, []⟩ w4) :=
        ⟨HR.out.below HW4.out HR.out.lt, HB4.out, HROW.out.kept (below_grown HW4.out) (Classical.em _), HW.out.trans (HW4.out.mono HW.out.size), HQ.out, HW.out.size, by have := HR.out.lt; omega, fun e => by have := HOWN.out _ e; omega⟩
      clear HB3 HW3 HB4 HW4 HR HROW HW HOWN t0 ht hse hse2
      generalize wr.heap.size = g at *
      go_wp2_with (first
        | (refine wpList_load_row rfl 78 (.tmp 4) rfl _ rfl 78 #[.string (txt s), .int .i64 0] (0, 0) _ G4.out.rd Try.underlying78 rfl size_R ?_))
      refine (refRead64 s 0 w4).mono ?_
      rintro en w5 ⟨rfl, hb5⟩
      rw [show rdN 8 (s, 0) = r1 s from rfl]
      have G5 := Lib.hid (G4.out.below hb5)
      clear hb5 G4
      go_upto_region 9 with (first
        | (refine wpList_store_any rfl 78 (.tmp 4) (.tmp 20) rfl q #[.string (txt (r1 s).1.1), .int .i64 (r1 s).1.2] rfl rfl 78 _ G5.out.rd size_R rfl (by simp [Value.oneCell']) ?_
           intro w6 hb6 hs6 hw6
           have G6 : Hid (GF w q g (r1 s).1.1 (r1 s).1.2 es A2 c2 ⟨0, 0, 0, []⟩ w6) := G5.out.stored hb6 hw6
           clear hb6 hs6 hw6 G5))
      have c0 := G6.out.eb.c0
      have f0 := G6.out.eb.froz 0
      go_upto_region 10 with (fail)
      have G7 : Hid (GF w q g (r1 s).1.1 (r1 s).1.2 es A2 c2 ⟨(r1 s).2, 0, 0, []⟩ (w6.setCell ⟨g, 0, none⟩ (.int .u64 ((r1 s).2 : Int)))) := G6.out.set 0 _ rfl
      clear c0 f0 G6
      generalize w6.setCell ⟨g, 0, none⟩ (.int .u64 ((r1 s).2 : Int)) = w7 at *
      try go_frame
      go_wp2_with (first
        | (refine wpList_load_row rfl 78 (.tmp 4) rfl _ rfl 78 #[.string (txt (r1 s).1.1), .int .i64 (r1 s).1.2] (0, 0) _ G7.out.rd Try.underlying78 rfl size_R ?_))
      refine (refRead32 (r1 s).1.1 (r1 s).1.2 w7).mono ?_
      rintro en w8 ⟨rfl, hb8⟩
      rw [show rdN 4 ((r1 s).1.1, (r1 s).1.2) = r2 s from rfl]
      have G8 := Lib.hid (G7.out.below hb8)
      clear hb8 G7
      go_upto_region 11 with (first
        | (refine wpList_store_any rfl 78 (.tmp 4) (.tmp 27) rfl q #[.string (txt (r2 s).1.1), .int .i64 (r2 s).1.2] rfl rfl 78 _ G8.out.rd size_R rfl (by simp [Value.oneCell']) ?_
           intro w9 hb9 hs9 hw9
           have G9 : Hid (GF w q g (r2 s).1.1 (r2 s).1.2 es A2 c2 ⟨(r1 s).2, 0, 0, []⟩ w9) := G8.out.stored hb9 hw9
           clear hb9 hs9 hw9 G8))
      have c1 := G9.out.eb.c1
      have f1 := G9.out.eb.froz 1
      go_upto_region 12 with (fail)
      have GA : Hid (GF w q g (r2 s).1.1 (r2 s).1.2 es A2 c2 ⟨(r1 s).2, (r2 s).2, 0, []⟩ (w9.setCell ⟨g, 1, none⟩ (.int .u32 ((r2 s).2 : Int)))) := G9.out.set 1 _ rfl
      clear c1 f1 G9
      generalize w9.setCell ⟨g, 1, none⟩ (.int .u32 ((r2 s).2 : Int)) = wA at *
      try go_frame
      go_wp2_with (first
        | (refine wpList_load_row rfl 78 (.tmp 4) rfl _ rfl 78 #[.string (txt (r2 s).1.1), .int .i64 (r2 s).1.2] (0, 0) _ GA.out.rd Try.underlying78 rfl size_R ?_))
      refine (refRead32 (r2 s).1.1 (r2 s).1.2 wA).mono ?_
      rintro en wB ⟨rfl, hbB⟩
      rw [show rdN 4 ((r2 s).1.1, (r2 s).1.2) = r3 s from rfl]
      have GB := Lib.hid (GA.out.below hbB)
      clear hbB GA
      go_upto_region 13 with (first
        | (refine wpList_store_any rfl 78 (.tmp 4) (.tmp 35) rfl q #[.string (txt (r3 s).1.1), .int .i64 (r3 s).1.2] rfl rfl 78 _ GB.out.rd size_R rfl (by simp [Value.oneCell']) ?_
           intro wC hbC hsC hwC
           have GC : Hid (GF w q g (r3 s).1.1 (r3 s).1.2 es A2 c2 ⟨(r1 s).2, (r2 s).2, 0, []⟩ wC) := GB.out.stored hbC hwC
           clear hbC hsC hwC GB))
      have d2 := GC.out.eb.c2
      have f2 := GC.out.eb.froz 2
      go_upto_region 14 with (fail)
      have GD : Hid (GF w q g (r3 s).1.1 (r3 s).1.2 es A2 c2 ⟨(r1 s).2, (r2 s).2, (r3 s).2, []⟩ (wC.setCell ⟨g, 2, none⟩ (.int .u32 ((r3 s).2 : Int)))) := GC.out.set 2 _ rfl
      clear d2 f2 GC
      generalize wC.setCell ⟨g, 2, none⟩ (.int .u32 ((r3 s).2 : Int)) = wD at *
      try go_frame
      go_wp2_with (first
        | (refine wpList_load_row rfl 78 (.tmp 4) rfl _ rfl 78 #[.string (txt (r3 s).1.1), .int .i64 (r3 s).1.2] (0, 0) _ GD.out.rd Try.underlying78 rfl size_R ?_))
      refine (refReadOpaque (r3 s).1.1 (r3 s).1.2 24 wD (by omega) (by omega)).mono ?_
      rintro en wE ⟨rfl, hbE⟩
      rw [show rdO 24 ((r3 s).1.1, (r3 s).1.2) = r4 s from rfl]
      have GE := Lib.hid (GD.out.below hbE)
      clear hbE GD
      go_upto_region 15 with (first
        | (refine wpList_store_any rfl 78 (.tmp 4) (.tmp 43) rfl q #[.string (txt (r4 s).1.1), .int .i64 (r4 s).1.2] rfl rfl 78 _ GE.out.rd size_R rfl (by simp [Value.oneCell']) ?_
           intro wF hbF hsF hwF
           have GFF : Hid (GF w q g (r4 s).1.1 (r4 s).1.2 es A2 c2 ⟨(r1 s).2, (r2 s).2, (r3 s).2, []⟩ wF) := GE.out.stored hbF hwF
           clear hbF hsF hwF GE))
      have d3 := GFF.out.eb.c3
      have f3 := GFF.out.eb.froz 3
      go_upto_region 16 with (fail)
      have GG : Hid (GF w q g (r4 s).1.1 (r4 s).1.2 es A2 c2 (one s) (wF.setCell ⟨g, 3, none⟩ (.string (txt (r4 s).2)))) := GFF.out.set 3 _ rfl
      clear d3 f3 GFF
      generalize wF.setCell ⟨g, 3, none⟩ (.string (txt (r4 s).2)) = wG at *
      try go_frame
      have e1 := GG.out.rd.c1
      by_cases he : (r4 s).1.2 = 0
      · have hd : ((r4 s).1.2 != 0) = false := by simpa using he
        have HSH : Hid ((r4 s).1.1.length + 20 ≤ s.length) := by
          show _ ≤ _
          have := congrArg List.length (one_back s he)
          rw [List.length_append, enc1_length] at this
          omega
        have HE0 := Lib.hid he
        clear he HERR1
        have hecl := ec_length (one s)
        have HEA : Hid (ES (wG.alloc (.cells (ec (one s)).toArray 69)) (some ⟨wG.heap.size, 0, none⟩) 1 [one s]) := (EB.new wG 69 (one s)).es
        have hab : Below wG.heap.size wG (wG.alloc (.cells (ec (one s)).toArray 69)) := (Below.refl _ _).alloc (Nat.le_refl _) _
        have GH := Lib.hid (GG.out.below hab)
        have hnl : es.length + 1 ≤ 400000000 := by have := HKL.out; omega
        clear hab
        go_wp2_with (first
          | (refine wpList_load_row rfl 69 (.tmp 6) rfl _ rfl 69 (ec (one s)).toArray (0, 0) _ GG.out.eb Try.underlying69 rfl size_F ?_)
          | (at_builtin
             refine wpList_append_es (wG.alloc (.cells (ec (one s)).toArray 69)) rfl (.tmp 52) (.tmp 54) 66 rfl w.heap.size 69 i0 _ Try.underlying66 HI0.out HZ0.out HZ1.out HZ2.out rfl A2 es.length c2 es rfl GH.out.row (some ⟨wG.heap.size, 0, none⟩) 1 1 [one s] rfl HEA.out (by omega) GH.out.bel.size ?_
             intro A4 c4 wH ho hgr _
             have HRD4 := Lib.hid (GH.out.grown hgr)
             have HBD4 := Lib.hid (own_below GH.out.bel GH.out.row hgr)
             have HOD4 := Lib.hid ho
             clear ho hgr))
        go_roundg ((r4 s).1.1.length)
        case measure => have := HSH.out; omega
        case rel =>
          have h1 : (es ++ [one s]).length = es.length + 1 := by simp
          refine ⟨es.length + 1, A4, c4, ?_, ?_, ?_, ?_, ?_, ?_, HBD4.out⟩
          · rw [HN1.out]; show _ = Value.slice A4 (es ++ [one s]).length c4; rw [h1]
          · rw [HN1.out]; exact Nat.le_refl _
          · show _ = _; rw [HN1.out]; exact HE0.out
          · show _ = _; rw [HN1.out]; exact h1
          · rw [HN1.out]
            have := HRD4.out
            rw [HE0.out] at this
            exact this
          · rw [HN1.out]
            show wH.ownsRow _ _ _ (.slice A4 (es ++ [one s]).length c4) (es ++ [one s]).length _
            rw [h1]
            exact HOD4.out
      · have hd : ((r4 s).1.2 != 0) = true := by simpa using he
        have HE := HERR1 (by rw [HN1.out]; exact he)
        rw [HN1.out] at HE
        have HE1 : Hid (errE l = (r4 s).1.2) := by have := HE.out.1; dsimp only at this; rwa [if_pos he] at this
        have HE2 : Hid (gotE l = []) := if_neg (by rw [HE1.out]; exact he)
        have HWK : Hid (∀ d, Below w.heap.size w (wG.drewN d)) := fun d => ⟨GG.out.bel.os, GG.out.bel.tape, GG.out.bel.output, GG.out.bel.size, GG.out.bel.block⟩
        clear he HE HERR1
        generalize (r4 s).1.2 = er at *
        go_wp2_with fail
        go_quiet (fail)
        go_wp2_with fail
        go_ret2
        rw [HE1.out]
        exact EsQ.nil HE2.out (HWK.out _)
end Go.Proofs.Ytbeahhijmgkfhaa
