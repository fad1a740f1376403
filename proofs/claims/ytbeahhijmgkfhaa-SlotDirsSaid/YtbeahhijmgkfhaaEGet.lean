
/-
  Contract of package dir's Get (layer 8).
-/
import Derived.Test.YtbeahhijmgkfhaaEAfter
namespace Go.Proofs.Ytbeahhijmgkfhaa
open Go.RowKit Go.Shelf

theorem encs_min (es : List En) : 20 * es.length ≤ (encs es).length := by
  induction es with
  | nil => exact Nat.zero_le _
  | cons e r ih =>
    rw [encs_cons, List.length_append, enc1_length, List.length_cons]
    omega
theorem Rd.blk {w : World} {q : Nat} {l : List UInt8} {e : Int} (h : Rd w q l e) : ∃ cs, w.heap[q]? = some (.cells cs 102 (0, 0)) := by
  obtain ⟨A, c, h⟩ := h
  exact ⟨_, h.1⟩
theorem own_type {w : World} {base : Nat} {t : TypeId} {v : Value} {n : Nat} {xs : List Value} (h : w.ownsRow base t 4 v n xs) {g : Nat} {cs : Array Value} {u : TypeId} {fr : Nat × Nat} (hg : w.heap[g]? = some (.cells cs u fr)) (ht : u ≠ t) : v.ownBlock ≠ some g := by
  intro he
  rcases h.2 with ⟨h1, _⟩ | ⟨g', cap', cur', h1, _, h2, _⟩
  · rw [h1] at he; cases he
  · rw [h1] at he
    obtain rfl : g' = g := by simpa [Value.ownBlock] using he
    rw [hg] at h2
    injection h2 with h2
    injection h2 with _ h2 _
    exact ht h2
theorem EB.set {w : World} {g : Nat} {t : TypeId} {e e' : En} (h : EB w g t e) (k : Nat) (v : Value) (he : (ec e').toArray = (ec e).toArray.setIfInBounds k v) : EB (w.setCell ⟨g, k, none⟩ v) g t e' := by
  unfold EB
  rw [setCell_eq_setRow _ _ _ _ _ _ _ h, setRow_heap _ _ _ _ _ _ h, he]
/-- Within a round of Get: the Reader, the entry that is read, the row of those that were. -/
structure GR (w : World) (q g : Nat) (s : List UInt8) (er : Int) (es : List En) (A : Option Addr) (c : Nat) (e : En) (W : World) : Prop where
  rd : Rd W q s er
  eb : EB W g 51 e
  row : W.ownsRow w.heap.size 51 4 (.slice A es.length c) es.length (ecs es)
  bel : Below w.heap.size w W
  hq : w.heap.size ≤ q
  hg : w.heap.size ≤ g
  qg : q ≠ g
  rg : (Value.slice A es.length c).ownBlock ≠ some g
section
variable {w W W' : World} {q g : Nat} {s s' : List UInt8} {er er' : Int} {es : List En} {A : Option Addr} {c : Nat} {e e' : En}
theorem GR.below (h : GR w q g s er es A c e W) (hb : Below W.heap.size W W') : GR w q g s er es A c e W' :=
  ⟨h.rd.kept hb, h.eb.below' hb, h.row.kept (below_grown hb) (Classical.em _), h.bel.trans (hb.mono h.bel.size), h.hq, h.hg, h.qg, h.rg⟩
theorem GR.read (h : GR w q g s er es A c e W) (hr : Rd W' q s' er') (hg : W.grownBy W' (some q)) : GR w q g s' er' es A c e W' := by
  obtain ⟨cs, hb⟩ := h.rd.blk
  have hq := h.hq
  exact ⟨hr, (hg.block g h.eb.lt (fun e => h.qg (by injection e with e; exact e.symm))).trans h.eb, h.row.kept hg (.inr (own_type h.row hb (by decide))),
    h.bel.trans ⟨hg.os, hg.tape, hg.output, hg.size, fun k hk => hg.block k (Nat.lt_of_lt_of_le hk h.bel.size) (fun e => by injection e with e; omega)⟩, h.hq, h.hg, h.qg, h.rg⟩
theorem GR.set (h : GR w q g s er es A c e W) (k : Nat) (v : Value) (he : (ec e').toArray = (ec e).toArray.setIfInBounds k v) : GR w q g s er es A c e' (W.setCell ⟨g, k, none⟩ v) := by
  have hg := h.hg
  exact ⟨h.rd.off h.eb (by decide) h.qg (fun j _ hj => Below.heap_setCell W ⟨g, k, none⟩ v j hj), h.eb.set k v he, h.row.kept (off_setCell W g k v) (.inr h.rg), h.bel.setCell (p := ⟨g, k, none⟩) hg v, h.hq, h.hg, h.qg, h.rg⟩
end

theorem gr_rd {w W W' : World} {q g : Nat} {s : List UInt8} {er : Int} {es : List En} {A : Option Addr} {c : Nat} {e : En} (h : GR w q g s er es A c e W) (hg : W.grownBy W' (Value.slice A es.length c).ownBlock) : Rd W' q s er := by
  rcases h.row.2 with ⟨h1, _⟩ | ⟨g', cap', cur', h1, _, h2, _⟩
  · rw [h1] at hg
    exact h.rd.kept ⟨hg.os, hg.tape, hg.output, hg.size, fun k hk => hg.block k hk (by simp [Value.ownBlock])⟩
  · have hq : q ≠ g' := by
      rintro rfl
      obtain ⟨cs, h3⟩ := h.rd.blk
      rw [h3] at h2
      injection h2 with h2
      injection h2 with _ h2 _
      exact absurd h2 (by decide)
    refine h.rd.off h2 (by decide) hq (fun k hk hne => hg.block k hk ?_)
    rw [h1]
    simp [Value.ownBlock]
    exact hne
set_option maxRecDepth 100000 in
set_option maxHeartbeats 4000000 in
theorem get_any (A : Option Addr) (n cp : Nat) (l : List UInt8) (w : World) (h : BS w A n l) (hn : n ≤ 10000000) : Calls Try.prog 60 #[.slice A n cp] w (EsQ (gotE l) (errE l) w) := by
  obtain ⟨i0, hi0, hz0, hz1, hz2⟩ := info_parts info_E
  have HI0 := Lib.hid hi0
  have HZ0 := Lib.hid hz0
  have HZ1 := Lib.hid hz1
  have HZ2 := Lib.hid hz2
  have HL := Lib.hid h
  have HN : Hid (l.length = n) := h.1
  clear h hi0 hz0 hz1 hz2
  go_enter Try.func60, Try.ntmps60
  go_wp2_with fail
  refine (newReader_any A n cp l w HL.out (by omega)).mono ?_
  rintro e w1 ⟨q, rfl, hrd, hb1, hq⟩
  have HRD := Lib.hid hrd
  have HB1 := Lib.hid hb1
  have HQ := Lib.hid hq
  clear hrd hb1 hq
  go_wp2_with fail
  go_loopg [4] n (fun gg s4 wr => ∃ k A2 c2, s4 = .slice A2 (reads k l).2.2.length c2 ∧ (reads k l).1.length ≤ gg ∧ Hid ((reads k l).2.1 = 0) ∧ Hid ((reads k l).2.2.length = k) ∧ Hid (Rd wr q (reads k l).1 0) ∧ Hid (wr.ownsRow w.heap.size 51 4 (.slice A2 (reads k l).2.2.length c2) (reads k l).2.2.length (ecs (reads k l).2.2)) ∧ Hid (Below w.heap.size w wr))
  case atStart => exact ⟨0, none, 0, rfl, by show l.length ≤ n; rw [HN.out]; exact Nat.le_refl _, rfl, rfl, HRD.out, World.ownsRow_nil _ _ _ _, HB1.out⟩
  case round =>
    obtain ⟨k, A2, c2, rfl, hgg, H0, HLK, HR, HROW, HW⟩ := hrel
    have HBK := Lib.hid (reads_back l k H0.out)
    have HMORE := fun hs => Lib.hid (reads_more k l H0.out hs)
    have HALL := fun j hj hs => Lib.hid (all_of j l hj hs)
    have HWD := Lib.hid (reads_wide l k)
    have HKL : Hid (20 * k + (reads k l).1.length ≤ n) := by
      show _ ≤ _
      have h1 := HBK.out
      have h2 := congrArg List.length h1
      rw [List.length_append, HN.out] at h2
      have h3 := encs_min (reads k l).2.2
      rw [HLK.out] at h3
      omega
    have HNXT := Lib.hid (reads_more k l H0.out)
    have hErr : ∀ j, j ≤ l.length → ((reads j l).2.1 ≠ 0 ∨ (reads j l).1 = []) → errE l = (if (reads j l).2.1 ≠ 0 then (reads j l).2.1 else chkE (reads j l).2.2) ∧ ((reads j l).2.1 = 0 → gotE l = if okB (reads j l).2.2 then (reads j l).2.2 else []) := by
      intro j hj hs
      have e := all_of j l hj hs
      refine ⟨by unfold errE; rw [e], fun h0 => ?_⟩
      unfold gotE errE
      rw [e, h0]
      unfold chkE
      cases okB (reads j l).2.2 <;> simp
    have HERR := Lib.hid hErr
    clear hErr HALL HBK HMORE
    generalize hrd : reads k l = R at *
    have HRDK := Lib.hid hrd
    clear hrd
    obtain ⟨s, er0, es⟩ := R
    dsimp only at *
    obtain rfl : k = es.length := HLK.out.symm
    by_cases hs : s = []
    · subst hs
      have hE := HERR.out es.length (by have := HKL.out; have := HN.out; omega) (.inr (by rw [HRDK.out]))
      rw [HRDK.out] at hE
      dsimp only at hE
      have h0 := H0.out
      rw [if_neg (by rw [h0]; simp)] at hE
      have HE1 := Lib.hid hE.1
      have HE2 := Lib.hid (hE.2 h0)
      clear hE h0
      have HES := Lib.hid (ES.of_own HROW.out)
      have HLE := Lib.hid (own_le HROW.out)
      have hel : es.length ≤ 100000000 := by have := HKL.out; omega
      go_wp2_with fail
      refine (left_any wr q _ _ HR.out).mono ?_
      rintro en w2 ⟨rfl, rfl⟩
      go_wp2_with fail
      refine (valid_any A2 es.length c2 es wr HES.out HWD.out hel).mono ?_
      rintro en w2 ⟨rfl, hb2⟩
      have HB2 := Lib.hid (HW.out.trans (hb2.mono HW.out.size))
      have HES2 := Lib.hid (HES.out.below hb2)
      clear hb2 HES hel HERR HNXT
      unfold chkE at HE1
      cases hok : okB es
      · rw [hok] at HE1 HE2
        clear hok
        go_wp2_with fail
        go_ret2
        rw [show errE l = 11 from HE1.out]
        exact EsQ.nil HE2.out HB2.out
      · rw [hok] at HE1 HE2
        clear hok
        go_wp2_with fail
        go_ret2
        rw [show errE l = 0 from HE1.out, show gotE l = es from HE2.out]
        exact ⟨A2, _, c2, rfl, HES2.out, HLE.out, HB2.out⟩
    · have hsp : 0 < s.length := List.length_pos_iff.2 hs
      have HN1 := Lib.hid (HNXT.out hs)
      have HERR1 := fun hx => Lib.hid (HERR.out (es.length + 1) (by have := HKL.out; have := HN.out; omega) (.inl hx))
      clear hs HNXT HERR
      have hsi : (0 : Int) < (s.length : Int) := by omega
      have HOWN : Hid (∀ j, (Value.slice A2 es.length c2).ownBlock = some j → j < wr.heap.size) := fun j e => (HROW.out.lt j e).2
      go_wp2_with fail
      refine (left_any wr q _ _ HR.out).mono ?_
      rintro en w2 ⟨rfl, rfl⟩
      go_upto_region 5 with (refine wpList_alloc_any rfl 51 rfl _ zero_E ?_; intro w3 hb3 hs3 hw3)
      have G3 : Hid (GR w q wr.heap.size s 0 es A2 c2 ⟨0, 0, 0, []⟩ w3) :=
        ⟨HR.out.kept hw3, hb3, HROW.out.kept (below_grown hw3) (Classical.em _), HW.out.trans (hw3.mono HW.out.size), HQ.out, HW.out.size, by have := HR.out.lt; omega, fun e => by have := HOWN.out _ e; omega⟩
      have HGL : Hid (w.heap.size ≤ wr.heap.size) := HW.out.size
      clear hb3 hs3 hw3 HR HROW HW HOWN
      generalize wr.heap.size = g at *
      go_wp2_with fail
      refine (u64r w3 q s 0 G3.out.rd).mono ?_
      rintro en w4 ⟨rfl, hr, hgr⟩
      have G4 : Hid (GR w q g (r1 s).1.1 (r1 s).1.2 es A2 c2 ⟨0, 0, 0, []⟩ w4) := G3.out.read hr hgr
      clear hr hgr G3
      change Hid _ at G4
      have c0 := G4.out.eb.c0
      have f0 := G4.out.eb.froz 0
      rw [show (rdN 8 (s, 0)).2 = (r1 s).2 from rfl]
      go_wp2_with fail
      have G5 : Hid (GR w q g (r1 s).1.1 (r1 s).1.2 es A2 c2 ⟨(r1 s).2, 0, 0, []⟩ (w4.setCell ⟨g, 0, none⟩ (.int .u64 ((r1 s).2 : Int)))) := G4.out.set 0 _ rfl
      clear c0 f0 G4
      generalize w4.setCell ⟨g, 0, none⟩ (.int .u64 ((r1 s).2 : Int)) = w5 at *
      refine (u32r w5 q _ _ G5.out.rd).mono ?_
      rintro en w6 ⟨rfl, hr, hgr⟩
      have G6 : Hid (GR w q g (r2 s).1.1 (r2 s).1.2 es A2 c2 ⟨(r1 s).2, 0, 0, []⟩ w6) := G5.out.read hr hgr
      clear hr hgr G5
      have c1 := G6.out.eb.c1
      have f1 := G6.out.eb.froz 1
      rw [show (rdN 4 ((r1 s).1.1, (r1 s).1.2)).2 = (r2 s).2 from rfl]
      go_wp2_with fail
      have G7 : Hid (GR w q g (r2 s).1.1 (r2 s).1.2 es A2 c2 ⟨(r1 s).2, (r2 s).2, 0, []⟩ (w6.setCell ⟨g, 1, none⟩ (.int .u32 ((r2 s).2 : Int)))) := G6.out.set 1 _ rfl
      clear c1 f1 G6
      generalize w6.setCell ⟨g, 1, none⟩ (.int .u32 ((r2 s).2 : Int)) = w7 at *
      refine (u32r w7 q _ _ G7.out.rd).mono ?_
      rintro en w8 ⟨rfl, hr, hgr⟩
      have G8 : Hid (GR w q g (r3 s).1.1 (r3 s).1.2 es A2 c2 ⟨(r1 s).2, (r2 s).2, 0, []⟩ w8) := G7.out.read hr hgr
      clear hr hgr G7
      have c2' := G8.out.eb.c2
      have f2 := G8.out.eb.froz 2
      rw [show (rdN 4 ((r2 s).1.1, (r2 s).1.2)).2 = (r3 s).2 from rfl]
      go_wp2_with fail
      have G9 : Hid (GR w q g (r3 s).1.1 (r3 s).1.2 es A2 c2 ⟨(r1 s).2, (r2 s).2, (r3 s).2, []⟩ (w8.setCell ⟨g, 2, none⟩ (.int .u32 ((r3 s).2 : Int)))) := G8.out.set 2 _ rfl
      clear c2' f2 G8
      generalize w8.setCell ⟨g, 2, none⟩ (.int .u32 ((r3 s).2 : Int)) = w9 at *
      refine (opaquer w9 q _ _ 24 (by omega) (by omega) G9.out.rd).mono ?_
      rintro en wA ⟨BA, cA, rfl, hbs, hr, hgr, _⟩
      have GA : Hid (GR w q g (r4 s).1.1 (r4 s).1.2 es A2 c2 ⟨(r1 s).2, (r2 s).2, (r3 s).2, []⟩ wA) := G9.out.read hr hgr
      have hcv := run_convert_bs wA BA _ cA _ hbs
      clear hr hgr G9 hbs
      change (convert _ _ (.slice BA (r4 s).2.length cA)).run _ _ = .ok (.string (txt (r4 s).2)) _ at hcv
      rw [show (rdO 24 ((r3 s).1.1, (r3 s).1.2)).2 = (r4 s).2 from rfl]
      have c3 := GA.out.eb.c3
      have f3 := GA.out.eb.froz 3
      go_wp2_with fail
      have GB : Hid (GR w q g (r4 s).1.1 (r4 s).1.2 es A2 c2 (one s) (wA.setCell ⟨g, 3, none⟩ (.string (txt (r4 s).2)))) := GA.out.set 3 _ rfl
      clear c3 f3 GA hcv
      generalize wA.setCell ⟨g, 3, none⟩ (.string (txt (r4 s).2)) = wB at *
      refine (err_any wB q _ _ GB.out.rd).mono ?_
      rintro en wC ⟨rfl, rfl⟩
      by_cases he : (r4 s).1.2 = 0
      · have hd : ((r4 s).1.2 != 0) = false := by simpa using he
        have HSH : Hid ((r4 s).1.1.length + 20 ≤ s.length) := by
          show _ ≤ _
          have := congrArg List.length (one_back s he)
          rw [List.length_append, enc1_length] at this
          omega
        have HE0 := Lib.hid he
        clear he HERR1
        have hecl := ec_length (one s)
        have HEA : Hid (ES (wB.alloc (.cells (ec (one s)).toArray 51)) (some ⟨wB.heap.size, 0, none⟩) 1 [one s]) := (EB.new wB 51 (one s)).es
        have hab : Below wB.heap.size wB (wB.alloc (.cells (ec (one s)).toArray 51)) := (Below.refl _ _).alloc (Nat.le_refl _) _
        have GC := Lib.hid (GB.out.below hab)
        have hnl : es.length + 1 ≤ 400000000 := by have := HKL.out; omega
        clear hab
        go_wp2_with (first
          | (refine wpList_load_row rfl 51 (.tmp 6) rfl _ rfl 51 (ec (one s)).toArray (0, 0) _ GB.out.eb Try.underlying51 rfl size_E ?_)
          | (at_builtin
             refine wpList_append_es (wB.alloc (.cells (ec (one s)).toArray 51)) rfl (.tmp 32) (.tmp 34) 49 rfl w.heap.size 51 i0 _ Try.underlying49 HI0.out HZ0.out HZ1.out HZ2.out rfl A2 es.length c2 es rfl GC.out.row (some ⟨wB.heap.size, 0, none⟩) 1 1 [one s] rfl HEA.out (by omega) GC.out.bel.size ?_
             intro A4 c4 wD ho hgr _
             have HRD4 := Lib.hid (gr_rd GC.out hgr)
             have HBD4 := Lib.hid (own_below GC.out.bel GC.out.row hgr)
             have HOD4 := Lib.hid ho
             clear ho hgr))
        go_roundg ((r4 s).1.1.length)
        case measure => have := HSH.out; omega
        case rel =>
          have h1 : (es ++ [one s]).length = es.length + 1 := by simp
          refine ⟨es.length + 1, A4, c4, ?_, ?_, ?_, ?_, ?_, ?_, HBD4.out⟩
          · rw [HN1.out]; show _ = Value.slice A4 (es ++ [one s]).length c4; rw [h1]
          · rw [HN1.out]; exact Nat.le_refl _
          · show _ = _; rw [HN1.out]; exact HE0.out
          · show _ = _; rw [HN1.out]; exact h1
          · rw [HN1.out]
            have := HRD4.out
            rw [HE0.out] at this
            exact this
          · rw [HN1.out]
            show wD.ownsRow _ _ _ (.slice A4 (es ++ [one s]).length c4) (es ++ [one s]).length _
            rw [h1]
            exact HOD4.out
      · have hd : ((r4 s).1.2 != 0) = true := by simpa using he
        have HE := HERR1 (by rw [HN1.out]; exact he)
        rw [HN1.out] at HE
        have HE1 : Hid (errE l = (r4 s).1.2) := by have := HE.out.1; dsimp only at this; rwa [if_pos he] at this
        have HE2 : Hid (gotE l = []) := if_neg (by rw [HE1.out]; exact he)
        clear he HE HERR1
        generalize (r4 s).1.2 = er at *
        go_wp2_with fail
        refine (err_any wB q _ _ GB.out.rd).mono ?_
        rintro en wC ⟨rfl, rfl⟩
        go_wp2_with fail
        go_ret2
        rw [HE1.out]
        exact EsQ.nil HE2.out GB.out.bel
end Go.Proofs.Ytbeahhijmgkfhaa
