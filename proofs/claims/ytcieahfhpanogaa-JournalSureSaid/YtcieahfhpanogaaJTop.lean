/-
  Contracts of a journal's Checkpoint, Commit, Read, Seq, Used and Err.
  Contracts of a journal's Read and Commit.
  Contract of a journal's Commit.
  Which blocks the changes of a log told: sorted, without doubles. The changes, one behind the other.
  Contract of a journal's replay.
  Contract of a journal's Open.
  Open that refuses its arguments; few.
  A journal that works, for the laws: what stays true of it from call to call.
  The law's few.
  Contract of the document's example (layer 5): it holds, and leaves all memory that was there alone.
  Calls on a journal that works, whose disk does not stop; and calls that are refused.
-/
import Derived.Test.YtcieahfhpanogaaJRec
import Derived.Test.YtcieahfhpanogaaJWhole
import Derived.Lib.SlicesCompact
import Derived.Sort.OwnSortedInts
import Derived.Test.YtcieahfhpanogaaJNext
import Derived.Test.YtcieahfhpanogaaShelf
import Derived.Maps.AppendAt
import Derived.Lib.RowBridge
import Derived.Great.BuildSlice
namespace Go.Proofs.Ytcieahfhpanogaa
open Go.RowKit

section
variable {w : World} {p dp : Nat} {S D : Nat → Prop} {j : J.JS} {d : DS}
/-- What is recorded is the first step of Commit. -/
theorem recF_data (l : List (Int × List UInt8)) {N : Nat} (hN : l.length < N) (d : DS) (j : J.JS) (he : j.err = 0) : ∀ k, k ≤ l.length →
    recF l (d, j) (fins N k) = ((J.lays d (J.logW j.log j.place (j.seq + 1) l.length 0 (J.asChg (l.take k)))).1, { j with err := (J.lays d (J.logW j.log j.place (j.seq + 1) l.length 0 (J.asChg (l.take k)))).2 }) := by
  have laysS : ∀ (ws : List (Nat × Fm)) (d : DS) (p : Nat) (f : Fm), J.lays d (ws ++ [(p, f)]) = if (J.lays d ws).2 = 0 then (wst (J.lays d ws).1 p (sealed f.enc), wer (J.lays d ws).1 p (sealed f.enc)) else J.lays d ws := by
    intro ws
    induction ws with
    | nil =>
      intro d p f
      simp only [List.nil_append, J.lays]
      split
      · rename_i h; rw [h]; simp
      · simp
    | cons x ws ih =>
      intro d p f
      obtain ⟨q, g⟩ := x
      simp only [List.cons_append, J.lays]
      split
      · exact ih _ _ _
      · rfl
  have logS : ∀ (l : J.Chg) (i : Nat) (x : Nat × List UInt8) (log t s n : Nat), J.logW log t s n i (l ++ [x]) = J.logW log t s n i l ++ [(1 + (t + (i + l.length)) % log, J.dataF s n (i + l.length) x)] := by
    intro l
    induction l with
    | nil => intro i x log t s n; simp [J.logW]
    | cons y l ih =>
      intro i x log t s n
      simp only [List.cons_append, J.logW, ih, List.length_cons]
      rw [show i + 1 + l.length = i + (l.length + 1) by omega]
  intro k
  induction k with
  | zero =>
    intro _
    show (d, j) = (d, { j with err := 0 })
    rw [← he]
  | succ k ih =>
    intro hk
    have ih := ih (by omega)
    rw [fins_succ (by omega), recF_snoc, ih]
    have h1 : J.asChg (l.take (k + 1)) = J.asChg (l.take k) ++ [((l[k]'(by omega)).1.toNat, (l[k]'(by omega)).2)] := by
      rw [List.take_succ_eq_append_getElem (by omega)]
      unfold J.asChg
      rw [List.map_append]
      rfl
    have h2 : (J.asChg (l.take k)).length = k := by rw [J.asChg_length, List.length_take]; omega
    rw [h1, logS, h2, Nat.zero_add, laysS]
    generalize J.lays d (J.logW j.log j.place (j.seq + 1) l.length 0 (J.asChg (l.take k))) = a
    unfold recS
    rw [dif_pos (show k < l.length by omega)]
    have hsec : secAt j.log j.place k = ((1 + (j.place + k) % j.log : Nat) : Int) := by unfold secAt; push_cast; rfl
    show layJ a.1 { j with err := a.2 } (secAt j.log j.place k) (J.dataF (j.seq + 1) l.length k _) = _
    rw [hsec]
    unfold layJ
    by_cases h0 : a.2 = 0
    · rw [if_pos h0, if_pos h0]
    · rw [if_neg h0, if_neg h0]
theorem rec_commit1 (l : List (Int × List UInt8)) (d : DS) (j : J.JS) (he : j.err = 0) :
    flushJ (recF l (d, j) (fins (l.length + 1) (l.length + 1))).1 (recF l (d, j) (fins (l.length + 1) (l.length + 1))).2 = ((J.commit1 d j.log j.place (j.seq + 1) (J.asChg l)).1, { j with err := (J.commit1 d j.log j.place (j.seq + 1) (J.asChg l)).2 }) := by
  have h1 := recF_data l (N := l.length + 1) (by omega) d j he l.length (Nat.le_refl _)
  rw [List.take_of_length_le (Nat.le_refl _)] at h1
  rw [fins_succ (show l.length < l.length + 1 by omega), recF_snoc, h1]
  unfold J.commit1
  rw [J.asChg_length]
  generalize J.lays d (J.logW j.log j.place (j.seq + 1) l.length 0 (J.asChg l)) = a
  dsimp only
  unfold recS
  rw [dif_neg (by simp)]
  have hsec : secAt j.log j.place l.length = ((1 + (j.place + l.length) % j.log : Nat) : Int) := by unfold secAt; push_cast; rfl
  by_cases h0 : a.2 = 0
  · rw [if_pos h0]
    have hf : flushJ a.1 { j with err := a.2 } = (fst a.1, { j with err := fer a.1 }) := by unfold flushJ; rw [if_pos h0]
    rw [hf]
    dsimp only
    rw [hsec]
    by_cases h2 : fer a.1 = 0
    · rw [if_pos h2]
      have hl : layJ (fst a.1) { j with err := fer a.1 } ((1 + (j.place + l.length) % j.log : Nat) : Int) (J.endF (j.seq + 1) l.length) = (wst (fst a.1) ((1 + (j.place + l.length) % j.log : Nat) : Int) (sealed (J.endF (j.seq + 1) l.length).enc), { j with err := wer (fst a.1) ((1 + (j.place + l.length) % j.log : Nat) : Int) (sealed (J.endF (j.seq + 1) l.length).enc) }) := by unfold layJ; rw [if_pos h2]
      rw [hl]
      dsimp only
      generalize wer (fst a.1) ((1 + (j.place + l.length) % j.log : Nat) : Int) (sealed (J.endF (j.seq + 1) l.length).enc) = e
      generalize wst (fst a.1) ((1 + (j.place + l.length) % j.log : Nat) : Int) (sealed (J.endF (j.seq + 1) l.length).enc) = d2
      unfold flushJ
      by_cases h3 : e = 0
      · rw [if_pos h3, if_pos h3]
      · rw [if_neg h3, if_neg h3]
    · rw [if_neg h2]
      have hl : layJ (fst a.1) { j with err := fer a.1 } ((1 + (j.place + l.length) % j.log : Nat) : Int) (J.endF (j.seq + 1) l.length) = (fst a.1, { j with err := fer a.1 }) := by unfold layJ; rw [if_neg h2]
      rw [hl]
      unfold flushJ
      rw [if_neg h2]
  · rw [if_neg h0]
    have hf : flushJ a.1 { j with err := a.2 } = (a.1, { j with err := a.2 }) := by unfold flushJ; rw [if_neg h0]
    rw [hf]
    dsimp only
    have hl : layJ a.1 { j with err := a.2 } (secAt j.log j.place l.length) (J.endF (j.seq + 1) l.length) = (a.1, { j with err := a.2 }) := by unfold layJ; rw [if_neg h0]
    rw [hl]
    unfold flushJ
    rw [if_neg h0]

/-- record, for a change that may be. -/
theorem record_any (h : JD w p dp S D j d) (he : j.err = 0) (hl4 : 4 ≤ j.log) (hl : j.log ≤ 200) (hnb : j.nb ≤ 400) (hpl : j.place < j.log) (hsq : j.seq + 1 < 18446744073709551616) (hs : d.pend.length ≤ 900000) (X : Nat → Prop) (A : Option Addr) (n c : Nat) (l : List (Int × List UInt8)) (hw : WS w X A n l) (hX : ∀ k, X k → k < w.heap.size ∧ ¬ (S k ∨ D k)) (hn : n ≤ 100) (hok : ∀ x ∈ l, 0 ≤ x.1 ∧ x.1 < (j.nb : Int) ∧ x.2.length ≤ 96) :
    Calls Try.prog 31 #[.pointer (some ⟨p, 0, none⟩), .slice A n c] w fun e w' => e = .returned (.int .i64 (J.commit1 d j.log j.place (j.seq + 1) (J.asChg l)).2) ∧ JStep p dp S D { j with err := (J.commit1 d j.log j.place (j.seq + 1) (J.asChg l)).2 } (J.commit1 d j.log j.place (j.seq + 1) (J.asChg l)).1 w w' := by
  have h1 := record_in h hl4 hl hnb hpl hsq hs X A n c l hw hX hn hok
  have h2 := rec_commit1 l d j he
  rw [hw.1] at h2
  rw [h2] at h1
  exact callsIn_wide.1 h1

set_option maxHeartbeats 400000 in
theorem seq_any (h : JD w p dp S D j d) : Calls Try.prog 19 #[.pointer (some ⟨p, 0, none⟩)] w fun e w' => e = .returned (.int .u64 (j.seq : Int)) ∧ w = w' := by
  obtain ⟨-, -, c, -, -, -, -⟩ := h.cell
  clear h
  go_enter Try.func19, Try.ntmps19
  go_wp2
  go_ret
  exact ⟨rfl, rfl⟩
set_option maxHeartbeats 400000 in
theorem seq_nil (w : World) : Calls Try.prog 19 #[.pointer none] w fun e w' => e = .returned (.int .u64 0) ∧ w = w' := by
  go_enter Try.func19, Try.ntmps19
  go_wp2
  go_ret
  exact ⟨rfl, rfl⟩
/-- A journal alone, whatever has become of its disk. -/
theorem Jm.cell {w : World} {p dp : Nat} {S : Nat → Prop} {j : J.JS} (h : Jm w p dp S j) :
    w.cell? ⟨p, 3, none⟩ = some (.int .u64 (j.seq : Int)) ∧ w.cell? ⟨p, 5, none⟩ = some (.int .i64 (j.used : Int)) ∧ w.cell? ⟨p, 6, none⟩ = some (.int .i64 j.err) := by
  obtain ⟨q, bl, hq⟩ := h
  exact ⟨hq.cell 3 _ rfl, hq.cell 5 _ rfl, hq.cell 6 _ rfl⟩
set_option maxHeartbeats 400000 in
theorem used_any (h : Jm w p dp S j) : Calls Try.prog 18 #[.pointer (some ⟨p, 0, none⟩)] w fun e w' => e = .returned (.int .i64 (j.used : Int)) ∧ w = w' := by
  obtain ⟨-, c, -⟩ := h.cell
  clear h
  go_enter Try.func18, Try.ntmps18
  go_wp2
  go_ret
  exact ⟨rfl, rfl⟩
set_option maxHeartbeats 400000 in
theorem used_nil (w : World) : Calls Try.prog 18 #[.pointer none] w fun e w' => e = .returned (.int .i64 0) ∧ w = w' := by
  go_enter Try.func18, Try.ntmps18
  go_wp2
  go_ret
  exact ⟨rfl, rfl⟩
set_option maxHeartbeats 400000 in
theorem err_any (h : Jm w p dp S j) : Calls Try.prog 21 #[.pointer (some ⟨p, 0, none⟩)] w fun e w' => e = .returned (.int .i64 j.err) ∧ w = w' := by
  obtain ⟨-, -, c⟩ := h.cell
  clear h
  go_enter Try.func21, Try.ntmps21
  go_wp2
  go_ret
  exact ⟨rfl, rfl⟩
set_option maxHeartbeats 400000 in
theorem err_nil (w : World) : Calls Try.prog 21 #[.pointer none] w fun e w' => e = .returned (.int .i64 1) ∧ w = w' := by
  go_enter Try.func21, Try.ntmps21
  go_wp2
  go_ret
  exact ⟨rfl, rfl⟩
/-- Checkpoint, as it goes. -/
def ck1 (d : DS) (j : J.JS) : DS × J.JS := flushJ d j
def ck2 (d : DS) (j : J.JS) : DS × J.JS := layJ (ck1 d j).1 (ck1 d j).2 0 (J.superF j.seq j.place)
def ck3 (d : DS) (j : J.JS) : DS × J.JS := flushJ (ck2 d j).1 (ck2 d j).2
theorem ck3_eq (d : DS) (j : J.JS) (he : j.err = 0) (hu : j.used ≠ 0) : J.ckpt d j = if (ck3 d j).2.err = 0 then ((ck3 d j).1, { (ck3 d j).2 with used := 0 }, 0) else ((ck3 d j).1, (ck3 d j).2, (ck3 d j).2.err) := by
  unfold J.ckpt
  rw [if_pos he, if_neg hu]
  have h1 : ck1 d j = (fst d, { j with err := fer d }) := by unfold ck1 flushJ; rw [if_pos he]
  unfold ck3 ck2
  rw [h1]
  dsimp only
  by_cases e1 : fer d = 0
  · rw [if_pos e1]
    have h2 : layJ (fst d) { j with err := fer d } 0 (J.superF j.seq j.place) = (wst (fst d) 0 (sealed (J.superF j.seq j.place).enc), { j with err := wer (fst d) 0 (sealed (J.superF j.seq j.place).enc) }) := by unfold layJ; rw [if_pos e1]
    rw [h2]
    dsimp only
    generalize wst (fst d) 0 (sealed (J.superF j.seq j.place).enc) = d2
    generalize wer (fst d) 0 (sealed (J.superF j.seq j.place).enc) = e
    by_cases e2 : e = 0
    · rw [if_pos e2]
      have h3 : flushJ d2 { j with err := e } = (fst d2, { j with err := fer d2 }) := by unfold flushJ; rw [if_pos e2]
      rw [h3]
      dsimp only
      by_cases e3 : fer d2 = 0
      · rw [if_pos e3, if_pos e3, e3]
        simp only [he]
      · rw [if_neg e3, if_neg e3]
    · rw [if_neg e2]
      have h3 : flushJ d2 { j with err := e } = (d2, { j with err := e }) := by unfold flushJ; rw [if_neg e2]
      rw [h3]
      dsimp only
      rw [if_neg e2]
  · rw [if_neg e1]
    have h2 : layJ (fst d) { j with err := fer d } 0 (J.superF j.seq j.place) = (fst d, { j with err := fer d }) := by unfold layJ; rw [if_neg e1]
    rw [h2]
    have h3 : flushJ (fst d) { j with err := fer d } = (fst d, { j with err := fer d }) := by unfold flushJ; rw [if_neg e1]
    rw [h3]
    dsimp only
    rw [if_neg e1]

set_option maxRecDepth 100000 in
set_option maxHeartbeats 2000000 in
theorem checkpoint_any (h : JD w p dp S D j d) (hl : j.log ≤ 200) (hpl : j.place < j.log) (hsq : j.seq < 18446744073709551616) (hs : d.pend.length ≤ 900000) :
    Calls Try.prog 17 #[.pointer (some ⟨p, 0, none⟩)] w fun e w' => e = .returned (.int .i64 (J.ckpt d j).2.2) ∧ JStep p dp S D (J.ckpt d j).2.1 (J.ckpt d j).1 w w' := by
  have HJ := Lib.hid h
  have HSQ := Lib.hid hsq
  obtain ⟨-, -, -, -, c5, c6, -⟩ := h.cell
  clear h hsq
  by_cases he : j.err = 0
  · by_cases hu : j.used = 0
    · have HC : Hid (J.ckpt d j = (d, j, 0)) := by show _ = _; unfold J.ckpt; rw [if_pos he, if_pos hu]
      rw [he] at c6
      rw [hu] at c5
      clear he hu
      go_enter Try.func17, Try.ntmps17
      go_wp2
      go_ret
      rw [HC.out]
      exact ⟨rfl, HJ.out.stay (Below.refl _ _)⟩
    · have HC := Lib.hid (ck3_eq d j he hu)
      have hu' : ¬ (j.used : Int) = 0 := by omega
      have hub : ((j.used : Int) == 0) = false := by simpa using hu'
      have HP1 : Hid ((ck1 d j).1.pend.length ≤ 900000) := Nat.le_trans (flushJ_alike d j).2 hs
      have HA1 : Hid (Alike j (ck1 d j).2) := (flushJ_alike d j).1
      have HP2 : Hid ((ck2 d j).1.pend.length ≤ 900001) := by have h1 := (layJ_alike (ck1 d j).1 (ck1 d j).2 0 (J.superF j.seq j.place)).2; have h2 := HP1.out; exact Nat.le_trans h1 (by omega)
      rw [he] at c6
      clear he hu hu'
      go_enter Try.func17, Try.ntmps17
      go_wp2_with (first
        | (go_at_call 36; refine (writer_any w p).mono ?_; rintro e w' ⟨rfl, rfl⟩))
      have HW1 : Hid (Below w.heap.size w (w.alloc (.cells #[.pointer (some ⟨p, 0, none⟩)] 30))) := (Below.refl _ _).alloc (Nat.le_refl _) _
      have HB1 : Hid ((w.alloc (.cells #[.pointer (some ⟨p, 0, none⟩)] 30)).heap[w.heap.size]? = some (.cells #[.pointer (some ⟨p, 0, none⟩)] 30 (0, 0))) := heap_alloc_new w _
      generalize w.alloc (.cells #[.pointer (some ⟨p, 0, none⟩)] 30) = w1 at *
      have HJ1 := Lib.hid (HJ.out.below HW1.out)
      have HLT := Lib.hid HJ.out.lt
      have HL1 : Hid (w.heap.size < w1.heap.size) := (Array.getElem?_eq_some_iff.1 HB1.out).1
      clear c5 c6
      refine (flushJ_any HJ1.out (by omega)).mono ?_
      rintro e w2 ⟨⟨v, rfl⟩, hst⟩
      change JStep p dp S D (ck1 d j).2 (ck1 d j).1 w1 w2 at hst
      obtain ⟨S2, D2, m1, m2, m3, m4⟩ := hst
      have HM1 := Lib.hid m1
      have HM2 := Lib.hid m2
      have HM3 := Lib.hid m3
      have HM4 := Lib.hid m4
      obtain ⟨-, -, c3, c4, -, -, -⟩ := m1.cell
      rw [HA1.out.2.2.2.1] at c3
      rw [HA1.out.2.2.2.2.1] at c4
      have HBX : Hid (w2.heap[w.heap.size]? = some (.cells #[.pointer (some ⟨p, 0, none⟩)] 30 (0, 0))) := (m2.block _ ⟨HL1.out, fun h => by have := HLT.out _ h; omega⟩).trans HB1.out
      have HXN : Hid (¬ (S2 w.heap.size ∨ D2 w.heap.size)) := fun h => by
        have h6 := HL1.out
        rcases h with h | h
        · rcases m3 _ h with h | h
          · have := HLT.out _ (.inl h); omega
          · omega
        · rcases m4 _ h with h | h
          · have := HLT.out _ (.inr h); omega
          · omega
      have hcv : IntKind.u32.wrap (j.place : Int) = (j.place : Int) := by rw [IntKind.wrap_u32]; omega
      clear m1 m2 m3 m4
      go_wp2_with fail
      with_reducible refine wp_region_still_tail 11 (by kernel_rfl) (by kernel_rfl) ?_
      simp only [List.take_succ_cons, List.take_zero, List.drop_succ_cons, List.drop_zero]
      change wpStill _ _ (World.drew _) _ _ _
      iterate 10 still_step
      refine wpStill_did rfl (did_build 76 _ rfl (fv (J.superF j.seq j.place) none 0 0) (by kernel_rfl)) ?_
      refine wpStill_nil ?_
      change wpList _ _ _ _ _ (World.drew _)
      go_wp2_with fail
      refine (layJ_any (HM1.out.below (Below.refl _ _).drew) (by have := HP1.out; omega) 0 (J.superF j.seq j.place) (J.superF_ok HSQ.out (by omega)) none 0 0 BS.nil w.heap.size (by show w2.cell? _ = _; rw [cell_of_row _ _ _ _ _ _ HBX.out]; rfl) HXN.out).mono ?_
      rintro e w3 ⟨⟨v, rfl⟩, hst⟩
      change JStep p dp S2 D2 (ck2 d j).2 (ck2 d j).1 w2.drew w3 at hst
      obtain ⟨S3, D3, n1, n2, n3, n4⟩ := hst
      have HN1 := Lib.hid n1
      have HN2 := Lib.hid n2
      have HN3 := Lib.hid n3
      have HN4 := Lib.hid n4
      clear n1 n2 n3 n4 c3 c4 hcv
      go_wp2_with fail
      refine (flushJ_any HN1.out (by have := HP2.out; omega)).mono ?_
      rintro e w4 ⟨⟨v, rfl⟩, hst⟩
      change JStep p dp S3 D3 (ck3 d j).2 (ck3 d j).1 w3 w4 at hst
      have HST : Hid (JStep p dp S D (ck3 d j).2 (ck3 d j).1 w w4) := JStep.trans (Fr.of_below HW1.out) (fun _ h => .inl h) (fun _ h => .inl h) (JStep.trans HM2.out HM3.out HM4.out (JStep.trans ((Fr.of_below (Below.refl _ _).drew).trans HN2.out fun _ h => .inl h) HN3.out HN4.out hst))
      obtain ⟨S4, D4, k1, k2, k3, k4⟩ := HST.out
      have HK1 := Lib.hid k1
      have HK2 := Lib.hid k2
      have HK3 := Lib.hid k3
      have HK4 := Lib.hid k4
      obtain ⟨-, -, -, -, c5, c6, hfz⟩ := k1.cell
      have z5 := hfz 5
      clear k1 k2 k3 k4 hst hfz
      by_cases e3 : (ck3 d j).2.err = 0
      · have HE := Lib.hid e3
        rw [if_pos e3] at HC
        rw [e3] at c6
        clear e3
        go_wp2
        go_ret
        rw [HC.out]
        refine ⟨rfl, ?_⟩
        obtain ⟨g1, g2⟩ := HK1.out.put (j' := { (ck3 d j).2 with used := 0 }) 5 (.int .i64 0) (fun q => rfl) rfl rfl
        exact ⟨S4, D4, g1, HK2.out.trans g2 (fun k hk => (HK3.out k hk).imp .inl id), HK3.out, HK4.out⟩
      · rw [if_neg e3] at HC
        have eb : ((ck3 d j).2.err == 0) = false := by simpa using e3
        clear e3
        go_wp2
        go_ret
        rw [HC.out]
        exact ⟨rfl, HST.out⟩
  · have HC : Hid (J.ckpt d j = (d, j, j.err)) := by show _ = _; unfold J.ckpt; rw [if_neg he]
    go_enter Try.func17, Try.ntmps17
    go_wp2
    go_ret
    rw [HC.out]
    exact ⟨rfl, HJ.out.stay (Below.refl _ _)⟩
end
end Go.Proofs.Ytcieahfhpanogaa

namespace Go.Proofs.Ytcieahfhpanogaa
open Go.RowKit

section
variable {w : World} {p dp : Nat} {S D : Nat → Prop} {j : J.JS} {d : DS}
set_option maxHeartbeats 1000000 in
theorem readJ_any (h : Jm w p dp S j) (i : Nat) (hi : i < j.nb) (hB : (j.B i).length ≤ 96) : Calls Try.prog 16 #[.pointer (some ⟨p, 0, none⟩), .int .i64 (i : Int)] w fun e w' => ∃ A n c, e = .returned (.slice A n c) ∧ BS w' A n (j.B i) ∧ n ≤ c ∧ (∀ ad, A = some ad → w.heap.size ≤ ad.block) ∧ Below w.heap.size w w' := by
  obtain ⟨q, bl, hq⟩ := h
  have hib : i < bl.length := by rw [hq.len]; exact hi
  have c2 : w.cell? ⟨p, 2, none⟩ = some (.slice (some ⟨q, 0, none⟩) j.nb j.nb) := hq.cell 2 _ rfl
  have hrow := hq.row i hib
  have HB := Lib.hid (hq.bs i hib)
  have HN : Hid (bl[i].n ≤ 96) := by show _ ≤ _; rw [← HB.out.1]; exact hB
  have hii : (i : Int) < (j.nb : Int) := by omega
  clear hq hB
  go_enter Try.func16, Try.ntmps16
  go_wp2_with fail
  refine (clone_any _ _ _ _ w HB.out (by have := HN.out; omega)).mono ?_
  rintro e w1 ⟨A1, c1, rfl, hb1, hc1, hn1, hw1⟩
  have HR := Lib.hid (And.intro hb1 (And.intro hc1 (And.intro hn1 hw1)))
  clear hb1 hc1 hn1 hw1
  go_wp2
  go_ret
  exact ⟨A1, bl[i].n, c1, rfl, HR.out.1, HR.out.2.1, HR.out.2.2.1, HR.out.2.2.2⟩
set_option maxHeartbeats 400000 in
theorem readJ_nil (w : World) (i : Int) : Calls Try.prog 16 #[.pointer none, .int .i64 i] w fun e w' => e = .returned (.slice none 0 0) ∧ w = w' := by
  go_enter Try.func16, Try.ntmps16
  go_wp2
  go_ret
  exact ⟨rfl, rfl⟩
set_option maxHeartbeats 400000 in
theorem all_nil (w : World) : Calls Try.prog 20 #[.pointer none] w fun e w' => e = .returned (.slice none 0 0) ∧ w = w' := by
  go_enter Try.func20, Try.ntmps20
  go_wp2
  go_ret
  exact ⟨rfl, rfl⟩
set_option maxHeartbeats 400000 in
theorem checkpoint_nil (w : World) : Calls Try.prog 17 #[.pointer none] w fun e w' => e = .returned (.int .i64 1) ∧ w = w' := by
  go_enter Try.func17, Try.ntmps17
  go_wp2
  go_ret
  exact ⟨rfl, rfl⟩
set_option maxHeartbeats 400000 in
theorem commit_nil (w : World) (A : Option Addr) (n c : Nat) : Calls Try.prog 14 #[.pointer none, .slice A n c] w fun e w' => e = .returned (.int .i64 1) ∧ w = w' := by
  go_enter Try.func14, Try.ntmps14
  go_wp2
  go_ret
  exact ⟨rfl, rfl⟩

theorem ckpt_ok (d : DS) (j : J.JS) (he : j.err = 0) (h : (J.ckpt d j).2.2 = 0) : (J.ckpt d j).2.1 = { j with used := 0 } := by
  revert h
  unfold J.ckpt
  rw [if_pos he]
  split
  · rename_i hu
    intro _
    cases j
    dsimp only at *
    subst hu
    rfl
  · split
    · split
      · split
        · intro _; rfl
        · rename_i h3; intro h; exact absurd h h3
      · rename_i h2; intro h; exact absurd h h2
    · rename_i h1; intro h; exact absurd h h1
theorem ckpt_pend (d : DS) (j : J.JS) : (J.ckpt d j).1.pend.length ≤ d.pend.length + 1 := by
  have h1 := fst_pend d
  have h2 := wst_pend (fst d) 0 (sealed (J.superF j.seq j.place).enc)
  have h3 := fst_pend (wst (fst d) 0 (sealed (J.superF j.seq j.place).enc))
  unfold J.ckpt
  split
  · split
    · dsimp only; omega
    · split
      · split
        · split <;> dsimp only <;> omega
        · dsimp only; omega
      · dsimp only; omega
  · dsimp only; omega
theorem commit1_pend (l : List (Int × List UInt8)) (d : DS) (j : J.JS) (he : j.err = 0) : (J.commit1 d j.log j.place (j.seq + 1) (J.asChg l)).1.pend.length ≤ d.pend.length + l.length + 1 := by
  have h := congrArg (fun x => x.1.pend.length) (rec_commit1 l d j he)
  dsimp only at h
  rw [← h]
  have h1 := (flushJ_alike (recF l (d, j) (fins (l.length + 1) (l.length + 1))).1 (recF l (d, j) (fins (l.length + 1) (l.length + 1))).2).2
  have h2 := (recF_alike l (fins (l.length + 1) (l.length + 1)) (d, j)).2.1
  rw [fins_len _ (Nat.le_refl _)] at h2
  dsimp only at h2
  omega
/-- What is left of Commit behind what is recorded. -/
theorem commit2_ok (l : List (Int × List UInt8)) (d : DS) (j : J.JS) (h : (J.commit1 d j.log j.place (j.seq + 1) (J.asChg l)).2 = 0) :
    J.commit2 d j (J.asChg l) = ((saveJ (J.commit1 d j.log j.place (j.seq + 1) (J.asChg l)).1 (j.on (J.asChg l) 0) (l.map fun x => x.1.toNat)).1, (saveJ (J.commit1 d j.log j.place (j.seq + 1) (J.asChg l)).1 (j.on (J.asChg l) 0) (l.map fun x => x.1.toNat)).2, 0) := by
  unfold J.commit2
  rw [if_pos h, saveJ_lays _ _ _ rfl]
  have e : (J.asChg l).map (·.1) = l.map fun x => x.1.toNat := by simp [J.asChg]
  rw [e]
  rfl
end
end Go.Proofs.Ytcieahfhpanogaa

namespace Go.Proofs.Ytcieahfhpanogaa
open Go.RowKit

/-- A journal and its disk at some later time, and a slice of writes that stays. -/
structure Tl (w w6 : World) (p dp : Nat) (S D S6 D6 X : Nat → Prop) (A : Option Addr) (n : Nat) (l : List (Int × List UInt8)) (jj : J.JS) (dd : DS) : Prop where
  jd : JD w6 p dp S6 D6 jj dd
  fr : Fr (fun k => S k ∨ D k) w w6
  hS : ∀ k, S6 k → S k ∨ w.heap.size ≤ k
  hD : ∀ k, D6 k → D k ∨ w.heap.size ≤ k
  ws : WS w6 X A n l
  hX : ∀ k, X k → k < w.heap.size ∧ ¬ (S k ∨ D k)
  le : w.heap.size ≤ w6.heap.size
section
variable {w w6 w7 : World} {p dp : Nat} {S D S6 D6 X : Nat → Prop} {A : Option Addr} {n c : Nat} {l : List (Int × List UInt8)} {jj jj' : J.JS} {dd dd' : DS}
theorem Tl.hX6 (h : Tl w w6 p dp S D S6 D6 X A n l jj dd) : ∀ k, X k → k < w6.heap.size ∧ ¬ (S6 k ∨ D6 k) := fun k hk => by
  obtain ⟨h1, h2⟩ := h.hX k hk
  refine ⟨Nat.lt_of_lt_of_le h1 h.le, fun h3 => ?_⟩
  rcases h3 with h3 | h3
  · rcases h.hS k h3 with h4 | h4
    · exact h2 (.inl h4)
    · omega
  · rcases h.hD k h3 with h4 | h4
    · exact h2 (.inr h4)
    · omega
theorem Tl.step (h : Tl w w6 p dp S D S6 D6 X A n l jj dd) (hs : JStep p dp S6 D6 jj' dd' w6 w7) : ∃ S7 D7, Tl w w7 p dp S D S7 D7 X A n l jj' dd' := by
  have hw := h.ws
  have hx := h.hX6
  obtain ⟨S7, D7, h1, h2, h3, h4⟩ := hs
  have ht := JStep.trans h.fr h.hS h.hD ⟨S7, D7, h1, h2, h3, h4⟩
  refine ⟨S7, D7, h1, h.fr.trans h2 (fun k hk => ?_), fun k hk => ?_, fun k hk => ?_, hw.fr h2 hx, h.hX, Nat.le_trans h.le h2.size⟩
  · rcases hk with hk | hk
    · exact (h.hS k hk).imp .inl id
    · exact (h.hD k hk).imp .inr id
  · rcases h3 k hk with h5 | h5
    · exact h.hS k h5
    · exact .inr (Nat.le_trans h.le h5)
  · rcases h4 k hk with h5 | h5
    · exact h.hD k h5
    · exact .inr (Nat.le_trans h.le h5)
theorem Tl.below (h : Tl w w6 p dp S D S6 D6 X A n l jj dd) (hb : Below w6.heap.size w6 w7) : Tl w w7 p dp S D S6 D6 X A n l jj dd := by
  refine ⟨h.jd.below hb, h.fr.trans (Fr.of_below hb : Fr (fun _ => False) w6 w7) (fun k hk => hk.elim), h.hS, h.hD, h.ws.fr (Fr.of_below hb : Fr (fun _ => False) w6 w7) (fun k hk => ⟨(h.hX6 k hk).1, fun h => h⟩), h.hX, Nat.le_trans h.le (Fr.of_below hb : Fr (fun _ => False) w6 w7).size⟩
theorem Tl.out (h : Tl w w6 p dp S D S6 D6 X A n l jj dd) : JStep p dp S D jj dd w w6 := ⟨S6, D6, h.jd, h.fr, h.hS, h.hD⟩
theorem Tl.first (h : JD w p dp S D jj dd) (hw : WS w X A n l) (hX : ∀ k, X k → k < w.heap.size ∧ ¬ (S k ∨ D k)) : Tl w w p dp S D S D X A n l jj dd := ⟨h, (Fr.of_below (Below.refl _ _)), fun _ h => .inl h, fun _ h => .inl h, hw, hX, Nat.le_refl _⟩
end

section
variable {w : World} {p dp : Nat} {S D : Nat → Prop} {j : J.JS} {d : DS}
set_option maxRecDepth 100000 in
set_option maxHeartbeats 2000000 in
theorem commit_any (h : JD w p dp S D j d) (hl4 : 4 ≤ j.log) (hl : j.log ≤ 200) (hnb : j.nb ≤ 400) (hpl : j.place < j.log) (hus : j.used ≤ j.log) (hsq : j.seq + 1 < 18446744073709551616) (hB : ∀ i, i < j.nb → (j.B i).length ≤ 96) (hs : d.pend.length ≤ 800000) (X : Nat → Prop) (A : Option Addr) (n c : Nat) (l : List (Int × List UInt8)) (hw : WS w X A n l) (hX : ∀ k, X k → k < w.heap.size ∧ ¬ (S k ∨ D k)) (hn : n ≤ 1000000) :
    Calls Try.prog 14 #[.pointer (some ⟨p, 0, none⟩), .slice A n c] w fun e w' => e = .returned (.int .i64 (J.commitJ d j l).2.2) ∧ JStep p dp S D (J.commitJ d j l).2.1 (J.commitJ d j l).1 w w' := by
  have HT := Lib.hid (Tl.first h hw hX)
  have Hn : Hid (l.length = n) := hw.1
  have HBL := Lib.hid hB
  have HSQ := Lib.hid hsq
  obtain ⟨-, -, -, -, -, c6, -⟩ := h.cell
  clear h hw hX hB hsq
  by_cases he : j.err = 0
  case neg =>
    have HC : Hid (J.commitJ d j l = (d, j, j.err)) := by show _ = _; unfold J.commitJ; rw [if_neg he]
    have eb : (j.err == 0) = false := by simpa using he
    have eb' : (j.err != 0) = true := by simpa using he
    clear he
    go_enter Try.func14, Try.ntmps14
    go_wp2
    go_ret
    rw [HC.out]
    exact ⟨rfl, HT.out.out⟩
  have HE := Lib.hid he
  rw [he] at c6
  clear he
  by_cases hok : J.okW j.nb l = true
  case neg =>
    have HC : Hid (J.commitJ d j l = (d, j, 1)) := by show _ = _; unfold J.commitJ; rw [if_pos HE.out, if_neg hok]
    have hok' : J.okW j.nb l = false := by simpa using hok
    clear hok
    go_enter Try.func14, Try.ntmps14
    go_wp2_with fail
    refine (permits_any HT.out.jd X A n c l HT.out.ws (fun k hk => (HT.out.hX k hk).1) hn).mono ?_
    rintro e w1 ⟨rfl, hb1⟩
    rw [hok']
    have HT1 := Lib.hid (HT.out.below hb1)
    clear hb1 c6
    go_wp2
    go_ret
    rw [HC.out]
    exact ⟨rfl, HT1.out.out⟩
  have HOK := Lib.hid hok
  have HO2 := Lib.hid (J.okW_ok hok)
  have HN1 : Hid (n ≤ 100) := by show _ ≤ _; rw [← Hn.out, ← J.asChg_length]; exact HO2.out.2.1
  have HO3 : Hid (∀ x ∈ l, 0 ≤ x.1 ∧ x.1 < (j.nb : Int) ∧ x.2.length ≤ 96) := by
    intro x hx
    have h1 := hok
    simp only [J.okW, Bool.and_eq_true, decide_eq_true_iff] at h1
    obtain ⟨h2, h3, h4⟩ := J.rises_mem h1.2 x hx
    exact ⟨by omega, h3, h4⟩
  clear hok hn
  go_enter Try.func14, Try.ntmps14
  go_wp2_with fail
  refine (permits_any HT.out.jd X A n c l HT.out.ws (fun k hk => (HT.out.hX k hk).1) (by have := HN1.out; omega)).mono ?_
  rintro e w1 ⟨rfl, hb1⟩
  rw [HOK.out]
  have HT1 := Lib.hid (HT.out.below hb1)
  obtain ⟨-, c1, -, -, c5, -, -⟩ := HT1.out.jd.cell
  clear hb1 c6
  have HNN := HN1.out
  by_cases hfit : l.length + 1 ≤ j.log
  case neg =>
    have HC : Hid (J.commitJ d j l = (d, j, 21)) := by show _ = _; unfold J.commitJ; rw [if_pos HE.out, if_pos HOK.out, if_neg hfit]
    rw [Hn.out] at hfit
    have hgt : (j.log : Int) < (n : Int) + 1 := by omega
    go_wp2_with fail
    with_reducible refine wp_region_still_lit (by kernel_rfl) (by kernel_rfl) ?_
    change wpStill _ _ (World.drew _) _ _ _
    still_step
    still_call (size_still A n c w1.drew (by omega))
    change wpStill _ _ (World.drew _) _ _ _
    iterate 5 still_step
    refine wpStill_nil ?_
    have HT2 := Lib.hid (HT1.out.below (Below.refl _ _).drew)
    go_wp2
    go_ret
    rw [HC.out]
    exact ⟨rfl, HT2.out.out⟩
  have hgt : ¬ ((j.log : Int) < (n : Int) + 1) := by have := Hn.out; omega
  have HFIT := Lib.hid hfit
  clear hfit
  go_wp2_with fail
  with_reducible refine wp_region_still_lit (by kernel_rfl) (by kernel_rfl) ?_
  change wpStill _ _ (World.drew _) _ _ _
  still_step
  still_call (size_still A n c w1.drew (by omega))
  change wpStill _ _ (World.drew _) _ _ _
  iterate 5 still_step
  refine wpStill_nil ?_
  have HT2 := Lib.hid (HT1.out.below (Below.refl _ _).drew)
  have hwp : IntKind.i64.wrap ((j.log : Int) - (j.used : Int)) = (j.log : Int) - (j.used : Int) := by rw [IntKind.wrap_i64]; omega
  by_cases hroom : l.length + 1 ≤ j.log - j.used
  · have HC : Hid (J.commitJ d j l = J.commit2 d j (J.asChg l)) := by show _ = _; unfold J.commitJ; rw [if_pos HE.out, if_pos HOK.out, if_pos HFIT.out, if_pos hroom]
    have hgt2 : ¬ ((j.log : Int) - (j.used : Int) < (n : Int) + 1) := by have := Hn.out; omega
    clear hroom
    go_wp2_with fail
    with_reducible refine wp_region_still_lit (by kernel_rfl) (by kernel_rfl) ?_
    change wpStill _ _ (World.drew _) _ _ _
    still_step
    still_call (size_still A n c _ (by omega))
    change wpStill _ _ (World.drew _) _ _ _
    iterate 10 still_step
    refine wpStill_nil ?_
    have HT3 := Lib.hid (HT2.out.below (Below.refl _ _).drew)
    have HE9 : Hid (j.err = 0) := HE.out
    have HPD : Hid (d.pend.length ≤ 800001) := by show _ ≤ _; omega
    go_wp2_with fail
    refine (record_any HT3.out.jd HE9.out hl4 hl hnb hpl HSQ.out (by have := HPD.out; omega) X A n c l HT3.out.ws HT3.out.hX6 HN1.out HO3.out).mono ?_
    rintro e w5 ⟨rfl, hst⟩
    obtain ⟨S5, D5, ht5⟩ := HT3.out.step hst
    have HT5 := Lib.hid ht5
    have HP5 := Lib.hid (commit1_pend l d j HE9.out)
    clear hst ht5
    by_cases hc1 : (J.commit1 d (j : J.JS).log (j : J.JS).place ((j : J.JS).seq + 1) (J.asChg l)).2 = 0
    · have HC5 := Lib.hid (HC.out.trans (commit2_ok l d j hc1))
      rw [hc1] at HT5
      rw [hc1]
      clear HC hc1
      generalize (J.commit1 d (j : J.JS).log (j : J.JS).place ((j : J.JS).seq + 1) (J.asChg l)).1 = d5 at *
      go_wp2_with fail
      refine (apply_any HT5.out.jd hl4 hl hpl (by show j.used ≤ 400; omega) HSQ.out X A n c l HT5.out.ws (fun k hk => ⟨(HT5.out.hX6 k hk).1, fun h => (HT5.out.hX6 k hk).2 (.inl h)⟩) (by omega) HO3.out).mono ?_
      rintro e w6 ⟨⟨v, rfl⟩, hst⟩
      obtain ⟨S6, D6, ht6⟩ := HT5.out.step hst
      have HT6 : Hid (Tl w w6 p dp S D S6 D6 X A n l (J.JS.on j (J.asChg l) 0) d5) := ht6
      clear hst ht6
      go_wp2_with fail
      refine (places_any w6 X A n c l HT6.out.ws (fun k hk => (HT6.out.hX6 k hk).1) (by omega)).mono ?_
      rintro e w7 ⟨rfl, hrow, hb7⟩
      have HT7 := Lib.hid (HT6.out.below hb7)
      have HL7 := Lib.hid HT6.out.jd.lt
      have HI7 : Hid (IS w7 (fun k => k = w6.heap.size) (some ⟨w6.heap.size, 0, none⟩) n (l.map fun x => x.1.toNat)) := by
        refine ⟨by rw [List.length_map]; exact Hn.out, fun _ => ⟨_, _, rfl, rfl, fun k hk => ?_⟩⟩
        rw [List.length_map] at hk
        rw [cell_of_row _ _ _ _ _ _ hrow]
        have h0 := (HO3.out (l[k]) (List.getElem_mem _)).1
        have hk2 : k < (l.map fun x => Value.int .i64 x.1).length := by rw [List.length_map]; exact hk
        rw [Nat.zero_add, List.getElem?_toArray, List.getElem?_eq_getElem hk2, List.getElem_map, List.getElem_map, Int.toNat_of_nonneg h0]
      have HLT7 : Hid (w6.heap.size < w7.heap.size) := (Array.getElem?_eq_some_iff.1 hrow).1
      clear hrow hb7
      go_wp2_with fail
      refine (saveHomes_any HT7.out.jd hl hnb HSQ.out (fun i hi => J.apl_len (HBL.out i hi) (fun x hx => (HO2.out.2.2 x hx).2)) _ n n _ _ HI7.out (fun k hk => by subst hk; exact ⟨HLT7.out, fun h => Nat.lt_irrefl _ (HL7.out _ h)⟩) (fun i hi => by obtain ⟨x, hx, rfl⟩ := List.mem_map.1 hi; have := HO3.out x hx; show _ < j.nb; omega) (by have h1 := HPD.out; have h2 := HP5.out; rw [Hn.out] at h2; omega)).mono ?_
      rintro e w8 ⟨⟨v, rfl⟩, hst⟩
      obtain ⟨S8, D8, ht8⟩ := HT7.out.step hst
      have HT8 := Lib.hid ht8
      clear hst ht8
      go_wp2
      go_ret
      rw [HC5.out]
      exact ⟨rfl, HT8.out.out⟩
    · have HC5 : Hid (J.commitJ d j l = ((J.commit1 d (j : J.JS).log (j : J.JS).place ((j : J.JS).seq + 1) (J.asChg l)).1, { (j : J.JS) with err := (J.commit1 d (j : J.JS).log (j : J.JS).place ((j : J.JS).seq + 1) (J.asChg l)).2 }, (J.commit1 d (j : J.JS).log (j : J.JS).place ((j : J.JS).seq + 1) (J.asChg l)).2)) := by
        show _ = _
        rw [HC.out]
        unfold J.commit2
        rw [if_neg hc1]
      have eb : ((J.commit1 d (j : J.JS).log (j : J.JS).place ((j : J.JS).seq + 1) (J.asChg l)).2 == 0) = false := by simpa using hc1
      have eb' : ((J.commit1 d (j : J.JS).log (j : J.JS).place ((j : J.JS).seq + 1) (J.asChg l)).2 != 0) = true := by simpa using hc1
      clear HC hc1
      generalize J.commit1 d (j : J.JS).log (j : J.JS).place ((j : J.JS).seq + 1) (J.asChg l) = a5 at *
      go_wp2
      go_ret
      rw [HC5.out]
      exact ⟨rfl, HT5.out.out⟩
  · have hgt2 : (j.log : Int) - (j.used : Int) < (n : Int) + 1 := by have := Hn.out; omega
    go_wp2_with fail
    with_reducible refine wp_region_still_lit (by kernel_rfl) (by kernel_rfl) ?_
    change wpStill _ _ (World.drew _) _ _ _
    still_step
    still_call (size_still A n c _ (by omega))
    change wpStill _ _ (World.drew _) _ _ _
    iterate 10 still_step
    refine wpStill_nil ?_
    have HT3 := Lib.hid (HT2.out.below (Below.refl _ _).drew)
    go_wp2_with fail
    refine (checkpoint_any HT3.out.jd hl hpl (by have := HSQ.out; omega) (by omega)).mono ?_
    rintro e w4 ⟨rfl, hst⟩
    obtain ⟨S4, D4, ht4⟩ := HT3.out.step hst
    have HT4 := Lib.hid ht4
    clear hst ht4
    by_cases hck : (J.ckpt d j).2.2 = 0
    · have HC : Hid (J.commitJ d j l = J.commit2 (J.ckpt d j).1 (J.ckpt d j).2.1 (J.asChg l)) := by show _ = _; unfold J.commitJ; rw [if_pos HE.out, if_pos HOK.out, if_pos HFIT.out, if_neg hroom, if_pos hck]
      rw [ckpt_ok d j HE.out hck] at HC HT4
      have HP4 := Lib.hid (ckpt_pend d j)
      rw [hck]
      clear hck hroom
      generalize (J.ckpt d j).1 = d4 at *
      have HE9 : Hid (({ j with used := 0 } : J.JS).err = 0) := HE.out
      have HPD : Hid (d4.pend.length ≤ 800001) := by show _ ≤ _; have := HP4.out; omega
      go_wp2_with fail
      refine (record_any HT4.out.jd HE9.out hl4 hl hnb hpl HSQ.out (by have := HPD.out; omega) X A n c l HT4.out.ws HT4.out.hX6 HN1.out HO3.out).mono ?_
      rintro e w5 ⟨rfl, hst⟩
      obtain ⟨S5, D5, ht5⟩ := HT4.out.step hst
      have HT5 := Lib.hid ht5
      have HP5 := Lib.hid (commit1_pend l d4 { j with used := 0 } HE9.out)
      clear hst ht5
      by_cases hc1 : (J.commit1 d4 ({ j with used := 0 } : J.JS).log ({ j with used := 0 } : J.JS).place (({ j with used := 0 } : J.JS).seq + 1) (J.asChg l)).2 = 0
      · have HC5 := Lib.hid (HC.out.trans (commit2_ok l d4 { j with used := 0 } hc1))
        rw [hc1] at HT5
        rw [hc1]
        clear HC hc1
        generalize (J.commit1 d4 ({ j with used := 0 } : J.JS).log ({ j with used := 0 } : J.JS).place (({ j with used := 0 } : J.JS).seq + 1) (J.asChg l)).1 = d5 at *
        go_wp2_with fail
        refine (apply_any HT5.out.jd hl4 hl hpl (by show 0 ≤ 400; omega) HSQ.out X A n c l HT5.out.ws (fun k hk => ⟨(HT5.out.hX6 k hk).1, fun h => (HT5.out.hX6 k hk).2 (.inl h)⟩) (by omega) HO3.out).mono ?_
        rintro e w6 ⟨⟨v, rfl⟩, hst⟩
        obtain ⟨S6, D6, ht6⟩ := HT5.out.step hst
        have HT6 : Hid (Tl w w6 p dp S D S6 D6 X A n l (J.JS.on { j with used := 0 } (J.asChg l) 0) d5) := ht6
        clear hst ht6
        go_wp2_with fail
        refine (places_any w6 X A n c l HT6.out.ws (fun k hk => (HT6.out.hX6 k hk).1) (by omega)).mono ?_
        rintro e w7 ⟨rfl, hrow, hb7⟩
        have HT7 := Lib.hid (HT6.out.below hb7)
        have HL7 := Lib.hid HT6.out.jd.lt
        have HI7 : Hid (IS w7 (fun k => k = w6.heap.size) (some ⟨w6.heap.size, 0, none⟩) n (l.map fun x => x.1.toNat)) := by
          refine ⟨by rw [List.length_map]; exact Hn.out, fun _ => ⟨_, _, rfl, rfl, fun k hk => ?_⟩⟩
          rw [List.length_map] at hk
          rw [cell_of_row _ _ _ _ _ _ hrow]
          have h0 := (HO3.out (l[k]) (List.getElem_mem _)).1
          have hk2 : k < (l.map fun x => Value.int .i64 x.1).length := by rw [List.length_map]; exact hk
          rw [Nat.zero_add, List.getElem?_toArray, List.getElem?_eq_getElem hk2, List.getElem_map, List.getElem_map, Int.toNat_of_nonneg h0]
        have HLT7 : Hid (w6.heap.size < w7.heap.size) := (Array.getElem?_eq_some_iff.1 hrow).1
        clear hrow hb7
        go_wp2_with fail
        refine (saveHomes_any HT7.out.jd hl hnb HSQ.out (fun i hi => J.apl_len (HBL.out i hi) (fun x hx => (HO2.out.2.2 x hx).2)) _ n n _ _ HI7.out (fun k hk => by subst hk; exact ⟨HLT7.out, fun h => Nat.lt_irrefl _ (HL7.out _ h)⟩) (fun i hi => by obtain ⟨x, hx, rfl⟩ := List.mem_map.1 hi; have := HO3.out x hx; show _ < j.nb; omega) (by have h1 := HPD.out; have h2 := HP5.out; rw [Hn.out] at h2; omega)).mono ?_
        rintro e w8 ⟨⟨v, rfl⟩, hst⟩
        obtain ⟨S8, D8, ht8⟩ := HT7.out.step hst
        have HT8 := Lib.hid ht8
        clear hst ht8
        go_wp2
        go_ret
        rw [HC5.out]
        exact ⟨rfl, HT8.out.out⟩
      · have HC5 : Hid (J.commitJ d j l = ((J.commit1 d4 ({ j with used := 0 } : J.JS).log ({ j with used := 0 } : J.JS).place (({ j with used := 0 } : J.JS).seq + 1) (J.asChg l)).1, { ({ j with used := 0 } : J.JS) with err := (J.commit1 d4 ({ j with used := 0 } : J.JS).log ({ j with used := 0 } : J.JS).place (({ j with used := 0 } : J.JS).seq + 1) (J.asChg l)).2 }, (J.commit1 d4 ({ j with used := 0 } : J.JS).log ({ j with used := 0 } : J.JS).place (({ j with used := 0 } : J.JS).seq + 1) (J.asChg l)).2)) := by
          show _ = _
          rw [HC.out]
          unfold J.commit2
          rw [if_neg hc1]
        have eb : ((J.commit1 d4 ({ j with used := 0 } : J.JS).log ({ j with used := 0 } : J.JS).place (({ j with used := 0 } : J.JS).seq + 1) (J.asChg l)).2 == 0) = false := by simpa using hc1
        have eb' : ((J.commit1 d4 ({ j with used := 0 } : J.JS).log ({ j with used := 0 } : J.JS).place (({ j with used := 0 } : J.JS).seq + 1) (J.asChg l)).2 != 0) = true := by simpa using hc1
        clear HC hc1
        generalize J.commit1 d4 ({ j with used := 0 } : J.JS).log ({ j with used := 0 } : J.JS).place (({ j with used := 0 } : J.JS).seq + 1) (J.asChg l) = a5 at *
        go_wp2
        go_ret
        rw [HC5.out]
        exact ⟨rfl, HT5.out.out⟩
    · have HC : Hid (J.commitJ d j l = J.ckpt d j) := by show _ = _; unfold J.commitJ; rw [if_pos HE.out, if_pos HOK.out, if_pos HFIT.out, if_neg hroom, if_neg hck]
      have eb : ((J.ckpt d j).2.2 == 0) = false := by simpa using hck
      have eb' : ((J.ckpt d j).2.2 != 0) = true := by simpa using hck
      clear hck hroom
      go_wp2
      go_ret
      rw [HC.out]
      exact ⟨rfl, HT4.out.out⟩
end
end Go.Proofs.Ytcieahfhpanogaa

namespace Go.Proofs.Ytcieahfhpanogaa
open Go.Lib

theorem strict_ext : ∀ (a b : List Int), a.Pairwise (· < ·) → b.Pairwise (· < ·) → (∀ x, x ∈ a ↔ x ∈ b) → a = b
  | [], [], _, _, _ => rfl
  | [], y :: b, _, _, h => by have := (h y).2 (by simp); cases this
  | x :: a, [], _, _, h => by have := (h x).1 (by simp); cases this
  | x :: a, y :: b, ha, hb, h => by
    rw [List.pairwise_cons] at ha hb
    have hxy : x = y := by
      rcases List.mem_cons.1 ((h x).1 (by simp)) with e | e
      · exact e
      · rcases List.mem_cons.1 ((h y).2 (by simp)) with e' | e'
        · exact e'.symm
        · have h1 := hb.1 x e
          have h2 := ha.1 y e'
          omega
    subst hxy
    congr 1
    refine strict_ext a b ha.2 hb.2 fun z => ⟨fun hz => ?_, fun hz => ?_⟩
    · rcases List.mem_cons.1 ((h z).1 (by simp [hz])) with e | e
      · have := ha.1 z hz; omega
      · exact e
    · rcases List.mem_cons.1 ((h z).2 (by simp [hz])) with e | e
      · have := hb.1 z hz; omega
      · exact e
theorem compact_strict (zs : List Int) (hs : zs.Pairwise (· ≤ ·)) : (compact zs).Pairwise (· < ·) ∧ ∀ x, x ∈ compact zs ↔ x ∈ zs := by
  have hle : ∀ i j (hi : i < zs.length) (hj : j < zs.length), i ≤ j → zs[i] ≤ zs[j] := fun i j hi hj hij => by
    rcases Nat.lt_or_eq_of_le hij with h | h
    · exact List.pairwise_iff_getElem.1 hs i j hi hj h
    · subst h; exact Int.le_refl _
  have hg : ∀ i (hi : i < zs.length), zs.toArray[i]! = zs[i] := fun i hi => by simp [hi]
  unfold compact compactUpTo
  constructor
  · rw [List.pairwise_map]
    refine List.Pairwise.imp_of_mem ?_ (List.Pairwise.filter _ (List.pairwise_lt_range (n := zs.length)))
    intro i j hi hj hij
    have hi1 : i < zs.length := by simpa using (List.mem_filter.1 hi).1
    have hj1 : j < zs.length := by simpa using (List.mem_filter.1 hj).1
    have hk := (List.mem_filter.1 hj).2
    rw [hg i hi1, hg j hj1]
    have h1 := hle i (j - 1) hi1 (by omega) (by omega)
    have h2 := hle (j - 1) j (by omega) hj1 (by omega)
    by_cases e : zs[j] = zs[j - 1]
    · have := keeps_neg (d := zs.toArray) (m := j) (by omega) (by rw [hg j hj1, hg (j - 1) (by omega)]; exact e)
      rw [this] at hk
      cases hk
    · omega
  · intro x
    constructor
    · intro hx
      obtain ⟨i, hi, rfl⟩ := List.mem_map.1 hx
      have hi1 : i < zs.length := by simpa using (List.mem_filter.1 hi).1
      rw [hg i hi1]
      exact List.getElem_mem _
    · intro hx
      obtain ⟨i, hi, rfl⟩ := List.getElem_of_mem hx
      have key : ∀ i (hi : i < zs.length), zs[i] ∈ List.map (fun x => zs.toArray[x]!) (List.filter (keeps zs.toArray) (List.range zs.length)) := by
        intro i
        induction i with
        | zero =>
          intro hi
          exact List.mem_map.2 ⟨0, List.mem_filter.2 ⟨by simpa using hi, keeps_lt_one _ 0 (by omega)⟩, hg 0 hi⟩
        | succ i ih =>
          intro hi
          by_cases e : zs[i + 1] = zs[i]
          · rw [e]
            exact ih (by omega)
          · exact List.mem_map.2 ⟨i + 1, List.mem_filter.2 ⟨by simpa using hi, keeps_pos (by rw [hg (i + 1) hi, hg (i + 1 - 1) (by omega)]; exact e)⟩, hg (i + 1) hi⟩
      exact key i hi
/-- What Sort and Compact leave of the blocks that were told. -/
theorem told_compact (nb : Nat) (l : J.Chg) (h : ∀ x ∈ l, x.1 < nb) : compact ((l.map fun x => (x.1 : Int)).mergeSort fun x y => decide (x ≤ y)) = (J.told nb l).map fun (i : Nat) => (i : Int) := by
  have hs : ((l.map fun x => (x.1 : Int)).mergeSort fun x y => decide (x ≤ y)).Pairwise (· ≤ ·) := by
    have := List.pairwise_mergeSort (le := fun (x y : Int) => decide (x ≤ y)) (fun a b c h1 h2 => by simp only [decide_eq_true_eq] at *; omega) (fun a b => by simp only [Bool.or_eq_true, decide_eq_true_eq]; omega) (l.map fun x => (x.1 : Int))
    exact this.imp (fun h => by simpa using h)
  obtain ⟨h1, h2⟩ := compact_strict _ hs
  refine strict_ext _ _ h1 ?_ fun x => ?_
  · rw [List.pairwise_map]
    unfold J.told
    exact (List.Pairwise.filter _ (List.pairwise_lt_range (n := nb))).imp (fun h => by omega)
  · rw [h2, List.mem_mergeSort]
    constructor
    · intro hx
      obtain ⟨y, hy, rfl⟩ := List.mem_map.1 hx
      exact List.mem_map.2 ⟨y.1, J.told_mem.2 ⟨h y hy, y, hy, rfl⟩, rfl⟩
    · intro hx
      obtain ⟨i, hi, rfl⟩ := List.mem_map.1 hx
      obtain ⟨_, y, hy, rfl⟩ := J.told_mem.1 hi
      exact List.mem_map.2 ⟨y, hy, rfl⟩

/-- The journal behind the first k changes of a log. -/
def stJ (j : J.JS) (t : Nat) (cs : List J.Chg) (k : Nat) : J.JS := ⟨j.log, j.nb, J.apl (cs.take k).flatten j.B, j.seq + k, (t + J.size (cs.take k)) % j.log, j.used + J.size (cs.take k), j.err⟩
theorem size_take_le (cs : List J.Chg) (k : Nat) : J.size (cs.take k) ≤ J.size cs := by
  induction cs generalizing k with
  | nil => simp [J.size]
  | cons c cs ih =>
    cases k with
    | zero => simp [J.size]
    | succ k => simp only [List.take_succ_cons, J.size]; have := ih k; omega
theorem size_take_succ (cs : List J.Chg) (k : Nat) (h : k < cs.length) : J.size (cs.take (k + 1)) = J.size (cs.take k) + cs[k].length + 1 := by
  rw [List.take_succ_eq_append_getElem h, J.size_snoc]
theorem chg_at {G : J.Con} {log nb : Nat} (hlog : 0 < log) : ∀ (cs : List J.Chg) (t s u k : Nat), J.Chain G log t s cs → (∀ c ∈ cs, J.ChOk nb c) → u + J.size cs ≤ log → k ≤ cs.length → (∀ q f, q < log → J.fr G (1 + q) 3 = some f → f.s ≤ s + cs.length) →
    J.chg G log nb ((t + J.size (cs.take k)) % log) (s + k + 1) (log - (u + J.size (cs.take k))) = cs.getD k []
  | [], t, s, u, k, _, _, _, hk, hn => by
    obtain rfl : k = 0 := by simpa using hk
    exact J.chg_none hlog fun q f hq hf e => by have := hn q f hq hf; simp at this; omega
  | c :: cs, t, s, u, 0, hc, hok, hu, _, hn => by
    simp only [J.size] at hu
    simp only [List.take_zero, J.size, Nat.add_zero]
    rw [J.chg_mod]
    exact (J.chg_lies hc.1 (hok c (by simp)) (by omega) : J.chg G log nb t (s + 1) (log - u) = c)
  | c :: cs, t, s, u, k + 1, hc, hok, hu, hk, hn => by
    simp only [J.size] at hu
    have ih := chg_at hlog cs (t + c.length + 1) (s + 1) (u + c.length + 1) k hc.2 (fun d hd => hok d (by simp [hd])) (by omega) (by simpa using hk) (fun q f hq hf => by have := hn q f hq hf; simp at this; omega)
    simp only [List.take_succ_cons, J.size]
    rw [show t + (c.length + 1 + J.size (List.take k cs)) = t + c.length + 1 + J.size (List.take k cs) by omega, show s + (k + 1) + 1 = s + 1 + k + 1 by omega, show u + (c.length + 1 + J.size (List.take k cs)) = u + c.length + 1 + J.size (List.take k cs) by omega, ih]
    rfl
theorem stJ_succ (j : J.JS) (t : Nat) (cs : List J.Chg) (k : Nat) (h : k < cs.length) : (stJ j t cs k).on cs[k] j.err = stJ j t cs (k + 1) := by
  unfold stJ J.JS.on
  rw [size_take_succ cs k h, List.take_succ_eq_append_getElem h]
  simp only [List.flatten_append, List.flatten_cons, List.flatten_nil, List.append_nil, J.apl_append]
  congr 1
  · rw [Nat.add_assoc, Nat.mod_add_mod]; congr 1; omega
  · omega
theorem asChg_int (l : J.Chg) : J.asChg (l.map fun x => ((x.1 : Int), x.2)) = l := by
  unfold J.asChg
  rw [List.map_map]
  conv => rhs; rw [← List.map_id l]
  rfl
end Go.Proofs.Ytcieahfhpanogaa

namespace Go.Proofs.Ytcieahfhpanogaa
open Go.RowKit

def lenOf : Value → Nat
  | .slice _ n _ => n
  | _ => 0
/-- The blocks of writes are there. -/
theorem WS.inb {w : World} {X : Nat → Prop} {A : Option Addr} {n : Nat} {l : List (Int × List UInt8)} (h : WS w X A n l) : WS w (fun k => X k ∧ k < w.heap.size) A n l := by
  refine ⟨h.1, fun hn => ?_⟩
  obtain ⟨b, o, e, hX, hc⟩ := h.2 hn
  refine ⟨b, o, e, ⟨hX, ?_⟩, fun k hk => ?_⟩
  · obtain ⟨x, h1, -⟩ := hc 0 (by rw [h.1]; exact hn)
    exact World.block_lt_of_cell? w _ h1
  · obtain ⟨x, h1, h2, h3, h4, h5⟩ := hc k hk
    refine ⟨x, h1, h2, h3, h4, fun hn ad e => ⟨h5 hn ad e, ?_⟩⟩
    obtain ⟨b', o', e', hc'⟩ := h3.2 hn
    rw [e'] at e
    cases e
    exact World.block_lt_of_cell? w _ (hc' 0 (by rw [h3.1]; exact hn))
/-- The numbers of the blocks that changes told, as values. -/
def tv (l : J.Chg) : List Value := l.map fun x => Value.int .i64 (x.1 : Int)
theorem tv_len (l : J.Chg) : (tv l).length = l.length := List.length_map ..
/-- On the way. -/
structure RpI (w W : World) (p dp : Nat) (S D : Nat → Prop) (j : J.JS) (t : Nat) (cs : List J.Chg) (d : DS) (k : Nat) (v : Value) (S' D' X : Nat → Prop) (A : Option Addr) : Prop where
  jd : JD W p dp S' D' (stJ j t cs k) d
  fr : Fr (fun k => S k ∨ D k) w W
  hS : ∀ k, S' k → S k ∨ w.heap.size ≤ k
  hD : ∀ k, D' k → D k ∨ w.heap.size ≤ k
  ws : WS W X A (cs.getD k []).length ((cs.getD k []).map fun x => ((x.1 : Int), x.2))
  hX : ∀ i, X i → i < W.heap.size ∧ ¬ (S' i ∨ D' i)
  own : W.ownsRow w.heap.size 3 1 v (cs.take k).flatten.length (tv (cs.take k).flatten)
  hv : ∀ i, v.ownBlock = some i → ¬ (S' i ∨ D' i)

section
variable {w W W' : World} {p dp : Nat} {S D S' D' X : Nat → Prop} {j : J.JS} {t : Nat} {cs : List J.Chg} {d : DS} {k : Nat} {v v' : Value} {A : Option Addr}
theorem ownsRow_fr {base : Nat} {e : TypeId} {n : Nat} {xs : List Value} {T : Nat → Prop} (h : W.ownsRow base e 1 v n xs) (hf : Fr T W W') (hT : ∀ i, v.ownBlock = some i → ¬ T i) : W'.ownsRow base e 1 v n xs := by
  refine ⟨h.1, ?_⟩
  rcases h.2 with h0 | ⟨g, cap, cur, h1, h2, h3, h4⟩
  · exact .inl h0
  · refine .inr ⟨g, cap, cur, h1, h2, ?_, h4⟩
    rw [hf.block g ⟨(Array.getElem?_eq_some_iff.1 h3).1, hT g (by rw [h1]; rfl)⟩]
    exact h3
theorem fr_grown (hg : W.grownBy W' v.ownBlock) : Fr (fun i => v.ownBlock = some i) W W' := ⟨hg.os, hg.tape, hg.output, hg.size, fun i hi => hg.block i hi.1 (fun e => hi.2 e.symm)⟩
/-- Behind apply. -/
theorem RpI.apply (h : RpI w W p dp S D j t cs d k v S' D' X A) (hst : JStep p dp S' D' (stJ j t cs (k + 1)) d W W') :
    ∃ S2 D2, JD W' p dp S2 D2 (stJ j t cs (k + 1)) d ∧ Fr (fun k => S k ∨ D k) w W' ∧ (∀ k, S2 k → S k ∨ w.heap.size ≤ k) ∧ (∀ k, D2 k → D k ∨ w.heap.size ≤ k) ∧ WS W' X A (cs.getD k []).length ((cs.getD k []).map fun x => ((x.1 : Int), x.2)) ∧ (∀ i, X i → i < W'.heap.size) ∧
      W'.ownsRow w.heap.size 3 1 v (cs.take k).flatten.length (tv (cs.take k).flatten) ∧ ∀ i, v.ownBlock = some i → ¬ (S2 i ∨ D2 i) := by
  obtain ⟨S2, D2, h1, h2, h3, h4⟩ := hst
  have hsz := h.fr.size
  have hv := h.hv
  refine ⟨S2, D2, h1, h.fr.trans h2 (fun k hk => ?_), fun k hk => ?_, fun k hk => ?_, h.ws.fr h2 h.hX, fun i hi => Nat.lt_of_lt_of_le (h.hX i hi).1 h2.size, ownsRow_fr h.own h2 hv, fun i hi hn => ?_⟩
  · rcases hk with hk | hk
    · exact (h.hS k hk).imp .inl id
    · exact (h.hD k hk).imp .inr id
  · rcases h3 k hk with h5 | h5
    · exact h.hS k h5
    · exact .inr (Nat.le_trans hsz h5)
  · rcases h4 k hk with h5 | h5
    · exact h.hD k h5
    · exact .inr (Nat.le_trans hsz h5)
  · have hlt := (h.own.lt i hi).2
    rcases hn with hn | hn
    · rcases h3 i hn with h5 | h5
      · exact hv i hi (.inl h5)
      · omega
    · rcases h4 i hn with h5 | h5
      · exact hv i hi (.inr h5)
      · omega
end

section
variable {w : World} {p dp : Nat} {S D : Nat → Prop} {j : J.JS} {d : DS}
set_option maxRecDepth 100000 in
set_option maxHeartbeats 2000000 in
theorem replay_any (h : JD w p dp S D j d) (hs : d.pend.length ≤ 1000000) (hup : d.down = false) (hN : 1 + j.log ≤ d.n) (hl4 : 4 ≤ j.log) (hl : j.log ≤ 200) (hnb : j.nb ≤ 400) (t : Nat) (hpl : j.place = t % j.log) (cs : List J.Chg)
    (hch : J.Chain d.read j.log t j.seq cs) (hok : ∀ c ∈ cs, J.ChOk j.nb c) (hsz : j.used + J.size cs ≤ j.log) (hne : ∀ q f, q < j.log → J.fr d.read (1 + q) 3 = some f → f.s ≤ j.seq + cs.length) (hsq : j.seq + cs.length + 1 < 18446744073709551616) :
    Calls Try.prog 28 #[.pointer (some ⟨p, 0, none⟩)] w fun e w' => ∃ A n c S' D' X, e = .returned (.slice A n c) ∧ IS w' X A n (J.told j.nb cs.flatten) ∧ (∀ k, X k → k < w'.heap.size ∧ ¬ (S' k ∨ D' k)) ∧ JD w' p dp S' D' (stJ j t cs cs.length) d ∧ Fr (fun k => S k ∨ D k) w w' ∧ (∀ k, S' k → S k ∨ w.heap.size ≤ k) ∧ ∀ k, D' k → D k ∨ w.heap.size ≤ k := by
  have hlog : 0 < j.log := by omega
  have HNX : Hid (∀ k, k ≤ cs.length → J.chg d.read (stJ j t cs k).log (stJ j t cs k).nb (stJ j t cs k).place ((stJ j t cs k).seq + 1) ((stJ j t cs k).log - (stJ j t cs k).used) = cs.getD k []) := fun k hk => chg_at hlog cs t j.seq j.used k hch hok hsz hk hne
  have HPL : Hid (∀ k, (stJ j t cs k).place < j.log) := fun k => Nat.mod_lt _ hlog
  have HUS : Hid (∀ k, (stJ j t cs k).used ≤ j.log) := fun k => by show j.used + J.size (cs.take k) ≤ j.log; have := size_take_le cs k; omega
  have HSQ : Hid (∀ k, k ≤ cs.length → (stJ j t cs k).seq + 1 < 18446744073709551616) := fun k hk => by show j.seq + k + 1 < _; omega
  have HJ : Hid (JD w p dp S D (stJ j t cs 0) d) := by
    have e : stJ j t cs 0 = j := by
      unfold stJ
      simp only [List.take_zero, List.flatten_nil, J.apl_nil, J.size, Nat.add_zero, ← hpl]
    show JD w p dp S D _ d
    rw [e]; exact h
  have HOK := Lib.hid hok
  have HFL : Hid (cs.flatten.length ≤ 200) := by
    have : ∀ l : List J.Chg, l.flatten.length ≤ J.size l := by
      intro l
      induction l with
      | nil => simp [J.size]
      | cons c l ih => simp only [List.flatten_cons, List.length_append, J.size]; omega
    have := this cs
    show _ ≤ _
    omega
  have HU := Lib.hid hup
  clear h hch hok hsz hne hsq hpl hup
  go_enter Try.func28, Try.ntmps28
  go_wp2_with fail
  refine (callsIn_wide.1 (next_in HJ.out hs HU.out hN hl4 hl hnb (HPL.out 0) (HUS.out 0) (HSQ.out 0 (Nat.zero_le _)))).mono ?_
  rw [HNX.out 0 (Nat.zero_le _)]
  rintro e w1 ⟨A1, c1, rfl, hws1, hb1⟩
  have HR1 : Hid (RpI w w1 p dp S D j t cs d 0 (.slice none 0 0) S D (fun k => w.heap.size ≤ k ∧ k < w1.heap.size) A1) := by
    refine ⟨HJ.out.below hb1, Fr.of_below hb1, fun _ h => .inl h, fun _ h => .inl h, hws1.inb, fun i hi => ⟨hi.2, fun h => ?_⟩, ?_, fun i hi => by cases hi⟩
    · have h1 := HJ.out.lt i h
      have h2 := hi.1
      omega
    · exact World.ownsRow_nil _ _ _ _
  clear hws1 hb1
  go_wp2
  go_loopw [3, 4] (fun v l wr => ∃ k A c S' D' X, k ≤ cs.length ∧ l = .slice A (cs.getD k []).length c ∧ lenOf v = (cs.take k).flatten.length ∧ Hid (RpI w wr p dp S D j t cs d k v S' D' X A)) (fun v _ _ => cs.flatten.length - lenOf v)
  case atStart => exact ⟨0, A1, c1, S, D, _, Nat.zero_le _, rfl, rfl, HR1.out⟩
  case round =>
    obtain ⟨k, A, c, S2, D2, X2, hk, rfl, hlen, HR⟩ := hrel
    obtain ⟨i0, hi0, hz0, hz1, hz2⟩ := info_parts infos_int
    have HI0 := Lib.hid hi0
    have HZ0 := Lib.hid hz0
    have HZ1 := Lib.hid hz1
    have HZ2 := Lib.hid hz2
    clear hi0 hz0 hz1 hz2
    by_cases hlt : k < cs.length
    · have HG : Hid (cs.getD k [] = cs[k]) := by show _ = _; simp [List.getD, hlt]
      have HCK := Lib.hid (HOK.out cs[k] (List.getElem_mem hlt))
      have HSU : Hid ((stJ j t cs k).on (J.asChg ((cs.getD k []).map fun x => ((x.1 : Int), x.2))) j.err = stJ j t cs (k + 1)) := by show _ = _; rw [asChg_int, HG.out, stJ_succ j t cs k hlt]
      have HFK : Hid ((cs.take (k + 1)).flatten = (cs.take k).flatten ++ cs.getD k []) := by show _ = _; rw [List.take_succ_eq_append_getElem hlt, HG.out]; simp only [List.flatten_append, List.flatten_cons, List.flatten_nil, List.append_nil]
      have HL1 : Hid (1 ≤ (cs.getD k []).length ∧ (cs.getD k []).length ≤ 100) := by rw [HG.out]; exact ⟨HCK.out.1, HCK.out.2.1⟩
      have HO3 : Hid (∀ x ∈ (cs.getD k []).map fun x => ((x.1 : Int), x.2), 0 ≤ x.1 ∧ x.1 < (j.nb : Int) ∧ x.2.length ≤ 96) := by
        intro x hx
        obtain ⟨y, hy, rfl⟩ := List.mem_map.1 hx
        rw [HG.out] at hy
        have := HCK.out.2.2 y hy
        exact ⟨Int.natCast_nonneg _, by show (y.1 : Int) < _; omega, this.2⟩
      have HFL2 : Hid ((cs.take (k + 1)).flatten.length ≤ cs.flatten.length) := by
        show _ ≤ _
        conv => rhs; rw [← List.take_append_drop (k + 1) cs]
        rw [List.flatten_append, List.length_append]
        omega
      have HLN := Lib.hid hlen
      have hpos : (0 : Int) < ((cs.getD k []).length : Int) := by have := HL1.out.1; omega
      have hm : (cs.getD k []).length ≤ 1000 := by have := HL1.out.2; omega
      clear HG
      generalize hcd : cs.getD k [] = cd at *
      go_wp2_with fail
      refine (apply_any HR.out.jd hl4 hl (HPL.out k) (Nat.le_trans (HUS.out k) (by omega)) (HSQ.out k hk) X2 A _ c (cd.map fun x => ((x.1 : Int), x.2)) (by have := HR.out.ws; rw [hcd] at this; exact this) (fun i hi => ⟨(HR.out.hX i hi).1, fun h => (HR.out.hX i hi).2 (.inl h)⟩) hm HO3.out).mono ?_
      rintro e w2 ⟨⟨u, rfl⟩, hst⟩
      have hst2 : JStep p dp S2 D2 (stJ j t cs (k + 1)) d wr w2 := by rw [← HSU.out]; exact hst
      obtain ⟨S3, D3, a1, a2, a3, a4, a5, a6, a7, a8⟩ := HR.out.apply hst2
      rw [hcd] at a5
      have HA1 := Lib.hid a1
      have HA2 := Lib.hid a2
      have HA3 := Lib.hid a3
      have HA4 := Lib.hid a4
      have HA5 := Lib.hid a5
      have HA6 := Lib.hid a6
      have HA7 := Lib.hid a7
      have HA8 := Lib.hid a8
      clear hst hst2 a1 a2 a3 a4 a5 a6 a7 a8
      go_wp2_with fail
      refine (places_any w2 X2 A _ c _ HA5.out HA6.out hm).mono ?_
      rintro e w3 ⟨rfl, hrow, hb3⟩
      have HB3 := Lib.hid hb3
      have HNW : Hid (∀ i u, (tv cd)[i]? = some u → w3.cell? ((⟨w2.heap.size, 0, none⟩ : Addr).add i) = some u) := fun i u hu => World.news_of_block hrow i u (by simpa [tv, List.map_map, Function.comp_def] using hu)
      have HOW : Hid (w3.ownsRow w.heap.size 3 1 u3 (cs.take k).flatten.length (tv (cs.take k).flatten)) := ownsRow_fr (T := fun _ => False) HA7.out (Fr.of_below hb3) (fun _ _ h => h)
      have HSZ3 : Hid (w.heap.size ≤ w3.heap.size) := Nat.le_trans HA2.out.size hb3.size
      have HBD : Hid ((cs.take k).flatten.length + cd.length ≤ 200) := by
        have h1 := HFL2.out
        rw [HFK.out, List.length_append] at h1
        have h2 := HFL.out
        show _ ≤ _
        omega
      clear hrow hb3
      go_wp2_with (refine wpList_append_own_at (w := w3) rfl (.tmp 15) (.tmp 17) 52 rfl w.heap.size 3 i0 _ 1 8 Try.underlying52 HI0.out HZ0.out HZ1.out HZ2.out rfl (by omega) u3 _ _ rfl HOW.out ⟨w2.heap.size, 0, none⟩ cd.length cd.length (tv cd) rfl (by rw [tv_len]; omega) HNW.out (by intro u hu; obtain ⟨x, -, rfl⟩ := List.mem_map.1 hu; rfl) (by unfold maxLen; have := HBD.out; omega) (by have := HBD.out; omega) HSZ3.out ?_
                   intro v' w4 hown' hgrow _ hat
                   have HOW4 := Lib.hid hown'
                   have HGR := Lib.hid hgrow
                   have HAT := Lib.hid hat
                   clear hown' hgrow hat)
      have HF4 : Hid (Fr (fun i => u3.ownBlock = some i) w3 w4) := fr_grown HGR.out
      have HJ4 : Hid (JD w4 p dp S3 D3 (stJ j t cs (k + 1)) d) := (HA1.out.below HB3.out).keep HF4.out (fun i hi hv => HA8.out i hv (.inl hi)) (fun i hi hv => HA8.out i hv (.inr hi))
      refine (callsIn_wide.1 (next_in HJ4.out hs HU.out hN hl4 hl hnb (HPL.out (k + 1)) (HUS.out (k + 1)) (HSQ.out (k + 1) hlt))).mono ?_
      rw [HNX.out (k + 1) hlt]
      rintro e w5 ⟨A5, c5, rfl, hws5, hb5⟩
      have HR5 : Hid (RpI w w5 p dp S D j t cs d (k + 1) v' S3 D3 (fun i => w4.heap.size ≤ i ∧ i < w5.heap.size) A5) := by
        have hlt4 := HJ4.out.lt
        have hlt2 := HA1.out.lt
        have h3 := HB3.out.size
        refine ⟨HJ4.out.below hb5, ((HA2.out.trans (Fr.of_below HB3.out : Fr (fun _ => False) w2 w3) (fun _ h => h.elim)).trans HF4.out (fun i hi => .inr (HOW.out.lt i hi).1)).trans (Fr.of_below hb5 : Fr (fun _ => False) w4 w5) (fun _ h => h.elim), HA3.out, HA4.out, hws5.inb, fun i hi => ⟨hi.2, fun h => ?_⟩, ?_, fun i hi h => ?_⟩
        · have h1 := hlt4 i h
          have h2 := hi.1
          omega
        · have h1 := ownsRow_fr (T := fun _ => False) HOW4.out (Fr.of_below hb5) (fun _ _ h => h)
          rw [HFK.out, List.length_append]
          have e : tv ((cs.take k).flatten ++ cd) = tv (cs.take k).flatten ++ tv cd := List.map_append ..
          rw [e]
          exact h1
        · rcases HAT.out with h1 | h1
          · exact HA8.out i (h1 ▸ hi) h
          · rw [h1] at hi
            cases hi
            have := hlt2 _ h
            omega
      have HLV : Hid (lenOf v' = (cs.take (k + 1)).flatten.length) := by
        rcases HR5.out.own.2 with ⟨h1, h2⟩ | ⟨g, cap, cur, h1, -⟩
        · show _ = _; rw [h1, h2]; rfl
        · show _ = _; rw [h1]; rfl
      clear hws5 hb5
      go_wp2
      refine ⟨⟨k + 1, A5, c5, S3, D3, _, hlt, rfl, HLV.out, HR5.out⟩, ?_⟩
      have h1 := HLV.out
      have h2 := HLN.out
      have h3 := HFL2.out
      have h4 := HL1.out.1
      rw [HFK.out, List.length_append] at h1 h3
      omega
    · obtain rfl : k = cs.length := by omega
      have HG : Hid (cs.getD cs.length [] = []) := by show _ = _; simp
      have hz : (cs.getD cs.length []).length = 0 := by rw [HG.out]; rfl
      rw [hz]
      have HJE := Lib.hid HR.out.jd
      have HOWE := HR.out.own
      have HVE := Lib.hid HR.out.hv
      have HFE := Lib.hid HR.out.fr
      have HSE := Lib.hid HR.out.hS
      have HDE := Lib.hid HR.out.hD
      rw [List.take_length] at HOWE
      have HTM : Hid (∀ x ∈ cs.flatten, x.1 < j.nb) := fun x hx => by
        obtain ⟨c', hc', hx'⟩ := List.mem_flatten.1 hx
        exact ((HOK.out c' hc').2.2 x hx').1
      clear HR hlen hlt hk
      rcases HOWE.2 with ⟨rfl, h0⟩ | ⟨g, cap, cur, rfl, hg1, hg2, hg3, hg4, hg5, hg6⟩
      · have HC0 : Hid (cs.flatten = []) := List.eq_nil_of_length_eq_zero h0
        clear HOWE h0
        go_wp2_with fail
        refine (Try.slices_Sort_int_none none 0 wr).mono ?_
        rintro e w6 ⟨rfl, rfl⟩
        go_wp2_with fail
        refine (Try.slices_Compact_int_empty none 0 w6).mono ?_
        rintro e w7 ⟨rfl, rfl⟩
        go_wp2
        go_ret
        refine ⟨none, 0, 0, S2, D2, fun _ => False, rfl, ?_, fun _ h => h.elim, HJE.out, HFE.out, HSE.out, HDE.out⟩
        rw [HC0.out]
        have e : J.told j.nb [] = [] := by unfold J.told; simp
        rw [e]
        exact ⟨rfl, fun h => absurd h (by omega)⟩
      · have HZ : Hid ((cs.flatten.map fun x => (x.1 : Int)).length = cs.flatten.length) := List.length_map ..
        have hfl := HFL.out
        have HTV : Hid (cur.toList.take (cs.flatten.map fun x => (x.1 : Int)).length = (cs.flatten.map fun x => (x.1 : Int)).map (Value.int .i64)) := by
          show _ = _
          rw [HZ.out, List.map_map]
          rw [Nat.mul_one] at hg6
          exact hg6
        have HTC := Lib.hid (told_compact j.nb cs.flatten HTM.out)
        have HB := Lib.hid hg2
        have HC5 := Lib.hid hg5
        have HC4 := Lib.hid hg4
        have HC3 : Hid ((cs.flatten.map fun x => (x.1 : Int)).length ≤ cap) := by rw [HZ.out]; exact hg3
        have HN1 : Hid (¬ (S2 g ∨ D2 g)) := HVE.out g rfl
        have HG1 := Lib.hid hg1
        rw [← HZ.out]
        have hfz : (cs.flatten.map fun x => (x.1 : Int)).length ≤ 200 := by rw [HZ.out]; exact hfl
        clear hg1 hg2 hg3 hg4 hg5 hg6 HOWE hfl
        generalize (cs.flatten.map fun x => (x.1 : Int)) = zs at *
        go_wp2_with fail
        refine (Try.slices_Sort_int g 0 cap zs wr (holds_of_blockI HB.out HTV.out) (Array.getElem?_eq_some_iff.1 HB.out).1 (by omega)).mono ?_
        rintro e w6 ⟨rfl, n6, os6, rfl⟩
        have HB6 := Lib.hid (heap_sortedI (n := n6) (os := os6) (zs.mergeSort fun x y => decide (x ≤ y)).toArray HB.out)
        have HG6 : Hid (wr.grownBy _ (some g)) := grownBy_sortedI (w := wr) (g := g) (n := n6) (os := os6) (zs.mergeSort fun x y => decide (x ≤ y)).toArray
        have HML : Hid ((zs.mergeSort fun x y => decide (x ≤ y)).length = zs.length) := List.length_mergeSort _
        have HT6 : Hid ((Sort.putCells (Value.int .i64) 0 (zs.mergeSort fun x y => decide (x ≤ y)).toArray cur).toList.take (zs.mergeSort fun x y => decide (x ≤ y)).length = (zs.mergeSort fun x y => decide (x ≤ y)).map (Value.int .i64)) := take_putCellsI cur _ (by rw [HML.out, HC5.out, Nat.mul_one]; exact HC3.out)
        have HS6 : Hid ((Sort.putCells (Value.int .i64) 0 (zs.mergeSort fun x y => decide (x ≤ y)).toArray cur).size = cap) := by show _ = _; simp [Sort.putCells, HC5.out]
        generalize Sort.putCells (Value.int .i64) 0 (zs.mergeSort fun x y => decide (x ≤ y)).toArray cur = cur6 at *
        generalize Sort.grow (Sort.putRow (Value.int .i64) (Sort.ahead wr n6) g 0 (zs.mergeSort fun x y => decide (x ≤ y)).toArray) os6 = w6 at *
        rw [← HML.out]
        have hfz' : (zs.mergeSort fun x y => decide (x ≤ y)).length ≤ 200 := by rw [HML.out]; exact hfz
        have HC6 : Hid ((zs.mergeSort fun x y => decide (x ≤ y)).length ≤ cap) := by rw [HML.out]; exact HC3.out
        generalize (zs.mergeSort fun x y => decide (x ≤ y)) = ys at *
        go_wp2_with fail
        refine (Try.slices_Compact_int g 0 cap ys w6 (holds_of_blockI HB6.out HT6.out) (by omega) HC6.out).mono ?_
        rintro e w7 ⟨rfl, n7, rfl⟩
        go_wp2
        go_ret
        have hcl := Lib.compact_length_le ys
        have hL : (Lib.compact ys ++ List.replicate (ys.length - (Lib.compact ys).length) 0).length = ys.length := by rw [List.length_append, List.length_replicate]; omega
        have hb7 := heap_sortedI (n := n7) (os := #[]) (Lib.compact ys ++ List.replicate (ys.length - (Lib.compact ys).length) 0).toArray HB6.out
        have hg7 : w6.grownBy _ (some g) := grownBy_sortedI (w := w6) (g := g) (n := n7) (os := #[]) (Lib.compact ys ++ List.replicate (ys.length - (Lib.compact ys).length) 0).toArray
        have ht7 := take_putCellsI cur6 (Lib.compact ys ++ List.replicate (ys.length - (Lib.compact ys).length) 0) (by rw [hL, HS6.out]; exact HC6.out)
        rw [Sort.grow_empty] at hb7 hg7
        generalize Sort.putRow (Value.int .i64) (Sort.ahead w6 n7) g 0 (Lib.compact ys ++ List.replicate (ys.length - (Lib.compact ys).length) 0).toArray = w7 at *
        have hf : Fr (fun i => i = g) wr w7 := by
          refine ⟨hg7.os.trans HG6.out.os, hg7.tape.trans HG6.out.tape, hg7.output.trans HG6.out.output, Nat.le_trans HG6.out.size hg7.size, fun i hi => ?_⟩
          rw [hg7.block i (Nat.lt_of_lt_of_le hi.1 HG6.out.size) (fun e => hi.2 (by cases e; rfl)), HG6.out.block i hi.1 (fun e => hi.2 (by cases e; rfl))]
        refine ⟨some ⟨g, 0, none⟩, _, cap, S2, D2, fun i => i = g, rfl, ⟨?_, fun _ => ⟨g, 0, rfl, rfl, fun i hi => ?_⟩⟩, fun i hi => ?_, HJE.out.keep hf (fun i hi e => HN1.out (.inl (e ▸ hi))) (fun i hi e => HN1.out (.inr (e ▸ hi))), HFE.out.trans hf (fun i hi => .inr (hi ▸ HG1.out)), HSE.out, HDE.out⟩
        · rw [HTC.out, List.length_map]
        · have hi' : i < (Lib.compact ys).length := by rw [HTC.out, List.length_map]; exact hi
          have h1 : (Lib.compact ys)[i] = ((J.told j.nb cs.flatten)[i] : Int) := by
            have : (Lib.compact ys)[i]? = ((J.told j.nb cs.flatten).map fun (i : Nat) => (i : Int))[i]? := by rw [HTC.out]
            rw [List.getElem?_eq_getElem hi', List.getElem?_eq_getElem (by rw [List.length_map]; exact hi), List.getElem_map] at this
            exact Option.some.inj this
          rw [cell_of_row _ _ _ _ _ _ hb7, Nat.zero_add, ← h1, ← Array.getElem?_toList]
          have h2 := congrArg (fun l => l[i]?) ht7
          rw [List.getElem?_take_of_lt (by rw [hL]; omega)] at h2
          rw [h2, List.getElem?_map, List.getElem?_append_left hi', List.getElem?_eq_getElem hi']
          rfl
        · subst hi
          exact ⟨(Array.getElem?_eq_some_iff.1 hb7).1, HN1.out⟩
end
end Go.Proofs.Ytcieahfhpanogaa

namespace Go.Proofs.Ytcieahfhpanogaa
open Go.RowKit

section
variable {w : World} {dp : Nat} {D : Nat → Prop} {d : DS}
/-- What Open hands back. -/
def opened (p : Option Nat) (e : Int) : Ending := .returned (.tuple #[.pointer (p.map fun b => ⟨b, 0, none⟩), .int .i64 e])
set_option maxRecDepth 100000 in
set_option maxHeartbeats 2000000 in
theorem open_ok (h : Dk w dp D d) (hs : d.pend.length ≤ 900000) (log nb : Nat) (hl4 : 4 ≤ log) (hl : log ≤ 200) (hn1 : 1 ≤ nb) (hnb : nb ≤ 400) (hN : 1 + log + nb ≤ d.n) (hup : d.down = false) {s0 t0 : Nat} {cs : List J.Chg} {B : Nat → List UInt8} (hg : J.Good d.read log nb s0 t0 cs B) (hsq : s0 + cs.length + 1 < 18446744073709551616) :
    Calls Try.prog 11 #[.pointer (some ⟨dp, 0, none⟩), .int .i64 (log : Int), .int .i64 (nb : Int)] w fun e w' => ∃ p S' D', e = opened (some p) 0 ∧ JD w' p dp S' D' (J.openJ d log nb).2 (J.openJ d log nb).1 ∧ Fr D w w' ∧ (∀ k, S' k → w.heap.size ≤ k) ∧ ∀ k, D' k → D k ∨ w.heap.size ≤ k := by
  have HD := Lib.hid h
  have HG := Lib.hid hg
  have HSQ := Lib.hid hsq
  have HU := Lib.hid hup
  have a1 : ¬ (log : Int) < 4 := by omega
  have a2 : ¬ (200 : Int) < (log : Int) := by omega
  have a3 : ¬ (nb : Int) < 1 := by omega
  have a4 : ¬ (400 : Int) < (nb : Int) := by omega
  have a5 : ¬ (d.n : Int) < 1 + (log : Int) + (nb : Int) := by omega
  have a6 : IntKind.i64.wrap (1 + (log : Int)) = 1 + (log : Int) := by rw [IntKind.wrap_i64]; omega
  have a7 : IntKind.i64.wrap (1 + (log : Int) + (nb : Int)) = 1 + (log : Int) + (nb : Int) := by rw [IntKind.wrap_i64]; omega
  clear h hg hsq hup
  go_enter Try.func11, Try.ntmps11
  go_wp2_with fail
  refine (len_any dp D d w HD.out).mono ?_
  rintro e w1 ⟨rfl, rfl⟩
  go_wp2_with fail
  refine (down_any dp D d w HD.out).mono ?_
  rintro e w1 ⟨rfl, rfl⟩
  rw [HU.out]
  go_wp2_with (first
    | (refine wpList_make_cells rfl 24 23 (.slice none 0 0) 24 _ _ rfl Try.underlying24 infos_sl rfl (by omega) nb rfl rfl (by omega) w.heap.size rfl ?_
       intro w2 hrow2 hb2
       have HRW2 := Lib.hid hrow2
       have HB2 := Lib.hid hb2
       clear hrow2 hb2)
    | (refine Did.list rfl (did_build 59 _ rfl (jc dp w.heap.size ⟨log, nb, fun _ => [], 0, 0, 0, 0⟩) (by kernel_rfl)) ?_))
  have HJ3 : Hid (JD (w2.alloc (.cells (jc dp w.heap.size ⟨log, nb, fun _ => [], 0, 0, 0, 0⟩) 59)) w2.heap.size dp (fun k => k = w2.heap.size ∨ k = w.heap.size) D ⟨log, nb, fun _ => [], 0, 0, 0, 0⟩ d) := by
    have hlt : w.heap.size < w2.heap.size := (Array.getElem?_eq_some_iff.1 HRW2.out).1
    have hb3 : Below w2.heap.size w2 (w2.alloc (.cells (jc dp w.heap.size ⟨log, nb, fun _ => [], 0, 0, 0, 0⟩) 59)) := (Below.refl _ _).alloc (Nat.le_refl _) _
    have hDlt := HD.out.2.1
    refine ⟨⟨w.heap.size, List.replicate nb ⟨none, 0, 0⟩, ?_⟩, HD.out.keep (S' := fun _ => False) (Fr.of_below (HB2.out.trans (hb3.mono HB2.out.size))) (fun _ _ h => h), fun k hk hd => ?_⟩
    · refine ⟨fun k hk => ?_, .inl rfl, .inr rfl, heap_alloc_new w2 _, ?_, by simp, fun i hi => ?_, fun i hi => ?_, fun i hi hp => ?_⟩
      · have := hb3.size
        have h2 : w2.heap.size < (w2.alloc (.cells (jc dp w.heap.size ⟨log, nb, fun _ => [], 0, 0, 0, 0⟩) 59)).heap.size := (Array.getElem?_eq_some_iff.1 (heap_alloc_new w2 _)).1
        rcases hk with rfl | rfl <;> omega
      · rw [hb3.block _ hlt, HRW2.out]
        simp [Sl.v]
      · simp only [List.getElem_replicate]; exact BS.nil
      · simp only [List.getElem_replicate]; exact Nat.le_refl _
      · simp only [List.getElem_replicate] at hp; omega
    · have := hDlt k hd
      rcases hk with rfl | rfl <;> omega
  have HB3 : Hid (Below w.heap.size w (w2.alloc (.cells (jc dp w.heap.size ⟨log, nb, fun _ => [], 0, 0, 0, 0⟩) 59))) := HB2.out.alloc HB2.out.size _
  have HS3 : Hid (∀ k, (k = w2.heap.size ∨ k = w.heap.size) → w.heap.size ≤ k) := fun k hk => by have := HB2.out.size; rcases hk with rfl | rfl <;> omega
  generalize w2.alloc (.cells (jc dp w.heap.size ⟨log, nb, fun _ => [], 0, 0, 0, 0⟩) 59) = w3 at *
  generalize hS3 : (fun k => k = w2.heap.size ∨ k = w.heap.size) = S3 at *
  have HS3' : Hid (∀ k, S3 k → w.heap.size ≤ k) := by rw [← hS3]; exact HS3.out
  clear HS3 hS3 HRW2 HB2
  generalize w2.heap.size = p at *
  refine (loadHomes_any HJ3.out (by omega) hl hnb HU.out hN (by funext i; simp [homsTo])).mono ?_
  rintro e w4 ⟨⟨v4, rfl⟩, hst4⟩
  obtain ⟨S4, D4, j4, f4, s4, d4⟩ := hst4
  have HJ4 := Lib.hid j4
  have HF4 := Lib.hid f4
  have HS4 := Lib.hid s4
  have HD4 := Lib.hid d4
  clear j4 f4 s4 d4
  go_wp2_with fail
  refine (loadSuper_any HJ4.out (by omega) hl HU.out (by omega) ⟨rfl, rfl⟩).mono ?_
  rintro e w5 ⟨⟨v5, rfl⟩, hst5⟩
  dsimp only at hst5
  rw [HG.out.sup] at hst5
  obtain ⟨S5, D5, j5, f5, s5, d5⟩ := hst5
  have HJ5 := Lib.hid j5
  have HF5 := Lib.hid f5
  have HS5 := Lib.hid s5
  have HD5 := Lib.hid d5
  clear j5 f5 s5 d5
  go_wp2_with fail
  refine (replay_any HJ5.out (by omega) HU.out (by show 1 + log ≤ d.n; omega) hl4 hl hnb t0 rfl cs HG.out.chain HG.out.chok (by show 0 + J.size cs ≤ log; have := HG.out.fits; omega) HG.out.noend HSQ.out).mono ?_
  rintro e w6 ⟨A6, n6, c6, S6, D6, X6, rfl, i6, x6, j6, f6, s6, d6⟩
  have HI6 := Lib.hid i6
  have HX6 := Lib.hid x6
  have HJ6 := Lib.hid j6
  have HF6 := Lib.hid f6
  have HS6 := Lib.hid s6
  have HD6 := Lib.hid d6
  clear i6 x6 j6 f6 s6 d6
  go_wp2_with fail
  refine (saveHomes_any HJ6.out hl hnb (by show s0 + cs.length < _; have := HSQ.out; omega) (fun i hi => J.apl_len (J.hom_len _ _ _) (fun x hx => ?_)) A6 n6 c6 _ X6 HI6.out HX6.out (fun i hi => (J.told_mem.1 hi).1) ?_).mono ?_
  · rw [List.take_length] at hx
    obtain ⟨c', hc', hx'⟩ := List.mem_flatten.1 hx
    exact ((HG.out.chok c' hc').2.2 x hx').2
  · have h1 := HI6.out.1
    have h2 : (J.told nb cs.flatten).length ≤ nb := by
      have := List.length_filter_le (fun i => cs.flatten.any fun x => x.1 == i) (List.range nb)
      rw [List.length_range] at this
      exact this
    have h3 : (J.told nb cs.flatten).length = n6 := h1
    omega
  rintro e w7 ⟨⟨v7, rfl⟩, hst7⟩
  have HST := Lib.hid hst7
  clear hst7
  go_wp2
  go_ret2
  have hlog : 0 < log := by omega
  have hst := JStep.trans HF4.out HS4.out HD4.out (JStep.trans HF5.out HS5.out HD5.out (JStep.trans HF6.out HS6.out HD6.out HST.out))
  have hr := J.run_chain hlog cs t0 s0 0 (log + 1) (J.hom d.read log) HG.out.chain HG.out.chok (by have := HG.out.fits; omega) (by have := HG.out.fits; have := J.size_ge cs; omega) HG.out.noend
  have hs : J.start d.read log = ⟨J.hom d.read log, s0, t0 % log, 0⟩ := by unfold J.start; rw [HG.out.sup]
  rw [← hs] at hr
  have ho : saveJ d (stJ ⟨log, nb, J.hom d.read log, s0, t0 % log, 0, 0⟩ t0 cs cs.length) (J.told nb cs.flatten) = J.openJ d log nb := by
    rw [saveJ_lays _ _ _ rfl]
    unfold J.openJ stJ
    rw [hr, List.take_length]
  obtain ⟨S7, D7, j7, f7, s7, d7⟩ := hst
  have j7' : JD w7 p dp S7 D7 (saveJ d (stJ ⟨log, nb, J.hom d.read log, s0, t0 % log, 0, 0⟩ t0 cs cs.length) (J.told nb cs.flatten)).2 (saveJ d (stJ ⟨log, nb, J.hom d.read log, s0, t0 % log, 0, 0⟩ t0 cs cs.length) (J.told nb cs.flatten)).1 := j7
  rw [ho] at j7'
  have h3 := HB3.out.size
  refine ⟨p, S7, D7, rfl, j7', (Fr.of_below HB3.out).trans f7 (fun k hk => ?_), fun k hk => ?_, fun k hk => ?_⟩
  · rcases hk with hk | hk
    · exact .inr (HS3'.out k hk)
    · exact .inl hk
  · rcases s7 k hk with hk | hk
    · exact HS3'.out k hk
    · omega
  · rcases d7 k hk with hk | hk
    · exact .inl hk
    · exact .inr (by omega)
end
end Go.Proofs.Ytcieahfhpanogaa

namespace Go.Proofs.Ytcieahfhpanogaa
open Go.RowKit

section
variable {w : World} {dp : Nat} {D : Nat → Prop} {d : DS}
set_option maxRecDepth 100000 in
set_option maxHeartbeats 2000000 in
theorem open_arg (h : Dk w dp D d) (log nb : Int) (hno : ¬ (4 ≤ log ∧ log ≤ 200 ∧ 1 ≤ nb ∧ nb ≤ 400 ∧ 1 + log + nb ≤ (d.n : Int))) :
    Calls Try.prog 11 #[.pointer (some ⟨dp, 0, none⟩), .int .i64 log, .int .i64 nb] w fun e w' => e = .returned (.tuple #[.pointer none, .int .i64 1]) ∧ w = w' := by
  have HD := Lib.hid h
  clear h
  by_cases a1 : log < 4
  · clear hno
    go_enter Try.func11, Try.ntmps11
    go_wp2
    go_ret2
    exact ⟨rfl, rfl⟩
  by_cases a2 : 200 < log
  · clear hno
    go_enter Try.func11, Try.ntmps11
    go_wp2
    go_ret2
    exact ⟨rfl, rfl⟩
  by_cases a3 : nb < 1
  · clear hno
    go_enter Try.func11, Try.ntmps11
    go_wp2
    go_ret2
    exact ⟨rfl, rfl⟩
  by_cases a4 : 400 < nb
  · clear hno
    go_enter Try.func11, Try.ntmps11
    go_wp2
    go_ret2
    exact ⟨rfl, rfl⟩
  have a5 : (d.n : Int) < 1 + log + nb := by omega
  have a6 : IntKind.i64.wrap (1 + log) = 1 + log := by rw [IntKind.wrap_i64]; omega
  have a7 : IntKind.i64.wrap (1 + log + nb) = 1 + log + nb := by rw [IntKind.wrap_i64]; omega
  clear hno
  go_enter Try.func11, Try.ntmps11
  go_wp2_with fail
  refine (len_any dp D d w HD.out).mono ?_
  rintro e w1 ⟨rfl, rfl⟩
  go_wp2
  go_ret2
  exact ⟨rfl, rfl⟩
end
end Go.Proofs.Ytcieahfhpanogaa

namespace Go.Proofs.Ytcieahfhpanogaa
open Go.RowKit

theorem lays_pend : ∀ (ws : List (Nat × Fm)) (d : DS), (J.lays d ws).1.pend.length ≤ d.pend.length + ws.length
  | [], d => Nat.le_refl _
  | x :: ws, d => by
    have h1 := wst_pend d x.1 (sealed x.2.enc)
    simp only [J.lays, List.length_cons]
    split
    · have h2 := lays_pend ws (wst d x.1 (sealed x.2.enc))
      omega
    · dsimp only; omega
theorem homeW_len (log s : Nat) (B : Nat → List UInt8) : ∀ ids : List Nat, (J.homeW log s B ids).length = ids.length
  | [] => rfl
  | i :: r => by simp only [J.homeW, List.length_cons, homeW_len log s B r]
theorem told_len (nb : Nat) (l : J.Chg) : (J.told nb l).length ≤ nb := by
  have := List.length_filter_le (fun i => l.any fun x => x.1 == i) (List.range nb)
  rw [List.length_range] at this
  exact this
theorem openJ_pend (d : DS) (log nb : Nat) : (J.openJ d log nb).1.pend.length ≤ d.pend.length + nb := by
  unfold J.openJ
  dsimp only
  refine Nat.le_trans (lays_pend _ _) ?_
  rw [homeW_len]
  exact Nat.add_le_add_left (told_len _ _) _
theorem commit2_pend (l : List (Int × List UInt8)) (d : DS) (j : J.JS) (he : j.err = 0) : (J.commit2 d j (J.asChg l)).1.pend.length ≤ d.pend.length + 2 * l.length + 1 := by
  have h1 := commit1_pend l d j he
  unfold J.commit2
  split
  · refine Nat.le_trans (lays_pend _ _) ?_
    rw [homeW_len, List.length_map, J.asChg_length]
    omega
  · dsimp only
    omega
theorem commitJ_pend (l : List (Int × List UInt8)) (d : DS) (j : J.JS) : (J.commitJ d j l).1.pend.length ≤ d.pend.length + 2 * l.length + 2 := by
  have hk := ckpt_pend d j
  unfold J.commitJ
  split
  · rename_i he
    split
    · split
      · split
        · have := commit2_pend l d j he; omega
        · split
          · rename_i h0
            have h1 := ckpt_ok d j he h0
            have := commit2_pend l (J.ckpt d j).1 (J.ckpt d j).2.1 (by rw [h1]; exact he)
            omega
          · omega
      · dsimp only; omega
    · dsimp only; omega
  · dsimp only; omega

/-- A journal that works, on a disk that may stop. -/
structure Live (w : World) (p dp : Nat) (S D : Nat → Prop) (j : J.JS) (d : DS) (s0 t0 : Nat) (cs : List J.Chg) : Prop where
  jd : JD w p dp S D j d
  inv : J.JInv d j s0 t0 cs
  err : j.err = 0
  room : 1 + j.log + j.nb ≤ d.n
section
variable {w w' : World} {p dp : Nat} {S D S' D' : Nat → Prop} {j : J.JS} {d : DS} {s0 t0 : Nat} {cs : List J.Chg}
theorem Live.seq (h : Live w p dp S D j d s0 t0 cs) : j.seq = s0 + cs.length := h.inv.seq
theorem Live.place_lt (h : Live w p dp S D j d s0 t0 cs) : j.place < j.log := by rw [h.inv.place]; exact Nat.mod_lt _ (by have := h.inv.log4; omega)
theorem Live.used_le (h : Live w p dp S D j d s0 t0 cs) : j.used ≤ j.log := by rw [h.inv.used]; exact h.inv.inv.good.fits
theorem Live.below (h : Live w p dp S D j d s0 t0 cs) (hb : Below w.heap.size w w') : Live w' p dp S D j d s0 t0 cs := ⟨h.jd.below hb, h.inv, h.err, h.room⟩
theorem Live.keep (h : Live w p dp S D j d s0 t0 cs) {T : Nat → Prop} (hf : Fr T w w') (hS : ∀ k, S k → ¬ T k) (hD : ∀ k, D k → ¬ T k) : Live w' p dp S D j d s0 t0 cs := ⟨h.jd.keep hf hS hD, h.inv, h.err, h.room⟩
/-- Commit on a journal that works. -/
theorem Live.commit (h : Live w p dp S D j d s0 t0 cs) (hsq : j.seq + 1 < 18446744073709551616) (hs : d.pend.length ≤ 800000) (X : Nat → Prop) (A : Option Addr) (n c : Nat) (l : List (Int × List UInt8)) (hw : WS w X A n l) (hX : ∀ k, X k → k < w.heap.size ∧ ¬ (S k ∨ D k)) (hn : n ≤ 1000000) :
    Calls Try.prog 14 #[.pointer (some ⟨p, 0, none⟩), .slice A n c] w fun e w' => e = .returned (.int .i64 (J.commitJ d j l).2.2) ∧ JStep p dp S D (J.commitJ d j l).2.1 (J.commitJ d j l).1 w w' :=
  commit_any h.jd h.inv.log4 h.inv.log200 h.inv.nb400 h.place_lt h.used_le hsq h.inv.lens hs X A n c l hw hX hn
end
/-- Open behind a crash, or of a new disk: the disk does not stop, nothing waits. -/
theorem open_live {w : World} {dp : Nat} {D : Nat → Prop} {d : DS} (h : Dk w dp D d) (hs : d.pend.length ≤ 900000) (log nb : Nat) (hl4 : 4 ≤ log) (hl : log ≤ 200) (hn1 : 1 ≤ nb) (hnb : nb ≤ 400) (hN : 1 + log + nb ≤ d.n) (hc : J.Calm d) {s0 t0 : Nat} {cs : List J.Chg} {B : Nat → List UInt8} (hi : J.Inv d log nb s0 t0 cs B) (hsq : s0 + cs.length + 1 < 18446744073709551616) :
    Calls Try.prog 11 #[.pointer (some ⟨dp, 0, none⟩), .int .i64 (log : Int), .int .i64 (nb : Int)] w fun e w' => ∃ p S' D' j' d', e = .returned (.tuple #[.pointer (some ⟨p, 0, none⟩), .int .i64 0]) ∧ Live w' p dp S' D' j' d' s0 t0 cs ∧ J.Calm d' ∧ d'.n = d.n ∧ j'.log = log ∧ j'.nb = nb ∧ (∀ i, i < nb → j'.B i = B i) ∧ d'.pend.length ≤ d.pend.length + nb ∧ Fr D w w' ∧ (∀ k, S' k → w.heap.size ≤ k) ∧ ∀ k, D' k → D k ∨ w.heap.size ≤ k := by
  have hlog : 0 < log := by omega
  have hg := hi.read hlog
  refine (open_ok h hs log nb hl4 hl hn1 hnb hN hc.1 hg hsq).mono ?_
  rintro e w' ⟨p, S', D', rfl, h1, h2, h3, h4⟩
  obtain ⟨g1, g2⟩ := J.open_inv hi hl4 hl hnb (by omega)
  obtain ⟨g3, g4, g5⟩ := hc.open (log := log) (nb := nb) hN g1.lens
  exact ⟨p, S', D', _, _, rfl, ⟨h1, g1, g3, by rw [g5]; exact hN⟩, g4, g5, rfl, rfl, g2, openJ_pend d log nb, h2, h3, h4⟩
end Go.Proofs.Ytcieahfhpanogaa

namespace Go.Proofs.Ytcieahfhpanogaa
open Go.RowKit

def fewB (l : List (Int × List UInt8)) : Bool := decide (l.length ≤ 20) && l.all fun x => decide (x.2.length ≤ 120)
theorem fewB_true {l : List (Int × List UInt8)} (h : fewB l = true) : l.length ≤ 20 ∧ ∀ x ∈ l, x.2.length ≤ 120 := by
  simp only [fewB, Bool.and_eq_true, decide_eq_true_iff, List.all_eq_true] at h
  exact h
set_option maxRecDepth 100000 in
set_option maxHeartbeats 2000000 in
theorem few_any (w : World) (X : Nat → Prop) (A : Option Addr) (n c : Nat) (l : List (Int × List UInt8)) (h : WS w X A n l) (hn : n ≤ 9223372036854775807) (hb : ∀ x ∈ l, x.2.length ≤ 9223372036854775807) :
    Calls Try.prog 12 #[.slice A n c] w fun e w' => e = .returned (.bool (fewB l)) ∧ w = w' := by
  have HW := Lib.hid h
  have Hn : Hid (l.length = n) := h.1
  have HBB := Lib.hid hb
  clear h hb
  go_enter Try.func12, Try.ntmps12
  go_wp2
  go_loopw [3] (fun i wr => ∃ k : Nat, k ≤ n ∧ i = .int .i64 k ∧ w = wr ∧ Hid (∀ i (hi : i < l.length), i < k → l[i].2.length ≤ 120)) (fun i _ => n - (intOf i).toNat)
  case atStart => exact ⟨0, by omega, rfl, rfl, fun _ _ h => absurd h (by omega)⟩
  case round =>
    obtain ⟨k, hk, rfl, rfl, HL⟩ := hrel
    by_cases hlt : k < n
    · obtain ⟨b, o, x, hkl, rfl, -, -, g2, g3, -, -⟩ := HW.out.at k hlt
      have HX : Hid (x.n = l[k].2.length) := g3.1.symm
      have hxb : x.n ≤ 9223372036854775807 := by rw [HX.out]; exact HBB.out _ (List.getElem_mem hkl)
      clear g3
      by_cases h120 : x.n ≤ 120
      · go_wp2
        refine ⟨⟨k + 1, hlt, rfl, trivial, fun i hi hik => ?_⟩, by simp only [intOf]; omega⟩
        rcases Nat.lt_or_eq_of_le (Nat.le_of_lt_succ hik) with h1 | h1
        · exact HL.out i hi h1
        · subst h1; rw [← HX.out]; exact h120
      · have hgt : (120 : Int) < (x.n : Int) := by omega
        go_wp2
        go_ret
        have hf : fewB l = false := by
          rw [Bool.eq_false_iff]
          intro hf
          have := (fewB_true hf).2 _ (List.getElem_mem hkl)
          rw [← HX.out] at this
          omega
        rw [hf]
        exact ⟨rfl, rfl⟩
    · obtain rfl : k = n := by omega
      go_wp2
      go_ret
      refine ⟨?_, rfl⟩
      have h1 : (l.all fun x => decide (x.2.length ≤ 120)) = true := by
        rw [List.all_eq_true]
        intro x hx
        obtain ⟨i, hi, rfl⟩ := List.getElem_of_mem hx
        simpa using HL.out i hi (by rw [← Hn.out]; exact hi)
      unfold fewB
      rw [h1, Bool.and_true, Hn.out]
      have e : decide ((k : Int) ≤ 20) = decide (k ≤ 20) := by rw [decide_eq_decide]; omega
      rw [e]
      rfl
end Go.Proofs.Ytcieahfhpanogaa

namespace Go.Proofs.Ytcieahfhpanogaa
open Go.RowKit

theorem DS.new_calm (n b : Nat) : J.Calm (DS.new n b) := ⟨rfl, by show (-1 : Int) < 0; omega⟩
/-- A slice of two writes. -/
theorem did_two {o : Oper} {a : Act} {w : World} (x y : Operand) (ho : o.op = .buildSlice 35 2 #[(0, x), (1, y)]) (i i' : Int) (s s' : Sl) (hx : a.eval x = .agg (wv i s).toArray) (hy : a.eval y = .agg (wv i' s').toArray) :
    Did Try.prog o a w (.slice (some ⟨w.heap.size, 0, none⟩) 2 2) (w.alloc (.cells (wv i s ++ wv i' s').toArray 37)) := by
  left
  obtain ⟨i0, hi0, hz0, hz1, hz2⟩ := info_parts infos_wr
  have hr := run_buildSlice (P := Try.prog) w 35 37 2 #[(0, .agg (wv i s).toArray), (1, .agg (wv i' s').toArray)] (wv i s ++ wv i' s').toArray i0 _ Try.underlying35 hi0 hz0 (by rw [hz1]; omega) (by rw [hz1]; omega) (by rw [hz1]; kernel_rfl)
  unfold execOp
  simp [ho, hx, hy, hr]
def l0 : List (Int × List UInt8) := [(1, [120]), (3, [121])]
set_option maxRecDepth 100000 in
set_option maxHeartbeats 4000000 in
theorem awake_any (w : World) : Calls Try.prog 9 #[] w fun e w' => e = .returned (.bool true) ∧ Below w.heap.size w w' := by
  have kc := fun (w : World) (C : Array Value) (n c : Nat) => Lib.run_convert_bytes_const (P := Try.prog) w 23 5 C n c Try.underlying23 Try.underlying5
  go_enter Try.func9, Try.ntmps9
  go_wp2_with fail
  refine (new_any 20 w (by omega) (by omega)).mono ?_
  rintro e w1 ⟨dp, D1, rfl, hd1, hb1, hD1⟩
  have HD1 := Lib.hid hd1
  have HB1 := Lib.hid hb1
  have HN1 := Lib.hid hD1
  clear hd1 hb1 hD1
  go_wp2_with fail
  refine (open_live HD1.out (by show (0 : Nat) ≤ _; omega) 8 5 (by omega) (by omega) (by omega) (by omega) (by show 1 + 8 + 5 ≤ 20; omega) (DS.new_calm _ _) (J.fresh_inv 20 w.heap.size 8 5) (by show (0 : Nat) + 0 + 1 < _; omega)).mono ?_
  rintro e w2 ⟨p, S2, D2, j2, d2, rfl, hl2, hc2, hn2, hlog2, hnb2, hB2, hp2, hf2, hS2, hD2⟩
  obtain ⟨log2, nb2, B2, seq2, pl2, us2, er2⟩ := j2
  dsimp only at hlog2 hnb2 hB2
  subst hlog2 hnb2
  obtain rfl : seq2 = 0 := hl2.inv.seq
  obtain rfl : pl2 = 0 := hl2.inv.place
  obtain rfl : us2 = 0 := hl2.inv.used
  obtain rfl : er2 = 0 := hl2.err
  have HL2 := Lib.hid hl2
  have HC2 := Lib.hid hc2
  have HN2 : Hid (d2.n = 20) := hn2
  have HBB2 := Lib.hid hB2
  have HP2 : Hid (d2.pend.length ≤ 5) := by have : d2.pend.length ≤ 0 + 5 := hp2; show _ ≤ _; omega
  have HF2 := Lib.hid hf2
  have HS2 := Lib.hid hS2
  have HDD2 := Lib.hid hD2
  clear hl2 hc2 hn2 hB2 hp2 hf2 hS2 hD2
  have kc2 := kc (w2.alloc (.cells #[.int .u8 120] 5 (1, 2))) #[.int .u8 121] 1 1
  simp only [World.size_alloc] at kc2
  go_wp2_with (first
    | (refine Did.list rfl (did_two (.tmp 26) (.tmp 29) rfl 1 3 ⟨some ⟨w2.heap.size, 0, none⟩, 1, 1⟩ ⟨some ⟨w2.heap.size + 1, 0, none⟩, 1, 1⟩ rfl rfl) ?_)
    | (refine Did.list rfl (did_build 37 #[(0, .const (.int .i64 1)), (1, .tmp 25)] rfl (wv 1 ⟨some ⟨w2.heap.size, 0, none⟩, 1, 1⟩).toArray (by kernel_rfl)) ?_)
    | (refine Did.list rfl (did_build 37 #[(0, .const (.int .i64 3)), (1, .tmp 28)] rfl (wv 3 ⟨some ⟨w2.heap.size + 1, 0, none⟩, 1, 1⟩).toArray (by kernel_rfl)) ?_))
  have HW3 : Hid (Below w2.heap.size w2 (((w2.alloc (.cells #[.int .u8 120] 5 (1, 2))).alloc (.cells #[.int .u8 121] 5 (1, 2))).alloc (.cells (wv 1 ⟨some ⟨w2.heap.size, 0, none⟩, 1, 1⟩ ++ wv 3 ⟨some ⟨w2.heap.size + 1, 0, none⟩, 1, 1⟩).toArray 37))) := (((Below.refl _ _).alloc (Nat.le_refl _) _).alloc (by simp only [World.size_alloc]; omega) _).alloc (by simp only [World.size_alloc]; omega) _
  have HWS : Hid (WS (((w2.alloc (.cells #[.int .u8 120] 5 (1, 2))).alloc (.cells #[.int .u8 121] 5 (1, 2))).alloc (.cells (wv 1 ⟨some ⟨w2.heap.size, 0, none⟩, 1, 1⟩ ++ wv 3 ⟨some ⟨w2.heap.size + 1, 0, none⟩, 1, 1⟩).toArray 37)) (fun k => w2.heap.size ≤ k ∧ k < w2.heap.size + 3) (some ⟨w2.heap.size + 1 + 1, 0, none⟩) 2 l0) := by
    refine ⟨rfl, fun _ => ⟨w2.heap.size + 1 + 1, 0, rfl, ⟨by omega, by omega⟩, fun k hk => ?_⟩⟩
    have hk2 : k < 2 := hk
    have g3 : (((w2.alloc (.cells #[.int .u8 120] 5 (1, 2))).alloc (.cells #[.int .u8 121] 5 (1, 2))).alloc (.cells (wv 1 ⟨some ⟨w2.heap.size, 0, none⟩, 1, 1⟩ ++ wv 3 ⟨some ⟨w2.heap.size + 1, 0, none⟩, 1, 1⟩).toArray 37)).heap[w2.heap.size + 1 + 1]? = some (.cells (wv 1 ⟨some ⟨w2.heap.size, 0, none⟩, 1, 1⟩ ++ wv 3 ⟨some ⟨w2.heap.size + 1, 0, none⟩, 1, 1⟩).toArray 37 (0, 0)) := by
      have := heap_alloc_new ((w2.alloc (.cells #[.int .u8 120] 5 (1, 2))).alloc (.cells #[.int .u8 121] 5 (1, 2))) (.cells (wv 1 ⟨some ⟨w2.heap.size, 0, none⟩, 1, 1⟩ ++ wv 3 ⟨some ⟨w2.heap.size + 1, 0, none⟩, 1, 1⟩).toArray 37)
      simpa only [World.size_alloc] using this
    have b1 : BS (w2.alloc (.cells #[.int .u8 120] 5 (1, 2))) (some ⟨w2.heap.size, 0, none⟩) 1 [120] := BS.of_block (heap_alloc_new w2 _)
    have b2 : BS ((w2.alloc (.cells #[.int .u8 120] 5 (1, 2))).alloc (.cells #[.int .u8 121] 5 (1, 2))) (some ⟨w2.heap.size + 1, 0, none⟩) 1 [121] := by
      have := BS.of_block (l := [121]) (heap_alloc_new (w2.alloc (.cells #[.int .u8 120] 5 (1, 2))) (.cells #[.int .u8 121] 5 (1, 2)))
      simpa only [World.size_alloc, List.length_cons, List.length_nil, Nat.zero_add] using this
    match k, hk2 with
    | 0, _ => exact ⟨⟨some ⟨w2.heap.size, 0, none⟩, 1, 1⟩, by rw [cell_of_row _ _ _ _ _ _ g3]; rfl, by rw [cell_of_row _ _ _ _ _ _ g3]; rfl, (b1.alloc _).alloc _, Nat.le_refl _, fun _ ad e => by cases e; exact ⟨Nat.le_refl _, by show w2.heap.size < _; omega⟩⟩
    | 1, _ => exact ⟨⟨some ⟨w2.heap.size + 1, 0, none⟩, 1, 1⟩, by rw [cell_of_row _ _ _ _ _ _ g3]; rfl, by rw [cell_of_row _ _ _ _ _ _ g3]; rfl, b2.alloc _, Nat.le_refl _, fun _ ad e => by cases e; exact ⟨by show _ ≤ w2.heap.size + 1; omega, by show w2.heap.size + 1 < _; omega⟩⟩
  have HZ3 : Hid ((((w2.alloc (.cells #[.int .u8 120] 5 (1, 2))).alloc (.cells #[.int .u8 121] 5 (1, 2))).alloc (.cells (wv 1 ⟨some ⟨w2.heap.size, 0, none⟩, 1, 1⟩ ++ wv 3 ⟨some ⟨w2.heap.size + 1, 0, none⟩, 1, 1⟩).toArray 37)).heap.size = w2.heap.size + 3) := by show _ = _; simp only [World.size_alloc]
  generalize ((w2.alloc (.cells #[.int .u8 120] 5 (1, 2))).alloc (.cells #[.int .u8 121] 5 (1, 2))).alloc (.cells (wv 1 ⟨some ⟨w2.heap.size, 0, none⟩, 1, 1⟩ ++ wv 3 ⟨some ⟨w2.heap.size + 1, 0, none⟩, 1, 1⟩).toArray 37) = w3 at *
  have HCJ := Lib.hid (HC2.out.commitJ (j := ⟨8, 5, B2, 0, 0, 0, 0⟩) (l := l0) rfl (by show 0 < 8; omega) (by show 1 + 8 + 5 ≤ d2.n; rw [HN2.out]; omega) (by show J.okW 5 l0 = true; decide) (by show 2 + 1 ≤ 8; omega) HL2.out.inv.lens)
  have HCI := Lib.hid ((J.commitJ_inv (l := l0) HL2.out.inv rfl (by show 0 + 1 < _; omega) (by show J.okW 5 l0 = true; decide) (by show 2 + 1 ≤ 8; omega)).1 HCJ.out.1)
  have HPP : Hid ((J.commitJ d2 ⟨8, 5, B2, 0, 0, 0, 0⟩ l0).1.pend.length ≤ 11) := by
    have h1 := commitJ_pend l0 d2 ⟨8, 5, B2, 0, 0, 0, 0⟩
    have h2 := HP2.out
    have h3 : l0.length = 2 := rfl
    show _ ≤ _
    omega
  refine ((HL2.out.below HW3.out).commit (by show 0 + 1 < _; omega) (by have := HP2.out; omega) _ _ 2 2 l0 HWS.out (fun k hk => ⟨by rw [HZ3.out]; exact hk.2, fun h => by have := HL2.out.jd.lt k h; have := hk.1; omega⟩) (by omega)).mono ?_
  rintro e w4 ⟨rfl, hst4⟩
  rw [HCJ.out.1]
  have HJ3 : Hid ((J.commitJ d2 ⟨8, 5, B2, 0, 0, 0, 0⟩ l0).2.1 = ⟨8, 5, J.apl [(1, [120]), (3, [121])] B2, 1, 3, 3, 0⟩) := by
    show _ = _
    rw [HCJ.out.2.2.2]
    rfl
  rw [HJ3.out] at hst4 HCI
  have HCA : Hid (J.Calm (J.commitJ d2 ⟨8, 5, B2, 0, 0, 0, 0⟩ l0).1 ∧ (J.commitJ d2 ⟨8, 5, B2, 0, 0, 0, 0⟩ l0).1.n = 20) := ⟨HCJ.out.2.1, by rw [HCJ.out.2.2.1]; exact HN2.out⟩
  obtain ⟨s3, t3, c3, -, -, hji, -⟩ := HCI.out
  have HJI := Lib.hid hji
  clear HCI HCJ HJ3 hji kc kc2
  generalize (J.commitJ d2 ⟨8, 5, B2, 0, 0, 0, 0⟩ l0).1 = d3 at *
  obtain ⟨S4, D4, j4, f4, s4, dd4⟩ := hst4
  have HJ4 := Lib.hid j4
  have HF4 := Lib.hid f4
  have HS4 := Lib.hid s4
  have HD4 := Lib.hid dd4
  clear j4 f4 s4 dd4
  go_wp2_with fail
  refine (crash_all dp D4 d3 none 0 0 [] w4 HJ4.out.dk (by have := HPP.out; omega) BS.nil (fun h => absurd h (by omega)) (by unfold maxLen; omega)).mono ?_
  rintro e w5 ⟨rfl, hst5⟩
  obtain ⟨D5, j5, f5, f5', d5⟩ := HJ4.out.disk hst5
  have HJ5 := Lib.hid j5
  have HF5 := Lib.hid f5
  have HD5 := Lib.hid d5
  clear j5 f5 f5' d5 hst5
  generalize ((cho [] d3.pend d3.pend.length).length : Int) = vc
  go_wp2_with fail
  refine (open_live HJ5.out.dk (by show (0 : Nat) ≤ _; omega) 8 5 (by omega) (by omega) (by omega) (by omega) (by show 1 + 8 + 5 ≤ d3.n; rw [HCA.out.2]; omega) (J.crashed_calm _ _) (J.Inv.crash (show 0 < 8 by omega) HJI.out.inv []) (by have h1 : 1 = s3 + c3.length := HJI.out.seq; omega)).mono ?_
  rintro e w6 ⟨q, S6, D6, j6, d6, rfl, hl6, hc6, hn6, hlog6, hnb6, hB6, hp6, hf6, hS6, hD6⟩
  obtain ⟨log6, nb6, B6, seq6, pl6, us6, er6⟩ := j6
  dsimp only at hlog6 hnb6 hB6
  subst hlog6 hnb6
  obtain rfl : seq6 = 1 := by have h1 : 1 = s3 + c3.length := HJI.out.seq; have h2 : seq6 = s3 + c3.length := hl6.inv.seq; omega
  obtain rfl : us6 = 3 := by have h1 : 3 = J.size c3 := HJI.out.used; have h2 : us6 = J.size c3 := hl6.inv.used; omega
  obtain rfl : er6 = 0 := hl6.err
  have HL6 := Lib.hid hl6
  have HB6 : Hid (B6 0 = [] ∧ B6 1 = [120] ∧ B6 3 = [121]) := by
    have e0 : B2 0 = [] := HBB2.out 0 (by omega)
    refine ⟨(hB6 0 (by omega)).trans ?_, (hB6 1 (by omega)).trans ?_, (hB6 3 (by omega)).trans ?_⟩
    · show J.apl [(1, [120]), (3, [121])] B2 0 = []
      rw [J.apl_far (by intro x hx; rcases List.mem_cons.1 hx with rfl | hx; exact (by decide); rcases List.mem_cons.1 hx with rfl | hx; exact (by decide); cases hx)]
      exact e0
    · rfl
    · rfl
  have HJM6 : Hid (∃ S, Jm w6 p dp S ⟨8, 5, J.apl [(1, [120]), (3, [121])] B2, 1, 3, 3, 0⟩) := by
    obtain ⟨q', bl', hq'⟩ := HJ5.out.jm
    exact ⟨_, q', bl', hq'.keep hf6 HJ5.out.apart⟩
  obtain ⟨SX, hjm⟩ := HJM6.out
  have HJM := Lib.hid hjm
  have HW6 : Hid (Below w.heap.size w w6) := by
    have a1 := HB1.out
    have a2 : Below w.heap.size w1 w2 := HF2.out.below a1.size HN1.out
    have hD2 : ∀ k, D2 k → w.heap.size ≤ k := fun k hk => by
      have := a1.size
      rcases HDD2.out k hk with h | h
      · exact HN1.out k h
      · omega
    have hS2 : ∀ k, S2 k → w.heap.size ≤ k := fun k hk => Nat.le_trans a1.size (HS2.out k hk)
    have a12 := a1.trans a2
    have a3 := HW3.out.mono a12.size
    have a123 := a12.trans a3
    have hS4 : ∀ k, S4 k → w.heap.size ≤ k := fun k hk => by
      rcases HS4.out k hk with h | h
      · exact hS2 k h
      · exact Nat.le_trans a123.size h
    have hD4 : ∀ k, D4 k → w.heap.size ≤ k := fun k hk => by
      rcases HD4.out k hk with h | h
      · exact hD2 k h
      · exact Nat.le_trans a123.size h
    have a4 : Below w.heap.size w3 w4 := HF4.out.below a123.size (fun k hk => hk.elim (hS2 k) (hD2 k))
    have a1234 := a123.trans a4
    have a5 : Below w.heap.size w4 w5 := HF5.out.below a1234.size (fun k hk => hk.elim (hS4 k) (hD4 k))
    have hD5 : ∀ k, D5 k → w.heap.size ≤ k := fun k hk => by
      rcases HD5.out k hk with h | h
      · exact hD4 k h
      · exact Nat.le_trans a1234.size h
    have a12345 := a1234.trans a5
    exact a12345.trans (hf6.below a12345.size hD5)
  clear hl6 hc6 hn6 hB6 hp6 hf6 hS6 hD6 hjm
  go_wp2_with fail
  refine (used_any HJM.out).mono ?_
  rintro e w7 ⟨rfl, rfl⟩
  go_wp2_with fail
  refine (readJ_any HL6.out.jd.jm 3 (by show 3 < 5; omega) (by show (B6 3).length ≤ 96; rw [HB6.out.2.2]; decide)).mono ?_
  rintro e w7 ⟨A7, n7, c7, rfl, hb7, -, -, hw7⟩
  have hb7 : BS w7 A7 n7 [121] := by rw [← HB6.out.2.2]; exact hb7
  obtain rfl : n7 = 1 := hb7.1.symm
  have v7 := run_convert_bs w7 A7 1 c7 [121] hb7
  have HW7 := Lib.hid hw7
  have HL7 := Lib.hid (HL6.out.below hw7)
  clear hb7 hw7
  have ht : (txt [121]).toList = [121] := ByteArray.toList_mk _
  go_wp2_with fail
  refine (readJ_any HL7.out.jd.jm 1 (by show 1 < 5; omega) (by show (B6 1).length ≤ 96; rw [HB6.out.2.1]; decide)).mono ?_
  rintro e w8 ⟨A8, n8, c8, rfl, hb8, -, -, hw8⟩
  have hb8 : BS w8 A8 n8 [120] := by rw [← HB6.out.2.1]; exact hb8
  obtain rfl : n8 = 1 := hb8.1.symm
  have v8 := run_convert_bs w8 A8 1 c8 [120] hb8
  have HW8 := Lib.hid hw8
  have HL8 := Lib.hid (HL7.out.below hw8)
  clear hb8 hw8 v7
  have ht8 : (txt [120]).toList = [120] := ByteArray.toList_mk _
  go_wp2_with fail
  refine (readJ_any HL8.out.jd.jm 0 (by show 0 < 5; omega) (by show (B6 0).length ≤ 96; rw [HB6.out.1]; decide)).mono ?_
  rintro e w9 ⟨A9, n9, c9, rfl, hb9, -, -, hw9⟩
  have hb9 : BS w9 A9 n9 [] := by rw [← HB6.out.1]; exact hb9
  obtain rfl : n9 = 0 := hb9.1.symm
  have HW9 := Lib.hid hw9
  have HL9 := Lib.hid (HL8.out.below hw9)
  clear hb9 hw9 v8
  go_wp2_with fail
  refine (seq_any HL9.out.jd).mono ?_
  rintro e w10 ⟨rfl, rfl⟩
  go_wp2_with fail
  refine (used_any HL9.out.jd.jm).mono ?_
  rintro e w10 ⟨rfl, rfl⟩
  go_wp2_with fail
  refine (err_any HL9.out.jd.jm).mono ?_
  rintro e w10 ⟨rfl, rfl⟩
  go_wp2
  go_ret
  refine ⟨rfl, ?_⟩
  have b7 := HW6.out.trans (HW7.out.mono HW6.out.size)
  have b8 := b7.trans (HW8.out.mono b7.size)
  exact b8.trans (HW9.out.mono b8.size)
end Go.Proofs.Ytcieahfhpanogaa

namespace Go.Proofs.Ytcieahfhpanogaa
open Go.RowKit

/-- What a call leaves: the journal works on. -/
def LStep (w w' : World) (p dp : Nat) (S D : Nat → Prop) (j' : J.JS) (d' : DS) (s t : Nat) (c : List J.Chg) : Prop :=
  ∃ S' D', Live w' p dp S' D' j' d' s t c ∧ Fr (fun k => S k ∨ D k) w w' ∧ (∀ k, S' k → S k ∨ w.heap.size ≤ k) ∧ ∀ k, D' k → D k ∨ w.heap.size ≤ k
section
variable {w w' : World} {p dp : Nat} {S D : Nat → Prop} {j : J.JS} {d : DS} {s0 t0 : Nat} {cs : List J.Chg}
theorem Live.commitOk (h : Live w p dp S D j d s0 t0 cs) (hc : J.Calm d) (hsq : j.seq + 1 < 18446744073709551616) (hs : d.pend.length ≤ 800000) (X : Nat → Prop) (A : Option Addr) (n c : Nat) (l : List (Int × List UInt8)) (hw : WS w X A n l) (hX : ∀ k, X k → k < w.heap.size ∧ ¬ (S k ∨ D k)) (hn : n ≤ 1000000)
    (hok : J.okW j.nb l = true) (hf : l.length + 1 ≤ j.log) :
    Calls Try.prog 14 #[.pointer (some ⟨p, 0, none⟩), .slice A n c] w fun e w' => e = .returned (.int .i64 0) ∧ ∃ j' d' s t c', LStep w w' p dp S D j' d' s t c' ∧ J.Calm d' ∧ d'.n = d.n ∧ j'.log = j.log ∧ j'.nb = j.nb ∧ j'.seq = j.seq + 1 ∧ j'.B = J.apl (J.asChg l) j.B ∧ d'.pend.length ≤ d.pend.length + 2 * l.length + 2 := by
  have hlog : 0 < j.log := by have := h.inv.log4; omega
  obtain ⟨g1, g2, g3, g4⟩ := hc.commitJ h.err hlog h.room hok hf h.inv.lens
  obtain ⟨s, t, c', e', u, g5, g6⟩ := (J.commitJ_inv h.inv h.err hsq hok hf).1 g1
  refine (h.commit hsq hs X A n c l hw hX hn).mono ?_
  rintro e w' ⟨rfl, S', D', k1, k2, k3, k4⟩
  refine ⟨by rw [g1], _, _, s, t, c', ⟨S', D', ⟨k1, g5, ?_, ?_⟩, k2, k3, k4⟩, g2, g3, ?_, ?_, ?_, ?_, commitJ_pend l d j⟩
  · rw [g4]; split <;> rfl
  · rw [g3, g6]; exact h.room
  · rw [g6]; rfl
  · rw [g6]; rfl
  · rw [g6]; rfl
  · rw [g6]; rfl
/-- Commit of what may not be a change. -/
theorem Live.commitNo (h : Live w p dp S D j d s0 t0 cs) (hsq : j.seq + 1 < 18446744073709551616) (hs : d.pend.length ≤ 800000) (X : Nat → Prop) (A : Option Addr) (n c : Nat) (l : List (Int × List UInt8)) (hw : WS w X A n l) (hX : ∀ k, X k → k < w.heap.size ∧ ¬ (S k ∨ D k)) (hn : n ≤ 1000000)
    (hok : J.okW j.nb l = false) :
    Calls Try.prog 14 #[.pointer (some ⟨p, 0, none⟩), .slice A n c] w fun e w' => e = .returned (.int .i64 1) ∧ LStep w w' p dp S D j d s0 t0 cs := by
  have e : J.commitJ d j l = (d, j, 1) := by unfold J.commitJ; rw [if_pos h.err, if_neg (by rw [hok]; decide)]
  refine (h.commit hsq hs X A n c l hw hX hn).mono ?_
  rw [e]
  rintro e w' ⟨rfl, S', D', k1, k2, k3, k4⟩
  exact ⟨rfl, S', D', ⟨k1, h.inv, h.err, h.room⟩, k2, k3, k4⟩
/-- Commit of a change that the log is too small for. -/
theorem Live.commitFull (h : Live w p dp S D j d s0 t0 cs) (hsq : j.seq + 1 < 18446744073709551616) (hs : d.pend.length ≤ 800000) (X : Nat → Prop) (A : Option Addr) (n c : Nat) (l : List (Int × List UInt8)) (hw : WS w X A n l) (hX : ∀ k, X k → k < w.heap.size ∧ ¬ (S k ∨ D k)) (hn : n ≤ 1000000)
    (hok : J.okW j.nb l = true) (hf : ¬ l.length + 1 ≤ j.log) :
    Calls Try.prog 14 #[.pointer (some ⟨p, 0, none⟩), .slice A n c] w fun e w' => e = .returned (.int .i64 21) ∧ LStep w w' p dp S D j d s0 t0 cs := by
  have e : J.commitJ d j l = (d, j, 21) := by unfold J.commitJ; rw [if_pos h.err, if_pos hok, if_neg hf]
  refine (h.commit hsq hs X A n c l hw hX hn).mono ?_
  rw [e]
  rintro e w' ⟨rfl, S', D', k1, k2, k3, k4⟩
  exact ⟨rfl, S', D', ⟨k1, h.inv, h.err, h.room⟩, k2, k3, k4⟩
/-- Checkpoint. -/
theorem Live.ckptOk (h : Live w p dp S D j d s0 t0 cs) (hc : J.Calm d) (hsq : j.seq < 18446744073709551616) (hs : d.pend.length ≤ 800000) :
    Calls Try.prog 17 #[.pointer (some ⟨p, 0, none⟩)] w fun e w' => e = .returned (.int .i64 0) ∧ ∃ d' s t c', LStep w w' p dp S D { j with used := 0 } d' s t c' ∧ J.Calm d' ∧ d'.n = d.n ∧ d'.pend.length ≤ d.pend.length + 1 := by
  have hN : 0 < d.n := by have := h.room; omega
  obtain ⟨g1, g2, g3, g4⟩ := hc.ckpt h.err hN
  obtain ⟨⟨s, t, c', g5⟩, -⟩ := (J.ckpt_inv h.inv h.err hsq).1 g1
  refine (checkpoint_any h.jd h.inv.log200 h.place_lt hsq (by omega)).mono ?_
  rintro e w' ⟨rfl, S', D', k1, k2, k3, k4⟩
  rw [g2] at g5 k1
  exact ⟨by rw [g1], _, s, t, c', ⟨S', D', ⟨k1, g5, h.err, by rw [g4]; exact h.room⟩, k2, k3, k4⟩, g3, g4, ckpt_pend d j⟩
end
end Go.Proofs.Ytcieahfhpanogaa
