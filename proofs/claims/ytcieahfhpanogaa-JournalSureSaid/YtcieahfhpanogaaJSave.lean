/-
  Contract of a journal's saveHomes; slices of numbers.
-/
import Derived.Test.YtcieahfhpanogaaJSmall
namespace Go.Proofs.Ytcieahfhpanogaa
open Go.RowKit

/-- A slice of numbers, of blocks X. -/
def IS (w : World) (X : Nat → Prop) (A : Option Addr) (n : Nat) (l : List Nat) : Prop :=
  l.length = n ∧ (0 < n → ∃ b o, A = some ⟨b, o, none⟩ ∧ X b ∧ ∀ k (h : k < l.length), w.cell? ⟨b, o + k, none⟩ = some (.int .i64 (l[k] : Int)))
theorem IS.keepK {w w' : World} {X : Nat → Prop} {A : Option Addr} {n : Nat} {l : List Nat} (h : IS w X A n l) (hk : Keep X w w') : IS w' X A n l := by
  refine ⟨h.1, fun hn => ?_⟩
  obtain ⟨b, o, e, hX, hc⟩ := h.2 hn
  exact ⟨b, o, e, hX, fun k hk' => (World.cell?_of_block (a := ⟨b, o + k, none⟩) (hk.block b hX)).trans (hc k hk')⟩
theorem IS.at {w : World} {X : Nat → Prop} {A : Option Addr} {n : Nat} {l : List Nat} (h : IS w X A n l) (k : Nat) (hk : k < n) : ∃ b o, ∃ hl : k < l.length, A = some ⟨b, o, none⟩ ∧ w.cell? ⟨b, o + k, none⟩ = some (.int .i64 (l[k] : Int)) := by
  have hl : k < l.length := by rw [h.1]; exact hk
  obtain ⟨b, o, e, _, hc⟩ := h.2 (by omega)
  exact ⟨b, o, hl, e, hc k hl⟩

/-- Blocks are written where they belong, until there is an error. -/
def saveJ : DS → J.JS → List Nat → DS × J.JS
  | d, j, [] => (d, j)
  | d, j, i :: r => saveJ (layJ d j ((1 + j.log + i : Nat) : Int) (J.homeF j.seq i (j.B i))).1 (layJ d j ((1 + j.log + i : Nat) : Int) (J.homeF j.seq i (j.B i))).2 r
theorem saveJ_snoc : ∀ (l : List Nat) (d : DS) (j : J.JS) (i : Nat), saveJ d j (l ++ [i]) = saveJ (saveJ d j l).1 (saveJ d j l).2 [i]
  | [], _, _, _ => rfl
  | _ :: r, _, _, i => saveJ_snoc r _ _ i
/-- But for its error a journal is as it was. -/
def Alike (j j' : J.JS) : Prop := j'.log = j.log ∧ j'.nb = j.nb ∧ j'.B = j.B ∧ j'.seq = j.seq ∧ j'.place = j.place ∧ j'.used = j.used
theorem Alike.refl (j : J.JS) : Alike j j := ⟨rfl, rfl, rfl, rfl, rfl, rfl⟩
theorem Alike.trans {j j1 j2 : J.JS} (h : Alike j j1) (k : Alike j1 j2) : Alike j j2 := ⟨k.1.trans h.1, k.2.1.trans h.2.1, k.2.2.1.trans h.2.2.1, k.2.2.2.1.trans h.2.2.2.1, k.2.2.2.2.1.trans h.2.2.2.2.1, k.2.2.2.2.2.trans h.2.2.2.2.2⟩
theorem wst_pend (d : DS) (i : Int) (b : List UInt8) : (wst d i b).pend.length ≤ d.pend.length + 1 := by
  unfold wst
  split
  · split
    · split
      · rw [DS.count_pend]; omega
      · show (d.count.pend ++ [(i, b)]).length ≤ _
        rw [DS.count_pend, List.length_append]
        simp
    · omega
  · omega
theorem fst_pend (d : DS) : (fst d).pend.length ≤ d.pend.length := by
  unfold fst
  split
  · omega
  · split
    · rw [DS.count_pend]; omega
    · exact Nat.zero_le _
theorem layJ_alike (d : DS) (j : J.JS) (i : Int) (f : Fm) : Alike j (layJ d j i f).2 ∧ (layJ d j i f).1.pend.length ≤ d.pend.length + 1 := by
  unfold layJ
  split
  · exact ⟨⟨rfl, rfl, rfl, rfl, rfl, rfl⟩, wst_pend _ _ _⟩
  · exact ⟨Alike.refl _, by simp⟩
theorem flushJ_alike (d : DS) (j : J.JS) : Alike j (flushJ d j).2 ∧ (flushJ d j).1.pend.length ≤ d.pend.length := by
  unfold flushJ
  split
  · exact ⟨⟨rfl, rfl, rfl, rfl, rfl, rfl⟩, fst_pend _⟩
  · exact ⟨Alike.refl _, Nat.le_refl _⟩
theorem saveJ_alike : ∀ (l : List Nat) (d : DS) (j : J.JS), Alike j (saveJ d j l).2 ∧ (saveJ d j l).1.pend.length ≤ d.pend.length + l.length
  | [], _, _ => ⟨Alike.refl _, by simp [saveJ]⟩
  | i :: r, d, j => by
    obtain ⟨h1, h2⟩ := layJ_alike d j ((1 + j.log + i : Nat) : Int) (J.homeF j.seq i (j.B i))
    obtain ⟨h3, h4⟩ := saveJ_alike r (layJ d j ((1 + j.log + i : Nat) : Int) (J.homeF j.seq i (j.B i))).1 (layJ d j ((1 + j.log + i : Nat) : Int) (J.homeF j.seq i (j.B i))).2
    refine ⟨h1.trans h3, ?_⟩
    show (saveJ _ _ r).1.pend.length ≤ _
    simp only [List.length_cons]
    omega

section
variable {w : World} {p dp : Nat} {S D : Nat → Prop} {j : J.JS} {d : DS}
theorem home_still (h : JD w p dp S D j d) (i : Nat) (hl : j.log ≤ 200) (hi : i ≤ 400) : Calls Try.prog 39 #[.pointer (some ⟨p, 0, none⟩), .int .i64 (i : Int)] w fun e w' => e = .returned (.int .i64 ((1 + j.log + i : Nat) : Int)) ∧ w' = w :=
  (home_any h i hl hi).mono fun _ _ h => ⟨h.1, h.2.symm⟩

set_option maxRecDepth 100000 in
set_option maxHeartbeats 2000000 in
theorem saveHomes_any (h : JD w p dp S D j d) (hl : j.log ≤ 200) (hnb : j.nb ≤ 400) (hsq : j.seq < 18446744073709551616) (hB : ∀ i, i < j.nb → (j.B i).length ≤ 96) (A : Option Addr) (n c : Nat) (ids : List Nat) (X : Nat → Prop) (hi : IS w X A n ids) (hX : ∀ k, X k → k < w.heap.size ∧ ¬ (S k ∨ D k)) (hid : ∀ i ∈ ids, i < j.nb) (hs : d.pend.length + n ≤ 1000000) :
    Calls Try.prog 27 #[.pointer (some ⟨p, 0, none⟩), .slice A n c] w fun e w' => (∃ v, e = .returned v) ∧ JStep p dp S D (saveJ d j ids).2 (saveJ d j ids).1 w w' := by
  have HJ := Lib.hid h
  have HI := Lib.hid hi
  have HX := Lib.hid hX
  have HID := Lib.hid hid
  have HBL := Lib.hid hB
  have HSQ := Lib.hid hsq
  have Hn : Hid (ids.length = n) := hi.1
  have HS := Lib.hid hs
  have hn : n ≤ 1000000 := by omega
  clear h hi hX hid hB hs
  go_enter Try.func27, Try.ntmps27
  go_wp2_with (go_at_call 36; refine (writer_any w p).mono ?_; rintro e w' ⟨rfl, rfl⟩)
  have HW1 : Hid (Below w.heap.size w (w.alloc (.cells #[.pointer (some ⟨p, 0, none⟩)] 30))) := (Below.refl _ _).alloc (Nat.le_refl _) _
  have HB1 : Hid ((w.alloc (.cells #[.pointer (some ⟨p, 0, none⟩)] 30)).heap[w.heap.size]? = some (.cells #[.pointer (some ⟨p, 0, none⟩)] 30 (0, 0))) := heap_alloc_new w _
  generalize w.alloc (.cells #[.pointer (some ⟨p, 0, none⟩)] 30) = w1 at *
  have HI1 : Hid (IS w1 X A n ids) := HI.out.keepK ((Keep.of_below HW1.out).mono fun k hk => (HX.out k hk).1)
  have HSL : Hid (∀ k, S k ∨ D k → k < w.heap.size) := HJ.out.lt
  have HJ1 := Lib.hid (HJ.out.below HW1.out)
  have HLT1 : Hid (w.heap.size < w1.heap.size) := (Array.getElem?_eq_some_iff.1 HB1.out).1
  go_loopw [11] (fun i wr => ∃ k : Nat, k ≤ n ∧ i = .int .i64 k ∧ Hid (JStep p dp S D (saveJ d j (ids.take k)).2 (saveJ d j (ids.take k)).1 w1 wr)) (fun i _ => n - (intOf i).toNat)
  case atStart => exact ⟨0, by omega, rfl, HJ1.out.stay (Below.refl _ _)⟩
  case round =>
    obtain ⟨k, hk, rfl, HST⟩ := hrel
    by_cases hlt : k < n
    · obtain ⟨S', D', hJ', hf', hS', hD'⟩ := HST.out
      have HNEXT : Hid (saveJ d j (ids.take (k + 1)) = saveJ (saveJ d j (ids.take k)).1 (saveJ d j (ids.take k)).2 [ids[k]'(by rw [Hn.out]; exact hlt)]) := by
        show _ = _
        rw [List.take_succ_eq_append_getElem (by rw [Hn.out]; exact hlt), saveJ_snoc]
      obtain ⟨hal, hpe⟩ := saveJ_alike (ids.take k) d j
      obtain ⟨b, o, hkl, rfl, hci⟩ := (HI1.out.keepK (Keep.mono hf' fun g hg => ⟨Nat.lt_of_lt_of_le (HX.out g hg).1 HW1.out.size, (HX.out g hg).2⟩)).at k hlt
      have HXM : Hid (ids[k] < j.nb) := HID.out _ (List.getElem_mem hkl)
      clear HST
      generalize saveJ d j (ids.take k) = a at *
      obtain ⟨d', j'⟩ := a
      dsimp only at *
      generalize ids[k] = x at *
      have hbx : wr.cell? ⟨w.heap.size, 0, none⟩ = some (.pointer (some ⟨p, 0, none⟩)) := by
        rw [cell_of_row _ _ _ _ _ _ ((hf'.block _ ⟨HLT1.out, fun h => by have := HSL.out _ h; omega⟩).trans HB1.out)]
        rfl
      have HBX := Lib.hid hbx
      have HXT : Hid (¬ (S' w.heap.size ∨ D' w.heap.size)) := fun h => by
        have := HLT1.out
        rcases h with h | h
        · rcases hS' _ h with h | h
          · have := HSL.out _ (.inl h); omega
          · omega
        · rcases hD' _ h with h | h
          · have := HSL.out _ (.inr h); omega
          · omega
      obtain ⟨⟨q, bl, hq⟩, hdk, hap⟩ := hJ'
      have HJ' : Hid (JD wr p dp S' D' j' d') := ⟨⟨q, bl, hq⟩, hdk, hap⟩
      have hxnb : x < bl.length := by rw [hq.len, hal.2.1]; exact HXM.out
      have h2 : wr.cell? ⟨p, 2, none⟩ = some (.slice (some ⟨q, 0, none⟩) j'.nb j'.nb) := hq.cell 2 _ rfl
      have h3 : wr.cell? ⟨p, 3, none⟩ = some (.int .u64 (j'.seq : Int)) := hq.cell 3 _ rfl
      have hrow := hq.row x hxnb
      have HBS := Lib.hid (hq.bs x hxnb)
      have hx400 : x < 400 := by have := HXM.out; omega
      have hxj : (x : Int) < (j'.nb : Int) := by rw [hal.2.1]; have := HXM.out; omega
      have HAL := Lib.hid hal
      have HPE := Lib.hid hpe
      have HF' := Lib.hid hf'
      have HS' := Lib.hid hS'
      have HD' := Lib.hid hD'
      have hlg : j'.log ≤ 200 := by rw [hal.1]; exact hl
      have hcv : IntKind.u32.wrap (x : Int) = (x : Int) := by rw [IntKind.wrap_u32]; omega
      have HN := Lib.hid hnb
      clear hq hdk hap hal hpe hf' hS' hD' hl hnb hsq
      go_wp2_with fail
      refine wp_region_still_tail 18 (by kernel_rfl) (by kernel_rfl) ?_
      simp only [List.take_succ_cons, List.take_zero, List.drop_succ_cons, List.drop_zero]
      change wpStill _ _ (World.drew _) _ _ _
      iterate 3 still_step
      still_call (home_still (HJ'.out.below (Below.refl _ _).drew) x hlg (by omega))
      change wpStill _ _ (World.drew _) _ _ _
      iterate 13 still_step
      refine wpStill_did rfl (did_build 76 _ rfl (fv (J.homeF j'.seq x (j'.B x)) bl[x].a bl[x].n bl[x].c) (by kernel_rfl)) ?_
      refine wpStill_nil ?_
      change wpList _ _ _ _ _ (World.drew _)
      go_wp2_with fail
      refine (layJ_any (HJ'.out.below (Below.refl _ _).drew) (by have h1 := HPE.out; have h2 := HS.out; rw [List.length_take, Hn.out] at h1; show d'.pend.length ≤ 1000000; omega) (1 + (j'.log : Int) + (x : Int)) (J.homeF j'.seq x (j'.B x)) (J.homeF_ok (by rw [HAL.out.2.2.2.1]; exact HSQ.out) (by omega) (by rw [HAL.out.2.2.1]; have := HBL.out x HXM.out; omega)) _ _ _ HBS.out.drew w.heap.size HBX.out HXT.out).mono ?_
      rintro e w5 ⟨⟨v, rfl⟩, hst⟩
      have HST5 := Lib.hid hst
      clear hst hbx h2 h3 hrow hci hcv
      go_wp2
      go_roundw
      case rel =>
        refine ⟨k + 1, by omega, by go_num, ?_⟩
        show JStep _ _ _ _ _ _ _ _
        rw [HNEXT.out]
        have e : (1 + (j'.log : Int) + (x : Int)) = ((1 + j'.log + x : Nat) : Int) := by push_cast; rfl
        have h5 := HST5.out
        rw [e] at h5
        refine JStep.trans HF'.out HS'.out HD'.out ?_
        obtain ⟨S5, D5, g1, g2, g3, g4⟩ := h5
        exact ⟨S5, D5, g1, (Fr.of_below (Below.refl _ _).drew).trans g2 (fun _ h => .inl h), g3, g4⟩
      case measure => simp [intOf]; omega
    · obtain rfl : k = n := by omega
      go_wp2
      go_end0
      have h1 := HST.out
      rw [List.take_of_length_le (by rw [Hn.out]; exact Nat.le_refl _)] at h1
      refine ⟨⟨_, rfl⟩, JStep.trans (Fr.of_below HW1.out) (fun k hk => .inl hk) (fun k hk => .inl hk) h1⟩

/-- With no error ahead it is what is laid, one by one. -/
theorem saveJ_lays : ∀ (ids : List Nat) (d : DS) (j : J.JS), j.err = 0 → saveJ d j ids = ((J.lays d (J.homeW j.log j.seq j.B ids)).1, { j with err := (J.lays d (J.homeW j.log j.seq j.B ids)).2 })
  | [], d, j, he => by
    show (d, j) = (d, { j with err := 0 })
    rw [← he]
  | i :: r, d, j, he => by
    have hl : layJ d j ((1 + j.log + i : Nat) : Int) (J.homeF j.seq i (j.B i)) = (wst d ((1 + j.log + i : Nat) : Int) (sealed (J.homeF j.seq i (j.B i)).enc), { j with err := wer d ((1 + j.log + i : Nat) : Int) (sealed (J.homeF j.seq i (j.B i)).enc) }) := by unfold layJ; rw [if_pos he]
    show saveJ _ _ r = _
    rw [hl]
    simp only [J.homeW, J.lays]
    by_cases hw : wer d ((1 + j.log + i : Nat) : Int) (sealed (J.homeF j.seq i (j.B i)).enc) = 0
    · rw [if_pos hw]
      exact saveJ_lays r _ _ hw
    · rw [if_neg hw]
      have stuck : ∀ (l : List Nat) (d : DS) (j : J.JS), j.err ≠ 0 → saveJ d j l = (d, j) := by
        intro l
        induction l with
        | nil => intro d j _; rfl
        | cons y l ih =>
          intro d j hj
          have : layJ d j ((1 + j.log + y : Nat) : Int) (J.homeF j.seq y (j.B y)) = (d, j) := by unfold layJ; rw [if_neg hj]
          show saveJ _ _ l = _
          rw [this]
          exact ih d j hj
      rw [stuck r _ _ hw]
end
end Go.Proofs.Ytcieahfhpanogaa
