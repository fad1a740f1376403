
/-
  Contract of Changes (layer 10).
-/
import Derived.Test.YtjionpkflpnejaaTNew
import Derived.Maps.AppendAt
namespace Go.Proofs.Ytjionpkflpnejaa
open Go.RowKit

theorem infos_wr : (Try.prog.info? 70).map (fun i => (i.zero, i.size, i.bytes)) = some (some (.agg (wv 0 ⟨none, 0, 0⟩).toArray), 2, 32) := by kernel_rfl
theorem ownsRow_succ {w : World} {base : Nat} {e : TypeId} {s : Nat} {v : Value} {n : Nat} {cells : List Value} (h : w.ownsRow base e s v (n + 1) cells) : ∃ g cap, v = .slice (some ⟨g, 0, none⟩) (n + 1) cap := by
  rcases h.2 with ⟨_, h0⟩ | ⟨g, cap, _, h1, _⟩
  · omega
  · exact ⟨g, cap, h1⟩

/-- One more write behind a row of them, its bytes new. -/
theorem WR.news (w2 : World) (k : Nat) (s : Sl) : ∀ j u, (wv (k : Int) s)[j]? = some u → (w2.alloc (.cells #[.int .i64 (k : Int), .slice s.a s.n s.c] 70)).cell? ((⟨w2.heap.size, 0, none⟩ : Addr).add j) = some u := fun j u hu =>
  World.news_of_block (heap_alloc_new w2 (.cells #[.int .i64 (k : Int), .slice s.a s.n s.c] 70)) j u (by simpa [wv] using hu)
theorem WR.push {W w2 w8 : World} {base : Nat} {A A' : Option Addr} {c c' : Nat} {l : List (Nat × List UInt8)} {sl : List Sl} (h : WR W base A c l sl) (hsz : base ≤ W.heap.size) (hb : Below W.heap.size W w2) (k : Nat) (b : List UInt8) (s : Sl) (hs : BS w2 s.a s.n b) (hc : s.n ≤ s.c) (hnew : ∀ ad, s.a = some ad → W.heap.size ≤ ad.block)
    (h8 : w8.ownsRow base 70 2 (.slice A' (l.length + 1) c') (l.length + 1) (wcs l sl ++ wv (k : Int) s)) (hg : (w2.alloc (.cells #[.int .i64 (k : Int), .slice s.a s.n s.c] 70)).grownBy w8 (Value.slice A l.length c).ownBlock)
    (hat : (Value.slice A' (l.length + 1) c').ownBlock = (Value.slice A l.length c).ownBlock ∨ (Value.slice A' (l.length + 1) c').ownBlock = some (w2.alloc (.cells #[.int .i64 (k : Int), .slice s.a s.n s.c] 70)).heap.size) :
    WR w8 base A' c' (l ++ [(k, b)]) (sl ++ [s]) ∧ Below base W w8 := by
  have hB : Below W.heap.size W (w2.alloc (.cells #[.int .i64 (k : Int), .slice s.a s.n s.c] 70)) := hb.alloc hb.size _
  refine ⟨(h.below hB).append (x := (k, b)) (s := s) h8 hg hat (hs.alloc _) hc fun _ ad e => ⟨Nat.le_trans hsz (hnew ad e), fun e' => ?_⟩, (hB.mono hsz).trans ((fr_grown hg).below (Nat.le_trans hsz hB.size) fun k e => (h.place k e).1)⟩
  have h1 := (h.place _ e').2
  have h2 := hnew ad e
  omega

/-- The bytes of writes may be written. -/
def Soft (w : World) (sl : List Sl) : Prop := ∀ i (h : i < sl.length), 0 < sl[i].n → ∀ ad, sl[i].a = some ad → ∀ j, w.frozen? ⟨ad.block, j, none⟩ = false
theorem frozen_of_block {w w' : World} {b j : Nat} (h : w'.heap[b]? = w.heap[b]?) : w'.frozen? ⟨b, j, none⟩ = w.frozen? ⟨b, j, none⟩ := by simp only [World.frozen?, h]
theorem WR.soft {W w2 w8 : World} {base : Nat} {A : Option Addr} {c : Nat} {l : List (Nat × List UInt8)} {sl : List Sl} (h : WR W base A c l sl) (hf : Soft W sl) (hb : Below W.heap.size W w2) (k : Nat) (s : Sl) {b : List UInt8} (hs : BS w2 s.a s.n b) (hnew : ∀ ad, s.a = some ad → W.heap.size ≤ ad.block) (hfs : ∀ ad, s.a = some ad → ∀ j, w2.frozen? ⟨ad.block, j, none⟩ = false)
    (hg : (w2.alloc (.cells #[.int .i64 (k : Int), .slice s.a s.n s.c] 70)).grownBy w8 (Value.slice A l.length c).ownBlock) : Soft w8 (sl ++ [s]) := by
  intro i hi h0 ad e j
  by_cases hi' : i < sl.length
  · simp only [List.getElem_append_left hi'] at h0 e
    have hlt := (h.bs i hi').lt_block h0 ad e
    have hsz := hb.size
    have h1 := hf i hi' h0 ad e j
    rw [frozen_of_block (w := w2.alloc (.cells #[.int .i64 (k : Int), .slice s.a s.n s.c] 70)) (hg.block ad.block (by rw [World.size_alloc]; omega) (fun e' => h.off i hi' h0 ad e e'.symm)), frozen_of_block (w := w2) (Below.heap_alloc _ _ _ (by omega)), frozen_of_block (w := W) (hb.block _ hlt)]
    exact h1
  · obtain rfl : i = sl.length := by simp at hi; omega
    have e1 : (sl ++ [s])[sl.length]'hi = s := by simp
    rw [e1] at h0 e
    have hlt := hs.lt_block h0 ad e
    rw [frozen_of_block (w := w2.alloc (.cells #[.int .i64 (k : Int), .slice s.a s.n s.c] 70)) (hg.block ad.block (by rw [World.size_alloc]; omega) (fun e' => by have h2 := (h.place _ e'.symm).2; have h3 := hnew ad e; omega)), frozen_of_block (w := w2) (Below.heap_alloc _ _ _ hlt)]
    exact hfs ad e j

section
variable {w : World} {p m : Nat} {x : Sl} {S : Nat → Prop} {X : TX}
set_option maxHeartbeats 400000 in
theorem changes_nil (w : World) : Calls Try.prog 16 #[.pointer none] w fun e w' => e = .returned (.slice none 0 0) ∧ w' = w := by
  have HC := Lib.hid (tlen_nil w)
  go_enter Try.func16, Try.ntmps16
  go_wp2_with fail
  refine HC.out.mono ?_
  rintro e w' ⟨rfl, rfl⟩
  go_wp2_with fail
  go_loop [3, 9] (fun s i => s = .slice none 0 0 ∧ i = .int .i64 0) (fun _ _ => 0)
  case atStart => exact ⟨rfl, rfl⟩
  case round =>
    obtain ⟨rfl, rfl⟩ := hrel
    go_wp2
    go_ret
    exact ⟨rfl, rfl⟩
/-- Behind Changes. -/
def ChgQ (w : World) (l : List (Nat × List UInt8)) (e : Ending) (w' : World) : Prop := ∃ A c sl, e = .returned (.slice A l.length c) ∧ WR w' w.heap.size A c l sl ∧ Below w.heap.size w w' ∧ Soft w' sl
set_option maxRecDepth 100000 in
set_option maxHeartbeats 2000000 in
theorem changes_any (h : Tq w p m x S X) (hn : x.n ≤ 1000000) : Calls Try.prog 16 #[.pointer (some ⟨p, 0, none⟩)] w (ChgQ w (X.chs x.n)) := by
  obtain ⟨i0, hi0, hz0, hz1, hz2⟩ := info_parts infos_wr
  have HI0 := Lib.hid hi0
  have HZ0 := Lib.hid hz0
  have HZ1 := Lib.hid hz1
  have HZ2 := Lib.hid hz2
  clear hi0 hz0 hz1 hz2
  have HC := Lib.hid (tlen_any h)
  have HT := Lib.hid h
  have HN := Lib.hid hn
  clear h
  go_enter Try.func16, Try.ntmps16
  go_wp2_with fail
  refine HC.out.mono ?_
  rintro e w' ⟨rfl, rfl⟩
  clear HC
  rename World => W0
  go_wp2_with fail
  go_loopw [3, 9] (fun s i wr => ∃ (k c : Nat) (A : Option Addr) (sl : List Sl), k ≤ x.n ∧ i = .int .i64 k ∧ s = .slice A (X.chs k).length c ∧ Hid (Below W0.heap.size W0 wr) ∧ Hid (WR wr W0.heap.size A c (X.chs k) sl) ∧ Hid (Soft wr sl)) (fun _ i _ => x.n - (intOf i).toNat)
  case atStart => exact ⟨0, 0, none, [], by omega, rfl, rfl, Below.refl _ _, WR.nil _ _, fun i h => by simp at h⟩
  case round =>
    obtain ⟨k, c, A, sl, hk, rfl, rfl, HB, HW, HF⟩ := hrel
    by_cases hlt : k < x.n
    · have HT1 := Lib.hid (HT.out.below HB.out)
      have c0 := HT1.out.c0
      have c1 := HT1.out.c1
      obtain ⟨g, y, hxa, hg, hby⟩ := HT1.out.rows.at hlt
      have HY := Lib.hid hby
      clear hby
      rw [hxa] at c0
      cases hp : X.p k with
      | none =>
        have hl := HT1.out.puts.none_at k hp
        have HE : Hid (X.chs (k + 1) = X.chs k) := TX.chs_no (TX.chg_none hp)
        clear hp hxa
        go_wp2_with fail
        go_roundw
        case rel => exact ⟨k + 1, c, A, sl, by omega, by go_num, by rw [HE.out], HB, by show WR _ _ _ _ _ _; rw [HE.out]; exact HW.out, HF⟩
        case measure => simp [intOf]; omega
      | some b =>
        obtain ⟨z, hl, hbz⟩ := HT1.out.puts.some_at k hp
        have HBZ := Lib.hid hbz
        have HQ := Lib.hid (equal_any z.a y.a z.n y.n z.c y.c b (X.l.getD k []) _ hbz.bs HY.out.bs)
        cases hc : X.chg k with
        | false =>
          have HE : Hid (X.chs (k + 1) = X.chs k) := TX.chs_no hc
          rw [TX.chg_of hp, decide_eq_false_iff_not, Decidable.not_not] at hc
          rw [decide_eq_true (show b = X.l.getD k [] from hc)] at HQ
          clear hp hc hbz hxa
          go_wp2_with fail
          refine HQ.out.mono ?_
          rintro e w' ⟨rfl, rfl⟩
          go_wp2_with fail
          go_roundw
          case rel => exact ⟨k + 1, c, A, sl, by omega, by go_num, by rw [HE.out], HB, by show WR _ _ _ _ _ _; rw [HE.out]; exact HW.out, HF⟩
          case measure => simp [intOf]; omega
        | true =>
          have HE : Hid (X.chs (k + 1) = X.chs k ++ [(k, b)]) := by show _ = _; rw [TX.chs_yes hc, TX.get_of hp]
          rw [TX.chg_of hp, decide_eq_true_eq] at hc
          rw [decide_eq_false (show ¬ b = X.l.getD k [] from hc)] at HQ
          have HLN := Lib.hid (TX.chs_len X k)
          clear hp hc hbz hxa
          go_wp2_with fail
          refine HQ.out.mono ?_
          rintro e w' ⟨rfl, rfl⟩
          go_wp2_with fail
          refine (clone_big z.a z.n z.c b _ HBZ.out.bs HBZ.out.few).mono ?_
          rintro e w2 ⟨A2, c2, rfl, h1, h2, h3, h4, h5⟩
          have HB2 := Lib.hid h4
          have HF2 := Lib.hid h5
          have HS2 := Lib.hid h1
          have HC2 := Lib.hid h2
          have HN2 := Lib.hid h3
          have HRM : Hid ((w2.alloc (.cells #[.int .i64 (k : Int), .slice A2 z.n c2] 70)).ownsRow W0.heap.size 70 2 (.slice A (X.chs k).length c) (X.chs k).length (wcs (X.chs k) sl)) := (HW.out.below (HB2.out.alloc HB2.out.size _)).row
          clear h1 h2 h3 h4 h5 HQ
          have hsz : W0.heap.size ≤ (w2.alloc (.cells #[.int .i64 (k : Int), .slice A2 z.n c2] 70)).heap.size := by
            have h5 := HB.out.size
            have h6 := HB2.out.size
            rw [World.size_alloc]
            omega
          have HL1 : Hid ((X.chs k).length ≤ 1000000) := by
            have h5 := HLN.out
            have h6 := HN.out
            show _ ≤ _
            omega
          go_wp2_with (at_builtin
                       go_must (refine wpList_append_own_at _ rfl (.tmp 34) (.tmp 39) 43 rfl W0.heap.size 70 i0 _ 2 32 Try.underlying43 HI0.out HZ0.out HZ1.out HZ2.out rfl (by omega) (.slice A (X.chs k).length c) (X.chs k).length (wcs (X.chs k) sl) rfl HRM.out ⟨w2.heap.size, 0, none⟩ 1 1 (wv (k : Int) ⟨A2, z.n, c2⟩) rfl (by simp [wv]) (WR.news w2 k ⟨A2, z.n, c2⟩) (by simp [wv, Value.oneCell']) (by have := HL1.out; unfold maxLen; omega) (by have := HL1.out; omega) hsz ?_)
                       intro v' w8 hown' hgrow _ hat
                       obtain ⟨g', cap', rfl⟩ := ownsRow_succ hown'
                       have HMO := Lib.hid (HW.out.push HB.out.size HB2.out k b ⟨A2, z.n, c2⟩ HS2.out HC2.out HN2.out hown' hgrow hat)
                       have HFO := Lib.hid (HW.out.soft HF.out HB2.out k ⟨A2, z.n, c2⟩ HS2.out HN2.out HF2.out hgrow)
                       clear hown' hgrow hat)
          go_roundw
          case rel => exact ⟨k + 1, cap', some ⟨g', 0, none⟩, _, by omega, by go_num, by rw [HE.out]; simp, HB.out.trans HMO.out.2, by show WR _ _ _ _ _ _; rw [HE.out]; exact HMO.out.1, HFO⟩
          case measure => simp [intOf]; omega
    · obtain rfl : k = x.n := by omega
      go_wp2
      go_ret
      exact ⟨A, c, sl, rfl, HW.out, HB.out, HF.out⟩
end
end Go.Proofs.Ytjionpkflpnejaa
