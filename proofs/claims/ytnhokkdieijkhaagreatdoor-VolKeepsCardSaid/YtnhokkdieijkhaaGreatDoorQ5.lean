/-
  Contract of Changes (layer 10).
  A row of bytes of the call's own: noughts are put behind it, a byte of it is written, it is copied, it is cut where its noughts begin (bits' extended, bytes.Clone, bytes.TrimRight; layer 6).
  Contract of bits' Draw (layer 6).
  Contract of bits' With (layer 6).
  Small contracts of package vol (layer 12): isVolume, room, Free; Count beyond all bytes.
  Contract of package slot's all: conditions, as functions that hold what they caught, are asked up to the first one that does not hold (layer 11).
  Contracts of package inode's small functions: unused, blank, Need (layer 7).
  Contract of package inode's distinct: no two of the numbers are the same (layer 7).
  Contract of package inode's writeAll, of both widths: each number is put, in order (layer 7).
  Contract of package inode's readAll, of both widths: numbers are read into a block's cells, in order (layer 7).
-/
import Derived.Test.YtnhokkdieijkhaaGreatDoorQ4
import Derived.Maps.AppendAt
import Derived.Lib.AppendZerosOnto
import Derived.Lib.SliceRun
import Derived.IntWalk
import Derived.Deep.RegionHeld
import Derived.Maps.OwnSet
namespace Go.Proofs.YtnhokkdieijkhaaGreatDoor
open Go.RowKit

theorem infos_wr : (Tryz.prog.info? 93).map (fun i => (i.zero, i.size, i.bytes)) = some (some (.agg (wv 0 ⟨none, 0, 0⟩).toArray), 2, 32) := by kernel_rfl
theorem ownsRow_succ {w : World} {base : Nat} {e : TypeId} {s : Nat} {v : Value} {n : Nat} {cells : List Value} (h : w.ownsRow base e s v (n + 1) cells) : ∃ g cap, v = .slice (some ⟨g, 0, none⟩) (n + 1) cap := by
  rcases h.2 with ⟨_, h0⟩ | ⟨g, cap, _, h1, _⟩
  · omega
  · exact ⟨g, cap, h1⟩

/-- One more write behind a row of them, its bytes new. -/
theorem WR.news (w2 : World) (k : Nat) (s : Sl) : ∀ j u, (wv (k : Int) s)[j]? = some u → (w2.alloc (.cells #[.int .i64 (k : Int), .slice s.a s.n s.c] 93)).cell? ((⟨w2.heap.size, 0, none⟩ : Addr).add j) = some u := fun j u hu =>
  World.news_of_block (heap_alloc_new w2 (.cells #[.int .i64 (k : Int), .slice s.a s.n s.c] 93)) j u (by simpa [wv] using hu)
theorem WR.push {W w2 w8 : World} {base : Nat} {A A' : Option Addr} {c c' : Nat} {l : List (Nat × List UInt8)} {sl : List Sl} (h : WR W base A c l sl) (hsz : base ≤ W.heap.size) (hb : Below W.heap.size W w2) (k : Nat) (b : List UInt8) (s : Sl) (hs : BS w2 s.a s.n b) (hc : s.n ≤ s.c) (hnew : ∀ ad, s.a = some ad → W.heap.size ≤ ad.block)
    (h8 : w8.ownsRow base 93 2 (.slice A' (l.length + 1) c') (l.length + 1) (wcs l sl ++ wv (k : Int) s)) (hg : (w2.alloc (.cells #[.int .i64 (k : Int), .slice s.a s.n s.c] 93)).grownBy w8 (Value.slice A l.length c).ownBlock)
    (hat : (Value.slice A' (l.length + 1) c').ownBlock = (Value.slice A l.length c).ownBlock ∨ (Value.slice A' (l.length + 1) c').ownBlock = some (w2.alloc (.cells #[.int .i64 (k : Int), .slice s.a s.n s.c] 93)).heap.size) :
    WR w8 base A' c' (l ++ [(k, b)]) (sl ++ [s]) ∧ Below base W w8 := by
  have hB : Below W.heap.size W (w2.alloc (.cells #[.int .i64 (k : Int), .slice s.a s.n s.c] 93)) := hb.alloc hb.size _
  refine ⟨(h.below hB).append (x := (k, b)) (s := s) h8 hg hat (hs.alloc _) hc fun _ ad e => ⟨Nat.le_trans hsz (hnew ad e), fun e' => ?_⟩, (hB.mono hsz).trans ((fr_grown hg).below (Nat.le_trans hsz hB.size) fun k e => (h.place k e).1)⟩
  have h1 := (h.place _ e').2
  have h2 := hnew ad e
  omega

/-- The bytes of writes may be written. -/
def Soft (w : World) (sl : List Sl) : Prop := ∀ i (h : i < sl.length), 0 < sl[i].n → ∀ ad, sl[i].a = some ad → ∀ j, w.frozen? ⟨ad.block, j, none⟩ = false
theorem frozen_of_block {w w' : World} {b j : Nat} (h : w'.heap[b]? = w.heap[b]?) : w'.frozen? ⟨b, j, none⟩ = w.frozen? ⟨b, j, none⟩ := by simp only [World.frozen?, h]
theorem WR.soft {W w2 w8 : World} {base : Nat} {A : Option Addr} {c : Nat} {l : List (Nat × List UInt8)} {sl : List Sl} (h : WR W base A c l sl) (hf : Soft W sl) (hb : Below W.heap.size W w2) (k : Nat) (s : Sl) {b : List UInt8} (hs : BS w2 s.a s.n b) (hnew : ∀ ad, s.a = some ad → W.heap.size ≤ ad.block) (hfs : ∀ ad, s.a = some ad → ∀ j, w2.frozen? ⟨ad.block, j, none⟩ = false)
    (hg : (w2.alloc (.cells #[.int .i64 (k : Int), .slice s.a s.n s.c] 93)).grownBy w8 (Value.slice A l.length c).ownBlock) : Soft w8 (sl ++ [s]) := by
  intro i hi h0 ad e j
  by_cases hi' : i < sl.length
  · simp only [List.getElem_append_left hi'] at h0 e
    have hlt := (h.bs i hi').lt_block h0 ad e
    have hsz := hb.size
    have h1 := hf i hi' h0 ad e j
    rw [frozen_of_block (w := w2.alloc (.cells #[.int .i64 (k : Int), .slice s.a s.n s.c] 93)) (hg.block ad.block (by rw [World.size_alloc]; omega) (fun e' => h.off i hi' h0 ad e e'.symm)), frozen_of_block (w := w2) (Below.heap_alloc _ _ _ (by omega)), frozen_of_block (w := W) (hb.block _ hlt)]
    exact h1
  · obtain rfl : i = sl.length := by simp at hi; omega
    have e1 : (sl ++ [s])[sl.length]'hi = s := by simp
    rw [e1] at h0 e
    have hlt := hs.lt_block h0 ad e
    rw [frozen_of_block (w := w2.alloc (.cells #[.int .i64 (k : Int), .slice s.a s.n s.c] 93)) (hg.block ad.block (by rw [World.size_alloc]; omega) (fun e' => by have h2 := (h.place _ e'.symm).2; have h3 := hnew ad e; omega)), frozen_of_block (w := w2) (Below.heap_alloc _ _ _ hlt)]
    exact hfs ad e j

section
variable {w : World} {p m : Nat} {x : Sl} {S : Nat → Prop} {X : TX}
set_option maxHeartbeats 400000 in
theorem changes_nil (w : World) : Calls Tryz.prog 21 #[.pointer none] w fun e w' => e = .returned (.slice none 0 0) ∧ w' = w := by
  have HC := Lib.hid (tlen_nil w)
  go_enter Tryz.func21, Tryz.ntmps21
  go_wp2_with fail
  refine HC.out.mono ?_
  rintro e w' ⟨rfl, rfl⟩
  go_wp2_with fail
  go_loop [3, 9] (fun s i => s = .slice none 0 0 ∧ i = .int .i64 0) (fun _ _ => 0)
  case atStart => exact ⟨rfl, rfl⟩
  case round =>
    obtain ⟨rfl, rfl⟩ := hrel
    go_wp2
    go_ret
    exact ⟨rfl, rfl⟩
/-- Behind Changes. -/
def ChgQ (w : World) (l : List (Nat × List UInt8)) (e : Ending) (w' : World) : Prop := ∃ A c sl, e = .returned (.slice A l.length c) ∧ WR w' w.heap.size A c l sl ∧ Below w.heap.size w w' ∧ Soft w' sl
set_option maxRecDepth 100000 in
set_option maxHeartbeats 2000000 in
theorem changes_any (h : Tq w p m x S X) (hn : x.n ≤ 1000000) : Calls Tryz.prog 21 #[.pointer (some ⟨p, 0, none⟩)] w (ChgQ w (X.chs x.n)) := by
  obtain ⟨i0, hi0, hz0, hz1, hz2⟩ := info_parts infos_wr
  have HI0 := Lib.hid hi0
  have HZ0 := Lib.hid hz0
  have HZ1 := Lib.hid hz1
  have HZ2 := Lib.hid hz2
  clear hi0 hz0 hz1 hz2
  have HC := Lib.hid (tlen_any h)
  have HT := Lib.hid h
  have HN := Lib.hid hn
  clear h
  go_enter Tryz.func21, Tryz.ntmps21
  go_wp2_with fail
  refine HC.out.mono ?_
  rintro e w' ⟨rfl, rfl⟩
  clear HC
  rename World => W0
  go_wp2_with fail
  go_loopw [3, 9] (fun s i wr => ∃ (k c : Nat) (A : Option Addr) (sl : List Sl), k ≤ x.n ∧ i = .int .i64 k ∧ s = .slice A (X.chs k).length c ∧ Hid (Below W0.heap.size W0 wr) ∧ Hid (WR wr W0.heap.size A c (X.chs k) sl) ∧ Hid (Soft wr sl)) (fun _ i _ => x.n - (intOf i).toNat)
  case atStart => exact ⟨0, 0, none, [], by omega, rfl, rfl, Below.refl _ _, WR.nil _ _, fun i h => by simp at h⟩
  case round =>
    obtain ⟨k, c, A, sl, hk, rfl, rfl, HB, HW, HF⟩ := hrel
    by_cases hlt : k < x.n
    · have HT1 := Lib.hid (HT.out.below HB.out)
      have c0 := HT1.out.c0
      have c1 := HT1.out.c1
      obtain ⟨g, y, hxa, hg, hby⟩ := HT1.out.rows.at hlt
      have HY := Lib.hid hby
      clear hby
      rw [hxa] at c0
      cases hp : X.p k with
      | none =>
        have hl := HT1.out.puts.none_at k hp
        have HE : Hid (X.chs (k + 1) = X.chs k) := TX.chs_no (TX.chg_none hp)
        clear hp hxa
        go_wp2_with fail
        go_roundw
        case rel => exact ⟨k + 1, c, A, sl, by omega, by go_num, by rw [HE.out], HB, by show WR _ _ _ _ _ _; rw [HE.out]; exact HW.out, HF⟩
        case measure => simp [intOf]; omega
      | some b =>
        obtain ⟨z, hl, hbz⟩ := HT1.out.puts.some_at k hp
        have HBZ := Lib.hid hbz
        have HQ := Lib.hid (equal_any z.a y.a z.n y.n z.c y.c b (X.l.getD k []) _ hbz.bs HY.out.bs)
        cases hc : X.chg k with
        | false =>
          have HE : Hid (X.chs (k + 1) = X.chs k) := TX.chs_no hc
          rw [TX.chg_of hp, decide_eq_false_iff_not, Decidable.not_not] at hc
          rw [decide_eq_true (show b = X.l.getD k [] from hc)] at HQ
          clear hp hc hbz hxa
          go_wp2_with fail
          refine HQ.out.mono ?_
          rintro e w' ⟨rfl, rfl⟩
          go_wp2_with fail
          go_roundw
          case rel => exact ⟨k + 1, c, A, sl, by omega, by go_num, by rw [HE.out], HB, by show WR _ _ _ _ _ _; rw [HE.out]; exact HW.out, HF⟩
          case measure => simp [intOf]; omega
        | true =>
          have HE : Hid (X.chs (k + 1) = X.chs k ++ [(k, b)]) := by show _ = _; rw [TX.chs_yes hc, TX.get_of hp]
          rw [TX.chg_of hp, decide_eq_true_eq] at hc
          rw [decide_eq_false (show ¬ b = X.l.getD k [] from hc)] at HQ
          have HLN := Lib.hid (TX.chs_len X k)
          clear hp hc hbz hxa
          go_wp2_with fail
          refine HQ.out.mono ?_
          rintro e w' ⟨rfl, rfl⟩
          go_wp2_with fail
          refine (clone_big z.a z.n z.c b _ HBZ.out.bs HBZ.out.few).mono ?_
          rintro e w2 ⟨A2, c2, rfl, h1, h2, h3, h4, h5⟩
          have HB2 := Lib.hid h4
          have HF2 := Lib.hid h5
          have HS2 := Lib.hid h1
          have HC2 := Lib.hid h2
          have HN2 := Lib.hid h3
          have HRM : Hid ((w2.alloc (.cells #[.int .i64 (k : Int), .slice A2 z.n c2] 93)).ownsRow W0.heap.size 93 2 (.slice A (X.chs k).length c) (X.chs k).length (wcs (X.chs k) sl)) := (HW.out.below (HB2.out.alloc HB2.out.size _)).row
          clear h1 h2 h3 h4 h5 HQ
          have hsz : W0.heap.size ≤ (w2.alloc (.cells #[.int .i64 (k : Int), .slice A2 z.n c2] 93)).heap.size := by
            have h5 := HB.out.size
            have h6 := HB2.out.size
            rw [World.size_alloc]
            omega
          have HL1 : Hid ((X.chs k).length ≤ 1000000) := by
            have h5 := HLN.out
            have h6 := HN.out
            show _ ≤ _
            omega
          go_wp2_with (at_builtin
                       go_must (refine wpList_append_own_at _ rfl (.tmp 34) (.tmp 39) 53 rfl W0.heap.size 93 i0 _ 2 32 Tryz.underlying53 HI0.out HZ0.out HZ1.out HZ2.out rfl (by omega) (.slice A (X.chs k).length c) (X.chs k).length (wcs (X.chs k) sl) rfl HRM.out ⟨w2.heap.size, 0, none⟩ 1 1 (wv (k : Int) ⟨A2, z.n, c2⟩) rfl (by simp [wv]) (WR.news w2 k ⟨A2, z.n, c2⟩) (by simp [wv, Value.oneCell']) (by have := HL1.out; unfold maxLen; omega) (by have := HL1.out; omega) hsz ?_)
                       intro v' w8 hown' hgrow _ hat
                       obtain ⟨g', cap', rfl⟩ := ownsRow_succ hown'
                       have HMO := Lib.hid (HW.out.push HB.out.size HB2.out k b ⟨A2, z.n, c2⟩ HS2.out HC2.out HN2.out hown' hgrow hat)
                       have HFO := Lib.hid (HW.out.soft HF.out HB2.out k ⟨A2, z.n, c2⟩ HS2.out HN2.out HF2.out hgrow)
                       clear hown' hgrow hat)
          go_roundw
          case rel => exact ⟨k + 1, cap', some ⟨g', 0, none⟩, _, by omega, by go_num, by rw [HE.out]; simp, HB.out.trans HMO.out.2, by show WR _ _ _ _ _ _; rw [HE.out]; exact HMO.out.1, HFO⟩
          case measure => simp [intOf]; omega
    · obtain rfl : k = x.n := by omega
      go_wp2
      go_ret
      exact ⟨A, c, sl, rfl, HW.out, HB.out, HF.out⟩
end
end Go.Proofs.YtnhokkdieijkhaaGreatDoor

namespace Go.Proofs.YtnhokkdieijkhaaGreatDoor
open Go.RowKit

theorem zeroCells_bc (k : Nat) : Builtin.zeroCells (Value.int .u8 0).cells k = (bc (List.replicate k 0)).toArray := by
  apply Array.ext'
  simp [Builtin.zeroCells, bc, Value.cells, Nat.mod_one]
  rw [List.eq_replicate_iff]
  simp

section
variable {P : Program} (w : World)
/-- append of noughts onto a row of bytes of the call's own. -/
theorem run_append_zeros (base : Nat) (t tn ty e : TypeId) (i : TypeInfo) (ht : P.underlying t = some (.slice e)) (htn : P.underlying tn = some (.int .i64)) (hi : P.info? e = some i) (hz : i.zero = some (.int .u8 0)) (hsize : i.size = 1) (hby : i.bytes = 1)
    (A0 : Option Addr) (n0 c0 : Nat) (l0 : List UInt8) (hown : w.ownsRow base e 1 (.slice A0 n0 c0) n0 (bc l0)) (k : Nat) (hb : n0 + k ≤ 3000000000) (hbase : base ≤ w.heap.size) :
    ∃ A' c' w', (Builtin.append_ #[t, tn] ty #[.slice A0 n0 c0, .int .i64 (k : Int)]).run P w = .ok (.slice A' (n0 + k) c') w' ∧ w'.ownsRow base e 1 (.slice A' (n0 + k) c') (n0 + k) (bc (l0 ++ List.replicate k 0)) ∧
      w.grownBy w' (Value.slice A0 n0 c0).ownBlock := by
  have hlen : (bc (l0 ++ List.replicate k 0)).length = (n0 + k) * 1 := by have := hown.1; rw [bc_length] at this ⊢; simp; omega
  have hzl : (bc (List.replicate k (0 : UInt8))).length = k := by rw [bc_length]; simp
  have hwrap : IntKind.i64.wrap (k : Int) = k := by rw [IntKind.wrap_i64]; omega
  have hneg : ¬ ((k : Int) < 0) := by omega
  have h48i : ¬ (281474976710656 < (k : Int)) := by omega
  have hw0 : IntKind.i64.wrap 0 = 0 := rfl
  have hl0 : (bc l0).length = n0 := by have := hown.1; omega
  have hzc : (Value.int .u8 0).cells.size = 1 := rfl
  rcases hown.2 with ⟨h1, h2⟩ | ⟨g, cap, cur, h1, hbg, hg, hnc, hcm, hcs, htake⟩
  · injection h1 with h1 h3 h4
    subst h1 h2 h4
    obtain rfl : l0 = [] := by cases l0 with | nil => rfl | cons _ _ => simp [bc_length] at hl0
    rcases Nat.eq_zero_or_pos k with hk | hk
    · subst hk
      refine ⟨none, 0, w, ?_, by simpa using hown, World.grownBy.refl w _⟩
      simp [Builtin.append_, run_underlying ht, run_underlying htn, sizeOf, typeInfo, hi, hby, asInt, asIntOf, hw0]
    · have hr := Lib.run_append_nil_zeros (P := P) w t tn ty e i (.int .u8 0) .i64 .i64 ht htn hi hz k hk (by omega) (by omega) (by rw [hby]; omega)
      rw [zeroCells_bc, zeroCells_bc] at hr
      refine ⟨some ⟨w.heap.size, 0, none⟩, _, _, by rw [Nat.zero_add]; exact hr, ⟨hlen, .inr ⟨w.heap.size, _, _, by rw [Nat.zero_add], hbase, heap_alloc_new w.drew _, by rw [Nat.zero_add]; exact grownCap_ge _ _ _ _, grownCap_le_maxLen _ _ _ _ (by unfold maxLen; omega), ?_, ?_⟩⟩, ⟨rfl, rfl, rfl, by simp, fun j hj _ => Below.heap_alloc w.drew _ _ hj⟩⟩
      · have := grownCap_ge w k 0 e
        simp [bc_length]; omega
      · simp only [Array.toList_append, List.nil_append, Nat.zero_add, Nat.mul_one]
        exact List.take_left' hzl
  · injection h1 with h1 h3 h4
    subst h1 h4
    by_cases hroom : n0 + k ≤ c0
    · have hst := run_storeCells_at P g (n0 * 1) e (bc (List.replicate k 0)) 0 cur w hg (by rw [hzl]; omega) (bc_one _)
      simp only [Nat.add_zero] at hst
      refine ⟨some ⟨g, 0, none⟩, c0, w.setRow g (cur.toList.take (n0 * 1) ++ bc (List.replicate k 0) ++ cur.toList.drop (n0 * 1 + (bc (List.replicate k (0 : UInt8))).length)).toArray, ?_, ?_, ?_⟩
      · rcases Nat.eq_zero_or_pos k with hk | hk
        · subst hk
          simp only [Nat.mul_one] at hst
          simp [Builtin.append_, run_underlying ht, run_underlying htn, sizeOf, typeInfo, hi, hsize, hby, asInt, asIntOf, hw0, hnc, Addr.add_lit]
          rw [show bc (List.replicate 0 (0 : UInt8)) = [] from rfl] at hst
          rw [show bc [] = [] from rfl]
          simp only [hst, Result.andThen_ok]
          simp
        · have hk0 : k ≠ 0 := by omega
          simp [Builtin.append_, run_underlying ht, run_underlying htn, sizeOf, typeInfo, zeroValue, hi, hz, hsize, hby, asInt, asIntOf, hwrap, hneg, h48i, hroom, hk0, Addr.add_lit, zeroCells_bc]
          simp only [Nat.mul_one] at hst
          simp only [hst, Result.andThen_ok]
          simp
      · refine ⟨hlen, .inr ⟨g, c0, _, rfl, hbg, setRow_heap w g cur _ e _ hg, hroom, hcm, ?_, ?_⟩⟩
        · simp only [List.size_toArray, List.length_append, List.length_take, List.length_drop, Array.length_toList, hzl]
          omega
        · rw [htake, bc_append, List.append_assoc]
          have e1 : ((n0 + k) * 1) = (bc l0 ++ bc (List.replicate k 0)).length := by rw [List.length_append, hl0, hzl]; omega
          rw [e1, ← List.append_assoc]
          exact List.take_left
      · exact ⟨rfl, rfl, rfl, by simp, fun j _ hj => setRow_other w g j _ (fun e => hj (by simp [Value.ownBlock, e]))⟩
    · have hk : 0 < k := by omega
      have hold : (Builtin.firstCells i.size n0 (.slice (some ⟨g, 0, none⟩) n0 c0)).run P w.drew = .ok (bc l0).toArray w.drew :=
        run_firstCells_some (P := P) w.drew i.size n0 ⟨g, 0, none⟩ n0 c0 (bc l0) (by rw [hl0, hsize]; omega) (hown.cells (g := g) rfl)
      have hr := Lib.run_append_grow_zeros (P := P) w t tn ty e i (.int .u8 0) .i64 .i64 ht htn hi hz (some ⟨g, 0, none⟩) n0 c0 (bc l0) hold k hk (by omega) (by omega) (by omega) (by rw [hby]; omega) (by rw [hby]; exact growslice_fits (by omega) (by omega))
      rw [zeroCells_bc, zeroCells_bc] at hr
      have hge := grownCap_ge w (n0 + k) c0 e
      refine ⟨some ⟨w.heap.size, 0, none⟩, _, _, hr, ⟨hlen, .inr ⟨w.heap.size, _, _, rfl, hbase, heap_alloc_new w.drew _, hge, grownCap_le_maxLen _ _ _ _ (by unfold maxLen; omega), ?_, ?_⟩⟩, ⟨rfl, rfl, rfl, by simp, fun j hj _ => Below.heap_alloc w.drew _ _ hj⟩⟩
      · simp [bc_length] at hl0 ⊢; omega
      · rw [bc_append, Array.toList_append, Array.toList_append]
        have e1 : ((n0 + k) * 1) = (bc l0 ++ bc (List.replicate k 0)).length := by rw [List.length_append, hl0, hzl]; omega
        rw [e1]
        exact List.take_left
end
/-- A byte of a row of the call's own is written. -/
theorem own_set {w : World} {base : Nat} {e : TypeId} {g n c : Nat} {l : List UInt8} (h : w.ownsRow base e 1 (.slice (some ⟨g, 0, none⟩) n c) n (bc l)) {j : Nat} (hj : j < n) :
    (∃ hl : j < l.length, w.cell? ⟨g, j, none⟩ = some (.int .u8 (l[j].toNat : Int))) ∧ w.frozen? ⟨g, j, none⟩ = false ∧ base ≤ g ∧ ∀ b : UInt8, (w.setCell ⟨g, j, none⟩ (.int .u8 (b.toNat : Int))).ownsRow base e 1 (.slice (some ⟨g, 0, none⟩) n c) n (bc (l.set j b)) := by
  have hl : l.length = n := by have := h.1; rw [bc_length] at this; omega
  have hc := h.cells (g := g) rfl j _ (bc_get l j (by omega))
  rw [add_plain, Nat.zero_add] at hc
  rcases h.2 with ⟨h1, _⟩ | ⟨g', cap, cur, h1, hb, hg, hnc, hcm, hcs, ht⟩
  · cases h1
  · injection h1 with h1 _ h5
    injection h1 with h1
    injection h1 with h1 _ _
    subst h1 h5
    refine ⟨⟨by omega, hc⟩, by simp [World.frozen?, hg], hb, fun b => ?_⟩
    refine ⟨by rw [bc_length, List.length_set, hl]; omega, .inr ⟨g, c, cur.setIfInBounds j (.int .u8 (b.toNat : Int)), rfl, hb, ?_, hnc, hcm, ?_, ?_⟩⟩
    · rw [setCell_eq_setRow _ _ _ _ _ _ _ hg, setRow_heap _ _ _ _ _ _ hg]
    · simpa using hcs
    · rw [Array.toList_setIfInBounds, List.take_set, ht]
      simp [bc, List.map_set]

theorem Own.none (w : World) : Own w w none 0 0 [] := ⟨World.ownsRow_nil _ _ _ _, Below.refl _ _⟩
set_option maxRecDepth 100000 in
set_option maxHeartbeats 1000000 in
theorem cloneB_any (A : Option Addr) (n c : Nat) (l : List UInt8) (w : World) (h : BS w A n l) (hn : n ≤ 1000000) :
    Calls Tryz.prog 24 #[.slice A n c] w fun e w' => ∃ A' c', e = .returned (.slice A' n c') ∧ Own w w' A' n c' l := by
  obtain ⟨i, hi, hz, hs, hb⟩ := info_parts info_u8
  have q := fun (w : World) (a : Option Addr) (n c n' c' : Nat) => Lib.run_eql_slice_nil (P := Tryz.prog) w 30 5 a n c n' c' Tryz.underlying30
  have HL := Lib.hid h
  rcases A with _ | ad
  · have h0 : n = 0 := by
      rcases Nat.eq_zero_or_pos n with h0 | h0
      · exact h0
      · obtain ⟨b, o, h, _⟩ := h.2 h0
        cases h
    subst h0
    obtain rfl : l = [] := List.eq_nil_of_length_eq_zero h.1
    clear h
    go_enter Tryz.func24, Tryz.ntmps24
    go_wp2
    go_ret
    exact ⟨none, 0, rfl, Own.none w⟩
  · clear h
    have HO : Hid ((w.alloc (.cells #[] 5)).ownsRow w.heap.size 5 1 (.slice (some ⟨w.heap.size, 0, none⟩) 0 0) 0 (bc [])) := World.ownsRow_made w #[] 0 (Nat.le_refl _) (Nat.zero_le _) rfl
    go_enter Tryz.func24, Tryz.ntmps24
    go_wp2_with (at_builtin; refine wpList_append_bytes _ rfl _ _ 30 rfl w.heap.size 5 i Tryz.underlying30 hi hz hs hb _ _ _ [] rfl HO.out _ _ _ l rfl (HL.out.alloc _) (by omega) (by simp) ?_; intro A' c' w' h1 h2 h3; have H1 := Lib.hid h1; have H2 := Lib.hid h2; clear h1 h2 h3)
    go_ret
    refine ⟨A', c', rfl, by have := H1.out; simpa using this, ?_⟩
    exact ((Below.refl _ w).alloc (Nat.le_refl _) _).grown H2.out (by simp) (by intro k hk; simp [Value.ownBlock] at hk; omega)

set_option maxRecDepth 100000 in
set_option maxHeartbeats 1000000 in
theorem extended_any (base : Nat) (A : Option Addr) (n c : Nat) (l : List UInt8) (k : Nat) (w : World) (h : w.ownsRow base 5 1 (.slice A n c) n (bc l)) (hb : base ≤ w.heap.size) (hn : n ≤ 1000000) (hk : k ≤ 1000000000) :
    Calls Tryz.prog 105 #[.slice A n c, .int .i64 (k : Int)] w fun e w' => ∃ A' c', e = .returned (.slice A' (n + (k - n)) c') ∧ w'.ownsRow base 5 1 (.slice A' (n + (k - n)) c') (n + (k - n)) (bc (l ++ List.replicate (k - n) 0)) ∧ Keep (· < base) w w' := by
  obtain ⟨i, hi, hz, hs, hb1⟩ := info_parts info_u8
  have HO := Lib.hid h
  obtain ⟨A', c', w', hr, h1, h2⟩ := run_append_zeros (P := Tryz.prog) w base 30 3 30 5 i Tryz.underlying30 Tryz.underlying3 hi hz hs hb1 A n c l h (k - n) (by omega) hb
  have HR := Lib.hid hr
  have H1 := Lib.hid h1
  have H2 := Lib.hid h2
  have HM : Hid (max ((k : Int) - (n : Int)) 0 = ((k - n : Nat) : Int)) := by show _ = _; omega
  clear h hr h1 h2
  go_enter Tryz.func105, Tryz.ntmps105
  go_wp2_with (at_builtin; refine Lib.wpList_append_run _ rfl _ _ _ _ rfl _ _ rfl (by rw [← HM.out]; rfl) _ _ HR.out ?_)
  go_ret
  exact ⟨A', c', rfl, H1.out, ⟨H2.out.os, H2.out.tape, H2.out.output, H2.out.size, fun j hj => H2.out.block j (by omega) (fun e => by have := (HO.out.lt j e.symm).1; omega)⟩⟩

theorem take_trim {l : List UInt8} {k : Nat} (hk : k < l.length) (h : l[k] = 0) : Bt.trim (l.take (k + 1)) = Bt.trim (l.take k) := by
  rw [List.take_succ_eq_append_getElem hk, h, Bt.trim_zero]
theorem take_trimmed {l : List UInt8} {k : Nat} (hk : k < l.length) (h : l[k] ≠ 0) : Bt.trim (l.take (k + 1)) = l.take (k + 1) := by
  rw [List.take_succ_eq_append_getElem hk, Bt.trim_other _ h]

set_option maxRecDepth 100000 in
set_option maxHeartbeats 1000000 in
theorem trimByte_any (A : Option Addr) (n c : Nat) (l : List UInt8) (w : World) (h : BS w A n l) (hn : n ≤ 1000000000) (hc : n ≤ c) :
    Calls Tryz.prog 114 #[.slice A n c, .int .u8 0] w fun e w' => e = .returned (.slice A (Bt.trim l).length c) ∧ Hid (BS w A (Bt.trim l).length (Bt.trim l)) ∧ w = w' := by
  have HL := Lib.hid h
  have HLN : Hid (l.length = n) := h.1
  clear h
  go_enter Tryz.func114, Tryz.ntmps114
  go_wp2
  go_loop [0] (fun v => ∃ k : Nat, k ≤ n ∧ v = .slice A k c ∧ Hid (Bt.trim (l.take k) = Bt.trim l)) (fun v => match v with | .slice _ k _ => k | _ => 0)
  case atStart => exact ⟨n, Nat.le_refl _, rfl, by show _ = _; rw [List.take_of_length_le (by rw [HLN.out]; exact Nat.le_refl _)]⟩
  case round =>
    obtain ⟨k, hk, rfl, HT⟩ := hrel
    rcases Nat.eq_zero_or_pos k with hk0 | hk0
    · subst hk0
      have HE : Hid (Bt.trim l = []) := by show _ = _; rw [← HT.out]; rfl
      go_wp2
      go_ret
      rw [HE.out]
      exact ⟨rfl, BS.nil, rfl⟩
    · obtain ⟨j, rfl⟩ : ∃ j, k = j + 1 := ⟨k - 1, by omega⟩
      have hj : j < n := by omega
      obtain ⟨b, o, rfl, hjl, hcell⟩ := HL.out.at hj
      have e1 : ((j + 1 : Nat) : Int) - 1 = (j : Int) := by omega
      by_cases hz : l[j] = 0
      · have HT2 : Hid (Bt.trim (l.take j) = Bt.trim l) := by show _ = _; rw [← HT.out, take_trim hjl hz]
        rw [hz] at hcell
        clear hz
        go_wp2
        go_round
        case rel => exact ⟨j, by omega, rfl, HT2⟩
        case measure => simp
      · have HE : Hid (Bt.trim l = l.take (j + 1)) := by show _ = _; rw [← HT.out, take_trimmed hjl hz]
        have hz2 : ((l[j].toNat : Int) == 0) = false := by
          have : l[j].toNat ≠ 0 := fun e => hz (UInt8.toNat_inj.1 (by simpa using e))
          simp; omega
        have HLT := Lib.hid (HL.out.take (k := j + 1) (by omega))
        have HLL : Hid ((l.take (j + 1)).length = j + 1) := by show _ = _; rw [List.length_take]; omega
        clear hz
        go_wp2
        go_ret
        rw [HE.out, HLL.out]
        exact ⟨rfl, HLT.out, rfl⟩

set_option maxRecDepth 100000 in
set_option maxHeartbeats 1000000 in
theorem trimRight_any (A : Option Addr) (n c : Nat) (l : List UInt8) (w : World) (h : BS w A n l) (hn : n ≤ 1000000000) (hc : n ≤ c) :
    Calls Tryz.prog 106 #[.slice A n c, .string ⟨#[0]⟩] w fun e w' => e = .returned (.slice A (Bt.trim l).length c) ∧ Hid (BS w A (Bt.trim l).length (Bt.trim l)) ∧ w = w' := by
  have HL := Lib.hid h
  have HLN : Hid (l.length = n) := h.1
  clear h
  rcases Nat.eq_zero_or_pos n with h0 | h0
  · subst h0
    have HE : Hid (l = []) := List.eq_nil_of_length_eq_zero HLN.out
    go_enter Tryz.func106, Tryz.ntmps106
    go_wp2
    go_ret
    rw [HE.out]
    exact ⟨rfl, BS.nil, rfl⟩
  · have hd : ((n : Int) == 0) = false := by simp; omega
    go_enter Tryz.func106, Tryz.ntmps106
    go_wp2_with fail
    refine (trimByte_any A n c l _ HL.out hn hc).mono ?_
    rintro e w' ⟨rfl, HB, rfl⟩
    go_wp2
    go_ret
    exact ⟨rfl, HB, rfl⟩
end Go.Proofs.YtnhokkdieijkhaaGreatDoor

namespace Go.Proofs.YtnhokkdieijkhaaGreatDoor
open Go.RowKit Go.Shelf
attribute [local go_sem] Oper.semAt_some

/-- The cells of numbers. -/
def ic (l : List Nat) : List Value := l.map fun k : Nat => Value.int .i64 (k : Int)
theorem ic_length (l : List Nat) : (ic l).length = l.length := by simp [ic]
theorem ic_append (a b : List Nat) : ic (a ++ b) = ic a ++ ic b := by simp [ic]
/-- A slice of numbers. -/
def BNS (w : World) (A : Option Addr) (n : Nat) (l : List Nat) : Prop :=
  l.length = n ∧ (0 < n → ∃ b o, A = some ⟨b, o, none⟩ ∧ ∀ j (hj : j < l.length), w.cell? ⟨b, o + j, none⟩ = some (.int .i64 (l[j] : Int)))
theorem info_int : (Tryz.prog.info? 3).map (fun i => (i.zero, i.size, i.bytes)) = some (some (.int .i64 0), 1, 8) := by kernel_rfl

theorem many_eq (l : List UInt8) (n : Int) : max n 0 - (Bt.cnt l n.toNat : Int) = ((Bt.fr l n.toNat).length : Int) := by
  have := Bt.fr_cnt l n.toNat
  omega

set_option maxRecDepth 100000 in
set_option maxHeartbeats 1000000 in
theorem draw_no (A : Option Addr) (m c : Nat) (l : List UInt8) (n many : Int) (w : World) (h : BS w A m l) (hn : n ≤ 1000000) (hm : m ≤ 1000000) (hno : many < 0 ∨ (Bt.fr l n.toNat).length < many) :
    Calls Tryz.prog 89 #[.slice A m c, .int .i64 n, .int .i64 many] w fun e w' => e = .returned (.tuple #[.slice none 0 0, .int .i64 (Bt.drwE l n many)]) ∧ Below w.heap.size w w' := by
  have HL := Lib.hid h
  have HLN : Hid (l.length = m) := h.1
  clear h
  by_cases h0 : many < 0
  · have HE : Hid (Bt.drwE l n many = 1) := by show _ = _; unfold Bt.drwE; rw [if_pos h0]
    clear hno
    go_enter Tryz.func89, Tryz.ntmps89
    go_wp2
    go_ret2
    rw [HE.out]
    exact ⟨rfl, (Below.refl _ _).alloc (Nat.le_refl _) _⟩
  · have hlt : ((Bt.fr l n.toNat).length : Int) < many := by omega
    have HE : Hid (Bt.drwE l n many = 66) := by show _ = _; unfold Bt.drwE; rw [if_neg h0, if_pos hlt]
    have hm := many_eq l n
    have hc := Bt.cnt_le l n.toNat
    have hw : IntKind.i64.wrap (max n 0 - (Bt.cnt l n.toNat : Int)) = ((Bt.fr l n.toNat).length : Int) := by rw [hm]; exact IntWalk.i64_in _ (by have := Bt.fr_len_le l n.toNat; omega)
    have hd : decide (((Bt.fr l n.toNat).length : Int) < many) = true := by simpa using hlt
    clear hm hc
    go_enter Tryz.func89, Tryz.ntmps89
    go_wp2_with fail
    go_quiet ((go_at_call 40; exact Calls.quiet_of (count_any A m c l n _ (HL.out.alloc _) hn (by omega))))
    go_wp2
    go_ret2
    rw [HE.out]
    exact ⟨rfl, below_drewN ((Below.refl _ _).alloc (Nat.le_refl _) _) _⟩

/-- What Draw knows between two rounds: what was drawn lies in the row that it made. -/
structure DrI (W0 : World) (g Bd many : Nat) (pre : List Nat) (W : World) : Prop where
  keep : Keep (fun k => k ≠ g ∧ k ≠ Bd ∧ k < W0.heap.size) W0 W
  row : W.ownsRow g 3 1 (.slice (some ⟨g, 0, none⟩) pre.length many) pre.length (ic pre)
  box : W.heap[Bd]? = some (.cells #[.slice (some ⟨g, 0, none⟩) pre.length many] 112 (0, 0))
  few : pre.length ≤ many
  glt : g < W0.heap.size
  blt : Bd < W0.heap.size
  ne : g ≠ Bd
theorem DrI.grown {W0 : World} {g Bd many : Nat} {pre : List Nat} {W W' : World} {row : Option Nat} (h : DrI W0 g Bd many pre W) (hg : W.grownBy W' row) (hr : ∀ r, row = some r → W0.heap.size ≤ r) : DrI W0 g Bd many pre W' :=
  have hs := h.keep.size
  ⟨h.keep.trans ⟨hg.os, hg.tape, hg.output, hg.size, fun k hk => hg.block k (by omega) (fun e => by have := hr k e.symm; omega)⟩,
    h.row.kept hg (.inr fun e => by have := hr g (by rw [← e]; rfl); have := h.glt; omega), (hg.block _ (by have := h.blt; omega) (fun e => by have := hr Bd e.symm; have := h.blt; omega)).trans h.box, h.few, h.glt, h.blt, h.ne⟩
theorem DrI.own {W0 : World} {g Bd many : Nat} : OwnFrom W0.heap.size (DrI W0 g Bd many) := fun _ _ _ _ h hg hr => h.grown hg fun r e => (hr r e).1

theorem BNS.of_row {w : World} {g n c : Nat} {l : List Nat} (h : w.ownsRow g 3 1 (.slice (some ⟨g, 0, none⟩) n c) n (ic l)) : BNS w (some ⟨g, 0, none⟩) n l := by
  have hl : l.length = n := by have := h.1; rw [ic_length] at this; omega
  refine ⟨hl, fun _ => ⟨g, 0, rfl, fun j hj => ?_⟩⟩
  have := h.cells (g := g) rfl j (.int .i64 (l[j] : Int)) (by simp [ic, hj])
  rwa [add_plain] at this
/-- At the end: the mark of the calls that wait is put away. -/
theorem DrI.end {w W0 W : World} {g Bd many D : Nat} {pre : List Nat} (h : DrI W0 g Bd many pre W) (hb : Below w.heap.size w W0) (hg : w.heap.size ≤ g) (hB : w.heap.size ≤ Bd) (hD : W0.heap.size ≤ D) (hp : pre.length = many) (o : Obj) :
    BNS (W.putObj D o) (some ⟨g, 0, none⟩) many pre ∧ Below w.heap.size w (W.putObj D o) := by
  have h2 := h.grown (grownBy_putObj' W D o) (fun r e => by cases e; exact hD)
  have hr := h2.row
  rw [hp] at hr
  have hs := hb.size
  exact ⟨BNS.of_row hr, hb.trans (Keep.below (h2.keep.mono fun k hk => ⟨by omega, by omega, by omega⟩))⟩

set_option maxRecDepth 100000 in
set_option maxHeartbeats 2000000 in
theorem draw_ok (A : Option Addr) (m c : Nat) (l : List UInt8) (n : Int) (many : Nat) (w : World) (h : BS w A m l) (hn : n ≤ 1000000) (hm : m ≤ 1000000) (hok : many ≤ (Bt.fr l n.toNat).length) :
    Calls Tryz.prog 89 #[.slice A m c, .int .i64 n, .int .i64 (many : Int)] w fun e w' => ∃ A' c', e = .returned (.tuple #[.slice A' many c', .int .i64 0]) ∧ BNS w' A' many ((Bt.fr l n.toNat).take many) ∧ Below w.heap.size w w' := by
  have HL := Lib.hid h
  have HLN : Hid (l.length = m) := h.1
  clear h
  have hme := many_eq l n
  have hfl := Bt.fr_len_le l n.toNat
  obtain ⟨ii, hii, hiz, his, hib⟩ := info_parts info_int
  have hw : IntKind.i64.wrap (max n 0 - (Bt.cnt l n.toNat : Int)) = ((Bt.fr l n.toNat).length : Int) := by rw [hme]; exact IntWalk.i64_in _ (by omega)
  have hd : decide ((Bt.fr l n.toNat).length < many) = false := by simp; omega
  have hd3 : decide ((many : Int) < 0) = false := by simp
  have hmy : (many : Int) ≤ 2147483647 := by omega
  have hd2 : decide ((2147483647 : Int) < (many : Int)) = false := by simp; omega
  have HMY : Hid (many ≤ 1000000) := by show _ ≤ _; omega
  have HOK := Lib.hid hok
  clear hme hfl hmy hok
  refine (callsIn_wide (n := 9)).1 ?_
  refine callsIn_of_wp_marks Tryz.func89 rfl trivial ?_ rfl
  simp only [Tryz.ntmps89, List.size_toArray, List.length_cons, List.length_nil, Nat.reduceAdd, Nat.reduceSub, Array.replicate_succ, Array.replicate_zero, List.push_toArray, List.append_toArray, List.nil_append, List.cons_append]
  refine wpIn_wide.2 ?_
  go_wp2_with fail
  go_quiet ((go_at_call 40; exact Calls.quiet_of (count_any A m c l n _ (HL.out.alloc _) hn (by omega))))
  clear hw hd hd2 hd3
  have HW1 : Hid (Below w.heap.size w ((w.alloc (.cells #[.int .i64 (many : Int)] 3)).drewN nq)) := below_drewN ((Below.refl _ _).alloc (Nat.le_refl _) _) _
  have HB1 : Hid (((w.alloc (.cells #[.int .i64 (many : Int)] 3)).drewN nq).heap[w.heap.size]? = some (.cells #[.int .i64 (many : Int)] 3 (0, 0))) := heap_alloc_new w _
  have HZ1 : Hid (((w.alloc (.cells #[.int .i64 (many : Int)] 3)).drewN nq).heap.size = w.heap.size + 1) := by show _ = _; simp
  generalize (w.alloc (.cells #[.int .i64 (many : Int)] 3)).drewN nq = w1 at *
  have c1 : w1.cell? ⟨w.heap.size, 0, none⟩ = some (.int .i64 (many : Int)) := by rw [cell_of_row _ _ _ _ _ _ HB1.out]; rfl
  obtain ⟨w2, hr2, ho2, hg2⟩ := run_make_own (P := Tryz.prog) w1 w1.heap.size 112 3 ii (.int .i64 0) 1 Tryz.underlying112 hii hiz his .i64 .i64 many (by rw [hib]; have := HMY.out; omega) (by have := HMY.out; unfold maxLen; omega) (Nat.le_refl _)
  have hz2 := hg2.size
  have HO2 := Lib.hid ho2
  have HG2 := Lib.hid hg2
  clear ho2 hg2
  have hgl : w1.heap.size < w2.heap.size := (HO2.out.lt _ rfl).2
  go_wp2_with fail
  refine (free_any A m c n _).mono ?_
  rintro e W0 ⟨rfl, hW0⟩
  have HBW : Hid (Below w.heap.size w W0) := by
    show Below _ _ _
    rw [hW0]
    exact ((((HW1.out.grown HG2.out HW1.out.size (fun k e => by cases e)).alloc (by have := HW1.out.size; omega) _).alloc (by have := HW1.out.size; simp; omega) _).alloc (by have := HW1.out.size; simp; omega) _)
  have HZ0 : Hid (W0.heap.size = w2.heap.size + 3) := by show _ = _; rw [hW0]; simp
  have HI0 : Hid (DrI W0 w1.heap.size w2.heap.size many [] W0) := by
    refine ⟨Keep.refl _ _, ?_, ?_, Nat.zero_le _, by rw [HZ0.out]; omega, by rw [HZ0.out]; omega, by omega⟩
    · rw [hW0]; exact ((HO2.out.alloc _).alloc _).alloc _
    · rw [hW0, Below.heap_alloc _ _ _ (by simp; omega), Below.heap_alloc _ _ _ (by simp)]; exact heap_alloc_new w2 _
  have HP0 : Hid (W0.heap[w2.heap.size + 1]? = some (.cells #[.slice A m c] 30 (0, 0))) := by
    show _ = _
    rw [hW0, Below.heap_alloc _ _ _ (by simp)]
    have := heap_alloc_new (w2.alloc (.cells #[.slice (some ⟨w1.heap.size, 0, none⟩) 0 many] 112)) (.cells #[.slice A m c] 30)
    rwa [World.size_alloc] at this
  have HN0 : Hid (W0.heap[w2.heap.size + 2]? = some (.cells #[.int .i64 n] 3 (0, 0))) := by
    show _ = _
    rw [hW0]
    have := heap_alloc_new ((w2.alloc (.cells #[.slice (some ⟨w1.heap.size, 0, none⟩) 0 many] 112)).alloc (.cells #[.slice A m c] 30)) (.cells #[.int .i64 n] 3)
    rwa [World.size_alloc, World.size_alloc] at this
  have HM0 : Hid (W0.heap[w.heap.size]? = some (.cells #[.int .i64 (many : Int)] 3 (0, 0))) := by
    show _ = _
    have hz1 := HZ1.out
    rw [hW0, Below.heap_alloc _ _ _ (by simp; omega), Below.heap_alloc _ _ _ (by simp; omega), Below.heap_alloc _ _ _ (by omega), HG2.out.block _ (by omega) (by simp)]
    exact HB1.out
  clear hW0 hr2 hz2 c1
  go_wp2_with fail
  refine (wpIn_wide (n := 9)).1 ?_
  refine wpIn_rangeFunc_ownG rfl (by omega) (gf := 118) (lb := #[.pointer (some ⟨w2.heap.size + 2, 0, none⟩), .pointer (some ⟨w2.heap.size + 1, 0, none⟩)]) ?hg trivial (enters_of Tryz.func118 (by kernel_rfl) rfl)
    (free_stops (9 - 1) (by omega) (w2.heap.size + 2) (w2.heap.size + 1) n n.toNat rfl A m c l (fun k => k ≠ w1.heap.size ∧ k ≠ w2.heap.size ∧ k < W0.heap.size) W0 (by rw [cell_of_row _ _ _ _ _ _ HN0.out]; rfl) (by rw [cell_of_row _ _ _ _ _ _ HP0.out]; rfl) (HL.out.below HBW.out) ⟨by omega, by omega, by have := HZ0.out; omega⟩
      (fun hm0 ad ha => by have h1 := HL.out.lt_block hm0 ad ha; have := HZ0.out; have := HZ1.out; exact ⟨by omega, by omega, by omega⟩) (by omega) (by omega) (by have := HZ0.out; omega) (by have := HZ0.out; omega))
    (fun h k => Keep.trans h k) ?hKb (Below.refl _ _) (fun _ => rfl) (DrI W0 w1.heap.size w2.heap.size many) (fun c xs W => c = Code.exit 0 ∧ DrI W0 w1.heap.size w2.heap.size many xs.dropLast W ∧ xs.dropLast.length = many) DrI.own ?hIx HI0.out
    (fun x => { tmps := #[.slice A m c, .int .i64 n, .int .i64 (many : Int), undef, undef, .pointer (some ⟨w.heap.size, 0, none⟩), .slice none 0 0, .int .i64 0, .pointer (some ⟨w2.heap.size, 0, none⟩), .int .i64 (x : Int), .int .i64 (many : Int), .bool false, .int .i64 (many : Int), .int .i64 n, .int .i64 (max n 0), .slice A m c, .int .i64 n, .int .i64 (Bt.cnt l n.toNat : Int), .int .i64 ((Bt.fr l n.toNat).length : Int), .bool false, .bool false, .int .i64 (many : Int), .bool false, .bool false, .int .i64 (many : Int), .slice (some ⟨w1.heap.size, 0, none⟩) 0 many, .slice A m c, .int .i64 n, .func (.func 118) #[] #[.pointer (some ⟨w2.heap.size + 2, 0, none⟩), .pointer (some ⟨w2.heap.size + 1, 0, none⟩)], .int .i64 (x : Int), undef, undef, undef, undef, undef, undef, undef, undef, undef], defers := [] }) ?assign ?body ?done ?stop
  case hg => rfl
  case hKb =>
    intro W l o o' hl hb ho hw'
    have hg := grownBy_putObj' W l o'
    have hlt := (Array.getElem?_eq_some_iff.1 hb).1
    exact ⟨hg.os, hg.tape, hg.output, hg.size, fun k hk => hg.block k (by omega) (fun e => by cases e; omega)⟩
  case hIx =>
    intro c xs W W' row h hgr hr
    exact ⟨h.1, DrI.own _ _ _ _ h.2.1 hgr hr, h.2.2⟩
  case assign =>
    intro l x W K hK
    gi_wp2
    exact hK
  case body =>
    rintro lp pre x W hI hlen
    have HI := Lib.hid hI
    have hz0 := HZ0.out
    have hz1 := HZ1.out
    have HMW : Hid (W.heap[w.heap.size]? = some (.cells #[.int .i64 (many : Int)] 3 (0, 0))) := (hI.keep.block _ ⟨by omega, by omega, by omega⟩).trans HM0.out
    have cm : W.cell? ⟨w.heap.size, 0, none⟩ = some (.int .i64 (many : Int)) := by rw [cell_of_row _ _ _ _ _ _ HMW.out]; rfl
    have cb : W.cell? ⟨w2.heap.size, 0, none⟩ = some (.slice (some ⟨w1.heap.size, 0, none⟩) pre.length many) := by rw [cell_of_row _ _ _ _ _ _ hI.box]; rfl
    have hws := hI.keep.size
    clear hI
    by_cases hpm : pre.length = many
    · have hd : ((pre.length : Int) == (many : Int)) = true := by simp; omega
      have HPM := Lib.hid hpm
      clear hpm hz0 hz1
      gi_wp2
      exact ⟨KeepsFrom.refl _ _, rfl, by rw [List.dropLast_concat]; exact HI.out, by rw [List.dropLast_concat]; exact HPM.out⟩
    · have hlt : pre.length < many := by have := HI.out.few; omega
      have hd : ((pre.length : Int) == (many : Int)) = false := by simp; omega
      have cb1 : (W.alloc (.cells #[.int .i64 (x : Int)] 3)).cell? ⟨w2.heap.size, 0, none⟩ = some (.slice (some ⟨w1.heap.size, 0, none⟩) pre.length many) := (World.cell?_alloc_lt _ _ _ (by show w2.heap.size < _; omega)).trans cb
      have HROW := Lib.hid (HI.out.row.alloc (.cells #[.int .i64 (x : Int)] 3))
      have HNEW : Hid (∀ j u, [Value.int .i64 (x : Int)][j]? = some u → (W.alloc (.cells #[.int .i64 (x : Int)] 3)).cell? ((⟨W.heap.size, 0, none⟩ : Addr).add j) = some u) := cell_one_new W _ _
      have hbl : w2.heap.size < W.heap.size := by omega
      have hgW : w1.heap.size < W.heap.size := by omega
      clear hpm hz0 hz1
      gi_wp2_with (first
        | (gi_at_builtin; refine wpListIn_append_fits _ rfl _ _ 112 rfl w1.heap.size 3 ii 1 Tryz.underlying112 hii his w1.heap.size pre.length many (ic pre) rfl HROW.out ⟨W.heap.size, 0, none⟩ 1 1 [.int .i64 (x : Int)] rfl rfl HNEW.out (fun u hu => by obtain rfl := List.mem_singleton.1 hu; rfl) (by omega) ?_
           intro w4 ho4 hg4
           have HB4 : Hid (w4.heap[w2.heap.size]? = some (.cells #[.slice (some ⟨w1.heap.size, 0, none⟩) pre.length many] 112 (0, 0))) := (hg4.block _ (by simp; omega) (by simp; omega)).trans ((Below.heap_alloc _ _ _ (by omega)).trans HI.out.box)
           have cb4 : w4.cell? ⟨w2.heap.size, 0, none⟩ = some (.slice (some ⟨w1.heap.size, 0, none⟩) pre.length many) := by rw [cell_of_row _ _ _ _ _ _ HB4.out]; rfl
           have fb4 : w4.frozen? ⟨w2.heap.size, 0, none⟩ = false := by simp [World.frozen?, HB4.out]
           have HO4 := Lib.hid ho4
           have HG4 := Lib.hid hg4
           clear ho4 hg4))
      have hz0 := HZ0.out
      have hz1 := HZ1.out
      have hk4 : Keep (fun k => k ≠ w1.heap.size ∧ k ≠ w2.heap.size ∧ k < W.heap.size) W (w4.setCell ⟨w2.heap.size, 0, none⟩ (.slice (some ⟨w1.heap.size, 0, none⟩) (pre.length + 1) many)) :=
        Keep.setCell (((Keep.refl _ W).alloc (fun k hk => hk.2.2) _).trans ⟨HG4.out.os, HG4.out.tape, HG4.out.output, HG4.out.size, fun k hk => HG4.out.block k (by simp; omega) (fun e => hk.1 (by simpa using e))⟩) (p := ⟨w2.heap.size, 0, none⟩) (fun h => h.2.1 rfl) _
      refine ⟨⟨hk4.size, fun k o hB hk ho => (hk4.block k ⟨by omega, by omega, (Array.getElem?_eq_some_iff.1 hk).1⟩).trans hk⟩, hk4.mono (fun k hk => ⟨hk.1, hk.2.1, by omega⟩), ?_⟩
      refine ⟨HI.out.keep.trans (hk4.mono fun k hk => ⟨hk.1, hk.2.1, by omega⟩), ?_, ?_, by rw [List.length_append]; simp; omega, by omega, by omega, by omega⟩
      · have hr := HO4.out.kept (w' := w4.setCell ⟨w2.heap.size, 0, none⟩ (.slice (some ⟨w1.heap.size, 0, none⟩) (pre.length + 1) many)) (row := some w2.heap.size) ⟨rfl, rfl, rfl, by simp [World.setCell], fun k _ hk => Below.heap_setCell _ _ _ _ (fun e => hk (by rw [e]))⟩ (.inr (by simp [Value.ownBlock]; omega))
        have e1 : (pre ++ [x]).length = pre.length + 1 := by simp
        rw [e1, ic_append]
        exact hr
      · rw [setCell_eq_setRow _ _ _ _ _ _ _ HB4.out, setRow_heap _ _ _ _ _ _ HB4.out]
        simp
  case done =>
    rintro D ys W hD rfl hI hK
    have HI := Lib.hid hI
    have hmany : (Bt.fr l n.toNat).length = many := by have := hI.few; have := HOK.out; omega
    have cb : W.cell? ⟨w2.heap.size, 0, none⟩ = some (.slice (some ⟨w1.heap.size, 0, none⟩) (Bt.fr l n.toNat).length many) := by rw [cell_of_row _ _ _ _ _ _ hI.box]; rfl
    have HMA := Lib.hid hmany
    have HK := Lib.hid hK
    clear hI hmany hK
    go_wp2
    obtain ⟨h1, h2⟩ := DrI.end HI.out HBW.out (by have := HZ1.out; omega) (by have := HZ1.out; omega) hD HMA.out (.deferred none)
    refine ⟨by simp, .inl ⟨_, _, rfl, run_takeDeferred HK.out, ?_⟩⟩
    refine ⟨_, results_tmp2 rfl _ _ _, some ⟨w1.heap.size, 0, none⟩, many, ?_, ?_, h2⟩
    · rw [← HMA.out]; rfl
    · rw [← HMA.out, List.take_length]; rw [HMA.out]; exact h1
  case stop =>
    rintro D c pre W hD ⟨r, hr⟩ ⟨rfl, hI, hlen⟩ hK
    obtain ⟨r', hr'⟩ : ∃ r', Bt.fr l n.toNat = pre.dropLast ++ r' := by
      rcases List.eq_nil_or_concat pre with e | ⟨a, b, e⟩
      · subst e; exact ⟨r, hr⟩
      · subst e; exact ⟨[b] ++ r, by rw [hr]; simp⟩
    clear hr
    generalize pre.dropLast = q at *
    have HI := Lib.hid hI
    have cb : W.cell? ⟨w2.heap.size, 0, none⟩ = some (.slice (some ⟨w1.heap.size, 0, none⟩) q.length many) := by rw [cell_of_row _ _ _ _ _ _ hI.box]; rfl
    have HK := Lib.hid hK
    have HR := Lib.hid hr'
    have HLE := Lib.hid hlen
    clear hI hK hr' hlen
    refine wpIn_wide.2 ?_
    go_wp2
    obtain ⟨h1, h2⟩ := DrI.end HI.out HBW.out (by have := HZ1.out; omega) (by have := HZ1.out; omega) hD HLE.out (.deferred none)
    refine ⟨by simp, .inl ⟨_, _, rfl, run_takeDeferred HK.out, ?_⟩⟩
    refine ⟨_, results_tmp2 rfl _ _ _, some ⟨w1.heap.size, 0, none⟩, many, ?_, ?_, h2⟩
    · rw [← HLE.out]; rfl
    · rw [HR.out, ← HLE.out, List.take_left]
      rw [HLE.out]
      exact h1

theorem draw_any (A : Option Addr) (m c : Nat) (l : List UInt8) (n many : Int) (w : World) (h : BS w A m l) (hn : n ≤ 1000000) (hm : m ≤ 1000000) :
    Calls Tryz.prog 89 #[.slice A m c, .int .i64 n, .int .i64 many] w fun e w' => ∃ A' k c', e = .returned (.tuple #[.slice A' k c', .int .i64 (Bt.drwE l n many)]) ∧ BNS w' A' k (Bt.drw l n many) ∧ Below w.heap.size w w' := by
  by_cases hno : many < 0 ∨ (Bt.fr l n.toNat).length < many
  · refine (draw_no A m c l n many w h hn hm hno).mono ?_
    rintro e w' ⟨rfl, hb⟩
    have e2 : Bt.drw l n many = [] := by
      unfold Bt.drw
      rcases hno with h1 | h1
      · rw [if_pos h1]
      · split
        · rfl
        · rfl
    exact ⟨none, 0, 0, rfl, by rw [e2]; exact ⟨rfl, fun h => absurd h (by omega)⟩, hb⟩
  · obtain ⟨k, rfl⟩ := Int.eq_ofNat_of_zero_le (show 0 ≤ many by omega)
    refine (draw_ok A m c l n k w h hn hm (by omega)).mono ?_
    rintro e w' ⟨A', c', rfl, h1, h2⟩
    have e1 : Bt.drwE l n (k : Int) = 0 := by unfold Bt.drwE; rw [if_neg (by omega), if_neg (by omega)]
    have e2 : Bt.drw l n (k : Int) = (Bt.fr l n.toNat).take k := by unfold Bt.drw; rw [if_neg (by omega), if_neg (by omega)]; simp
    exact ⟨A', k, c', by rw [e1], by rw [e2]; exact h1, h2⟩
end Go.Proofs.YtnhokkdieijkhaaGreatDoor

namespace Go.Proofs.YtnhokkdieijkhaaGreatDoor
open Go.RowKit

/-- What With's closure hands back. -/
theorem or_all : ∀ x : Fin 256, ∀ k : Fin 8, Go.bits .or .u8 (x.1 : Int) (2 ^ k.1 : Int) = ((if x.1.testBit k.1 then x.1 else x.1 + 2 ^ k.1 : Nat) : Int) := by decide +kernel
theorem andNot_all : ∀ x : Fin 256, ∀ k : Fin 8, Go.bits .andNot .u8 (x.1 : Int) (2 ^ k.1 : Int) = ((if x.1.testBit k.1 then x.1 - 2 ^ k.1 else x.1 : Nat) : Int) := by decide +kernel
theorem pow_small : ∀ k : Fin 8, (2 ^ k.1 : Int) % (256 : Int) = (2 ^ k.1 : Int) := by decide +kernel
theorem chg_or (b : UInt8) (k : Nat) (hk : k < 8) : Go.bits .or .u8 (b.toNat : Int) (2 ^ k : Int) = ((Bt.chg b k true).toNat : Int) := by
  rw [Bt.chg_nat b k hk, or_all ⟨b.toNat, b.toNat_lt⟩ ⟨k, hk⟩]
  simp
theorem chg_andNot (b : UInt8) (k : Nat) (hk : k < 8) : Go.bits .andNot .u8 (b.toNat : Int) (2 ^ k : Int) = ((Bt.chg b k false).toNat : Int) := by
  rw [Bt.chg_nat b k hk, andNot_all ⟨b.toNat, b.toNat_lt⟩ ⟨k, hk⟩]
  simp

set_option maxRecDepth 100000 in
set_option maxHeartbeats 1000000 in
theorem change_any (b : UInt8) (i : Nat) (t : Bool) (bi bt : Nat) (w : World) (hi : w.cell? ⟨bi, 0, none⟩ = some (.int .i64 (i : Int))) (ht : w.cell? ⟨bt, 0, none⟩ = some (.bool t)) (hb : i ≤ 1000000000) :
    Calls Tryz.prog 104 #[.int .u8 (b.toNat : Int), .pointer (some ⟨bt, 0, none⟩), .pointer (some ⟨bi, 0, none⟩)] w fun e w' => e = .returned (.int .u8 ((Bt.chg b (7 - i % 8) t).toNat : Int)) ∧ w = w' := by
  have H1 := Lib.hid (chg_or b (7 - i % 8) (by omega))
  have H2 := Lib.hid (chg_andNot b (7 - i % 8) (by omega))
  have H3 : Hid ((2 ^ (7 - i % 8) : Int) % (256 : Int) = (2 ^ (7 - i % 8) : Int)) := pow_small ⟨7 - i % 8, by omega⟩
  have hby := b.toNat_lt
  cases t
  all_goals
    go_enter Tryz.func104, Tryz.ntmps104
    go_wp2_with (go_at_call 96; refine (height_any i _ (by omega)).mono ?_; rintro e w' ⟨rfl, rfl⟩)
    go_ret
    exact ⟨ret_int (by rw [H3.out]; first | exact H1.out | exact H2.out), rfl⟩

theorem own_cap {w : World} {base : Nat} {e : TypeId} {A : Option Addr} {n c : Nat} {l : List Value} (h : w.ownsRow base e 1 (.slice A n c) n l) : n ≤ c := by
  rcases h.2 with ⟨_, h0⟩ | ⟨_, _, _, h1, _, _, h2, _⟩
  · omega
  · injection h1 with _ _ h3
    omega
theorem pre_yes (l : List UInt8) (k : Nat) {n : Nat} (h : l.length = n) : l ++ List.replicate (k / 8 + 1 - n) 0 = Bt.pre l k true := by subst h; rfl
theorem put_at {L : List UInt8} {k : Nat} (h : k / 8 < L.length) (t : Bool) (l : List UInt8) (e : Bt.pre l k t = L) : L.set (k / 8) (Bt.chg L[k / 8] (7 - k % 8) t) = Bt.put l k t := by
  subst e
  unfold Bt.put
  rw [List.getD_eq_getElem?_getD, List.getElem?_eq_getElem h, Option.getD_some]

theorem own_fresh {w : World} {base : Nat} {e : TypeId} {k n c : Nat} {A : Option Addr} {xs : List Value} (h : w.ownsRow base e k (.slice A n c) n xs) : ∀ ad, A = some ad → base ≤ ad.block := by
  intro ad e
  rcases h.2 with ⟨h1, _⟩ | ⟨g, cap, cur, h1, h2, _⟩
  · injection h1 with h1 _ _
    rw [h1] at e
    cases e
  · injection h1 with h1 _ _
    rw [h1] at e
    cases e
    exact h2
set_option maxRecDepth 100000 in
set_option maxHeartbeats 1000000 in
theorem with_new (A : Option Addr) (n c : Nat) (l : List UInt8) (i : Int) (t : Bool) (w : World) (h : BS w A n l) (hi : i ≤ 1000000) (hn : n ≤ 1000000) :
    Calls Tryz.prog 87 #[.slice A n c, .int .i64 i, .bool t] w fun e w' => ∃ A' m c', e = .returned (.slice A' m c') ∧ BS w' A' m (Bt.witI l i t) ∧ Below w.heap.size w w' ∧ ∀ ad, A' = some ad → w.heap.size ≤ ad.block := by
  have HL := Lib.hid h
  have HLN : Hid (l.length = n) := h.1
  clear h
  have HW2 : Hid (Below w.heap.size w ((w.alloc (.cells #[.int .i64 i] 3)).alloc (.cells #[.bool t] 4))) := ((Below.refl _ _).alloc (Nat.le_refl _) _).alloc (by simp) _
  have HB0 : Hid (((w.alloc (.cells #[.int .i64 i] 3)).alloc (.cells #[.bool t] 4)).heap[w.heap.size]? = some (.cells #[.int .i64 i] 3 (0, 0))) := by
    show _ = _
    rw [Below.heap_alloc _ _ _ (by simp)]
    exact heap_alloc_new w _
  have HB1 : Hid (((w.alloc (.cells #[.int .i64 i] 3)).alloc (.cells #[.bool t] 4)).heap[w.heap.size + 1]? = some (.cells #[.bool t] 4 (0, 0))) := by
    show _ = _
    have := heap_alloc_new (w.alloc (.cells #[.int .i64 i] 3)) (.cells #[.bool t] 4)
    rwa [World.size_alloc] at this
  have HZ2 : Hid (((w.alloc (.cells #[.int .i64 i] 3)).alloc (.cells #[.bool t] 4)).heap.size = w.heap.size + 2) := by show _ = _; simp
  go_enter Tryz.func87, Tryz.ntmps87
  go_upto_region 1 with (fail)
  generalize (w.alloc (.cells #[.int .i64 i] 3)).alloc (.cells #[.bool t] 4) = w2 at *
  go_wp2_with fail
  refine (cloneB_any A n c l _ (HL.out.below HW2.out) (by omega)).mono ?_
  rintro e w3 ⟨A3, c3, rfl, ho3⟩
  have HO3 := Lib.hid ho3
  have H30 : Hid (w3.heap[w.heap.size]? = some (.cells #[.int .i64 i] 3 (0, 0))) := (ho3.2.block _ (by rw [HZ2.out]; omega)).trans HB0.out
  have H31 : Hid (w3.heap[w.heap.size + 1]? = some (.cells #[.bool t] 4 (0, 0))) := (ho3.2.block _ (by rw [HZ2.out]; omega)).trans HB1.out
  clear ho3
  have c0 : w3.cell? ⟨w.heap.size, 0, none⟩ = some (.int .i64 i) := by rw [cell_of_row _ _ _ _ _ _ H30.out]; rfl
  have c1 : w3.cell? ⟨w.heap.size + 1, 0, none⟩ = some (.bool t) := by rw [cell_of_row _ _ _ _ _ _ H31.out]; rfl
  by_cases h0 : 0 ≤ i
  · obtain ⟨k, rfl⟩ := Int.eq_ofNat_of_zero_le h0
    have HWT := Lib.hid (Bt.witI_nat l k t)
    have H38 : Hid ((k : Int) / 8 + 1 = ((k / 8 + 1 : Nat) : Int)) := by show _ = _; omega
    cases t
    case true =>
      have hm : (k : Int) / 8 < 2147483647 := by omega
      go_upto_region 4 with (fail)
      have HI := Lib.hid hi
      clear hi
      go_wp2_with fail
      rw [H38.out]
      refine (extended_any w2.heap.size A3 n c3 l (k / 8 + 1) w3 HO3.out.1 HO3.out.2.size hn (by have := HI.out; omega)).mono ?_
      rintro e w4 ⟨A4, c4, rfl, ho4, hk4⟩
      rw [pre_yes l k HLN.out] at ho4
      have HO4 := Lib.hid ho4
      have HK4 := Lib.hid hk4
      have hlen : (Bt.pre l k true).length = n + (k / 8 + 1 - n) := by rw [Bt.pre_length, HLN.out]; simp; omega
      obtain ⟨g, cap, hv, hg⟩ : ∃ g cap, A4 = some ⟨g, 0, none⟩ ∧ c4 = cap := by
        obtain ⟨g, cap, hv, _⟩ := ho4.form (by omega)
        injection hv with h1 _ h3
        exact ⟨g, cap, h1, h3⟩
      subst hv
      clear hg
      obtain ⟨⟨hl4, hc4⟩, hf4, hb4, hs4⟩ := own_set ho4 (j := k / 8) (by omega)
      have HS4 := Lib.hid (hs4 (Bt.chg (Bt.pre l k true)[k / 8] (7 - k % 8) true))
      have HPA := Lib.hid (put_at hl4 true l rfl)
      have hd : (k : Int) / 8 < ((n + (k / 8 + 1 - n) : Nat) : Int) := by omega
      have hki : (k : Int) / 8 = ((k / 8 : Nat) : Int) := by omega
      have HKI := Lib.hid hki
      have H40 : Hid (w4.heap[w.heap.size]? = some (.cells #[.int .i64 (k : Int)] 3 (0, 0))) := (hk4.block _ (by rw [HZ2.out]; omega)).trans H30.out
      have H41 : Hid (w4.heap[w.heap.size + 1]? = some (.cells #[.bool true] 4 (0, 0))) := (hk4.block _ (by rw [HZ2.out]; omega)).trans H31.out
      have c4 : w4.cell? ⟨w.heap.size, 0, none⟩ = some (.int .i64 (k : Int)) := by rw [cell_of_row _ _ _ _ _ _ H40.out]; rfl
      have c5 : w4.cell? ⟨w.heap.size + 1, 0, none⟩ = some (.bool true) := by rw [cell_of_row _ _ _ _ _ _ H41.out]; rfl
      clear ho4 hk4 hs4 c0 c1 hlen hki hm
      have HL4 : Hid ((Bt.put l k true).length = n + (k / 8 + 1 - n)) := by show _ = _; rw [Bt.put_length, Bt.pre_length, HLN.out]; simp; omega
      have HSM : Hid (n + (k / 8 + 1 - n) ≤ 1000000000) := by show _ ≤ _; have := HI.out; omega
      go_wp2_with fail
      refine (change_any (Bt.pre l k true)[k / 8] k true _ _ w4 c4 c5 (by have := HI.out; omega)).mono ?_
      rintro e w5 ⟨rfl, rfl⟩
      go_wp2_with fail
      rw [HPA.out] at HS4
      have HK5 : Hid (Keep (· < w2.heap.size) w3 (w4.setCell ⟨g, k / 8, none⟩ (.int .u8 ((Bt.chg (Bt.pre l k true)[k / 8] (7 - k % 8) true).toNat : Int)))) := HK4.out.setCell (p := ⟨g, k / 8, none⟩) (by show ¬ g < _; omega) _
      refine (trimRight_any _ _ _ (Bt.put l k true) _ (BS.of_own HS4.out) HSM.out (own_cap HS4.out)).mono ?_
      rintro e w6 ⟨rfl, HB6, rfl⟩
      go_wp2
      go_ret
      rw [HWT.out]
      exact ⟨_, _, _, rfl, HB6.out, HW2.out.trans (HO3.out.2.trans HK5.out.below |>.mono HW2.out.size), fun ad e => by cases e; exact Nat.le_trans HW2.out.size hb4⟩
    case false =>
      have HC3 := Lib.hid HO3.out.cap
      by_cases hk : k / 8 < n
      · have HI := Lib.hid hi
        have ho3 := HO3.out.1
        obtain ⟨g, rfl⟩ : ∃ g, A3 = some ⟨g, 0, none⟩ := by
          obtain ⟨g, cap, hv, _⟩ := ho3.form (by omega)
          injection hv with h1 _ h3
          exact ⟨g, h1⟩
        obtain ⟨⟨hl4, hc4⟩, hf4, hb4, hs4⟩ := own_set ho3 hk
        have HS4 := Lib.hid (hs4 (Bt.chg l[k / 8] (7 - k % 8) false))
        have HPA := Lib.hid (put_at (L := l) hl4 false l rfl)
        have HKI : Hid ((k : Int) / 8 = ((k / 8 : Nat) : Int)) := by show _ = _; omega
        have hd : (k : Int) / 8 < (n : Int) := by omega
        clear ho3 hs4 hi
        go_wp2_with fail
        refine (change_any l[k / 8] k false _ _ w3 c0 c1 (by have := HI.out; omega)).mono ?_
        rintro e w5 ⟨rfl, rfl⟩
        go_wp2_with fail
        rw [HPA.out] at HS4
        have HK5 : Hid (Keep (· < w2.heap.size) w3 (w3.setCell ⟨g, k / 8, none⟩ (.int .u8 ((Bt.chg l[k / 8] (7 - k % 8) false).toNat : Int)))) := (Keep.refl _ _).setCell (p := ⟨g, k / 8, none⟩) (by show ¬ g < _; omega) _
        refine (trimRight_any _ _ _ (Bt.put l k false) _ (BS.of_own HS4.out) (by omega) HC3.out).mono ?_
        rintro e w6 ⟨rfl, HB6, rfl⟩
        go_wp2
        go_ret
        rw [HWT.out]
        exact ⟨_, _, _, rfl, HB6.out, HW2.out.trans (HO3.out.2.trans HK5.out.below |>.mono HW2.out.size), fun ad e => by cases e; exact Nat.le_trans HW2.out.size hb4⟩
      · have hd : (n : Int) ≤ (k : Int) / 8 := by omega
        have HPA : Hid (Bt.wit l k false = Bt.trim l) := by
          show _ = _
          unfold Bt.wit Bt.put
          rw [List.set_eq_of_length_le (by rw [Bt.pre_length, HLN.out]; simp; omega)]
          rfl
        go_wp2_with fail
        refine (trimRight_any A3 n c3 l w3 HO3.out.bs (by omega) HC3.out).mono ?_
        rintro e w6 ⟨rfl, HB6, rfl⟩
        go_wp2
        go_ret
        rw [HWT.out, HPA.out]
        exact ⟨_, _, _, rfl, HB6.out, HW2.out.trans (HO3.out.2.mono HW2.out.size), fun ad e => Nat.le_trans HW2.out.size (own_fresh HO3.out.1 ad e)⟩
  · have HE := Lib.hid (Bt.witI_neg l t (by omega : i < 0))
    have hd : decide (0 ≤ i) = false := by simp; omega
    cases t
    all_goals
      go_wp2_with fail
      refine (trimRight_any A3 n c3 l w3 HO3.out.bs (by omega) HO3.out.cap).mono ?_
      rintro e w5 ⟨rfl, HB5, rfl⟩
      go_wp2
      go_ret
      rw [HE.out]
      exact ⟨_, _, _, rfl, HB5.out, HW2.out.trans (HO3.out.2.mono HW2.out.size), fun ad e => Nat.le_trans HW2.out.size (own_fresh HO3.out.1 ad e)⟩
theorem with_any (A : Option Addr) (n c : Nat) (l : List UInt8) (i : Int) (t : Bool) (w : World) (h : BS w A n l) (hi : i ≤ 1000000) (hn : n ≤ 1000000) :
    Calls Tryz.prog 87 #[.slice A n c, .int .i64 i, .bool t] w fun e w' => ∃ A' m c', e = .returned (.slice A' m c') ∧ BS w' A' m (Bt.witI l i t) ∧ Below w.heap.size w w' :=
  (with_new A n c l i t w h hi hn).mono fun _ _ ⟨A', m, c', h1, h2, h3, _⟩ => ⟨A', m, c', h1, h2, h3⟩
end Go.Proofs.YtnhokkdieijkhaaGreatDoor

namespace Go.Proofs.YtnhokkdieijkhaaGreatDoor
open Go.RowKit

section
variable {w : World} {p m : Nat} {x : Sl} {S : Nat → Prop} {X : TX}
set_option maxHeartbeats 400000 in
theorem isVol_any (h : Tq w p m x S X) (h1 : 36 ≤ x.n) (h2 : x.n ≤ 803) : Calls Tryz.prog 34 #[.pointer (some ⟨p, 0, none⟩)] w fun e w' => e = .returned (.bool true) ∧ w' = w := by
  have HC := Lib.hid (tlen_any h)
  have hd : decide ((36 : Int) ≤ (x.n : Int)) = true := by simp; omega
  have hd2 : decide ((x.n : Int) ≤ 803) = true := by simp; omega
  clear h
  go_enter Tryz.func34, Tryz.ntmps34
  go_wp2_with fail
  refine HC.out.mono ?_
  rintro e w' ⟨rfl, rfl⟩
  go_wp2_with fail
  refine HC.out.mono ?_
  rintro e w' ⟨rfl, rfl⟩
  go_wp2
  go_ret
  exact ⟨rfl, rfl⟩
set_option maxHeartbeats 400000 in
theorem isVol_few (h : Tq w p m x S X) (h1 : x.n < 36) : Calls Tryz.prog 34 #[.pointer (some ⟨p, 0, none⟩)] w fun e w' => e = .returned (.bool false) ∧ w' = w := by
  have HC := Lib.hid (tlen_any h)
  have hd : decide ((36 : Int) ≤ (x.n : Int)) = false := by simp; omega
  clear h
  go_enter Tryz.func34, Tryz.ntmps34
  go_wp2_with fail
  refine HC.out.mono ?_
  rintro e w' ⟨rfl, rfl⟩
  go_wp2
  go_ret
  exact ⟨rfl, rfl⟩
set_option maxHeartbeats 400000 in
theorem isVol_nil (w : World) : Calls Tryz.prog 34 #[.pointer none] w fun e w' => e = .returned (.bool false) ∧ w' = w := by
  have HC := Lib.hid (tlen_nil w)
  go_enter Tryz.func34, Tryz.ntmps34
  go_wp2_with fail
  refine HC.out.mono ?_
  rintro e w' ⟨rfl, rfl⟩
  go_wp2
  go_ret
  exact ⟨rfl, rfl⟩
set_option maxHeartbeats 400000 in
theorem room_any (h : Tq w p m x S X) (h1 : 36 ≤ x.n) (h2 : x.n ≤ 803) : Calls Tryz.prog 41 #[.pointer (some ⟨p, 0, none⟩)] w fun e w' => e = .returned (.int .i64 ((x.n - 35 : Nat) : Int)) ∧ w' = w := by
  have HC := Lib.hid (tlen_any h)
  clear h
  go_enter Tryz.func41, Tryz.ntmps41
  go_wp2_with fail
  refine HC.out.mono ?_
  rintro e w' ⟨rfl, rfl⟩
  go_wp2
  go_ret
  exact ⟨ret_int (by omega), rfl⟩
set_option maxHeartbeats 1000000 in
theorem vfree_any (h : Tq w p m x S X) (h1 : 36 ≤ x.n) (h2 : x.n ≤ 803) (hs : (X.get 9).length ≤ 96) :
    Calls Tryz.prog 17 #[.pointer (some ⟨p, 0, none⟩)] w fun e w' => e = .returned (.int .i64 ((x.n - 35 - Bt.cnt (X.get 9) (x.n - 35) : Nat) : Int)) ∧ Below w.heap.size w w' := by
  have HI := Lib.hid (isVol_any h h1 h2)
  have HR := Lib.hid (room_any h h1 h2)
  have HG := Lib.hid (get_ok h 9 (by omega))
  have HT := Lib.hid h
  have HL := Lib.hid hs
  have hcl := Bt.cnt_le (X.get 9) (x.n - 35)
  clear h hs
  go_enter Tryz.func17, Tryz.ntmps17
  go_wp2_with fail
  refine HI.out.mono ?_
  rintro e w' ⟨rfl, rfl⟩
  go_wp2_with fail
  refine HR.out.mono ?_
  rintro e w' ⟨rfl, rfl⟩
  go_wp2_with fail
  refine HG.out.mono ?_
  rintro e w1 ⟨A, n, c, rfl, hb, -, -, -, hw1, -⟩
  have HB := Lib.hid hb
  have HN : Hid (n ≤ 96) := by show _ ≤ _; rw [← hb.1]; exact HL.out
  have HW := Lib.hid hw1
  clear hb hw1
  go_wp2_with fail
  refine (room_any (HT.out.below HW.out) h1 h2).mono ?_
  rintro e w2 ⟨rfl, rfl⟩
  go_wp2_with fail
  refine (count_any A n c (X.get 9) _ w2 HB.out (by omega) (by have := HN.out; omega)).mono ?_
  rintro e w3 ⟨rfl, d, rfl⟩
  rw [show ((x.n - 35 : Nat) : Int).toNat = x.n - 35 by omega]
  go_wp2
  go_ret
  exact ⟨ret_int (by omega), below_drewN HW.out _⟩
set_option maxHeartbeats 400000 in
theorem vfree_nil (w : World) : Calls Tryz.prog 17 #[.pointer none] w fun e w' => e = .returned (.int .i64 0) ∧ w' = w := by
  have HC := Lib.hid (isVol_nil w)
  go_enter Tryz.func17, Tryz.ntmps17
  go_wp2_with fail
  refine HC.out.mono ?_
  rintro e w' ⟨rfl, rfl⟩
  go_wp2
  go_ret
  exact ⟨rfl, rfl⟩
end
set_option maxRecDepth 100000 in
set_option maxHeartbeats 1000000 in
theorem count_max (A : Option Addr) (n c : Nat) (l : List UInt8) (N : Int) (w : World) (h : BS w A n l) (hn : n ≤ 1000) (hN : 10000 ≤ N) :
    Calls Tryz.prog 40 #[.slice A n c, .int .i64 N] w fun e w' => e = .returned (.int .i64 (Bt.cnt l (8 * l.length) : Int)) ∧ ∃ k, w' = w.drewN k := by
  have HL := Lib.hid h
  have HLN : Hid (l.length = n) := h.1
  clear h
  go_enter Tryz.func40, Tryz.ntmps40
  go_wp2
  go_loopw [5, 8] (fun y i wr => ∃ k : Nat, k ≤ 8 * n ∧ i = .int .i64 k ∧ y = .int .i64 (Bt.cnt l k : Int) ∧ Hid (∃ d, wr = w.drewN d)) (fun _ i _ => 8 * n - (intOf i).toNat)
  case atStart => exact ⟨0, by omega, rfl, rfl, 0, rfl⟩
  case round =>
    obtain ⟨k, hk, rfl, rfl, HD⟩ := hrel
    have hle := Bt.cnt_le l k
    have hlt' : (k : Int) < N := by omega
    have HLr : Hid (BS wr A n l) := by obtain ⟨d, hd⟩ := HD.out; rw [hd]; exact HL.out
    by_cases hq : k / 8 < n
    · have hq' : (k : Int) / 8 < (n : Int) := by omega
      have HS := Lib.hid (Bt.cnt_succ l k)
      go_wp2_with fail
      refine (bhas_any A n c l k wr HLr.out (by omega) (by omega)).mono ?_
      rintro e w2 ⟨rfl, k2, hw2⟩
      have HW2 : Hid (∃ d, w2 = w.drewN d) := by
        obtain ⟨d, hd⟩ := HD.out
        exact ⟨d + k2, by rw [hw2, hd, World.drewN_drewN]⟩
      clear hw2
      rw [Bt.hasI_nat]
      cases hb : Bt.has l k
      all_goals
        rw [hb] at HS
        go_wp2
        go_roundw
        case rel => exact ⟨k + 1, by omega, by go_num, by rw [HS.out]; simp, HW2⟩
        case measure => simp [intOf]; omega
    · have hq' : (n : Int) ≤ (k : Int) / 8 := by omega
      have HE : Hid (k = 8 * l.length) := by
        show _ = _
        rw [HLN.out]
        omega
      go_wp2
      go_ret
      exact ⟨ret_int (by rw [← HE.out]), HD.out⟩
end Go.Proofs.YtnhokkdieijkhaaGreatDoor

namespace Go.Proofs.YtnhokkdieijkhaaGreatDoor
open Go.RowKit Go.Shelf

/-- A function that caught these. -/
def fnV (F : Nat) (caps : Array Value) : Value := .func (.func F) #[] caps
/-- The slice (B, n, ..) reads as these functions. -/
def FS (w : World) (B n : Nat) (fs : List (Nat × Array Value)) : Prop := fs.length = n ∧ ∀ j (h : j < fs.length), w.cell? ⟨B, j, none⟩ = some (fnV fs[j].1 fs[j].2)
theorem FS.below {w w' : World} {B n : Nat} {fs : List (Nat × Array Value)} (h : FS w B n fs) (hb : Below w.heap.size w w') : FS w' B n fs :=
  ⟨h.1, fun j hj => (hb.cell (World.block_lt_of_cell? w _ (h.2 j hj))).trans (h.2 j hj)⟩
/-- The first one that does not hold, or -1. -/
def fndN (bs : List Bool) : Int := if bs.all id then -1 else ((bs.findIdx (!·) : Nat) : Int)
theorem fndN_neg (bs : List Bool) (h : ∀ j, (hj : j < bs.length) → bs[j] = true) : fndN bs = -1 := by
  unfold fndN
  rw [if_pos]
  rw [List.all_eq_true]
  intro b hb
  obtain ⟨j, hj, rfl⟩ := List.getElem_of_mem hb
  exact h j hj
theorem fndN_hit (bs : List Bool) (k : Nat) (hk : k < bs.length) (hb : bs[k] = false) (h : ∀ j, (hj : j < bs.length) → j < k → bs[j] = true) : fndN bs = (k : Int) := by
  have h1 : bs.findIdx (!·) = k := by
    rw [List.findIdx_eq hk]
    exact ⟨by simp [hb], fun j hj => by simp [h j (by omega) hj]⟩
  unfold fndN
  rw [if_neg, h1]
  intro ha
  rw [List.all_eq_true] at ha
  have := ha _ (List.getElem_mem hk)
  rw [hb] at this
  cases this
theorem fndN_dec (bs : List Bool) : decide (0 ≤ fndN bs) = !(bs.all id) := by
  unfold fndN
  cases hb : bs.all id
  · simp
  · simp
/-- Asked in their order, each holds or not, as long as those ahead of it hold. -/
def Asked (w : World) (fs : List (Nat × Array Value)) (bs : List Bool) : Prop := bs.length = fs.length ∧ ∀ j (h : j < fs.length) (hb : j < bs.length), (∀ i, (hi : i < bs.length) → i < j → bs[i] = true) → ∀ W, Below w.heap.size w W →
  (∀ args V, (callFunc fs[j].1 args).run Tryz.prog V = .ok (.enter fs[j].1 args) V) ∧ Calls Tryz.prog fs[j].1 fs[j].2 W fun e w' => e = .returned (.bool bs[j]) ∧ Below W.heap.size W w'

set_option maxRecDepth 100000 in
set_option maxHeartbeats 1000000 in
theorem all1_any (F : Nat) (caps : Array Value) (b : Bool) (w : World) (eg : ∀ args V, (callFunc F args).run Tryz.prog V = .ok (.enter F args) V) (h : Calls Tryz.prog F caps w fun e w' => e = .returned (.bool b) ∧ Below w.heap.size w w') :
    Calls Tryz.prog 61 #[fnV F caps] w fun e w' => e = .returned (.bool (!b)) ∧ Below w.heap.size w w' := by
  have HC := Lib.hid h
  clear h
  go_enter Tryz.func61, Tryz.ntmps61
  unfold fnV
  go_wp2_with (go_at_fn F; refine HC.out.mono ?_; rintro en w' ⟨rfl, hb'⟩)
  go_ret
  exact ⟨rfl, hb'⟩

set_option maxRecDepth 100000 in
set_option maxHeartbeats 2000000 in
theorem indexAll_any (B n cp : Nat) (fs : List (Nat × Array Value)) (bs : List Bool) (w : World) (h : FS w B n fs) (hn : n ≤ 1000) (hq : Asked w fs bs) :
    Calls Tryz.prog 82 #[.slice (some ⟨B, 0, none⟩) n cp, fnV 61 #[]] w fun en w' => en = .returned (.int .i64 (fndN bs)) ∧ Below w.heap.size w w' := by
  have HX := Lib.hid h
  have HN : Hid (fs.length = n) := h.1
  have HL : Hid (bs.length = fs.length) := hq.1
  have HP := Lib.hid hq.2
  clear h hq
  go_enter Tryz.func82, Tryz.ntmps82
  unfold fnV
  go_wp2
  go_loopg [5, 8] n (fun gg _ s8 wr => ∃ k : Nat, k ≤ n ∧ n - k ≤ gg ∧ s8 = .int .i64 k ∧ Hid (Below w.heap.size w wr) ∧ Hid (∀ j, (h : j < bs.length) → j < k → bs[j] = true))
  case atStart => exact ⟨0, Nat.zero_le _, by omega, rfl, Below.refl _ w, fun j _ hj => absurd hj (Nat.not_lt_zero _)⟩
  case round =>
    obtain ⟨k, hk, hg, rfl, HB, HO⟩ := hrel
    by_cases hlt : k < n
    · have hj : k < fs.length := by rw [HN.out]; exact hlt
      have hjb : k < bs.length := by rw [HL.out]; exact hj
      have hc := (HX.out.below HB.out).2 k hj
      obtain ⟨h1, h2⟩ := HP.out k hj hjb HO.out wr HB.out
      have HCALL := Lib.hid (all1_any fs[k].1 fs[k].2 bs[k] wr h1 h2)
      clear h1 h2
      generalize fnV fs[k].1 fs[k].2 = fv at *
      cases hq : bs[k] with
      | false =>
        rw [hq] at HCALL
        have HY := Lib.hid (fndN_hit bs k hjb hq HO.out)
        clear hq
        go_wp2_with (refine HCALL.out.mono ?_; rintro en w' ⟨rfl, hb'⟩)
        go_ret
        exact ⟨by rw [HY.out]; rfl, HB.out.trans (hb'.mono HB.out.size)⟩
      | true =>
        rw [hq] at HCALL
        have HF := Lib.hid hq
        clear hq
        go_wp2_with (refine HCALL.out.mono ?_; rintro en w' ⟨rfl, hb'⟩)
        go_roundg (n - (k + 1))
        case measure => omega
        case rel =>
          refine ⟨k + 1, by omega, by omega, by go_num, HB.out.trans (hb'.mono HB.out.size), (show Hid _ from fun j hj hjk => ?_)⟩
          by_cases e : j = k
          · subst e
            exact HF.out
          · exact HO.out j hj (by omega)
    · have : k = n := by omega
      subst this
      have HY := Lib.hid (fndN_neg bs (fun j h => HO.out j h (by have := HN.out; have := HL.out; omega)))
      go_wp2
      go_ret
      exact ⟨by rw [HY.out]; rfl, HB.out⟩

set_option maxRecDepth 100000 in
set_option maxHeartbeats 1000000 in
theorem all_any (B n cp : Nat) (fs : List (Nat × Array Value)) (bs : List Bool) (w : World) (h : FS w B n fs) (hn : n ≤ 1000) (hq : Asked w fs bs) :
    Calls Tryz.prog 25 #[.slice (some ⟨B, 0, none⟩) n cp] w fun en w' => en = .returned (.bool (bs.all id)) ∧ Below w.heap.size w w' := by
  have HC := Lib.hid (indexAll_any B n cp fs bs w h hn hq)
  have hd := fndN_dec bs
  clear h hq
  generalize fndN bs = z at *
  generalize bs.all id = b at *
  have hc : Calls Tryz.prog 60 #[.slice (some ⟨B, 0, none⟩) n cp, fnV 61 #[]] w fun en w' => en = .returned (.bool (!b)) ∧ Below w.heap.size w w' := by
    go_enter Tryz.func60, Tryz.ntmps60
    unfold fnV at *
    go_wp2_with fail
    refine HC.out.mono ?_
    rintro e w1 ⟨rfl, hb⟩
    go_wp2_with fail
    go_ret
    exact ⟨by rw [← hd]; rfl, hb⟩
  have HD := Lib.hid hc
  clear hc HC hd
  go_enter Tryz.func25, Tryz.ntmps25
  unfold fnV at *
  go_wp2_with fail
  refine HD.out.mono ?_
  rintro e w1 ⟨rfl, hb⟩
  go_wp2_with fail
  go_ret
  exact ⟨by simp, hb⟩
end Go.Proofs.YtnhokkdieijkhaaGreatDoor

namespace Go.Proofs.YtnhokkdieijkhaaGreatDoor
open Go.RowKit

/-- What unused tells. -/
def unB (k li m s o v n : Nat) : Bool := k == 0 && li == 0 && m == 0 && s == 0 && (o == 0 && v == 0) && n == 0
theorem or_zeroI (a b : Nat) : (a ||| b) = 0 ↔ a = 0 ∧ b = 0 := by
  refine ⟨fun h => ⟨?_, ?_⟩, fun h => by rw [h.1, h.2]; rfl⟩
  · have := Nat.left_le_or (n := a) (m := b); omega
  · have := Nat.right_le_or (n := a) (m := b); omega
theorem unB_one (k li m s o v n : Nat) (h : (k ||| li ||| m ||| s) ≠ 0) : unB k li m s o v n = false := by
  unfold unB
  cases hh : (k == 0 && li == 0 && m == 0 && s == 0 && (o == 0 && v == 0) && n == 0)
  · rfl
  · simp only [Bool.and_eq_true, beq_iff_eq] at hh
    obtain ⟨⟨⟨⟨⟨rfl, rfl⟩, rfl⟩, rfl⟩, _⟩, _⟩ := hh
    exact absurd rfl h
theorem unB_two (k li m s o v n : Nat) (h : (o ||| v) ≠ 0) : unB k li m s o v n = false := by
  unfold unB
  cases hh : (k == 0 && li == 0 && m == 0 && s == 0 && (o == 0 && v == 0) && n == 0)
  · rfl
  · simp only [Bool.and_eq_true, beq_iff_eq] at hh
    obtain ⟨⟨_, rfl, rfl⟩, _⟩ := hh
    exact absurd rfl h
theorem unB_all (k li m s o v n : Nat) (h : (k ||| li ||| m ||| s) = 0) (h2 : (o ||| v) = 0) : unB k li m s o v n = ((n : Int) == 0) := by
  obtain ⟨h3, rfl⟩ := (or_zeroI _ _).1 h
  obtain ⟨h4, rfl⟩ := (or_zeroI _ _).1 h3
  obtain ⟨rfl, rfl⟩ := (or_zeroI _ _).1 h4
  obtain ⟨rfl, rfl⟩ := (or_zeroI _ _).1 h2
  unfold unB
  cases n with
  | zero => rfl
  | succ n => simp; omega

set_option maxRecDepth 100000 in
set_option maxHeartbeats 1000000 in
theorem unusedI_any (k g li m s c o v : Nat) (A : Option Addr) (n cp : Nat) (w : World) (hk : k < 4294967296) (hl : li < 4294967296) (hm : m < 4294967296) (hs : s < 4294967296) (ho : o < 18446744073709551616) (hv : v < 18446744073709551616) :
    Calls Tryz.prog 101 #[(.agg #[.int .u32 (k : Int), .int .u32 (g : Int), .int .u32 (li : Int), .int .u32 (m : Int), .int .u32 (s : Int), .int .u64 (c : Int), .int .u64 (o : Int), .int .u64 (v : Int), .slice A n cp])] w fun e w' => e = .returned (.bool (unB k li m s o v n)) ∧ Below w.heap.size w w' := by
  have o1 := u32_or_nat k li hk hl
  have hkl : k ||| li < 4294967296 := Nat.or_lt_two_pow (n := 32) hk hl
  have o2 := u32_or_nat (k ||| li) m hkl hm
  have hklm : k ||| li ||| m < 4294967296 := Nat.or_lt_two_pow (n := 32) hkl hm
  have o3 := u32_or_nat (k ||| li ||| m) s hklm hs
  have o4 := u64_or_nat o v ho hv
  clear hk hl hm hs ho hv hkl hklm
  have HR : Hid (Below w.heap.size w (w.alloc (.cells #[.int .u32 (k : Int), .int .u32 (g : Int), .int .u32 (li : Int), .int .u32 (m : Int), .int .u32 (s : Int), .int .u64 (c : Int), .int .u64 (o : Int), .int .u64 (v : Int), .slice A n cp] 85))) := (Below.refl _ _).alloc (Nat.le_refl _) _
  by_cases h1 : (k ||| li ||| m ||| s) = 0
  · by_cases h2 : (o ||| v) = 0
    · have HU := Lib.hid (unB_all k li m s o v n h1 h2)
      have e1 : (((k ||| li ||| m ||| s : Nat) : Int) == 0) = true := by rw [h1]; rfl
      have e2 : (((o ||| v : Nat) : Int) == 0) = true := by rw [h2]; rfl
      clear h1 h2
      go_enter Tryz.func101, Tryz.ntmps101
      go_wp2
      go_ret
      rw [HU.out]; exact ⟨rfl, HR.out⟩
    · have HU := Lib.hid (unB_two k li m s o v n h2)
      have e1 : (((k ||| li ||| m ||| s : Nat) : Int) == 0) = true := by rw [h1]; rfl
      have e2 : (((o ||| v : Nat) : Int) == 0) = false := by simpa using h2
      clear h1 h2
      go_enter Tryz.func101, Tryz.ntmps101
      go_wp2
      go_ret
      rw [HU.out]; exact ⟨rfl, HR.out⟩
  · have HU := Lib.hid (unB_one k li m s o v n h1)
    have e1 : (((k ||| li ||| m ||| s : Nat) : Int) == 0) = false := by simpa using h1
    clear h1
    go_enter Tryz.func101, Tryz.ntmps101
    go_wp2
    go_ret
    rw [HU.out]; exact ⟨rfl, HR.out⟩

/-- What blank tells. -/
def blB (k g li m s c o v n : Nat) : Bool := unB k li m s o v n && g == 0 && c == 0
set_option maxRecDepth 100000 in
set_option maxHeartbeats 1000000 in
theorem blank_any (k g li m s c o v : Nat) (A : Option Addr) (n cp : Nat) (w : World) (hk : k < 4294967296) (hl : li < 4294967296) (hm : m < 4294967296) (hs : s < 4294967296) (ho : o < 18446744073709551616) (hv : v < 18446744073709551616) :
    Calls Tryz.prog 79 #[(.agg #[.int .u32 (k : Int), .int .u32 (g : Int), .int .u32 (li : Int), .int .u32 (m : Int), .int .u32 (s : Int), .int .u64 (c : Int), .int .u64 (o : Int), .int .u64 (v : Int), .slice A n cp])] w fun e w' => e = .returned (.bool (blB k g li m s c o v n)) ∧ Below w.heap.size w w' := by
  have HC := fun W => Lib.hid (unusedI_any k g li m s c o v A n cp W hk hl hm hs ho hv)
  clear hk hl hm hs ho hv
  have hb : blB k g li m s c o v n = (unB k li m s o v n && g == 0 && c == 0) := rfl
  generalize blB k g li m s c o v n = z at *
  generalize unB k li m s o v n = u at *
  subst hb
  go_enter Tryz.func79, Tryz.ntmps79
  go_wp2_with fail
  refine ((HC _).out).mono ?_
  rintro e w1 ⟨rfl, hb1⟩
  have HB : Hid (Below w.heap.size w w1) := ((Below.refl _ _).alloc (Nat.le_refl _) _).trans (hb1.mono (by simp))
  have hlt : w.heap.size < w1.heap.size := by have := hb1.size; simp at this; omega
  have hcl : w1.heap[w.heap.size]? = some (.cells #[.int .u32 (k : Int), .int .u32 (g : Int), .int .u32 (li : Int), .int .u32 (m : Int), .int .u32 (s : Int), .int .u64 (c : Int), .int .u64 (o : Int), .int .u64 (v : Int), .slice A n cp] 85 (0, 0)) := (hb1.block _ (by simp)).trans (heap_alloc_new w _)
  have c1 : w1.cell? ⟨w.heap.size, 1, none⟩ = some (.int .u32 (g : Int)) := cell_of_row w1 _ 1 _ _ (0, 0) hcl
  have c5 : w1.cell? ⟨w.heap.size, 5, none⟩ = some (.int .u64 (c : Int)) := cell_of_row w1 _ 5 _ _ (0, 0) hcl
  clear hb1 hcl
  cases u
  · go_wp2
    go_ret
    exact ⟨rfl, HB.out⟩
  · by_cases hg : g = 0
    · subst hg
      by_cases hc : c = 0
      · subst hc
        go_wp2
        go_ret
        exact ⟨rfl, HB.out⟩
      · have e2 : ((c : Int) == 0) = false := by simpa using hc
        have E2 : Hid ((c == 0) = false) := by show _ = _; simpa using hc
        clear hc
        go_wp2
        go_ret
        rw [E2.out]
        exact ⟨rfl, HB.out⟩
    · have e2 : ((g : Int) == 0) = false := by simpa using hg
      have E2 : Hid ((g == 0) = false) := by show _ = _; simpa using hg
      clear hg
      go_wp2
      go_ret
      rw [E2.out]
      exact ⟨rfl, HB.out⟩

/-- How many blocks, of any number. -/
def needI (x : Int) : Nat := if x < 1 then 0 else need x.toNat
set_option maxHeartbeats 1000000 in
theorem need_any (x : Int) (w : World) (h0 : -9223372036854775808 ≤ x) (h1 : x ≤ 9223372036854775807) :
    Calls Tryz.prog 90 #[.int .i64 x] w fun e w' => e = .returned (.int .i64 (needI x : Int)) ∧ w = w' := by
  by_cases hx : x < 1
  · have HE : Hid (needI x = 0) := if_pos hx
    go_enter Tryz.func90, Tryz.ntmps90
    go_wp2
    go_ret
    rw [HE.out]
    exact ⟨rfl, rfl⟩
  · have HE : Hid (needI x = (x.toNat - 1) / 96 + 1) := by show _ = _; unfold needI; rw [if_neg hx, need_pos _ (by omega)]
    go_enter Tryz.func90, Tryz.ntmps90
    go_wp2
    go_ret
    rw [HE.out]
    exact ⟨ret_int (by omega), rfl⟩
theorem needI_nat (n : Nat) : needI (n : Int) = need n := by
  unfold needI
  split
  · have : n = 0 := by omega
    subst this
    rfl
  · rw [Int.toNat_natCast]
end Go.Proofs.YtnhokkdieijkhaaGreatDoor

namespace Go.Proofs.YtnhokkdieijkhaaGreatDoor
open Go.RowKit Go.Maps

theorem law32 : Keyed Tryz.prog 28 := int_keyed Tryz.underlying28
/-- The set of the first k numbers. -/
def keys32 (xs : List Nat) (k : Nat) : List Lit := (xs.take k).map fun x : Nat => .int .u32 (x : Int)
def set32 (xs : List Nat) (k : Nat) : DataW Unit := setOf (.agg []) (keys32 xs k)
theorem set32_zero (xs : List Nat) : set32 xs 0 = .map [] := by simp [set32, keys32, setOf]
theorem set32_succ (xs : List Nat) (k : Nat) (h : k < xs.length) : set32 xs (k + 1) = (set32 xs k).put (.int .u32 (xs[k] : Int)) (.agg []) := by
  unfold set32 keys32
  rw [List.take_succ_eq_append_getElem h, List.map_append, List.map_singleton, setOf_snoc]
theorem same_u32 (a b : Nat) : (Lit.int .u32 (a : Int)).sameKey (.int .u32 (b : Int)) = decide (a = b) := by
  show decide (IntKind.u32 = IntKind.u32 ∧ (a : Int) = (b : Int)) = decide (a = b)
  by_cases h : a = b
  · subst h; simp
  · have h' : ¬ (a : Int) = (b : Int) := by omega
    simp [h, h']
theorem any_u32 (x : Nat) : ∀ l : List Nat, (l.map fun y : Nat => Lit.int .u32 (y : Int)).any (fun y => y.sameKey (.int .u32 (x : Int))) = decide (x ∈ l)
  | [] => by simp
  | a :: r => by
    rw [List.map_cons, List.any_cons, any_u32 x r, same_u32]
    by_cases h : a = x
    · subst h; simp
    · have h' : ¬ x = a := fun e => h e.symm
      simp [h, h']
/-- The different ones, in order. -/
def dif (l : List Nat) : List Nat := l.foldl (fun acc x => if x ∈ acc then acc else acc ++ [x]) []
theorem fold_dif : ∀ (l acc : List Nat), (l.map fun y : Nat => Lit.int .u32 (y : Int)).foldl addKey (acc.map fun y : Nat => Lit.int .u32 (y : Int)) = (l.foldl (fun acc x => if x ∈ acc then acc else acc ++ [x]) acc).map fun y : Nat => Lit.int .u32 (y : Int)
  | [], acc => rfl
  | a :: r, acc => by
    rw [List.map_cons, List.foldl_cons, List.foldl_cons]
    have e : addKey (acc.map fun y : Nat => Lit.int .u32 (y : Int)) (.int .u32 (a : Int)) = (if a ∈ acc then acc else acc ++ [a]).map fun y : Nat => Lit.int .u32 (y : Int) := by
      unfold addKey
      rw [any_u32]
      by_cases h : a ∈ acc
      · simp [h]
      · simp [h]
    rw [e, fold_dif r]
theorem dif_len : ∀ (l acc : List Nat), acc.Nodup → (l.foldl (fun acc x => if x ∈ acc then acc else acc ++ [x]) acc).length ≤ acc.length + l.length ∧ ((l.foldl (fun acc x => if x ∈ acc then acc else acc ++ [x]) acc).length = acc.length + l.length ↔ (acc ++ l).Nodup)
  | [], acc, h => by simp [h]
  | a :: r, acc, h => by
    rw [List.foldl_cons]
    by_cases ha : a ∈ acc
    · rw [if_pos ha]
      obtain ⟨h1, _⟩ := dif_len r acc h
      refine ⟨by rw [List.length_cons]; omega, ⟨fun e => by rw [List.length_cons] at e; omega, fun hn => ?_⟩⟩
      rw [List.nodup_append] at hn
      exact absurd rfl (hn.2.2 a ha a (by simp))
    · rw [if_neg ha]
      have hn : (acc ++ [a]).Nodup := by
        rw [List.nodup_append]
        refine ⟨h, by simp, fun x hx y hy => ?_⟩
        rw [List.mem_singleton] at hy
        subst hy
        intro e
        subst e
        exact ha hx
      obtain ⟨h1, h2⟩ := dif_len r (acc ++ [a]) hn
      rw [List.length_append, List.length_singleton] at h1
      rw [List.length_append, List.length_singleton, List.append_assoc, List.singleton_append] at h2
      rw [List.length_cons]
      exact ⟨by omega, ⟨fun e => h2.1 (by omega), fun e => by have := h2.2 e; omega⟩⟩
theorem size_set32 (xs : List Nat) : Maps.size (set32 xs xs.length) ≤ xs.length ∧ (Maps.size (set32 xs xs.length) = xs.length ↔ xs.Nodup) := by
  have h1 : Maps.size (set32 xs xs.length) = (dif xs).length := by
    unfold set32
    rw [size_setOf _ _ (fun x hx => by unfold keys32 at hx; obtain ⟨_, _, rfl⟩ := List.mem_map.1 hx; trivial)]
    unfold keys32
    rw [List.take_length]
    have := fold_dif xs []
    rw [List.map_nil] at this
    rw [this, List.length_map]
    rfl
  obtain ⟨h2, h3⟩ := dif_len xs [] List.nodup_nil
  rw [h1]
  unfold dif
  simp only [List.length_nil, Nat.zero_add, List.nil_append] at h2 h3
  exact ⟨h2, h3⟩

set_option maxRecDepth 100000 in
set_option maxHeartbeats 1000000 in
theorem distinct_any (A : Option Addr) (n cp : Nat) (xs : List Nat) (w : World) (hx : NS .u32 w A n xs) (hb : ∀ x ∈ xs, x < 4294967296) (hn : n ≤ 1000000) :
    Calls Tryz.prog 100 #[.slice A n cp] w fun e w' => e = .returned (.bool (decide xs.Nodup)) ∧ Below w.heap.size w w' := by
  have hmm := @run_makeMap2 Tryz.prog _ _ _ Tryz.underlying159
  have Hn : Hid (xs.length = n) := hx.1
  have HX := Lib.hid hx
  have HB := Lib.hid hb
  clear hx hb
  go_enter Tryz.func100, Tryz.ntmps100
  go_wp2
  go_loopw [11] (fun i wr => ∃ k : Nat, k ≤ n ∧ i = .int .i64 k ∧ Hid (wr.ownsMap Tryz.prog 28 (unitElem (H := Unit)) w.heap.size k (set32 xs k)) ∧ Hid (Below w.heap.size w wr))
    (fun i _ => n - (intOf i).toNat)
  case atStart => exact ⟨0, Nat.zero_le _, rfl, by rw [set32_zero]; exact World.ownsMap_made _ _ _ _, (Below.refl _ _).alloc (Nat.le_refl _) _⟩
  case round =>
    obtain ⟨k, hk, rfl, hown, hnx⟩ := hrel
    by_cases hlt : k < n
    · obtain ⟨b, o, rfl, hj, hc0⟩ := HX.out.at hlt
      have hcx : wr.cell? ⟨b, o + k, none⟩ = some (.int .u32 (xs[k] : Int)) := (hnx.out.cell (World.block_lt_of_cell? w _ hc0)).trans hc0
      have hbx := HB.out xs[k] (List.getElem_mem hj)
      have HS := Lib.hid (set32_succ xs k hj)
      have hkey : keyOf Tryz.prog 28 (.int .u32 (xs[k] : Int)) = some (.int .u32 (xs[k] : Int)) := keyOf_int_mk Tryz.underlying28 (by simp [Lit.wf, IntKind.min, IntKind.max, IntKind.bits, IntKind.signed]; omega)
      clear hbx
      generalize xs[k] = x at *
      go_wp2_with (first
        | (at_mapUpdate; refine wpList_mapUpdate_own _ rfl _ _ _ 159 rfl 28 148 law32 Tryz.underlying159 (unitElem (H := Unit)) w.heap.size k _ rfl hown.out (by unfold maxLen; omega) _ _ _ rfl rfl hkey _ [] unitElem_mk ?_; intro w1 hown1 hgrow1)
        | go_in)
      go_roundw
      case rel => exact ⟨k + 1, by omega, by go_num, HS.out.symm ▸ hown1, hnx.out.grown hgrow1 hnx.out.size (fun j hj => by cases hj; exact Nat.le_refl _)⟩
      case measure => simp [intOf]; omega
    · have : k = n := by omega
      subst this
      have HZ := Lib.hid (size_set32 xs)
      rw [Hn.out] at HZ
      go_wp2_with (first
        | (at_len; refine wpList_len_own _ rfl _ 159 rfl 28 148 Tryz.underlying159 _ w.heap.size k _ rfl hown.out ?_)
        | go_in)
      go_ret
      refine ⟨?_, hnx.out⟩
      have h1 := HZ.out.2
      by_cases hd : xs.Nodup
      · simp [hd, h1.2 hd]
      · have h2 : ¬ Maps.size (set32 xs k) = k := fun e => hd (h1.1 e)
        have h3 : ¬ (Maps.size (set32 xs k) : Int) = (k : Int) := by omega
        simp [hd, h3]
end Go.Proofs.YtnhokkdieijkhaaGreatDoor

namespace Go.Proofs.YtnhokkdieijkhaaGreatDoor
open Go.RowKit

set_option maxRecDepth 100000 in
set_option maxHeartbeats 1000000 in
theorem writeAll32 (K : Nat → Prop) (w : World) (p : Nat) (l : List UInt8) (A : Option Addr) (n cp : Nat) (xs : List Nat) (h : Wr K w p l) (hx : NS .u32 w A n xs) (hK : 0 < n → ∀ ad, A = some ad → K ad.block) (hl : l.length ≤ 900000) (hn : n ≤ 1000) :
    Calls Tryz.prog 109 #[.func (.func 110) #[.pointer (some ⟨p, 0, none⟩)] #[], .slice A n cp] w fun e w' => e = .returned (.tuple #[]) ∧ Wr K w' p (l ++ enc 4 xs) ∧ Keep K w w' := by
  have H := Lib.hid h
  have Hn : Hid (xs.length = n) := hx.1
  have HX := Lib.hid hx
  have HK := Lib.hid hK
  clear h hx hK
  go_enter Tryz.func109, Tryz.ntmps109
  go_wp2
  go_loopw [8] (fun i wr => ∃ k : Nat, k ≤ n ∧ i = .int .i64 k ∧ Hid (Wr K wr p (l ++ enc 4 (xs.take k))) ∧ Hid (Keep K w wr)) (fun i _ => n - (intOf i).toNat)
  case atStart => exact ⟨0, by omega, rfl, by simpa [Hid, enc] using H.out, Keep.refl _ _⟩
  case round =>
    obtain ⟨k, hk, rfl, HW, HKe⟩ := hrel
    by_cases hlt : k < n
    · obtain ⟨b, o, rfl, hj, hc0⟩ := HX.out.at hlt
      have hcx : wr.cell? ⟨b, o + k, none⟩ = some (.int .u32 (xs[k] : Int)) := (World.cell?_of_block (HKe.out.block b (HK.out (by omega) _ rfl))).trans hc0
      have HS := Lib.hid (enc_snoc 4 xs k hj)
      have HL : Hid ((l ++ enc 4 (xs.take k)).length ≤ 100000000) := by show _ ≤ _; rw [List.length_append, enc_length, List.length_take]; omega
      clear hc0
      generalize xs[k] = x at *
      go_wp2_with fail
      refine (u32w K wr p _ (x : Int) (by omega) HW.out HL.out).mono ?_
      rintro e w1 ⟨rfl, h1, h2⟩
      rw [Int.toNat_natCast, List.append_assoc, ← HS.out] at h1
      have HW1 := Lib.hid h1
      have HK1 := Lib.hid (HKe.out.trans h2)
      clear h1 h2
      go_wp2
      go_roundw
      case rel => exact ⟨k + 1, by omega, by go_num, HW1, HK1⟩
      case measure => simp [intOf]; omega
    · have : k = n := by omega
      subst this
      go_wp2
      go_end0
      refine ⟨rfl, ?_, HKe.out⟩
      have := HW.out
      rwa [List.take_of_length_le (by rw [Hn.out]; exact Nat.le_refl _)] at this

set_option maxRecDepth 100000 in
set_option maxHeartbeats 1000000 in
theorem writeAll64 (K : Nat → Prop) (w : World) (p : Nat) (l : List UInt8) (A : Option Addr) (n cp : Nat) (xs : List Nat) (h : Wr K w p l) (hx : NS .u64 w A n xs) (hK : 0 < n → ∀ ad, A = some ad → K ad.block) (hl : l.length ≤ 900000) (hn : n ≤ 1000) :
    Calls Tryz.prog 111 #[.func (.func 50) #[.pointer (some ⟨p, 0, none⟩)] #[], .slice A n cp] w fun e w' => e = .returned (.tuple #[]) ∧ Wr K w' p (l ++ enc 8 xs) ∧ Keep K w w' := by
  have H := Lib.hid h
  have Hn : Hid (xs.length = n) := hx.1
  have HX := Lib.hid hx
  have HK := Lib.hid hK
  clear h hx hK
  go_enter Tryz.func111, Tryz.ntmps111
  go_wp2
  go_loopw [8] (fun i wr => ∃ k : Nat, k ≤ n ∧ i = .int .i64 k ∧ Hid (Wr K wr p (l ++ enc 8 (xs.take k))) ∧ Hid (Keep K w wr)) (fun i _ => n - (intOf i).toNat)
  case atStart => exact ⟨0, by omega, rfl, by simpa [Hid, enc] using H.out, Keep.refl _ _⟩
  case round =>
    obtain ⟨k, hk, rfl, HW, HKe⟩ := hrel
    by_cases hlt : k < n
    · obtain ⟨b, o, rfl, hj, hc0⟩ := HX.out.at hlt
      have hcx : wr.cell? ⟨b, o + k, none⟩ = some (.int .u64 (xs[k] : Int)) := (World.cell?_of_block (HKe.out.block b (HK.out (by omega) _ rfl))).trans hc0
      have HS := Lib.hid (enc_snoc 8 xs k hj)
      have HL : Hid ((l ++ enc 8 (xs.take k)).length ≤ 100000000) := by show _ ≤ _; rw [List.length_append, enc_length, List.length_take]; omega
      clear hc0
      generalize xs[k] = x at *
      go_wp2_with fail
      refine (u64w K wr p _ (x : Int) (by omega) HW.out HL.out).mono ?_
      rintro e w1 ⟨rfl, h1, h2⟩
      rw [Int.toNat_natCast, List.append_assoc, ← HS.out] at h1
      have HW1 := Lib.hid h1
      have HK1 := Lib.hid (HKe.out.trans h2)
      clear h1 h2
      go_wp2
      go_roundw
      case rel => exact ⟨k + 1, by omega, by go_num, HW1, HK1⟩
      case measure => simp [intOf]; omega
    · have : k = n := by omega
      subst this
      go_wp2
      go_end0
      refine ⟨rfl, ?_, HKe.out⟩
      have := HW.out
      rwa [List.take_of_length_le (by rw [Hn.out]; exact Nat.le_refl _)] at this
end Go.Proofs.YtnhokkdieijkhaaGreatDoor

namespace Go.Proofs.YtnhokkdieijkhaaGreatDoor
open Go.RowKit

/-- The cells of a block from o on are these, all others as they were. -/
def updI (cs : List Value) (o : Nat) (vs : List Value) : List Value := cs.take o ++ vs ++ cs.drop (o + vs.length)
theorem upd_nil (cs : List Value) (o : Nat) : updI cs o [] = cs := by simp [updI]
theorem upd_snoc (cs : List Value) (o : Nat) (vs : List Value) (v : Value) (h : o + vs.length < cs.length) : updI cs o (vs ++ [v]) = (updI cs o vs).set (o + vs.length) v := by
  unfold updI
  have h1 : (cs.take o ++ vs).length = o + vs.length := by rw [List.length_append, List.length_take]; omega
  rw [List.set_append_right _ _ (by omega), h1, Nat.sub_self, List.drop_eq_getElem_cons h, List.set_cons_zero, List.length_append, List.length_singleton]
  simp [Nat.add_assoc]
theorem upd_length (cs : List Value) (o : Nat) (vs : List Value) (h : o + vs.length ≤ cs.length) : (updI cs o vs).length = cs.length := by
  unfold updI
  simp only [List.length_append, List.length_take, List.length_drop]
  omega
/-- A block known whole. -/
def Cs (w : World) (g : Nat) (cs : List Value) (t : TypeId) : Prop := w.heap[g]? = some (.cells cs.toArray t (0, 0))
section
variable {w w' : World} {g : Nat} {cs : List Value} {t : TypeId}
theorem Cs.lt (h : Cs w g cs t) : g < w.heap.size := by
  rcases Nat.lt_or_ge g w.heap.size with hlt | hge
  · exact hlt
  · unfold Cs at h; rw [Array.getElem?_eq_none hge] at h; cases h
theorem Cs.froz (h : Cs w g cs t) (o : Nat) : w.frozen? ⟨g, o, none⟩ = false := by unfold Cs at h; simp [World.frozen?, h]
theorem Cs.set (h : Cs w g cs t) (o : Nat) (v : Value) : Cs (w.setCell ⟨g, o, none⟩ v) g (cs.set o v) t := by
  unfold Cs at *
  simp [World.setCell, Array.getElem?_modify, h]
theorem Cs.grown {row : Option Nat} (h : Cs w g cs t) (hg : w.grownBy w' row) (hr : row ≠ some g) : Cs w' g cs t := (hg.block g h.lt (fun e => hr e.symm)).trans h
theorem Cs.below (h : Cs w g cs t) (hb : Below w.heap.size w w') : Cs w' g cs t := (hb.block g h.lt).trans h
theorem Cs.cell (h : Cs w g cs t) (o : Nat) (v : Value) (hv : cs[o]? = some v) : w.cell? ⟨g, o, none⟩ = some v := by
  rw [cell_of_row w g o _ _ (0, 0) h]
  simpa using hv
end
/-- All is as it was, but for the blocks q and g. -/
structure But (q g : Nat) (w w' : World) : Prop where
  os : w'.os = w.os
  tape : w'.tape = w.tape
  output : w'.output = w.output
  size : w.heap.size ≤ w'.heap.size
  block : ∀ k, k < w.heap.size → k ≠ q → k ≠ g → w'.heap[k]? = w.heap[k]?
section
variable {q g : Nat} {a b c w w' : World}
theorem But.refl (q g : Nat) (w : World) : But q g w w := ⟨rfl, rfl, rfl, Nat.le_refl _, fun _ _ _ _ => rfl⟩
theorem But.trans (h : But q g a b) (k : But q g b c) : But q g a c :=
  ⟨k.os.trans h.os, k.tape.trans h.tape, k.output.trans h.output, Nat.le_trans h.size k.size, fun i hi h1 h2 => (k.block i (Nat.lt_of_lt_of_le hi h.size) h1 h2).trans (h.block i hi h1 h2)⟩
theorem But.one (h : w.grownBy w' (some q)) : But q g w w' := ⟨h.os, h.tape, h.output, h.size, fun k hk h1 _ => h.block k hk (fun e => h1 (by injection e))⟩
theorem But.below (h : Below w.heap.size w w') : But q g w w' := ⟨h.os, h.tape, h.output, h.size, fun k hk _ _ => h.block k hk⟩
theorem But.set (o : Nat) (v : Value) : But q g w (w.setCell ⟨g, o, none⟩ v) := ⟨rfl, rfl, rfl, by simp [World.setCell], fun k _ _ h2 => Below.heap_setCell w ⟨g, o, none⟩ v k h2⟩
theorem But.toBelow {B : Nat} (h : But q g w w') (hB : B ≤ w.heap.size) (hq : B ≤ q) (hg : B ≤ g) : Below B w w' := ⟨h.os, h.tape, h.output, h.size, fun k hk => h.block k (by omega) (by omega) (by omega)⟩
theorem But.cell (h : But q g w w') {p : Addr} (hp : p.block < w.heap.size) (h1 : p.block ≠ q) (h2 : p.block ≠ g) : w'.cell? p = w.cell? p := World.cell?_of_block (h.block _ hp h1 h2)
end

/-- Numbers as cells. -/
def c32 (xs : List Nat) : List Value := xs.map fun x : Nat => Value.int .u32 (x : Int)
set_option maxRecDepth 100000 in
set_option maxHeartbeats 1000000 in
theorem readAll32 (w : World) (q : Nat) (s : St) (g o : Nat) (cs : List Value) (t : TypeId) (pb n cp : Nat) (h : Rd w q s.1 s.2) (hg : Cs w g cs t) (ht : t ≠ 5) (hq : q ≠ g) (ho : o + n ≤ cs.length)
    (hp : ∀ j, j < n → w.cell? ⟨pb, j, none⟩ = some (.pointer (some ⟨g, o + j, none⟩))) (hpb : pb < w.heap.size) (hpq : pb ≠ q) (hpg : pb ≠ g) (hn : n ≤ 1000) :
    Calls Tryz.prog 75 #[.func (.func 76) #[.pointer (some ⟨q, 0, none⟩)] #[], .slice (some ⟨pb, 0, none⟩) n cp] w fun e w' => e = .returned (.tuple #[]) ∧
      Rd w' q (Nd.rds 4 n s).1.1 (Nd.rds 4 n s).1.2 ∧ Cs w' g (updI cs o (c32 (Nd.rds 4 n s).2)) t ∧ But q g w w' := by
  have H := Lib.hid h
  have HG := Lib.hid hg
  have HP := Lib.hid hp
  clear h hg hp
  go_enter Tryz.func75, Tryz.ntmps75
  go_wp2
  go_loopw [8] (fun i wr => ∃ k : Nat, k ≤ n ∧ i = .int .i64 k ∧ Hid (Rd wr q (Nd.rds 4 k s).1.1 (Nd.rds 4 k s).1.2) ∧ Hid (Cs wr g (updI cs o (c32 (Nd.rds 4 k s).2)) t) ∧ Hid (But q g w wr)) (fun i _ => n - (intOf i).toNat)
  case atStart => exact ⟨0, by omega, rfl, H, (by show Cs _ _ (updI cs o []) _; rw [upd_nil]; exact HG.out), But.refl _ _ _⟩
  case round =>
    obtain ⟨k, hk, rfl, HR, HC, HB⟩ := hrel
    by_cases hlt : k < n
    · have hcx : wr.cell? ⟨pb, k, none⟩ = some (.pointer (some ⟨g, o + k, none⟩)) := (HB.out.cell (p := ⟨pb, k, none⟩) hpb hpq hpg).trans (HP.out k hlt)
      have HL := Lib.hid (Nd.rds_len 4 k s)
      have HL1 : Hid (o + (c32 (Nd.rds 4 k s).2).length = o + k) := by show _ = _; unfold c32; rw [List.length_map, HL.out]
      go_wp2_with fail
      refine (u32r wr q (Nd.rds 4 k s).1.1 (Nd.rds 4 k s).1.2 HR.out).mono ?_
      rintro e w1 ⟨rfl, h1, h2⟩
      have HR1 : Hid (Rd w1 q (Nd.rds 4 (k + 1) s).1.1 (Nd.rds 4 (k + 1) s).1.2) := h1
      have HC1 := Lib.hid (HC.out.grown h2 (fun e => hq (by injection e)))
      have HB1 := Lib.hid (HB.out.trans (But.one h2))
      have hf : w1.frozen? ⟨g, o + k, none⟩ = false := HC1.out.froz _
      have hc2 : ∃ u, w1.cell? ⟨g, o + k, none⟩ = some u := by
        have hlen : (updI cs o (c32 (Nd.rds 4 k s).2)).length = cs.length := upd_length _ _ _ (by rw [HL1.out]; omega)
        exact ⟨_, HC1.out.cell (o + k) _ (List.getElem?_eq_getElem (by rw [hlen]; omega))⟩
      obtain ⟨u, hc2⟩ := hc2
      clear h1 h2 HR HC HB
      generalize hv : (rdN 4 ((Nd.rds 4 k s).1.1, (Nd.rds 4 k s).1.2)).2 = v at *
      have HS : Hid (updI cs o (c32 (Nd.rds 4 (k + 1) s).2) = (updI cs o (c32 (Nd.rds 4 k s).2)).set (o + k) (.int .u32 (v : Int))) := by
        show _ = _
        have e1 : c32 (Nd.rds 4 (k + 1) s).2 = c32 (Nd.rds 4 k s).2 ++ [.int .u32 (v : Int)] := by
          show c32 ((Nd.rds 4 k s).2 ++ [(rdN 4 (Nd.rds 4 k s).1).2]) = _
          have e2 : (rdN 4 (Nd.rds 4 k s).1).2 = v := hv
          rw [e2]
          unfold c32
          simp
        rw [e1, upd_snoc _ _ _ _ (by rw [HL1.out]; omega), HL1.out]
      have HV1 := Lib.hid hv
      clear hv
      go_wp2
      go_roundw
      case rel =>
        refine ⟨k + 1, by omega, by go_num, HR1.out.off HC1.out ht hq (fun j _ hj => Below.heap_setCell w1 ⟨g, o + k, none⟩ _ j hj), ?_, HB1.out.trans (But.set _ _)⟩
        show Cs _ _ _ _
        rw [HS.out]
        exact HC1.out.set _ _
      case measure => simp [intOf]; omega
    · have : k = n := by omega
      subst this
      go_wp2
      go_end0
      exact ⟨rfl, HR.out, HC.out, HB.out⟩

/-- Numbers as cells. -/
def c64 (xs : List Nat) : List Value := xs.map fun x : Nat => Value.int .u64 (x : Int)
set_option maxRecDepth 100000 in
set_option maxHeartbeats 1000000 in
theorem readAll64 (w : World) (q : Nat) (s : St) (g o : Nat) (cs : List Value) (t : TypeId) (pb n cp : Nat) (h : Rd w q s.1 s.2) (hg : Cs w g cs t) (ht : t ≠ 5) (hq : q ≠ g) (ho : o + n ≤ cs.length)
    (hp : ∀ j, j < n → w.cell? ⟨pb, j, none⟩ = some (.pointer (some ⟨g, o + j, none⟩))) (hpb : pb < w.heap.size) (hpq : pb ≠ q) (hpg : pb ≠ g) (hn : n ≤ 1000) :
    Calls Tryz.prog 77 #[.func (.func 53) #[.pointer (some ⟨q, 0, none⟩)] #[], .slice (some ⟨pb, 0, none⟩) n cp] w fun e w' => e = .returned (.tuple #[]) ∧
      Rd w' q (Nd.rds 8 n s).1.1 (Nd.rds 8 n s).1.2 ∧ Cs w' g (updI cs o (c64 (Nd.rds 8 n s).2)) t ∧ But q g w w' := by
  have H := Lib.hid h
  have HG := Lib.hid hg
  have HP := Lib.hid hp
  clear h hg hp
  go_enter Tryz.func77, Tryz.ntmps77
  go_wp2
  go_loopw [8] (fun i wr => ∃ k : Nat, k ≤ n ∧ i = .int .i64 k ∧ Hid (Rd wr q (Nd.rds 8 k s).1.1 (Nd.rds 8 k s).1.2) ∧ Hid (Cs wr g (updI cs o (c64 (Nd.rds 8 k s).2)) t) ∧ Hid (But q g w wr)) (fun i _ => n - (intOf i).toNat)
  case atStart => exact ⟨0, by omega, rfl, H, (by show Cs _ _ (updI cs o []) _; rw [upd_nil]; exact HG.out), But.refl _ _ _⟩
  case round =>
    obtain ⟨k, hk, rfl, HR, HC, HB⟩ := hrel
    by_cases hlt : k < n
    · have hcx : wr.cell? ⟨pb, k, none⟩ = some (.pointer (some ⟨g, o + k, none⟩)) := (HB.out.cell (p := ⟨pb, k, none⟩) hpb hpq hpg).trans (HP.out k hlt)
      have HL := Lib.hid (Nd.rds_len 8 k s)
      have HL1 : Hid (o + (c64 (Nd.rds 8 k s).2).length = o + k) := by show _ = _; unfold c64; rw [List.length_map, HL.out]
      go_wp2_with fail
      refine (u64r wr q (Nd.rds 8 k s).1.1 (Nd.rds 8 k s).1.2 HR.out).mono ?_
      rintro e w1 ⟨rfl, h1, h2⟩
      have HR1 : Hid (Rd w1 q (Nd.rds 8 (k + 1) s).1.1 (Nd.rds 8 (k + 1) s).1.2) := h1
      have HC1 := Lib.hid (HC.out.grown h2 (fun e => hq (by injection e)))
      have HB1 := Lib.hid (HB.out.trans (But.one h2))
      have hf : w1.frozen? ⟨g, o + k, none⟩ = false := HC1.out.froz _
      have hc2 : ∃ u, w1.cell? ⟨g, o + k, none⟩ = some u := by
        have hlen : (updI cs o (c64 (Nd.rds 8 k s).2)).length = cs.length := upd_length _ _ _ (by rw [HL1.out]; omega)
        exact ⟨_, HC1.out.cell (o + k) _ (List.getElem?_eq_getElem (by rw [hlen]; omega))⟩
      obtain ⟨u, hc2⟩ := hc2
      clear h1 h2 HR HC HB
      generalize hv : (rdN 8 ((Nd.rds 8 k s).1.1, (Nd.rds 8 k s).1.2)).2 = v at *
      have HS : Hid (updI cs o (c64 (Nd.rds 8 (k + 1) s).2) = (updI cs o (c64 (Nd.rds 8 k s).2)).set (o + k) (.int .u64 (v : Int))) := by
        show _ = _
        have e1 : c64 (Nd.rds 8 (k + 1) s).2 = c64 (Nd.rds 8 k s).2 ++ [.int .u64 (v : Int)] := by
          show c64 ((Nd.rds 8 k s).2 ++ [(rdN 8 (Nd.rds 8 k s).1).2]) = _
          have e2 : (rdN 8 (Nd.rds 8 k s).1).2 = v := hv
          rw [e2]
          unfold c64
          simp
        rw [e1, upd_snoc _ _ _ _ (by rw [HL1.out]; omega), HL1.out]
      have HV1 := Lib.hid hv
      clear hv
      go_wp2
      go_roundw
      case rel =>
        refine ⟨k + 1, by omega, by go_num, HR1.out.off HC1.out ht hq (fun j _ hj => Below.heap_setCell w1 ⟨g, o + k, none⟩ _ j hj), ?_, HB1.out.trans (But.set _ _)⟩
        show Cs _ _ _ _
        rw [HS.out]
        exact HC1.out.set _ _
      case measure => simp [intOf]; omega
    · have : k = n := by omega
      subst this
      go_wp2
      go_end0
      exact ⟨rfl, HR.out, HC.out, HB.out⟩
end Go.Proofs.YtnhokkdieijkhaaGreatDoor
