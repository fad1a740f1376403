/-
  Contract of Format (layer 13).
-/
import Derived.Test.YtpbpdnjlomhkdaaGreatOCatch
import Derived.Maps.AppendAt
namespace Go.Proofs.YtpbpdnjlomhkdaaGreat
open Go.RowKit Go.Shelf

theorem built_Th2 (r : Int) : Tryz.prog.built 27 [(1, .int .u64 1), (2, .int .i64 r)] = some #[.slice none 0 0, .int .u64 1, .int .i64 r] := by kernel_rfl
theorem built_Sl0 (a : Int) : Tryz.prog.built 92 [(0, .int .u32 a)] = some #[.int .u32 a, .int .u32 0, .int .u32 0, .int .u32 0, .int .u32 0, .int .u64 0, .int .u64 0, .int .u64 0, .slice none 0 0] := by kernel_rfl
theorem built_Sl5 : Tryz.prog.built 92 [(1, .int .u32 2), (2, .int .u32 1), (3, .int .u32 1), (4, .int .u32 493), (5, .int .u64 1)] = some #[.int .u32 0, .int .u32 2, .int .u32 1, .int .u32 1, .int .u32 493, .int .u64 1, .int .u64 0, .int .u64 0, .slice none 0 0] := by kernel_rfl
/-- A free slot. -/
def fS0 (i : Nat) : Vl.Th := ⟨i, 0, 0, 0, 0, 0, 0, 0, []⟩
def fl (k : Nat) : List Vl.Th := (List.range k).map fS0
def fz (k : Nat) : List Sl := List.replicate k ⟨none, 0, 0⟩
theorem fl_len (k : Nat) : (fl k).length = k := by simp [fl]
theorem fl_succ (k : Nat) : fl (k + 1) = fl k ++ [fS0 k] := by simp [fl, List.range_succ]
theorem fz_succ (k : Nat) : fz (k + 1) = fz k ++ [⟨none, 0, 0⟩] := by simp [fz, List.replicate_succ']
theorem format_rows {w : World} {g : Nat} {cur : List Value} (hb : Bw w g (cur.take 0 ++ sc (Op.formatS 0) (.slice none 0 0) ++ cur.drop (0 + (sc (Op.formatS 0) (.slice none 0 0)).length)) 92) (ht : cur.take (24 * 9) = scs (fl 24) (fz 24)) : SS w (some ⟨g, 0, none⟩) 24 ((List.range 24).map Op.formatS) := by
  refine ⟨by simp, fun _ => ⟨g, 0, rfl, fun k hk => ⟨⟨none, 0, 0⟩, fun j u hu => ?_, ?_, Nat.le_refl _⟩⟩⟩
  · have hk24 : k < 24 := by simpa using hk
    have e : ((List.range 24).map Op.formatS)[k]'hk = Op.formatS k := by rw [List.getElem_map, List.getElem_range]
    rw [e] at hu
    have hj : j < 9 := by have := (List.getElem?_eq_some_iff.1 hu).1; rwa [sc_len] at this
    refine hb.cell _ _ ?_
    rw [List.take_zero, List.nil_append, sc_len]
    by_cases h0 : k = 0
    · subst h0
      rw [List.getElem?_append_left (by rw [sc_len]; omega), show 0 + 0 * 9 + j = j by omega]
      exact hu
    · rw [List.getElem?_append_right (by rw [sc_len]; omega), sc_len, List.getElem?_drop, show 0 + 9 + (0 + k * 9 + j - 9) = k * 9 + j by omega]
      have h1 : (cur.take (24 * 9))[k * 9 + j]? = cur[k * 9 + j]? := by rw [List.getElem?_take, if_pos (by omega)]
      rw [← h1, ht, scs_get (fl 24) (fz 24) (by simp [fl, fz]) k (by rw [fl_len]; exact hk24) j hj]
      have e1 : (fl 24)[k]'(by rw [fl_len]; exact hk24) = fS0 k := by simp only [fl, List.getElem_map, List.getElem_range]
      have e2 : (fz 24)[k]'(by show k < (List.replicate 24 (⟨none, 0, 0⟩ : Sl)).length; rw [List.length_replicate]; exact hk24) = ⟨none, 0, 0⟩ := by simp only [fz, List.getElem_replicate]
      rw [e1, e2, show fS0 k = Op.formatS k from (if_neg h0).symm]
      exact hu
  · have e : ((List.range 24).map Op.formatS)[k]'hk = Op.formatS k := by rw [List.getElem_map, List.getElem_range]
    rw [e, show (Op.formatS k).dt = [] from by unfold Op.formatS; split <;> rfl]
    exact BS.nil
theorem ret_fmt {w : World} {b : Nat} {tm : Array Value} {t : Op.TT} {v : Value} (h2 : tm.getD 2 undef = .pointer (some ⟨b, 0, none⟩)) (ha : Bw w b (tc t v) 27) :
    (results Tryz.f18 tm).run Tryz.prog w = .ok (.agg (tc t v).toArray) w := by
  have l1 := run_loadVar_row (P := Tryz.prog) w b 27 27 (tc t v).toArray (0, 0) _ ha Tryz.underlying27 rfl size_Th
  simp only [Array.getD_eq_getD_getElem?] at h2
  simp [results, Tryz.results18, h2, l1, asAddr]
theorem SR_set {W : World} {base : Nat} {A : Option Addr} {c : Nat} {k b : Nat} (h : SR W base A c (fl k) (fz k)) (hb : b < base) (v : Value) : SR (W.setCell ⟨b, 0, none⟩ v) base A c (fl k) (fz k) := by
  refine ⟨h.len, ?_, fun i hi => ?_, h.cap, h.off⟩
  · refine ⟨h.row.1, ?_⟩
    rcases h.row.2 with hn | ⟨g, cap, cur, e, h1, h2, h3⟩
    · exact .inl hn
    · exact .inr ⟨g, cap, cur, e, h1, (Below.heap_setCell W ⟨b, 0, none⟩ v g (by show g ≠ b; omega)).trans h2, h3⟩
  · have e1 : (fz k)[i] = ⟨none, 0, 0⟩ := by simp [fz]
    have e2 : (fl k)[i]'(by rw [← h.len]; exact hi) = fS0 i := by simp [fl]
    rw [e1, e2]
    exact BS.nil
set_option maxRecDepth 100000 in
set_option maxHeartbeats 600000 in
theorem format_any (room : Nat) (w : World) : Calls Tryz.prog 18 #[.int .i64 (room : Int)] w fun e w' => ∃ A k, e = .returned (.agg (tc (Op.format room) (.slice A 24 k)).toArray) ∧ TM w' A k (Op.format room) ∧ Below w.heap.size w w' := by
  have hb2 := built_Th2 (room : Int)
  go_enter Tryz.func18, Tryz.ntmps18
  go_upto_region 1 with (refine wpList_alloc_any rfl 27 rfl _ zero_Th ?_; intro w1 hb1 hs1 hw1)
  go_upto_region 2 with (first
    | (refine wpList_alloc_any rfl 27 rfl _ zero_Th ?_; intro w2 hb2' hs2' hw2)
    | (refine wpList_store_part rfl 27 (.tmp 3) (.tmp 6) rfl w1.heap.size 0 [.slice none 0 0, .int .u64 1, .int .i64 (room : Int)] rfl rfl 27 _ hb2' size_Th (Nat.le_refl 3) (fun v hv => by simp only [List.mem_cons, List.not_mem_nil, or_false] at hv; rcases hv with rfl | rfl | rfl <;> rfl) ?_
       intro w3 hb3 hs3 hk3))
  go_upto_region 3 with fail
  have HB3 : Hid (Below w.heap.size w w3) := (hw1.trans (hw2.mono hw1.size)).trans (hk3.below2 (fun j hj => by omega))
  have HR3 : Hid (Bw w3 w.heap.size (tc Op.zeroT (.slice none 0 0)) 27) := ((show Bw w1 w.heap.size (tc Op.zeroT (.slice none 0 0)) 27 from hb1).below hw2).keep hk3 (by omega)
  have HT3 : Hid (Bw w3 (w.heap.size + 1) [.slice none 0 0, .int .u64 1, .int .i64 (room : Int)] 27) := by rw [← hs1]; exact hb3
  have HZ3 : Hid (w.heap.size + 2 ≤ w3.heap.size) := by show _ ≤ _; omega
  clear hb1 hw1 hb2' hw2 hb3 hk3 hs3 hs2' hs1 w1 w2
  obtain ⟨i0, hi0, hz0, hz1, hz2⟩ := info_parts infos_Sl
  have HI0 := Lib.hid hi0
  have HZ0 := Lib.hid hz0
  have HZ1 := Lib.hid hz1
  have HZ2 := Lib.hid hz2
  clear hi0 hz0 hz1 hz2
  go_loopw [7] (fun s7 wr => ∃ (k : Nat) (A : Option Addr) (c : Nat), k ≤ 24 ∧ s7 = .int .u32 (k : Int) ∧ Hid (Below w.heap.size w wr) ∧ Hid (w.heap.size + 2 ≤ wr.heap.size) ∧ Hid (Bw wr w.heap.size (tc Op.zeroT (.slice none 0 0)) 27) ∧ Hid (Bw wr (w.heap.size + 1) [.slice A k c, .int .u64 1, .int .i64 (room : Int)] 27) ∧ Hid (SR wr (w.heap.size + 2) A c (fl k) (fz k))) (fun s7 _ => 24 - (intOf s7).toNat)
  case atStart => exact ⟨0, none, 0, by omega, rfl, HB3.out, HZ3.out, HR3.out, HT3.out, SR.nil _ _⟩
  case round =>
    clear HB3 HZ3 HR3 HT3
    obtain ⟨k, A, c, hk, rfl, HB, HZ, HR, HT, HS⟩ := hrel
    by_cases hlt : k < 24
    · have q0 := HT.out.cell 0 _ rfl
      have hb0 := built_Sl0 (k : Int)
      have hrow : wr.ownsRow (w.heap.size + 2) 92 9 (.slice A k c) k (scs (fl k) (fz k)) := by have := HS.out.row; rwa [fl_len] at this
      have HROW := Lib.hid (hrow.alloc (.cells (sc (fS0 k) (.slice none 0 0)).toArray 92))
      have HSA : Hid (SR (wr.alloc (.cells (sc (fS0 k) (.slice none 0 0)).toArray 92)) (w.heap.size + 2) A c (fl k) (fz k)) := HS.out.below (alloc_below wr _)
      have hsz : w.heap.size + 2 ≤ (wr.alloc (.cells (sc (fS0 k) (.slice none 0 0)).toArray 92)).heap.size := by have := HZ.out; simp; omega
      have HBA : Hid (Below w.heap.size w (wr.alloc (.cells (sc (fS0 k) (.slice none 0 0)).toArray 92))) := HB.out.alloc HB.out.size _
      have HRA := Lib.hid (HR.out.below (alloc_below wr (.cells (sc (fS0 k) (.slice none 0 0)).toArray 92)))
      have HTA := Lib.hid (HT.out.below (alloc_below wr (.cells (sc (fS0 k) (.slice none 0 0)).toArray 92)))
      clear hrow
      go_wp2_with (first
        | (at_builtin
           go_must (refine wpList_append_own_at _ rfl (.tmp 11) (.tmp 14) 24 rfl (w.heap.size + 2) 92 i0 _ 9 72 Tryz.underlying24 HI0.out HZ0.out HZ1.out HZ2.out rfl (by omega) (.slice A k c) k (scs (fl k) (fz k)) rfl HROW.out ⟨wr.heap.size, 0, none⟩ 1 1 (sc (fS0 k) (.slice none 0 0)) rfl (by simp [sc]) (World.news_of_block (heap_alloc_new wr _)) (sc_row _ _ _ _) (by unfold maxLen; omega) (by omega) hsz ?_)
           intro v' w8 hown' hgrow _ hat
           obtain ⟨g', cap', rfl⟩ := ownsRow_succ hown'
           have HS8 : Hid (SR w8 (w.heap.size + 2) (some ⟨g', 0, none⟩) cap' (fl (k + 1)) (fz (k + 1))) := by
             show SR _ _ _ _ _ _
             rw [fl_succ, fz_succ]
             exact HSA.out.append (x := fS0 k) (s := ⟨none, 0, 0⟩) (by rw [fl_len]; exact hown') (by rw [fl_len]; exact hgrow) (by rw [fl_len]; exact hat) BS.nil (Nat.le_refl _) (fun hn => absurd hn (Nat.lt_irrefl _))
           have hnr : ∀ j, (Value.slice A k c).ownBlock = some j → w.heap.size + 2 ≤ j := fun j hj => (HROW.out.lt j hj).1
           have HB8 : Hid (Below w.heap.size w w8) := HBA.out.grown hgrow HBA.out.size (fun j hj => by have := hnr j hj; omega)
           have HR8 : Hid (Bw w8 w.heap.size (tc Op.zeroT (.slice none 0 0)) 27) := HRA.out.grown hgrow (fun e => by have := hnr _ e; omega)
           have ht8 : Bw w8 (w.heap.size + 1) [.slice A k c, .int .u64 1, .int .i64 (room : Int)] 27 := HTA.out.grown hgrow (fun e => by have := hnr _ e; omega)
           have k0 := ht8.cell 0 _ rfl
           have f0 := ht8.froz 0
           have HT8 : Hid (Bw (w8.setCell ⟨w.heap.size + 1, 0, none⟩ (.slice (some ⟨g', 0, none⟩) (k + 1) cap')) (w.heap.size + 1) [.slice (some ⟨g', 0, none⟩) (k + 1) cap', .int .u64 1, .int .i64 (room : Int)] 27) := Bw.set ht8 0 _
           have HZ8 : Hid (w.heap.size + 2 ≤ w8.heap.size) := Nat.le_trans hsz hgrow.size
           clear hown' hgrow hat hnr ht8))
      go_roundw
      case rel =>
        exact ⟨k + 1, _, _, by omega, by go_num, HB8.out.setCell (p := ⟨w.heap.size + 1, 0, none⟩) (show w.heap.size ≤ w.heap.size + 1 by omega) _, Lib.hid (by simpa using HZ8.out), HR8.out.keep ((Keep.refl (· ≠ w.heap.size + 1) w8).setCell (p := ⟨w.heap.size + 1, 0, none⟩) (fun h => h rfl) _) (by omega), HT8.out, SR_set HS8.out (by omega) _⟩
      case measure => simp [intOf]; omega
    · obtain rfl : k = 24 := by omega
      have q0 := HT.out.cell 0 _ rfl
      have hb7 := built_Sl5
      rcases HS.out.row.2 with ⟨_, h0⟩ | ⟨g, cap, cur, e, hg, hcur, hcap, hmax, hsz, htake⟩
      · rw [fl_len] at h0; omega
      obtain ⟨rfl, rfl⟩ : A = some ⟨g, 0, none⟩ ∧ c = cap := by injection e with e1 e2 e3; exact ⟨e1, e3⟩
      rw [fl_len] at hcap htake
      have hbw : Bw wr g cur.toList 92 := by unfold Bw; simpa using hcur
      have hlen : cur.toList.length = c * 9 := by simpa using hsz
      have HTK := Lib.hid htake
      have HG : Hid (w.heap.size + 2 ≤ g) := hg
      clear HS hcur e htake hsz hg
      go_upto_region 8 with (refine wpList_store_part rfl 92 (.tmp 21) (.tmp 20) rfl g 0 (sc (Op.formatS 0) (.slice none 0 0)) rfl rfl 92 _ hbw size_Sl (by rw [hlen]; simp [sc]; omega) (sc_row _ _ _ _) ?_
                             intro w9 hb9 hs9 hk9)
      have HT9 : Hid (Bw w9 (w.heap.size + 1) [.slice (some ⟨g, 0, none⟩) 24 c, .int .u64 1, .int .i64 (room : Int)] 27) := HT.out.keep hk9 (by have := HG.out; omega)
      have HR9 : Hid (Bw w9 w.heap.size (tc Op.zeroT (.slice none 0 0)) 27) := HR.out.keep hk9 (by have := HG.out; omega)
      have HB9 : Hid (Below w.heap.size w w9) := HB.out.trans (hk9.below2 (fun j hj => by have := HG.out; omega))
      have HG9 := Lib.hid hb9
      clear HT HR HB hb9 hs9 hk9 hbw q0
      have HCC : Hid (24 ≤ c) := hcap
      go_wp2_with (first
        | (refine Did.list rfl (did_load 27 (.tmp 3) rfl ⟨w.heap.size + 1, 0, none⟩ rfl _ Tryz.underlying27 rfl [.slice (some ⟨g, 0, none⟩) 24 c, .int .u64 1, .int .i64 (room : Int)] size_Th (fun j u hu => by rw [add_plain, Nat.zero_add]; exact HT9.out.cell _ _ hu)) ?_)
        | (refine wpList_store_part rfl 27 (.tmp 2) (.tmp 22) rfl w.heap.size 0 [.slice (some ⟨g, 0, none⟩) 24 c, .int .u64 1, .int .i64 (room : Int)] rfl rfl 27 _ HR9.out size_Th (Nat.le_refl 3) (fun v hv => by simp only [List.mem_cons, List.not_mem_nil, or_false] at hv; rcases hv with rfl | rfl | rfl <;> rfl) ?_
           intro w10 hb10 hs10 hk10))
      have HB10 : Hid (Below w.heap.size w w10) := HB9.out.trans (hk10.below2 (fun j hj => by omega))
      have HSS := format_rows (HG9.out.keep hk10 (by have := HG.out; omega)) HTK.out
      exact bodyPost_ret (ret_fmt (t := Op.format room) (v := .slice (some ⟨g, 0, none⟩) 24 c) (by rfl) hb10) rfl ⟨some ⟨g, 0, none⟩, c, rfl, ⟨HSS, HCC.out⟩, HB10.out⟩
end Go.Proofs.YtpbpdnjlomhkdaaGreat
