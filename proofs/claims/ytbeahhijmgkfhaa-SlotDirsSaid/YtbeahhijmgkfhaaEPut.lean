
/-
  Contract of package dir's Put (layer 8).
-/
import Derived.Test.YtbeahhijmgkfhaaEValid
import Derived.Lib.ConvBytes
namespace Go.Proofs.Ytbeahhijmgkfhaa
open Go.RowKit Go.Shelf

theorem run_bytes_txt (w : World) (l : List UInt8) : ∃ c w', (convert 9 24 (.string (txt l))).run Try.prog w = .ok (.slice (some ⟨w.heap.size, 0, none⟩) l.length c) w' ∧ BS w' (some ⟨w.heap.size, 0, none⟩) l.length l ∧ Below w.heap.size w w' ∧ l.length ≤ c ∧ w.heap.size < w'.heap.size := by
  have hr := Lib.run_convert_string_bytes (P := Try.prog) w 9 24 5 (txt l) Try.underlying9 Try.underlying24 Try.underlying5
  rw [txt_size] at hr
  refine ⟨_, _, hr, ⟨rfl, fun _ => ⟨w.heap.size, 0, rfl, fun j hj => ?_⟩⟩, ⟨rfl, rfl, rfl, ?_, fun k hk => Lib.bytesWorld_at_old w _ _ k hk⟩, ?_, ?_⟩
  · rw [Nat.zero_add, Lib.bytesWorld_cell w _ _ j (by rw [txt_size]; exact hj)]
    simp [txt, hj]
  · rw [Lib.bytesWorld_size]
    omega
  · exact grownCap_ge _ _ _ _
  · rw [Lib.bytesWorld_size]
    omega
theorem Wr.less {K K' : Nat → Prop} {w : World} {p : Nat} {l : List UInt8} (h : Wr K w p l) (hk : ∀ k, K' k → K k) : Wr K' w p l := by
  obtain ⟨A, c, h1, h2, h3, h4, h5⟩ := h
  exact ⟨A, c, h1, h2, fun hp => h3 (hk _ hp), fun k hk1 hk2 => h4 k hk1 (hk _ hk2), fun k hk1 => h5 k (hk _ hk1)⟩
/-- A new block may be added to what is left alone, in any later world. -/
theorem Wr.grow {K : Nat → Prop} {w w' : World} {p : Nat} {l : List UInt8} (h : Wr K w p l) (hb : Below w.heap.size w w') (hlt : w.heap.size < w'.heap.size) : Wr (fun k => K k ∨ k = w.heap.size) w' p l := by
  obtain ⟨A, c, h⟩ := h
  refine ⟨A, c, (hb.block p h.lt).trans h.1, ?_, ?_, fun k hk => ?_, ?_⟩
  · exact h.2.1.kept (below_grown hb) (Classical.em _)
  · rintro (hk | hk)
    · exact h.2.2.1 hk
    · have := h.lt; omega
  · rintro (h1 | h1)
    · exact h.2.2.2.1 k hk h1
    · have := (h.2.1.lt k hk).2; omega
  · rintro k (hk | rfl)
    · exact Nat.lt_of_lt_of_le (h.2.2.2.2 k hk) hb.size
    · exact hlt
theorem Keep.below2 {K : Nat → Prop} {B : Nat} {w w' : World} (h : Keep K w w') (hK : ∀ k, k < B → K k) : Below B w w' := ⟨h.os, h.tape, h.output, h.size, fun k hk => h.block k (hK k hk)⟩

theorem encs_succ (es : List En) (k : Nat) (h : k < es.length) : encs (es.take (k + 1)) = encs (es.take k) ++ enc1 es[k] := by
  unfold encs
  rw [List.take_succ_eq_append_getElem h, List.flatMap_append, List.flatMap_singleton]
theorem encs_le (es : List En) (k : Nat) : (encs (es.take k)).length ≤ (encs es).length := by
  have : encs es = encs (es.take k) ++ encs (es.drop k) := by
    unfold encs
    rw [← List.flatMap_append, List.take_append_drop]
  rw [this, List.length_append]
  omega
/-- What Put hands back. -/
def PutP (es : List En) (w : World) (e : Ending) (w' : World) : Prop := ∃ A n cp, e = .returned (.tuple #[.slice A n cp, .int .i64 (chkE es)]) ∧ BS w' A n (putE es) ∧ Below w.heap.size w w'

set_option maxRecDepth 100000 in
set_option maxHeartbeats 2000000 in
theorem put_any (A : Option Addr) (n cp : Nat) (es : List En) (w : World) (h : ES w A n es) (hw : ∀ e ∈ es, e.Wide) (hn : n ≤ 100000000) (hlen : okB es = true → (encs es).length ≤ 80000000) :
    Calls Try.prog 19 #[.slice A n cp] w (PutP es w) := by
  have HV := Lib.hid (valid_any A n cp es w h hw hn)
  have HX := Lib.hid h
  have HN : Hid (es.length = n) := h.1
  have HW := Lib.hid hw
  clear h hw
  by_cases hok : okB es = true
  rotate_left
  · have hok : okB es = false := by simpa using hok
    rw [hok] at HV
    have HC : Hid (chkE es = 11) := by show _ = _; unfold chkE; rw [hok]; rfl
    have HP : Hid (putE es = []) := by show _ = _; unfold putE; rw [hok]; rfl
    clear hok hlen
    go_enter Try.func19, Try.ntmps19
    go_wp2_with fail
    refine (HV.out).mono ?_
    rintro e w1 ⟨rfl, hb1⟩
    have HB1 := Lib.hid hb1
    clear hb1
    go_wp2
    go_ret2
    refine ⟨none, 0, 0, ?_, ?_, HB1.out⟩
    · rw [HC.out]; rfl
    · rw [HP.out]; exact BS.nil
  have HOK := Lib.hid hok
  have HLEN := Lib.hid (hlen hok)
  rw [hok] at HV
  clear hok hlen
  go_enter Try.func19, Try.ntmps19
  go_wp2_with fail
  refine (HV.out).mono ?_
  rintro e w1 ⟨rfl, hb1⟩
  have HB1 := Lib.hid hb1
  clear hb1 HV
  go_wp2_with fail
  refine (newWriter_op w1).mono ?_
  rintro e w2 ⟨p, rfl, hwr, hb2⟩
  have HB2 := Lib.hid (HB1.out.trans (hb2.mono HB1.out.size))
  have HWR : Hid (Wr (· < w.heap.size) w2 p []) := hwr.less (fun k hk => Nat.lt_of_lt_of_le hk HB1.out.size)
  clear hwr hb2 HB1
  go_wp2_with fail
  go_loopw [13] (fun i wr => ∃ k : Nat, k ≤ n ∧ i = .int .i64 k ∧ Hid (Wr (· < w.heap.size) wr p (encs (es.take k))) ∧ Hid (Below w.heap.size w wr))
    (fun i _ => n - (intOf i).toNat)
  case atStart => exact ⟨0, Nat.zero_le _, rfl, HWR.out, HB2.out⟩
  case round =>
    obtain ⟨k, hk, rfl, hwr, hnx⟩ := hrel
    by_cases hlt : k < n
    · obtain ⟨b, o, rfl, hb, hj, hc⟩ := (HX.out.below hnx.out).load hlt
      have HC := Lib.hid hc
      clear hc HWR HB2
      have HS := Lib.hid (encs_succ es k hj)
      have HLE := Lib.hid (Nat.le_trans (encs_le es k) HLEN.out)
      have HNM := Lib.hid (nameOk_len _ (okB_at es HOK.out k hj).1)
      have HWD := Lib.hid (HW.out _ (List.getElem_mem hj))
      generalize encs (es.take k) = L at *
      generalize es[k] = e at *
      go_upto_region 7 with (first
        | (refine Did.list rfl (did_load 51 (.tmp 15) rfl ⟨b, o + k * 4, none⟩ rfl _ Try.underlying51 rfl (ec e) size_E HC.out) ?_)
        | (refine wpList_alloc_any rfl 51 rfl _ zero_E ?_
           intro w3 hb3 hs3 hw3)
        | (refine wpList_store_any rfl 51 (.tmp 6) (.tmp 16) rfl wr.heap.size (ec e).toArray rfl rfl 51 _ hb3 size_E rfl (ec_one e) ?_
           intro w4 hb4 hs4 hw4))
      obtain ⟨heb, hbw⟩ := box_E hw3 hb4 hw4
      have HEB := Lib.hid heb
      have HR4 := Lib.hid (hwr.out.grow hbw (by have := heb.lt; omega))
      have HN4 := Lib.hid (hnx.out.trans (hbw.mono hnx.out.size))
      clear hb3 hs3 hw3 hb4 hs4 hw4 heb hbw hwr HC
      have HQ : Hid (w.heap.size ≤ wr.heap.size) := hnx.out.size
      clear hnx
      generalize wr.heap.size = q at *
      have c0 := HEB.out.c0
      go_wp2_with fail
      refine (u64w _ _ p L _ (by omega) HR4.out (by have := HLE.out; omega)).mono ?_
      rintro en w5 ⟨rfl, hwr, hkp⟩
      have HE5 : Hid (EB w5 q 51 e) := (hkp.block q (.inr rfl)).trans HEB.out
      have HR5 := Lib.hid hwr
      have HN5 := Lib.hid (HN4.out.trans (hkp.below2 (fun k hk => .inl hk)))
      clear hwr hkp HEB HR4 HN4 c0
      have c1 := HE5.out.c1
      go_wp2_with fail
      refine (u32w _ _ p _ _ (by omega) HR5.out (by have := HLE.out; rw [List.length_append, be_length]; omega)).mono ?_
      rintro en w6 ⟨rfl, hwr, hkp⟩
      have HE6 : Hid (EB w6 q 51 e) := (hkp.block q (.inr rfl)).trans HE5.out
      have HR6 := Lib.hid hwr
      have HN6 := Lib.hid (HN5.out.trans (hkp.below2 (fun k hk => .inl hk)))
      clear hwr hkp HE5 HR5 HN5 c1
      have c2 := HE6.out.c2
      go_wp2_with fail
      refine (u32w _ _ p _ _ (by omega) HR6.out (by have := HLE.out; rw [List.length_append, List.length_append, be_length, be_length]; omega)).mono ?_
      rintro en w7 ⟨rfl, hwr, hkp⟩
      have HE7 : Hid (EB w7 q 51 e) := (hkp.block q (.inr rfl)).trans HE6.out
      have HR7 := Lib.hid hwr
      have HN7 := Lib.hid (HN6.out.trans (hkp.below2 (fun k hk => .inl hk)))
      clear hwr hkp HE6 HR6 HN6 c2
      have c3 := HE7.out.c3
      obtain ⟨c8, w8, hcv, hbs8, hb8, _, hlt8⟩ := run_bytes_txt w7 e.nm
      have HR8 := Lib.hid (HR7.out.grow hb8 hlt8)
      have HBS8 := Lib.hid hbs8
      have HN8 := Lib.hid (HN7.out.trans (hb8.mono HN7.out.size))
      clear hbs8 hb8 hlt8 HR7 HN7
      go_wp2_with fail
      refine (opaquew _ _ p _ _ _ _ e.nm HR8.out HBS8.out (fun _ ad h => by injection h with h; subst h; exact .inr rfl) (by have := HLE.out; rw [List.length_append, List.length_append, List.length_append, be_length, be_length, be_length]; omega) (by have := HNM.out; omega)).mono ?_
      rintro en w9 ⟨rfl, hwr, hkp⟩
      have HR9 : Hid (Wr (· < w.heap.size) w9 p (encs (es.take (k + 1)))) := by
        rw [HS.out]
        have : L ++ enc1 e = L ++ be 8 (e.ck : Int).toNat ++ be 4 (e.ino : Int).toNat ++ be 4 (e.gen : Int).toNat ++ opq e.nm := by simp [enc1]
        rw [this]
        exact hwr.less (fun k hk => .inl (.inl hk))
      have HN9 := Lib.hid (HN8.out.trans (hkp.below2 (fun k hk => .inl (.inl hk))))
      clear hwr hkp HR8 HN8 HBS8 hcv c3 HE7
      go_wp2_with fail
      go_roundw
      case rel => exact ⟨k + 1, by omega, by go_num, HR9.out, HN9.out⟩
      case measure => simp [intOf]; omega
    · have : k = n := by omega
      subst this
      have HT : Hid (es.take k = es) := List.take_of_length_le (by have := HN.out; omega)
      rw [HT.out] at hwr
      go_wp2_with fail
      refine (out_any _ _ p _ hwr.out (by have := HLEN.out; omega)).mono ?_
      rintro en w3 ⟨A3, c3, rfl, hown⟩
      have HO := Lib.hid hown
      have HN3 := Lib.hid (hnx.out.trans (hown.2.mono hnx.out.size))
      have HC : Hid (chkE es = 0) := if_pos HOK.out
      have HP : Hid (putE es = encs es) := if_pos HOK.out
      clear hown hwr hnx HWR HB2
      go_wp2_with fail
      go_ret2
      refine ⟨A3, (encs es).length, c3, ?_, ?_, HN3.out⟩
      · rw [HC.out]; rfl
      · rw [HP.out]; exact HO.out.bs
end Go.Proofs.Ytbeahhijmgkfhaa
