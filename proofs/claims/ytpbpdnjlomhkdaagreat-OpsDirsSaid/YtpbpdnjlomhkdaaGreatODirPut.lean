/-
  Contract of package dir's Put once more: what it hands back lies in new memory (layer 13 keeps it beside a row that it writes).
-/
import Derived.Test.YtpbpdnjlomhkdaaGreatQ5
namespace Go.Proofs.YtpbpdnjlomhkdaaGreat
open Go.RowKit Go.Shelf

theorem own_cap {w w' : World} {A : Option Addr} {n c : Nat} {l : List UInt8} (h : Own w w' A n c l) : n ≤ c := by
  rcases h.1.2 with ⟨h1, h0⟩ | ⟨g, cap, cur, h1, h2, h3, h4, _⟩
  · omega
  · injection h1 with h1 _ h5
    omega
/-- What Put hands back. -/
def PutNP (es : List En) (w : World) (e : Ending) (w' : World) : Prop := ∃ A n cp, e = .returned (.tuple #[.slice A n cp, .int .i64 (chkE es)]) ∧ BS w' A n (putE es) ∧ n ≤ cp ∧ (0 < n → ∀ ad, A = some ad → w.heap.size ≤ ad.block) ∧ Below w.heap.size w w'

set_option maxRecDepth 100000 in
set_option maxHeartbeats 2000000 in
theorem putNew_any (A : Option Addr) (n cp : Nat) (es : List En) (w : World) (h : ES w A n es) (hw : ∀ e ∈ es, e.Wide) (hn : n ≤ 100000000) (hlen : okB es = true → (encs es).length ≤ 80000000) :
    Calls Tryz.prog 171 #[.slice A n cp] w (PutNP es w) := by
  have HV := Lib.hid (valid_any A n cp es w h hw hn)
  have HX := Lib.hid h
  have HN : Hid (es.length = n) := h.1
  have HW := Lib.hid hw
  clear h hw
  by_cases hok : okB es = true
  rotate_left
  · have hok : okB es = false := by simpa using hok
    rw [hok] at HV
    have HC : Hid (chkE es = 11) := by show _ = _; unfold chkE; rw [hok]; rfl
    have HP : Hid (putE es = []) := by show _ = _; unfold putE; rw [hok]; rfl
    clear hok hlen
    go_enter Tryz.func171, Tryz.ntmps171
    go_wp2_with fail
    refine (HV.out).mono ?_
    rintro e w1 ⟨rfl, hb1⟩
    have HB1 := Lib.hid hb1
    clear hb1
    go_wp2
    go_ret2
    refine ⟨none, 0, 0, ?_, ?_, Nat.le_refl _, fun h => absurd h (by omega), HB1.out⟩
    · rw [HC.out]; rfl
    · rw [HP.out]; exact BS.nil
  have HOK := Lib.hid hok
  have HLEN := Lib.hid (hlen hok)
  rw [hok] at HV
  clear hok hlen
  go_enter Tryz.func171, Tryz.ntmps171
  go_wp2_with fail
  refine (HV.out).mono ?_
  rintro e w1 ⟨rfl, hb1⟩
  have HB1 := Lib.hid hb1
  clear hb1 HV
  go_wp2_with fail
  refine (newWriter_op w1).mono ?_
  rintro e w2 ⟨p, rfl, hwr, hb2⟩
  have HB2 := Lib.hid (HB1.out.trans (hb2.mono HB1.out.size))
  have HWR : Hid (Wr (· < w.heap.size) w2 p []) := hwr.less (fun k hk => Nat.lt_of_lt_of_le hk HB1.out.size)
  clear hwr hb2 HB1
  go_wp2_with fail
  go_loopw [13] (fun i wr => ∃ k : Nat, k ≤ n ∧ i = .int .i64 k ∧ Hid (Wr (· < w.heap.size) wr p (encs (es.take k))) ∧ Hid (Below w.heap.size w wr))
    (fun i _ => n - (intOf i).toNat)
  case atStart => exact ⟨0, Nat.zero_le _, rfl, HWR.out, HB2.out⟩
  case round =>
    obtain ⟨k, hk, rfl, hwr, hnx⟩ := hrel
    by_cases hlt : k < n
    · obtain ⟨b, o, rfl, hb, hj, hc⟩ := (HX.out.below hnx.out).load hlt
      have HC := Lib.hid hc
      clear hc HWR HB2
      have HS := Lib.hid (encs_succ es k hj)
      have HLE := Lib.hid (Nat.le_trans (encs_le es k) HLEN.out)
      have HNM := Lib.hid (nameOk_len _ (okB_at es HOK.out k hj).1)
      have HWD := Lib.hid (HW.out _ (List.getElem_mem hj))
      generalize encs (es.take k) = L at *
      generalize es[k] = e at *
      go_upto_region 7 with (first
        | (refine Did.list rfl (did_load 87 (.tmp 15) rfl ⟨b, o + k * 4, none⟩ rfl _ Tryz.underlying87 rfl (ec e) size_E HC.out) ?_)
        | (refine wpList_alloc_any rfl 87 rfl _ zero_E ?_
           intro w3 hb3 hs3 hw3)
        | (refine wpList_store_any rfl 87 (.tmp 6) (.tmp 16) rfl wr.heap.size (ec e).toArray rfl rfl 87 _ hb3 size_E rfl (ec_one e) ?_
           intro w4 hb4 hs4 hw4))
      obtain ⟨heb, hbw⟩ := box_E hw3 hb4 hw4
      have HEB := Lib.hid heb
      have HR4 := Lib.hid (hwr.out.grow hbw (by have := heb.lt; omega))
      have HN4 := Lib.hid (hnx.out.trans (hbw.mono hnx.out.size))
      clear hb3 hs3 hw3 hb4 hs4 hw4 heb hbw hwr HC
      have HQ : Hid (w.heap.size ≤ wr.heap.size) := hnx.out.size
      clear hnx
      generalize wr.heap.size = q at *
      have c0 := HEB.out.c0
      go_wp2_with fail
      refine (u64w _ _ p L _ (by omega) HR4.out (by have := HLE.out; omega)).mono ?_
      rintro en w5 ⟨rfl, hwr, hkp⟩
      have HE5 : Hid (EB w5 q 87 e) := (hkp.block q (.inr rfl)).trans HEB.out
      have HR5 := Lib.hid hwr
      have HN5 := Lib.hid (HN4.out.trans (hkp.below2 (fun k hk => .inl hk)))
      clear hwr hkp HEB HR4 HN4 c0
      have c1 := HE5.out.c1
      go_wp2_with fail
      refine (u32w _ _ p _ _ (by omega) HR5.out (by have := HLE.out; rw [List.length_append, be_length]; omega)).mono ?_
      rintro en w6 ⟨rfl, hwr, hkp⟩
      have HE6 : Hid (EB w6 q 87 e) := (hkp.block q (.inr rfl)).trans HE5.out
      have HR6 := Lib.hid hwr
      have HN6 := Lib.hid (HN5.out.trans (hkp.below2 (fun k hk => .inl hk)))
      clear hwr hkp HE5 HR5 HN5 c1
      have c2 := HE6.out.c2
      go_wp2_with fail
      refine (u32w _ _ p _ _ (by omega) HR6.out (by have := HLE.out; rw [List.length_append, List.length_append, be_length, be_length]; omega)).mono ?_
      rintro en w7 ⟨rfl, hwr, hkp⟩
      have HE7 : Hid (EB w7 q 87 e) := (hkp.block q (.inr rfl)).trans HE6.out
      have HR7 := Lib.hid hwr
      have HN7 := Lib.hid (HN6.out.trans (hkp.below2 (fun k hk => .inl hk)))
      clear hwr hkp HE6 HR6 HN6 c2
      have c3 := HE7.out.c3
      obtain ⟨c8, w8, hcv, hbs8, hb8, _, hlt8⟩ := run_bytes_txt w7 e.nm
      have HR8 := Lib.hid (HR7.out.grow hb8 hlt8)
      have HBS8 := Lib.hid hbs8
      have HN8 := Lib.hid (HN7.out.trans (hb8.mono HN7.out.size))
      clear hbs8 hb8 hlt8 HR7 HN7
      go_wp2_with fail
      refine (opaquew _ _ p _ _ _ _ e.nm HR8.out HBS8.out (fun _ ad h => by injection h with h; subst h; exact .inr rfl) (by have := HLE.out; rw [List.length_append, List.length_append, List.length_append, be_length, be_length, be_length]; omega) (by have := HNM.out; omega)).mono ?_
      rintro en w9 ⟨rfl, hwr, hkp⟩
      have HR9 : Hid (Wr (· < w.heap.size) w9 p (encs (es.take (k + 1)))) := by
        rw [HS.out]
        have : L ++ enc1 e = L ++ be 8 (e.ck : Int).toNat ++ be 4 (e.ino : Int).toNat ++ be 4 (e.gen : Int).toNat ++ opq e.nm := by simp [enc1]
        rw [this]
        exact hwr.less (fun k hk => .inl (.inl hk))
      have HN9 := Lib.hid (HN8.out.trans (hkp.below2 (fun k hk => .inl (.inl hk))))
      clear hwr hkp HR8 HN8 HBS8 hcv c3 HE7
      go_wp2_with fail
      go_roundw
      case rel => exact ⟨k + 1, by omega, by go_num, HR9.out, HN9.out⟩
      case measure => simp [intOf]; omega
    · have : k = n := by omega
      subst this
      have HT : Hid (es.take k = es) := List.take_of_length_le (by have := HN.out; omega)
      rw [HT.out] at hwr
      go_wp2_with fail
      refine (out_any _ _ p _ hwr.out (by have := HLEN.out; omega)).mono ?_
      rintro en w3 ⟨A3, c3, rfl, hown⟩
      have HO := Lib.hid hown
      have HN3 := Lib.hid (hnx.out.trans (hown.2.mono hnx.out.size))
      have HC : Hid (chkE es = 0) := if_pos HOK.out
      have HP : Hid (putE es = encs es) := if_pos HOK.out
      have HNX := Lib.hid hnx
      clear hown hwr hnx HWR HB2
      go_wp2_with fail
      go_ret2
      refine ⟨A3, (encs es).length, c3, ?_, ?_, own_cap HO.out, fun _ ad e => Nat.le_trans HNX.out.size (HO.out.new ad e), HN3.out⟩
      · rw [HC.out]; rfl
      · rw [HP.out]; exact HO.out.bs
end Go.Proofs.YtpbpdnjlomhkdaaGreat
