/-
  Contract of package call's PutReply (layer 9).
-/
import Derived.Test.YtobhmjokoicpoaaDoorKPut
namespace Go.Proofs.YtobhmjokoicpoaaDoor
open Go.RowKit

/-- The cells of a reply whose data is v, whose entries are u. -/
def rc (r : Rp) (v u : Value) : List Value := [.int .u32 (r.cli : Int), .int .u32 (r.xid : Int), .int .i64 r.st, .int .u32 (r.ati : Int), .int .u32 (r.atg : Int), .int .u32 (r.kd : Int), .int .u32 (r.md : Int), .int .u32 (r.ln : Int), .int .u32 (r.sz : Int), .int .u64 (r.ch : Int), v, u, .bool r.eof, .int .u64 (r.vf : Int), .int .u32 (r.fr : Int)]
theorem size_Rp : (Tryd.prog.info? 48).map (·.size) = some 15 := by kernel_rfl
theorem zero_Rp : (Tryd.prog.info? 48).bind (·.zero) = some (.agg (rc Rp.zero (.slice none 0 0) (.slice none 0 0)).toArray) := by kernel_rfl

theorem BS.keepLt {K : Nat → Prop} {w w' : World} {A : Option Addr} {n : Nat} {l : List UInt8} (h : BS w A n l) (hk : Keep K w w') (hA : 0 < n → ∀ ad, A = some ad → K ad.block) : BS w' A n l := by
  refine ⟨h.1, fun hn => ?_⟩
  obtain ⟨b, o, rfl, hc⟩ := h.2 hn
  refine ⟨b, o, rfl, fun j hj => ?_⟩
  rw [← hc j hj]
  exact World.cell?_of_block (hk.block b (hA hn _ rfl))

set_option maxRecDepth 100000 in
set_option maxHeartbeats 4000000 in
theorem putReply_any (A : Option Addr) (n cp : Nat) (B : Option Addr) (m cq : Nat) (r : Rp) (w : World) (h : BS w A n r.dt) (hB : ES w B m r.es) (hw : ∀ e ∈ r.es, e.Wide) :
    Calls Tryd.prog 17 #[.agg (rc r (.slice A n cp) (.slice B m cq)).toArray] w (PutQ r.put r.errP w) := by
  have HX := Lib.hid h
  have HXB := Lib.hid hB
  have HWD := Lib.hid hw
  have hn : r.dt.length = n := h.1
  have hm : r.es.length = m := hB.1
  clear h hB hw
  by_cases hok : r.okA = true
  rotate_left
  · have HP : Hid (r.put = []) := if_neg (fun h => hok (r.okB_iff.1 h).1)
    have HE : Hid (r.errP = 1) := if_neg hok
    rw [HP.out, HE.out]
    have HOK := Lib.hid hok
    clear hok
    by_cases h0 : stOk r.st = true
    rotate_left
    · have h0 : stOk r.st = false := by simpa using h0
      go_enter Tryd.func17, Tryd.ntmps17
      go_upto_region 1 with fail
      have HB0 : Hid (Bw (w.alloc (.cells (rc r (.slice A n cp) (.slice B m cq)).toArray 48)) w.heap.size (rc r (.slice A n cp) (.slice B m cq)) 48) := heap_alloc_new w _
      have HW0 : Hid (Below w.heap.size w (w.alloc (.cells (rc r (.slice A n cp) (.slice B m cq)).toArray 48))) := (Below.refl _ w).alloc (Nat.le_refl _) _
      have HZ0 : Hid ((w.alloc (.cells (rc r (.slice A n cp) (.slice B m cq)).toArray 48)).heap.size = w.heap.size + 1) := by show _ = _; simp
      generalize w.alloc (.cells (rc r (.slice A n cp) (.slice B m cq)).toArray 48) = w0 at *
      have e0 := HB0.out.cell 2 _ rfl
      go_wp2_with fail
      refine (status_any _ _).mono ?_
      rintro e w1 ⟨rfl, rfl⟩
      rw [h0]
      go_wp2_with fail
      go_ret2
      exact PutQ.no HW0.out
    by_cases h1 : n ≤ 1024
    rotate_left
    · have g1 : (n : Int) > 1024 := by omega
      go_enter Tryd.func17, Tryd.ntmps17
      go_upto_region 1 with fail
      have HB0 : Hid (Bw (w.alloc (.cells (rc r (.slice A n cp) (.slice B m cq)).toArray 48)) w.heap.size (rc r (.slice A n cp) (.slice B m cq)) 48) := heap_alloc_new w _
      have HW0 : Hid (Below w.heap.size w (w.alloc (.cells (rc r (.slice A n cp) (.slice B m cq)).toArray 48))) := (Below.refl _ w).alloc (Nat.le_refl _) _
      have HZ0 : Hid ((w.alloc (.cells (rc r (.slice A n cp) (.slice B m cq)).toArray 48)).heap.size = w.heap.size + 1) := by show _ = _; simp
      generalize w.alloc (.cells (rc r (.slice A n cp) (.slice B m cq)).toArray 48) = w0 at *
      have e0 := HB0.out.cell 2 _ rfl
      have e1 := HB0.out.cell 10 _ rfl
      go_wp2_with fail
      refine (status_any _ _).mono ?_
      rintro e w1 ⟨rfl, rfl⟩
      rw [h0]
      go_wp2_with fail
      go_ret2
      exact PutQ.no HW0.out
    by_cases h2 : m ≤ 24
    rotate_left
    · have g1 : ¬ ((n : Int) > 1024) := by omega
      have g2 : (m : Int) > 24 := by omega
      go_enter Tryd.func17, Tryd.ntmps17
      go_upto_region 1 with fail
      have HB0 : Hid (Bw (w.alloc (.cells (rc r (.slice A n cp) (.slice B m cq)).toArray 48)) w.heap.size (rc r (.slice A n cp) (.slice B m cq)) 48) := heap_alloc_new w _
      have HW0 : Hid (Below w.heap.size w (w.alloc (.cells (rc r (.slice A n cp) (.slice B m cq)).toArray 48))) := (Below.refl _ w).alloc (Nat.le_refl _) _
      have HZ0 : Hid ((w.alloc (.cells (rc r (.slice A n cp) (.slice B m cq)).toArray 48)).heap.size = w.heap.size + 1) := by show _ = _; simp
      generalize w.alloc (.cells (rc r (.slice A n cp) (.slice B m cq)).toArray 48) = w0 at *
      have e0 := HB0.out.cell 2 _ rfl
      have e1 := HB0.out.cell 10 _ rfl
      have e2 := HB0.out.cell 11 _ rfl
      go_wp2_with fail
      refine (status_any _ _).mono ?_
      rintro e w1 ⟨rfl, rfl⟩
      rw [h0]
      go_wp2_with fail
      go_ret2
      exact PutQ.no HW0.out
    exact absurd (r.okA_iff.2 ⟨h0, by rw [hn]; exact h1, by rw [hm]; exact h2⟩) HOK.out
  obtain ⟨h0, h1, h2⟩ := r.okA_iff.1 hok
  rw [hn] at h1
  rw [hm] at h2
  have g1 : ¬ ((n : Int) > 1024) := by omega
  have g2 : ¬ ((m : Int) > 24) := by omega
  have HEN : Hid (okB r.es = true → (encs r.es).length ≤ 1056) := fun hb => by
    have := encs_len r.es (okB_names _ hb)
    omega
  have HE : Hid (r.errP = chkE r.es) := if_pos hok
  have hs0 := (stOk_iff _).1 h0
  have HS : Hid (r.st % 4294967296 = r.st) := by show _ = _; omega
  have HS0 : Hid (0 ≤ r.st) := by show _ ≤ _; omega
  have HOK := Lib.hid hok
  rw [HE.out]
  clear hok hs0
  go_enter Tryd.func17, Tryd.ntmps17
  go_upto_region 1 with fail
  have HB0 : Hid (Bw (w.alloc (.cells (rc r (.slice A n cp) (.slice B m cq)).toArray 48)) w.heap.size (rc r (.slice A n cp) (.slice B m cq)) 48) := heap_alloc_new w _
  have HW0 : Hid (Below w.heap.size w (w.alloc (.cells (rc r (.slice A n cp) (.slice B m cq)).toArray 48))) := (Below.refl _ w).alloc (Nat.le_refl _) _
  have HZ0 : Hid ((w.alloc (.cells (rc r (.slice A n cp) (.slice B m cq)).toArray 48)).heap.size = w.heap.size + 1) := by show _ = _; simp
  generalize w.alloc (.cells (rc r (.slice A n cp) (.slice B m cq)).toArray 48) = w0 at *
  have e0 := HB0.out.cell 2 _ rfl
  have e1 := HB0.out.cell 10 _ rfl
  have e2 := HB0.out.cell 11 _ rfl
  go_wp2_with fail
  refine (status_any _ _).mono ?_
  rintro e w1 ⟨rfl, rfl⟩
  rw [h0]
  clear e0
  go_wp2_with fail
  refine (put_any B m cq r.es w0 (HXB.out.below HW0.out) HWD.out (by omega) (fun hb => by have := HEN.out hb; omega)).mono ?_
  rintro e w1 ⟨C, nc, cc', rfl, hbs, hb1⟩
  have HB1 := Lib.hid (HB0.out.below hb1)
  have HN1 := Lib.hid (HW0.out.trans (hb1.mono HW0.out.size))
  have HBC := Lib.hid hbs
  clear e1 e2 g1 g2 HB0 HW0 hbs
  by_cases hb : okB r.es = true
  rotate_left
  · have hb' : okB r.es = false := by simpa using hb
    have hce : chkE r.es = 11 := by unfold chkE; rw [hb']; rfl
    have HP : Hid (r.put = []) := if_neg (fun h => hb (r.okB_iff.1 h).2)
    rw [hce]
    go_wp2_with fail
    go_ret2
    rw [hce, HP.out]
    exact PutQ.no HN1.out
  have hce : chkE r.es = 0 := if_pos hb
  have hpe : putE r.es = encs r.es := if_pos hb
  rw [hpe] at HBC
  have hob := r.okB_iff.2 ⟨HOK.out, hb⟩
  have HP : Hid (r.put = r.enc) := if_pos hob
  have HL : Hid (r.enc.length ≤ 4000) := (Rp.enc_len r hob).2
  rw [hce]
  have HCE := Lib.hid hce
  have p1 := pad_lt r.dt.length
  have p2 := pad_lt (encs r.es).length
  have hrl : (encs r.es).length = nc := HBC.out.1
  have hnc : nc ≤ 1056 := by have := HEN.out hb; omega
  clear HEN hce hpe hob HOK HE hb
  go_wp2_with fail
  refine (newWriter_op w1).mono ?_
  rintro e w2 ⟨p, rfl, hwr, hb2⟩
  have HR2 := Lib.hid hwr
  have HB2 := Lib.hid (HB1.out.below hb2)
  have HN2 := Lib.hid (HN1.out.trans (hb2.mono HN1.out.size))
  have HBC2 := Lib.hid (HBC.out.below hb2)
  have HCL : Hid (0 < nc → ∀ ad, C = some ad → ad.block < w1.heap.size) := fun hn ad h => HBC.out.lt_block hn ad h
  have HNL : Hid (w.heap.size < w1.heap.size) := by show _ < _; have := hb1.size; have := HZ0.out; omega
  clear hwr hb1 hb2 HB1 HN1 HBC HZ0
  have c2 := HB2.out.cell 0 _ rfl
  go_wp2_with fail
  refine (u32w _ _ p _ _ (by omega) HR2.out (by simp)).mono ?_
  rintro e w3 ⟨rfl, hwr, hkp⟩
  have HR3 := Lib.hid hwr
  have HB3 := Lib.hid (HB2.out.keep hkp HNL.out)
  have HN3 := Lib.hid (HN2.out.trans (hkp.below2 (fun k hk => Nat.lt_trans hk HNL.out)))
  have HBC3 : Hid (BS w3 C nc (encs r.es)) := HBC2.out.keepLt hkp (fun hn ad h => HCL.out hn ad h)
  clear hwr hkp HR2 HB2 HN2 c2 HBC2
  have c3 := HB3.out.cell 1 _ rfl
  go_wp2_with fail
  refine (u32w _ _ p _ _ (by omega) HR3.out (by simp only [List.length_append, be_length, List.length_nil]; omega)).mono ?_
  rintro e w4 ⟨rfl, hwr, hkp⟩
  have HR4 := Lib.hid hwr
  have HB4 := Lib.hid (HB3.out.keep hkp HNL.out)
  have HN4 := Lib.hid (HN3.out.trans (hkp.below2 (fun k hk => Nat.lt_trans hk HNL.out)))
  have HBC4 : Hid (BS w4 C nc (encs r.es)) := HBC3.out.keepLt hkp (fun hn ad h => HCL.out hn ad h)
  clear hwr hkp HR3 HB3 HN3 c3 HBC3
  have c4 := HB4.out.cell 2 _ rfl
  go_wp2_with fail
  rw [HS.out]
  refine (u32w _ _ p _ _ HS0.out HR4.out (by simp only [List.length_append, be_length, List.length_nil]; omega)).mono ?_
  rintro e w5 ⟨rfl, hwr, hkp⟩
  have HR5 := Lib.hid hwr
  have HB5 := Lib.hid (HB4.out.keep hkp HNL.out)
  have HN5 := Lib.hid (HN4.out.trans (hkp.below2 (fun k hk => Nat.lt_trans hk HNL.out)))
  have HBC5 : Hid (BS w5 C nc (encs r.es)) := HBC4.out.keepLt hkp (fun hn ad h => HCL.out hn ad h)
  clear hwr hkp HR4 HB4 HN4 c4 HBC4
  go_wp2_with (refine wpList_load_part rfl 24 (.tmp 47) rfl w.heap.size 3 rfl _ Tryd.underlying24 rfl (hc r.ati r.atg) 48 _ HB5.out size_H (hc_in rfl rfl) ?_)
  refine (putHandle_any _ _ p _ _ _ HR5.out (by simp only [List.length_append, be_length, List.length_nil]; omega)).mono ?_
  rintro e w6 ⟨rfl, hwr, hkp⟩
  have HR6 := Lib.hid hwr
  have HB6 := Lib.hid (HB5.out.keep hkp HNL.out)
  have HN6 := Lib.hid (HN5.out.trans (hkp.below2 (fun k hk => Nat.lt_trans hk HNL.out)))
  have HBC6 : Hid (BS w6 C nc (encs r.es)) := HBC5.out.keepLt hkp (fun hn ad h => HCL.out hn ad h)
  clear hwr hkp HR5 HB5 HN5 HBC5
  go_wp2_with (refine wpList_load_part rfl 45 (.tmp 51) rfl w.heap.size 5 rfl _ Tryd.underlying45 rfl (ac r.kd r.md r.ln r.sz r.ch) 48 _ HB6.out size_At (ac_in rfl rfl rfl rfl rfl) ?_)
  refine (putAttr_any _ _ p _ _ _ _ _ _ HR6.out (by simp only [List.length_append, be_length, List.length_nil]; omega)).mono ?_
  rintro e w7 ⟨rfl, hwr, hkp⟩
  have HR7 := Lib.hid hwr
  have HB7 := Lib.hid (HB6.out.keep hkp HNL.out)
  have HN7 := Lib.hid (HN6.out.trans (hkp.below2 (fun k hk => Nat.lt_trans hk HNL.out)))
  have HBC7 : Hid (BS w7 C nc (encs r.es)) := HBC6.out.keepLt hkp (fun hn ad h => HCL.out hn ad h)
  clear hwr hkp HR6 HB6 HN6 HBC6
  have c7 := HB7.out.cell 10 _ rfl
  go_wp2_with fail
  refine (opaquew _ _ p _ _ _ _ r.dt HR7.out (HX.out.below HN7.out) (fun hn ad h => Nat.lt_trans (HX.out.lt_block hn ad h) HNL.out) (by simp only [List.length_append, be_length, List.length_nil]; omega) (by omega)).mono ?_
  rintro e w8 ⟨rfl, hwr, hkp⟩
  have HR8 := Lib.hid hwr
  have HB8 := Lib.hid (HB7.out.keep hkp HNL.out)
  have HN8 := Lib.hid (HN7.out.trans (hkp.below2 (fun k hk => Nat.lt_trans hk HNL.out)))
  have HBC8 : Hid (BS w8 C nc (encs r.es)) := HBC7.out.keepLt hkp (fun hn ad h => HCL.out hn ad h)
  clear hwr hkp HR7 HB7 HN7 c7 HBC7
  go_wp2_with fail
  refine (opaquew _ _ p _ _ _ _ (encs r.es) HR8.out HBC8.out (fun hn ad h => HCL.out hn ad h) (by simp only [List.length_append, be_length, opq_length, List.length_nil]; omega) (by omega)).mono ?_
  rintro e w9 ⟨rfl, hwr, hkp⟩
  have HR9 := Lib.hid hwr
  have HB9 := Lib.hid (HB8.out.keep hkp HNL.out)
  have HN9 := Lib.hid (HN8.out.trans (hkp.below2 (fun k hk => Nat.lt_trans hk HNL.out)))
  clear hwr hkp HR8 HB8 HN8
  have c9 := HB9.out.cell 12 _ rfl
  go_wp2_with fail
  refine (boolw _ _ p _ _ HR9.out (by simp only [List.length_append, be_length, opq_length, List.length_nil]; omega)).mono ?_
  rintro e w10 ⟨rfl, hwr, hkp⟩
  have HR10 := Lib.hid hwr
  have HB10 := Lib.hid (HB9.out.keep hkp HNL.out)
  have HN10 := Lib.hid (HN9.out.trans (hkp.below2 (fun k hk => Nat.lt_trans hk HNL.out)))
  clear hwr hkp HR9 HB9 HN9 c9
  have c10 := HB10.out.cell 13 _ rfl
  go_wp2_with fail
  refine (u64w _ _ p _ _ (by omega) HR10.out (by simp only [List.length_append, be_length, opq_length, List.length_nil]; omega)).mono ?_
  rintro e w11 ⟨rfl, hwr, hkp⟩
  have HR11 := Lib.hid hwr
  have HB11 := Lib.hid (HB10.out.keep hkp HNL.out)
  have HN11 := Lib.hid (HN10.out.trans (hkp.below2 (fun k hk => Nat.lt_trans hk HNL.out)))
  clear hwr hkp HR10 HB10 HN10 c10
  have c11 := HB11.out.cell 14 _ rfl
  go_wp2_with fail
  refine (u32w _ _ p _ _ (by omega) HR11.out (by simp only [List.length_append, be_length, opq_length, List.length_nil]; omega)).mono ?_
  rintro e w12 ⟨rfl, hwr, hkp⟩
  have HR12 := Lib.hid hwr
  have HN12 := Lib.hid (HN11.out.trans (hkp.below2 (fun k hk => Nat.lt_trans hk HNL.out)))
  clear hwr hkp HR11 HB11 HN11 c11
  have HT : Hid ([] ++ be 4 (r.cli : Int).toNat ++ be 4 (r.xid : Int).toNat ++ be 4 r.st.toNat ++ (be 4 r.ati ++ be 4 r.atg) ++ (be 4 r.kd ++ (be 4 r.md ++ (be 4 r.ln ++ (be 4 r.sz ++ be 8 r.ch)))) ++ opq r.dt ++ opq (encs r.es) ++ be 4 (b01 r.eof) ++ be 8 (r.vf : Int).toNat ++ be 4 (r.fr : Int).toNat = r.enc) := by
    show _ = _
    rw [Rp.enc_eq]
    simp only [List.nil_append, List.append_assoc, Int.toNat_natCast]
  have hr := HR12.out
  rw [HT.out] at hr
  have HRZ := Lib.hid hr
  clear hr HR12
  go_wp2_with fail
  refine (out_any _ _ p _ HRZ.out (by have := HL.out; omega)).mono ?_
  rintro e w13 ⟨A3, c3, rfl, hown⟩
  have HO := Lib.hid hown
  clear hown
  go_wp2_with fail
  go_ret2
  rw [HCE.out, HP.out]
  exact ⟨A3, r.enc.length, c3, rfl, own_base HO.out.1 HN12.out.size, HN12.out.trans (HO.out.2.mono HN12.out.size)⟩
end Go.Proofs.YtobhmjokoicpoaaDoor
