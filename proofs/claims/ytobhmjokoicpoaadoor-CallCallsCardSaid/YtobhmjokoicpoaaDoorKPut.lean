/-
  Contract of package call's PutCall (layer 9).
-/
import Derived.Test.YtobhmjokoicpoaaDoorKSmall
namespace Go.Proofs.YtobhmjokoicpoaaDoor
open Go.RowKit

/-- The cells of a call whose data is v. -/
def cc (c : Cl) (v : Value) : List Value := [.int .u32 (c.cli : Int), .int .u32 (c.xid : Int), .int .u32 (c.op : Int), .int .u32 (c.ati : Int), .int .u32 (c.atg : Int), .string (txt c.nm), .int .u32 (c.toi : Int), .int .u32 (c.tog : Int), .string (txt c.tn), .int .u64 (c.off : Int), .int .u64 (c.vf : Int), .int .u32 (c.cnt : Int), .int .u32 (c.md : Int), v]
theorem size_C : (Tryd.prog.info? 28).map (·.size) = some 14 := by kernel_rfl
theorem zero_C : (Tryd.prog.info? 28).bind (·.zero) = some (.agg (cc Cl.zero (.slice none 0 0)).toArray) := by kernel_rfl
/-- What a Put hands back: bytes of its own. -/
def PutQ (b : List UInt8) (z : Int) (w : World) (e : Ending) (w' : World) : Prop := ∃ A n cp, e = .returned (.tuple #[.slice A n cp, .int .i64 z]) ∧ Own w w' A n cp b
theorem PutQ.no {z : Int} {w w' : World} (h : Below w.heap.size w w') : PutQ [] z w (.returned (.tuple #[.slice none 0 0, .int .i64 z])) w' := ⟨none, 0, 0, rfl, World.ownsRow_nil _ _ _ _, h⟩
theorem own_base {w : World} {b b' : Nat} {t : TypeId} {k n : Nat} {v : Value} {xs : List Value} (h : w.ownsRow b t k v n xs) (hb : b' ≤ b) : w.ownsRow b' t k v n xs := by
  refine ⟨h.1, ?_⟩
  rcases h.2 with h1 | ⟨g, cap, cur, h1, h2, h3⟩
  · exact .inl h1
  · exact .inr ⟨g, cap, cur, h1, Nat.le_trans hb h2, h3⟩

theorem hc_in {cs : List Value} {k a b : Nat} (h0 : cs[k]? = some (.int .u32 (a : Int))) (h1 : cs[k + 1]? = some (.int .u32 (b : Int))) : ∀ j u, (hc a b)[j]? = some u → cs[k + j]? = some u := fun j u hu => by
  match j, hu with
  | 0, hu => exact h0.trans hu
  | 1, hu => exact h1.trans hu
  | j + 2, hu => simp [hc] at hu
theorem ac_in {cs : List Value} {k a b c d e : Nat} (h0 : cs[k]? = some (.int .u32 (a : Int))) (h1 : cs[k + 1]? = some (.int .u32 (b : Int))) (h2 : cs[k + 2]? = some (.int .u32 (c : Int))) (h3 : cs[k + 3]? = some (.int .u32 (d : Int))) (h4 : cs[k + 4]? = some (.int .u64 (e : Int))) :
    ∀ j u, (ac a b c d e)[j]? = some u → cs[k + j]? = some u := fun j u hu => by
  match j, hu with
  | 0, hu => exact h0.trans hu
  | 1, hu => exact h1.trans hu
  | 2, hu => exact h2.trans hu
  | 3, hu => exact h3.trans hu
  | 4, hu => exact h4.trans hu
  | j + 5, hu => simp [ac] at hu
set_option maxRecDepth 100000 in
set_option maxHeartbeats 4000000 in
theorem putCall_any (A : Option Addr) (n cp : Nat) (c : Cl) (w : World) (h : c.okB = true → BS w A n c.dt) (hn : c.dt.length = n) :
    Calls Tryd.prog 10 #[.agg (cc c (.slice A n cp)).toArray] w (PutQ c.put c.errP w) := by
  have HX := Lib.hid h
  have HN := Lib.hid hn
  clear h hn
  have s1 : (txt c.nm).size = c.nm.length := txt_size _
  have s2 : (txt c.tn).size = c.tn.length := txt_size _
  by_cases hok : c.okB = true
  rotate_left
  · have HP : Hid (c.put = []) := if_neg hok
    have HE : Hid (c.errP = 1) := if_neg hok
    rw [HP.out, HE.out]
    have HOK := Lib.hid hok
    clear hok
    by_cases h0 : opOk c.op = true
    rotate_left
    · have h0 : opOk c.op = false := by simpa using h0
      go_enter Tryd.func10, Tryd.ntmps10
      go_upto_region 1 with fail
      have HB0 : Hid (Bw (w.alloc (.cells (cc c (.slice A n cp)).toArray 28)) w.heap.size (cc c (.slice A n cp)) 28) := heap_alloc_new w _
      have HW0 : Hid (Below w.heap.size w (w.alloc (.cells (cc c (.slice A n cp)).toArray 28))) := (Below.refl _ w).alloc (Nat.le_refl _) _
      have HZ0 : Hid ((w.alloc (.cells (cc c (.slice A n cp)).toArray 28)).heap.size = w.heap.size + 1) := by show _ = _; simp
      generalize w.alloc (.cells (cc c (.slice A n cp)).toArray 28) = w0 at *
      have e0 := HB0.out.cell 2 _ rfl
      go_wp2_with fail
      refine (opOk_any _ _).mono ?_
      rintro e w1 ⟨rfl, rfl⟩
      rw [h0]
      go_wp2_with fail
      go_ret2
      exact PutQ.no HW0.out
    by_cases h1 : c.nm.length ≤ 64
    rotate_left
    · have g1 : (c.nm.length : Int) > 64 := by omega
      go_enter Tryd.func10, Tryd.ntmps10
      go_upto_region 1 with fail
      have HB0 : Hid (Bw (w.alloc (.cells (cc c (.slice A n cp)).toArray 28)) w.heap.size (cc c (.slice A n cp)) 28) := heap_alloc_new w _
      have HW0 : Hid (Below w.heap.size w (w.alloc (.cells (cc c (.slice A n cp)).toArray 28))) := (Below.refl _ w).alloc (Nat.le_refl _) _
      have HZ0 : Hid ((w.alloc (.cells (cc c (.slice A n cp)).toArray 28)).heap.size = w.heap.size + 1) := by show _ = _; simp
      generalize w.alloc (.cells (cc c (.slice A n cp)).toArray 28) = w0 at *
      have e0 := HB0.out.cell 2 _ rfl
      have e1 := HB0.out.cell 5 _ rfl
      go_wp2_with fail
      refine (opOk_any _ _).mono ?_
      rintro e w1 ⟨rfl, rfl⟩
      rw [h0]
      go_wp2_with fail
      go_ret2
      exact PutQ.no HW0.out
    by_cases h2 : c.tn.length ≤ 64
    rotate_left
    · have g1 : ¬ ((c.nm.length : Int) > 64) := by omega
      have g2 : (c.tn.length : Int) > 64 := by omega
      go_enter Tryd.func10, Tryd.ntmps10
      go_upto_region 1 with fail
      have HB0 : Hid (Bw (w.alloc (.cells (cc c (.slice A n cp)).toArray 28)) w.heap.size (cc c (.slice A n cp)) 28) := heap_alloc_new w _
      have HW0 : Hid (Below w.heap.size w (w.alloc (.cells (cc c (.slice A n cp)).toArray 28))) := (Below.refl _ w).alloc (Nat.le_refl _) _
      have HZ0 : Hid ((w.alloc (.cells (cc c (.slice A n cp)).toArray 28)).heap.size = w.heap.size + 1) := by show _ = _; simp
      generalize w.alloc (.cells (cc c (.slice A n cp)).toArray 28) = w0 at *
      have e0 := HB0.out.cell 2 _ rfl
      have e1 := HB0.out.cell 5 _ rfl
      have e2 := HB0.out.cell 8 _ rfl
      go_wp2_with fail
      refine (opOk_any _ _).mono ?_
      rintro e w1 ⟨rfl, rfl⟩
      rw [h0]
      go_wp2_with fail
      go_ret2
      exact PutQ.no HW0.out
    by_cases h3 : n ≤ 1024
    rotate_left
    · have g1 : ¬ ((c.nm.length : Int) > 64) := by omega
      have g2 : ¬ ((c.tn.length : Int) > 64) := by omega
      have g3 : (n : Int) > 1024 := by omega
      go_enter Tryd.func10, Tryd.ntmps10
      go_upto_region 1 with fail
      have HB0 : Hid (Bw (w.alloc (.cells (cc c (.slice A n cp)).toArray 28)) w.heap.size (cc c (.slice A n cp)) 28) := heap_alloc_new w _
      have HW0 : Hid (Below w.heap.size w (w.alloc (.cells (cc c (.slice A n cp)).toArray 28))) := (Below.refl _ w).alloc (Nat.le_refl _) _
      have HZ0 : Hid ((w.alloc (.cells (cc c (.slice A n cp)).toArray 28)).heap.size = w.heap.size + 1) := by show _ = _; simp
      generalize w.alloc (.cells (cc c (.slice A n cp)).toArray 28) = w0 at *
      have e0 := HB0.out.cell 2 _ rfl
      have e1 := HB0.out.cell 5 _ rfl
      have e2 := HB0.out.cell 8 _ rfl
      have e3 := HB0.out.cell 13 _ rfl
      go_wp2_with fail
      refine (opOk_any _ _).mono ?_
      rintro e w1 ⟨rfl, rfl⟩
      rw [h0]
      go_wp2_with fail
      go_ret2
      exact PutQ.no HW0.out
    exact absurd ((Cl.okB_iff c).2 ⟨h0, h1, h2, by rw [HN.out]; exact h3⟩) HOK.out
  obtain ⟨h0, h1, h2, h3⟩ := (Cl.okB_iff c).1 hok
  have g1 : ¬ ((c.nm.length : Int) > 64) := by omega
  have g2 : ¬ ((c.tn.length : Int) > 64) := by omega
  have g3 : ¬ ((n : Int) > 1024) := by have := HN.out; omega
  have hn9 : n ≤ 1024 := by omega
  have HBS := Lib.hid (HX.out hok)
  have HE : Hid (c.errP = 0) := if_pos hok
  have HP : Hid (c.put = c.enc) := if_pos hok
  have HL : Hid (c.enc.length ≤ 2000) := (Cl.enc_len c hok).2
  have p1 := pad_lt c.nm.length
  have p2 := pad_lt c.tn.length
  rw [HE.out, HP.out]
  clear HX hok h3
  go_enter Tryd.func10, Tryd.ntmps10
  go_upto_region 1 with fail
  have HB0 : Hid (Bw (w.alloc (.cells (cc c (.slice A n cp)).toArray 28)) w.heap.size (cc c (.slice A n cp)) 28) := heap_alloc_new w _
  have HW0 : Hid (Below w.heap.size w (w.alloc (.cells (cc c (.slice A n cp)).toArray 28))) := (Below.refl _ w).alloc (Nat.le_refl _) _
  have HZ0 : Hid ((w.alloc (.cells (cc c (.slice A n cp)).toArray 28)).heap.size = w.heap.size + 1) := by show _ = _; simp
  generalize w.alloc (.cells (cc c (.slice A n cp)).toArray 28) = w0 at *
  have e0 := HB0.out.cell 2 _ rfl
  have e1 := HB0.out.cell 5 _ rfl
  have e2 := HB0.out.cell 8 _ rfl
  have e3 := HB0.out.cell 13 _ rfl
  go_wp2_with fail
  refine (opOk_any _ _).mono ?_
  rintro e w1 ⟨rfl, rfl⟩
  rw [h0]
  clear e0
  go_wp2_with fail
  clear e1 e2 e3 g1 g2 g3
  have hn0 := newWriter_wr w0 (fun k => k < w.heap.size ∨ k = w.heap.size) (fun k hk => by have := HZ0.out; omega)
  refine (newWriter_any w0).mono ?_
  rintro e w1 ⟨rfl, hw1⟩
  have HR1 : Hid (Wr (fun k => k < w.heap.size ∨ k = w.heap.size) w1 w0.heap.size []) := by rw [← hw1]; exact hn0
  have hb1 : Below w0.heap.size w0 w1 := by rw [← hw1]; exact (Below.refl _ w0).alloc (Nat.le_refl _) _
  have HB1 := Lib.hid (HB0.out.below hb1)
  have HN1 := Lib.hid (HW0.out.trans (hb1.mono HW0.out.size))
  clear hn0 hw1 hb1 HB0 HW0 HZ0
  generalize w0.heap.size = p at *
  have c1 := HB1.out.cell 0 _ rfl
  go_wp2_with fail
  refine (u32w _ _ p _ _ (by omega) HR1.out (by simp)).mono ?_
  rintro e w2 ⟨rfl, hwr, hkp⟩
  have HR2 := Lib.hid hwr
  have HB2 := Lib.hid (HB1.out.keep hkp (.inr rfl))
  have HN2 := Lib.hid (HN1.out.trans (hkp.below2 (fun k hk => .inl hk)))
  clear hwr hkp HR1 HB1 HN1 c1
  have c2 := HB2.out.cell 1 _ rfl
  go_wp2_with fail
  refine (u32w _ _ p _ _ (by omega) HR2.out (by simp only [List.length_append, be_length, List.length_nil]; omega)).mono ?_
  rintro e w3 ⟨rfl, hwr, hkp⟩
  have HR3 := Lib.hid hwr
  have HB3 := Lib.hid (HB2.out.keep hkp (.inr rfl))
  have HN3 := Lib.hid (HN2.out.trans (hkp.below2 (fun k hk => .inl hk)))
  clear hwr hkp HR2 HB2 HN2 c2
  have c3 := HB3.out.cell 2 _ rfl
  go_wp2_with fail
  refine (u32w _ _ p _ _ (by omega) HR3.out (by simp only [List.length_append, be_length, List.length_nil]; omega)).mono ?_
  rintro e w4 ⟨rfl, hwr, hkp⟩
  have HR4 := Lib.hid hwr
  have HB4 := Lib.hid (HB3.out.keep hkp (.inr rfl))
  have HN4 := Lib.hid (HN3.out.trans (hkp.below2 (fun k hk => .inl hk)))
  clear hwr hkp HR3 HB3 HN3 c3
  go_wp2_with (refine wpList_load_part rfl 24 (.tmp 41) rfl w.heap.size 3 rfl _ Tryd.underlying24 rfl (hc c.ati c.atg) 28 _ HB4.out size_H (hc_in rfl rfl) ?_)
  refine (putHandle_any _ _ p _ _ _ HR4.out (by simp only [List.length_append, be_length, List.length_nil]; omega)).mono ?_
  rintro e w5 ⟨rfl, hwr, hkp⟩
  have HR5 := Lib.hid hwr
  have HB5 := Lib.hid (HB4.out.keep hkp (.inr rfl))
  have HN5 := Lib.hid (HN4.out.trans (hkp.below2 (fun k hk => .inl hk)))
  clear hwr hkp HR4 HB4 HN4
  have c5 := HB5.out.cell 5 _ rfl
  obtain ⟨cx, wx, hcv, hbs, hbx, _, hlt⟩ := run_bytes_txt w5 c.nm
  have HRx := Lib.hid (HR5.out.grow hbx hlt)
  have HBx := Lib.hid (HB5.out.below hbx)
  have HNx := Lib.hid (HN5.out.trans (hbx.mono HN5.out.size))
  clear hbx hlt HR5 HB5 HN5
  go_wp2_with fail
  refine (opaquew _ _ p _ _ _ _ c.nm HRx.out hbs (fun _ ad h => by injection h with h; subst h; exact .inr rfl) (by simp only [List.length_append, be_length, List.length_nil]; omega) (by omega)).mono ?_
  rintro e w6 ⟨rfl, hwr, hkp⟩
  have HR6 := Lib.hid (hwr.less (K' := fun k => k < w.heap.size ∨ k = w.heap.size) (fun k hk => .inl hk))
  have HB6 := Lib.hid (HBx.out.keep hkp (.inl (.inr rfl)))
  have HN6 := Lib.hid (HNx.out.trans (hkp.below2 (fun k hk => .inl (.inl hk))))
  clear hwr hkp HRx HBx HNx hcv hbs c5
  go_wp2_with (refine wpList_load_part rfl 24 (.tmp 50) rfl w.heap.size 6 rfl _ Tryd.underlying24 rfl (hc c.toi c.tog) 28 _ HB6.out size_H (hc_in rfl rfl) ?_)
  refine (putHandle_any _ _ p _ _ _ HR6.out (by simp only [List.length_append, be_length, opq_length, List.length_nil]; omega)).mono ?_
  rintro e w7 ⟨rfl, hwr, hkp⟩
  have HR7 := Lib.hid hwr
  have HB7 := Lib.hid (HB6.out.keep hkp (.inr rfl))
  have HN7 := Lib.hid (HN6.out.trans (hkp.below2 (fun k hk => .inl hk)))
  clear hwr hkp HR6 HB6 HN6
  have c7 := HB7.out.cell 8 _ rfl
  obtain ⟨cx, wx, hcv, hbs, hbx, _, hlt⟩ := run_bytes_txt w7 c.tn
  have HRx := Lib.hid (HR7.out.grow hbx hlt)
  have HBx := Lib.hid (HB7.out.below hbx)
  have HNx := Lib.hid (HN7.out.trans (hbx.mono HN7.out.size))
  clear hbx hlt HR7 HB7 HN7
  go_wp2_with fail
  refine (opaquew _ _ p _ _ _ _ c.tn HRx.out hbs (fun _ ad h => by injection h with h; subst h; exact .inr rfl) (by simp only [List.length_append, be_length, opq_length, List.length_nil]; omega) (by omega)).mono ?_
  rintro e w8 ⟨rfl, hwr, hkp⟩
  have HR8 := Lib.hid (hwr.less (K' := fun k => k < w.heap.size ∨ k = w.heap.size) (fun k hk => .inl hk))
  have HB8 := Lib.hid (HBx.out.keep hkp (.inl (.inr rfl)))
  have HN8 := Lib.hid (HNx.out.trans (hkp.below2 (fun k hk => .inl (.inl hk))))
  clear hwr hkp HRx HBx HNx hcv hbs c7
  have c8 := HB8.out.cell 9 _ rfl
  go_wp2_with fail
  refine (u64w _ _ p _ _ (by omega) HR8.out (by simp only [List.length_append, be_length, opq_length, List.length_nil]; omega)).mono ?_
  rintro e w9 ⟨rfl, hwr, hkp⟩
  have HR9 := Lib.hid hwr
  have HB9 := Lib.hid (HB8.out.keep hkp (.inr rfl))
  have HN9 := Lib.hid (HN8.out.trans (hkp.below2 (fun k hk => .inl hk)))
  clear hwr hkp HR8 HB8 HN8 c8
  have c9 := HB9.out.cell 10 _ rfl
  go_wp2_with fail
  refine (u64w _ _ p _ _ (by omega) HR9.out (by simp only [List.length_append, be_length, opq_length, List.length_nil]; omega)).mono ?_
  rintro e w10 ⟨rfl, hwr, hkp⟩
  have HR10 := Lib.hid hwr
  have HB10 := Lib.hid (HB9.out.keep hkp (.inr rfl))
  have HN10 := Lib.hid (HN9.out.trans (hkp.below2 (fun k hk => .inl hk)))
  clear hwr hkp HR9 HB9 HN9 c9
  have c10 := HB10.out.cell 11 _ rfl
  go_wp2_with fail
  refine (u32w _ _ p _ _ (by omega) HR10.out (by simp only [List.length_append, be_length, opq_length, List.length_nil]; omega)).mono ?_
  rintro e w11 ⟨rfl, hwr, hkp⟩
  have HR11 := Lib.hid hwr
  have HB11 := Lib.hid (HB10.out.keep hkp (.inr rfl))
  have HN11 := Lib.hid (HN10.out.trans (hkp.below2 (fun k hk => .inl hk)))
  clear hwr hkp HR10 HB10 HN10 c10
  have c11 := HB11.out.cell 12 _ rfl
  go_wp2_with fail
  refine (u32w _ _ p _ _ (by omega) HR11.out (by simp only [List.length_append, be_length, opq_length, List.length_nil]; omega)).mono ?_
  rintro e w12 ⟨rfl, hwr, hkp⟩
  have HR12 := Lib.hid hwr
  have HB12 := Lib.hid (HB11.out.keep hkp (.inr rfl))
  have HN12 := Lib.hid (HN11.out.trans (hkp.below2 (fun k hk => .inl hk)))
  clear hwr hkp HR11 HB11 HN11 c11
  have c12 := HB12.out.cell 13 _ rfl
  go_wp2_with fail
  refine (opaquew _ _ p _ _ _ _ c.dt HR12.out (HBS.out.below HN12.out) (fun hn ad h => .inl (HBS.out.lt_block hn ad h)) (by simp only [List.length_append, be_length, opq_length, List.length_nil]; omega) (by omega)).mono ?_
  rintro e w13 ⟨rfl, hwr, hkp⟩
  have HR13 := Lib.hid hwr
  have HN13 := Lib.hid (HN12.out.trans (hkp.below2 (fun k hk => .inl hk)))
  clear hwr hkp HR12 HB12 HN12 c12
  have HT : Hid ([] ++ be 4 (c.cli : Int).toNat ++ be 4 (c.xid : Int).toNat ++ be 4 (c.op : Int).toNat ++ (be 4 c.ati ++ be 4 c.atg) ++ opq c.nm ++ (be 4 c.toi ++ be 4 c.tog) ++ opq c.tn ++ be 8 (c.off : Int).toNat ++ be 8 (c.vf : Int).toNat ++ be 4 (c.cnt : Int).toNat ++ be 4 (c.md : Int).toNat ++ opq c.dt = c.enc) := by
    show _ = _
    rw [Cl.enc_eq]
    simp only [List.nil_append, List.append_assoc, Int.toNat_natCast]
  have hr := HR13.out
  rw [HT.out] at hr
  have HRZ := Lib.hid hr
  clear hr HR13
  go_wp2_with fail
  refine (out_any _ _ p _ HRZ.out (by have := HL.out; omega)).mono ?_
  rintro e w14 ⟨A3, c3, rfl, hown⟩
  have HO := Lib.hid hown
  clear hown
  go_wp2_with fail
  go_ret2
  exact ⟨A3, c.enc.length, c3, rfl, own_base HO.out.1 HN13.out.size, HN13.out.trans (HO.out.2.mono HN13.out.size)⟩
end Go.Proofs.YtobhmjokoicpoaaDoor
