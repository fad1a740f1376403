/-
  The walk of RepliesKeeps (layer 14).
-/
import Derived.Test.YtjgmboleiaehaaaYKeepN
namespace Go.Proofs.Ytjgmboleiaehaaa
open Go.RowKit Go.Shelf

set_option maxRecDepth 100000 in
set_option maxHeartbeats 8000000 in
theorem keeps_walk (w : World) (A : Option Addr) (n c : Nat) (hin : RPS w A n) :
    Calls Try.prog 4 #[.slice A n c] w fun e w' => e = .returned (.bool true) ∧ Below w.heap.size w w' := by
  have HIN := Lib.hid hin
  clear hin
  go_enter Try.func4, Try.ntmps4
  go_wp2_with fail
  refine (awakeY_any w).mono ?_
  rintro e w0 ⟨rfl, hb⟩
  have HW0 := Lib.hid hb
  clear hb
  by_cases g1 : n > 30
  · have f1 : decide ((30 : Int) < (n : Int)) = true := by simp; omega
    go_wp2_with fail
    go_ret
    exact ⟨rfl, HW0.out⟩
  have f1 : decide ((30 : Int) < (n : Int)) = false := by simp; omega
  have HN : Hid (n ≤ 30) := by show _ ≤ _; omega
  clear g1
  have HRI := Lib.hid (RI.made w0 40)
  have HBa : Hid (Below w0.heap.size w0 (w0.alloc (.cells (Array.replicate 40 (.slice none 0 0)) 38))) := (Below.refl _ _).alloc (Nat.le_refl _) _
  have hmk : ∀ W : World, (Instr.makeSlice 26 (.int .i64 40) (.int .i64 40)).run Try.prog W = .ok (.slice (some ⟨W.heap.size, 0, none⟩) 40 40) (W.alloc (.cells (Array.replicate 40 (.slice none 0 0)) 38)) := fun W => run_make_rows W 40 (by omega)
  go_wp2_with fail
  refine (new_any _ 40 40 (List.replicate 40 []) _ HRI.out (by omega)).mono ?_
  rintro en w1 ⟨h, m, p, rfl, ht, hb, _, hm⟩
  have HT1 : Hid (TK w p m ⟨some ⟨h, 0, none⟩, 40, 40⟩ (TX.new (List.replicate 40 [])) w1) := TK.start (HW0.out) (ht.mono fun k hk => Nat.le_trans HBa.out.size hk) (HBa.out.trans (hb.mono HBa.out.size))
  clear ht hb hm HBa HRI f1 HW0
  have HRI := Lib.hid (RI.made w1 40)
  have HBa : Hid (Below w1.heap.size w1 (w1.alloc (.cells (Array.replicate 40 (.slice none 0 0)) 38))) := (Below.refl _ _).alloc (Nat.le_refl _) _
  go_wp2_with fail
  refine (new_any _ 40 40 (List.replicate 40 []) _ HRI.out (by omega)).mono ?_
  rintro en w2 ⟨hu, mu, pu, rfl, ht, hb, _, hm⟩
  have HU2 : Hid (Tq w2 pu mu ⟨some ⟨hu, 0, none⟩, 40, 40⟩ (fun z => w1.heap.size ≤ z) (TX.new (List.replicate 40 []))) := ht.mono fun k hk => Nat.le_trans HBa.out.size hk
  have HT2 := Lib.hid (HT1.out.below (HBa.out.trans (hb.mono HBa.out.size)))
  have HPM : Hid (w.heap.size ≤ w1.heap.size ∧ p < w1.heap.size ∧ m < w1.heap.size ∧ w1.heap.size ≤ w2.heap.size) := ⟨HT1.out.bel.size, HT1.out.tq.plt, HT1.out.tq.mlt, Nat.le_trans HBa.out.size hb.size⟩
  clear ht hb hm HBa HRI HT1 hmk
  have hmR := run_make_R9
  have hmB := run_make_B
  have HI3 : Hid (KI w w1 p m h pu mu hu w2.heap.size (w2.heap.size + 1) ((w2.alloc (.cells zeroL.toArray 50)).alloc (.cells (hasL fun _ => none).toArray 4)) (fun _ => none) (fun _ => none) (TX.new (List.replicate 40 [])) (TX.new (List.replicate 40 []))) := by
    have ha : Below w2.heap.size w2 (w2.alloc (.cells zeroL.toArray 50)) := (Below.refl _ _).alloc (Nat.le_refl _) _
    have hb : Below (w2.alloc (.cells zeroL.toArray 50)).heap.size (w2.alloc (.cells zeroL.toArray 50)) ((w2.alloc (.cells zeroL.toArray 50)).alloc (.cells (hasL fun _ => none).toArray 4)) := (Below.refl _ _).alloc (Nat.le_refl _) _
    have hs : (w2.alloc (.cells zeroL.toArray 50)).heap.size = w2.heap.size + 1 := by simp
    have hh := HS.new (w2.alloc (.cells zeroL.toArray 50))
    rw [hs] at hh
    have a := HPM.out
    exact ⟨(HT2.out.below ha).below hb, (HU2.out.below ha).below hb, (LS.new w2).below hb, hh, a.1, a.2.1, a.2.2.1, a.2.2.2, by omega, by omega⟩
  have hsz : (w2.alloc (.cells zeroL.toArray 50)).heap.size = w2.heap.size + 1 := by simp
  go_upto_region 10 with fail
  generalize (w2.alloc (.cells zeroL.toArray 50)).alloc (.cells (hasL fun _ => none).toArray 4) = w4 at *
  generalize w2.heap.size + 1 = bH at *
  generalize w2.heap.size = bL at *
  have HB0 := Lib.hid KB.new
  clear HT2 HU2 HPM hmR hmB hsz
  go_wp2_with fail
  go_loopw [8] (fun iv wr => ∃ (j : Nat) (KK : Nat → Option Rp) (X : TX), j ≤ n ∧ iv = .int .i64 j ∧ Hid (KI w w1 p m h pu mu hu bL bH wr KK KK X (TX.new (List.replicate 40 []))) ∧ Hid (KB KK X)) (fun i _ => n - (intOf i).toNat)
  case atStart => exact ⟨0, _, _, Nat.zero_le _, rfl, HI3, HB0⟩
  case round =>
    clear HI3 HB0
    obtain ⟨j, KK, X, hj, rfl, HI, HB⟩ := hrel
    by_cases hlt : j < n
    · obtain ⟨b, o, rfl, hat⟩ := HIN.out (by omega)
      obtain ⟨r, Ad, nd, cd, Be, ke, de, hr⟩ := hat j hlt
      have HR := Lib.hid hr
      have HJ : Hid (j < n) := hlt
      have HC := Lib.hid (hr.below HI.out.t.bel)
      clear hr hat
      have e10 := HC.out.cells 10 _ rfl
      have e11 := HC.out.cells 11 _ rfl
      by_cases g1 : nd > 100
      · have f1 : decide ((100 : Int) < (nd : Int)) = true := by simp; omega
        go_wp2_with fail
        go_ret
        exact ⟨rfl, HI.out.t.bel⟩
      have f1 : decide ((100 : Int) < (nd : Int)) = false := by simp; omega
      by_cases g2 : ke > 10
      · have f2 : decide ((10 : Int) < (ke : Int)) = true := by simp; omega
        go_wp2_with fail
        go_ret
        exact ⟨rfl, HI.out.t.bel⟩
      have f2 : decide ((10 : Int) < (ke : Int)) = false := by simp; omega
      clear g1 g2
      go_upto_region 15 with fail
      clear f1 f2 e10 e11
      have e0 : wr.cell? ⟨b, o + j * 15, none⟩ = _ := HC.out.cells 0 _ rfl
      have e1 := HC.out.cells 1 _ rfl
      have e2 := HC.out.cells 2 _ rfl
      have e3 := HC.out.cells 3 _ rfl
      have e4 := HC.out.cells 4 _ rfl
      have e5 := HC.out.cells 5 _ rfl
      have e6 := HC.out.cells 6 _ rfl
      have e7 := HC.out.cells 7 _ rfl
      have e8 := HC.out.cells 8 _ rfl
      have e9 := HC.out.cells 9 _ rfl
      have e10 := HC.out.cells 10 _ rfl
      have e11 := HC.out.cells 11 _ rfl
      have e12 := HC.out.cells 12 _ rfl
      have e13 := HC.out.cells 13 _ rfl
      have e14 := HC.out.cells 14 _ rfl
      go_wp2_with fail
      refine (putRp_any HI.out.t.tq HI.out.t.new r Ad nd cd Be ke de HC.out.wide HC.out.data.1 HC.out.ent.1).mono ?_
      rintro en w5 ⟨rfl, ht, hb⟩
      have HNX : Hid (r.dt.length = nd) := HR.out.data.1
      have HEX : Hid (r.es.length = ke) := HR.out.ent.1
      have HWD := Lib.hid HR.out.wide
      clear e0 e1 e2 e3 e4 e5 e6 e7 e8 e9 e10 e11 e12 e13 e14 HC
      by_cases z : Ry.okB r = true
      rotate_left
      · rw [show Ry.pErr (Sl.n ⟨some ⟨h, 0, none⟩, 40, 40⟩) r = 1 from Ry.pErr_no _ _ z]
        rw [show Ry.pPut (Sl.n ⟨some ⟨h, 0, none⟩, 40, 40⟩) X r = X from Ry.pPut_no _ _ _ z] at ht
        have HI5 := Lib.hid (HI.out.putT ht hb)
        clear ht hb HI z
        go_wp2_with fail
        have hw : wrap64 ((j : Int) + 1) = ((j + 1 : Nat) : Int) := by have := HN.out; unfold wrap64; omega
        rw [hw]
        exact ⟨⟨j + 1, KK, X, by omega, rfl, HI5, HB⟩, by simp [intOf]; omega⟩
      · rw [show Ry.pErr (Sl.n ⟨some ⟨h, 0, none⟩, 40, 40⟩) r = 0 from Ry.pErr_ok 40 _ z (by omega)]
        have HI5 := Lib.hid (HI.out.putT ht hb)
        have HB5 := Lib.hid (HB.out.put r HWD.out z)
        have hoo := (Ry.okB_iff r).1 z
        have HDT : Hid (r.dt = []) := hoo.2.2.1
        obtain rfl : nd = 0 := by rw [← HNX.out, HDT.out]; rfl
        obtain rfl : ke = 0 := by rw [← HEX.out, hoo.2.2.2.1]; rfl
        have h8 : r.cli < 8 := hoo.1
        clear ht hb HI HB z hoo HNX HEX
        have HC5 := Lib.hid (HR.out.below HI5.out.t.bel)
        have e0 : w5.cell? ⟨b, o + j * 15, none⟩ = _ := HC5.out.cells 0 _ rfl
        have f3 : decide ((7 : Int) < (r.cli : Int)) = false := by simp; omega
        go_upto_region 18 with fail
        clear f3 e0 HC5
        have HSd : Hid ((fun W : World => Below w.heap.size w W) w5.drew) := HI5.out.t.bel.drew
        refine wp_region_held_drew (S := (fun W : World => Below w.heap.size w W)) (by kernel_rfl) HSd.out (fun _ => ?_)
        change wpAnyH _ _ _ _ _ 13 (Array.replicate 13 false) _ _
        refine takeH (i := 0) 63 (.slice (some ⟨bL, 0, none⟩) 8 8) rfl rfl (by kernel_rfl) (by kernel_rfl) (by kernel_rfl) (fun _ _ _ h => h) (.inl ⟨by rfl, fun W hW => by go_simp⟩) HSd.out ?_
        simp only [Act.put, List.setIfInBounds_toArray, List.set_cons_zero, List.set_cons_succ]
        refine takeH (i := 1) 64 (.slice (some ⟨b, o, none⟩) n c) rfl rfl (by kernel_rfl) (by kernel_rfl) (by kernel_rfl) (fun _ _ _ h => h) (.inl ⟨by rfl, fun W hW => by go_simp⟩) HSd.out ?_
        simp only [Act.put, List.setIfInBounds_toArray, List.set_cons_zero, List.set_cons_succ]
        refine takeH (i := 2) 65 (.int .i64 (j : Int)) rfl rfl (by kernel_rfl) (by kernel_rfl) (by kernel_rfl) (fun _ _ _ h => h) (.inl ⟨by rfl, fun W hW => by go_simp⟩) HSd.out ?_
        simp only [Act.put, List.setIfInBounds_toArray, List.set_cons_zero, List.set_cons_succ]
        refine takeH (i := 3) 66 (.pointer (some ⟨b, o + j * 15, none⟩)) rfl rfl (by kernel_rfl) (by kernel_rfl) (by kernel_rfl) (fun _ _ _ h => h) (.inl ⟨by rfl, fun W hW => by (go_simp; first | done | (intro hh; omega))⟩) HSd.out ?_
        simp only [Act.put, List.setIfInBounds_toArray, List.set_cons_zero, List.set_cons_succ]
        refine takeH (i := 4) 67 (.pointer (some ⟨b, o + j * 15, none⟩)) rfl rfl (by kernel_rfl) (by kernel_rfl) (by kernel_rfl) (fun _ _ _ h => h) (.inl ⟨by rfl, fun W hW => by go_simp⟩) HSd.out ?_
        simp only [Act.put, List.setIfInBounds_toArray, List.set_cons_zero, List.set_cons_succ]
        refine takeH (i := 5) 68 (.int .u32 (r.cli : Int)) rfl rfl (by kernel_rfl) (by kernel_rfl) (by kernel_rfl) (fun _ _ _ h => h) (.inl ⟨by rfl, fun W hW => by (have z0 : W.cell? ⟨b, o + j * 15, none⟩ = _ := (HR.out.below hW).cells 0 _ rfl; go_simp)⟩) HSd.out ?_
        simp only [Act.put, List.setIfInBounds_toArray, List.set_cons_zero, List.set_cons_succ]
        refine takeH (i := 6) 69 (.slice (some ⟨b, o, none⟩) n c) rfl rfl (by kernel_rfl) (by kernel_rfl) (by kernel_rfl) (fun _ _ _ h => h) (.inl ⟨by rfl, fun W hW => by go_simp⟩) HSd.out ?_
        simp only [Act.put, List.setIfInBounds_toArray, List.set_cons_zero, List.set_cons_succ]
        refine takeH (i := 7) 70 (.int .i64 (j : Int)) rfl rfl (by kernel_rfl) (by kernel_rfl) (by kernel_rfl) (fun _ _ _ h => h) (.inl ⟨by rfl, fun W hW => by go_simp⟩) HSd.out ?_
        simp only [Act.put, List.setIfInBounds_toArray, List.set_cons_zero, List.set_cons_succ]
        refine takeH (i := 8) 71 (.pointer (some ⟨b, o + j * 15, none⟩)) rfl rfl (by kernel_rfl) (by kernel_rfl) (by kernel_rfl) (fun _ _ _ h => h) (.inl ⟨by rfl, fun W hW => by (go_simp; first | done | (intro hh; omega))⟩) HSd.out ?_
        simp only [Act.put, List.setIfInBounds_toArray, List.set_cons_zero, List.set_cons_succ]
        refine takeH (i := 9) 72 (.agg #[.int .u32 (r.cli : Int), .int .u32 (r.xid : Int), .int .i64 r.st, .int .u32 (r.ati : Int), .int .u32 (r.atg : Int), .int .u32 (r.kd : Int), .int .u32 (r.md : Int), .int .u32 (r.ln : Int), .int .u32 (r.sz : Int), .int .u64 (r.ch : Int), .slice Ad 0 cd, .slice Be 0 de, .bool r.eof, .int .u64 (r.vf : Int), .int .u32 (r.fr : Int)]) rfl rfl (by kernel_rfl) (by kernel_rfl) (by kernel_rfl) (fun _ _ _ h => h) (.inl ⟨by rfl, fun W hW => by (have z0 : W.cell? ⟨b, o + j * 15, none⟩ = _ := (HR.out.below hW).cells 0 _ rfl; have z1 := (HR.out.below hW).cells 1 _ rfl; have z2 := (HR.out.below hW).cells 2 _ rfl; have z3 := (HR.out.below hW).cells 3 _ rfl; have z4 := (HR.out.below hW).cells 4 _ rfl; have z5 := (HR.out.below hW).cells 5 _ rfl; have z6 := (HR.out.below hW).cells 6 _ rfl; have z7 := (HR.out.below hW).cells 7 _ rfl; have z8 := (HR.out.below hW).cells 8 _ rfl; have z9 := (HR.out.below hW).cells 9 _ rfl; have z10 := (HR.out.below hW).cells 10 _ rfl; have z11 := (HR.out.below hW).cells 11 _ rfl; have z12 := (HR.out.below hW).cells 12 _ rfl; have z13 := (HR.out.below hW).cells 13 _ rfl; have z14 := (HR.out.below hW).cells 14 _ rfl; go_simp)⟩) HSd.out ?_
        simp only [Act.put, List.setIfInBounds_toArray, List.set_cons_zero, List.set_cons_succ]
        refine wpAnyH_ready (rs := [10]) (by kernel_rfl) (by simp) ?_
        refine AllReadyH.cons rfl (fun K hK => ?_) AllReadyH.nil
        go_simp
        have HD := Lib.hid (HR.out.below HSd.out)
        refine (replyOf_any r Ad 0 cd Be 0 de _ HD.out.data HD.out.ent (by omega)).mono ?_
        rintro e wac ⟨E, ce, rfl, -, hbc⟩
        rw [HDT.out]
        have HSc : Hid ((fun W : World => Below w.heap.size w W) wac) := HSd.out.trans (hbc.mono HSd.out.size)
        have HIc := Lib.hid (HI5.out.below ((Below.refl _ _).drew.trans (hbc.mono (Nat.le_refl _))))
        refine hK.out _ _ HSc.out fun _ => ?_
        clear hK K HD hbc HI5
        obtain ⟨L, hL1, hL2, hL3⟩ := HIc.out.last.store r h8 E ce
        have HL1 := Lib.hid hL1
        have HL2 := Lib.hid hL2
        have HL3 := Lib.hid hL3
        clear hL1 hL2 hL3
        refine takeH (i := 11) 74 (.pointer (some ⟨bL, r.cli * 15, none⟩)) rfl rfl (by kernel_rfl) (by kernel_rfl) (by kernel_rfl) (fun _ _ _ h => h) (.inl ⟨by rfl, fun W hW => by (go_simp; first | done | (intro hh; omega))⟩) HSc.out ?_
        simp only [Act.put, List.setIfInBounds_toArray, List.set_cons_zero, List.set_cons_succ]
        refine wpAnyH_ready (rs := [12]) (by kernel_rfl) (by simp) ?_
        refine AllReadyH.cons rfl (fun K hK => ?_) AllReadyH.nil
        refine store_part_wp (P := Try.prog) 50 (.tmp 74) (.tmp 73) rfl bL (r.cli * 15) (rc r (.string (txt [])) (.slice E 0 ce)) rfl rfl 50 _ HL1.out.row size_R9 (by rw [rc_len, HL2.out]; omega) (rc_ones _ _ _ _ _) ?_
        intro w6 hb6 hs6 hk6
        have HI6 := Lib.hid (HIc.out.setL hk6 (HL3.out w6 hb6))
        have HS6 : Hid ((fun W : World => Below w.heap.size w W) w6) := HI6.out.t.bel
        refine hK.out _ _ HS6.out fun _ => ?_
        clear hK K hb6 hs6 hk6 HIc HL1 HL2 HL3 HSc HSd
        refine wpAnyH_done (by kernel_rfl) ?_ _
        have HC6 := Lib.hid (HR.out.below HI6.out.t.bel)
        have e0 : w6.cell? ⟨b, o + j * 15, none⟩ = _ := HC6.out.cells 0 _ rfl
        go_wp2_with (refine wpList_store_cell rfl 4 (.tmp 81) (.const (.bool true)) rfl bH r.cli (.bool true) rfl rfl 4 _ (Odd.row HI6.out.has) (by kernel_rfl) rfl (by simp [hasL]; omega) rfl ?_; intro w7 hb7 hs7 hk7)
        have HI7 := Lib.hid (HI6.out.setH hk7 (HI6.out.has.store r h8 hb7))
        clear hb7 hs7 hk7 HI6 e0 HC6 HS6
        go_wp2_with fail
        have hw : wrap64 ((j : Int) + 1) = ((j + 1 : Nat) : Int) := by have := HN.out; unfold wrap64; omega
        rw [hw]
        exact ⟨⟨j + 1, lastK KK r, Ry.pPut 40 X r, by omega, rfl, HI7, HB5⟩, by simp [intOf]; omega⟩
    · have hjn : j = n := by omega
      go_wp2_with fail
      clear hlt hjn HIN
      have HY0 : Hid (∀ q : Nat, q < 0 → TX.bk (TX.new (List.replicate 40 [])) 40 (1 + q) = encO (KK q)) := fun q h => absurd h (Nat.not_lt_zero _)
      go_loopw [9] (fun kv wq => ∃ (k : Nat) (Y : TX), k ≤ 8 ∧ kv = .int .u32 k ∧ Hid (KI w w1 p m h pu mu hu bL bH wq KK KK X Y) ∧ Hid (∀ q : Nat, q < k → TX.bk Y 40 (1 + q) = encO (KK q))) (fun i _ => 8 - (intOf i).toNat)
      case atStart => exact ⟨0, _, Nat.zero_le _, rfl, HI, HY0⟩
      case round =>
      clear HI HY0
      obtain ⟨k, Y, hk, rfl, HI, HY⟩ := hrel
      by_cases hlt : k < 8
      · go_wp2_with fail
        refine (raw_tq HI.out.t.tq k).mono ?_
        rintro en w5 ⟨A5, n5, c5, rfl, ho⟩
        rw [if_pos hlt, show TX.bk X (Sl.n ⟨some ⟨h, 0, none⟩, 40, 40⟩) (1 + k) = encO (KK k) from HB.out.bk k hlt] at ho
        have hn5 : n5 ≤ 52 := by have := ho.bs.1; have := encO_len (K := KK) k; omega
        have HI5 := Lib.hid (HI.out.below ho.2)
        have HBS := Lib.hid ho.bs
        clear ho HI
        go_wp2_with fail
        refine (setRaw_any HI5.out.u (fun q hq => by have a1 : w1.heap.size ≤ pu := HI5.out.u.sp; have b1 := HI5.out.u.plt; omega) k A5 n5 c5 (encO (KK k)) HBS.out (by omega)).mono ?_
        rintro en w6 ⟨rfl, ht, hb⟩
        obtain ⟨hr1, hr2⟩ := HB.out.raw Y k hlt HY.out
        rw [show Ry.srErr (Sl.n ⟨some ⟨hu, 0, none⟩, 40, 40⟩) k (encO (KK k)) = 0 from hr1]
        have HI6 := Lib.hid (HI5.out.putU ht hb)
        have HY6 : Hid (∀ q : Nat, q < k + 1 → TX.bk (Ry.srPut (Sl.n ⟨some ⟨hu, 0, none⟩, 40, 40⟩) Y k (encO (KK k))) 40 (1 + q) = encO (KK q)) := hr2
        generalize Ry.srPut (Sl.n ⟨some ⟨hu, 0, none⟩, 40, 40⟩) Y k (encO (KK k)) = Z at *
        clear ht hb hr1 hr2 HI5 HBS HY
        have HB1 : Hid (TX.bk X (Sl.n ⟨some ⟨h, 0, none⟩, 40, 40⟩) (1 + k) = encO (KK k)) := HB.out.bk k hlt
        have HB2 : Hid (TX.bk Z (Sl.n ⟨some ⟨hu, 0, none⟩, 40, 40⟩) (1 + k) = encO (KK k)) := HY6.out k (by omega)
        obtain ⟨tg1, tg2, tg3⟩ := HB.out.told k hlt
        have HG := Lib.hid tg3
        have HG1 := Lib.hid tg1
        obtain ⟨z, hz⟩ : ∃ z, (KK k).isSome = z := ⟨_, rfl⟩
        have HG2 := Lib.hid (tg2.trans hz)
        have HZ := Lib.hid hz
        clear tg1 tg2 tg3 hz
        go_wp2_with fail
        refine (get_tq HI6.out.t.tq k (by rw [HB1.out]; exact Nat.le_trans (encO_len k) (by decide))).mono ?_
        rintro e w7 ⟨rfl, hb⟩
        rw [HB1.out, HG1.out, HG2.out]
        have HI7 := Lib.hid (HI6.out.below hb)
        clear hb HI6
        obtain ⟨G, hG⟩ : ∃ G, Ry.gRep k (encO (KK k)) = G := ⟨_, rfl⟩
        rw [hG]
        rw [hG] at HG
        go_upto_region 26 with (first
          | (refine wpList_alloc_any rfl 41 rfl _ zero_Rp ?_; intro wa hba hsa hwa)
          | (refine wpList_store_part rfl 41 (.tmp 10) (.tmp 97) rfl w7.heap.size 0 (rc G (.slice none 0 0) (.slice none 0 0)) rfl rfl 41 _ hba size_Rp (by simp [rc]) (rc_row _ _ _ _ _ _ _) ?_
             intro w8 hb8 hs8 hk8))
        have HI8 := Lib.hid (HI7.out.below (hwa.trans (hk8.below2 (fun q hq => by omega))))
        have HR8 : Hid (Bw w8 w7.heap.size (rc G (.slice none 0 0) (.slice none 0 0)) 41) := hb8
        generalize w7.heap.size = g10 at *
        clear hba hsa hwa hb8 hs8 hk8 HI7
        go_wp2_with fail
        refine (get_tq HI8.out.u k (by rw [HB2.out]; exact Nat.le_trans (encO_len k) (by decide))).mono ?_
        rintro e w9 ⟨rfl, hb⟩
        rw [HB2.out, HG1.out, HG2.out, hG]
        have HI9 := Lib.hid (HI8.out.below hb)
        have HR9 := Lib.hid (HR8.out.below hb)
        clear hb HI8 HR8 hG HB1 HB2 HG1 HG2
        go_upto_region 27 with (first
          | (refine wpList_alloc_any rfl 41 rfl _ zero_Rp ?_; intro wa hba hsa hwa)
          | (refine wpList_store_part rfl 41 (.tmp 13) (.tmp 104) rfl w9.heap.size 0 (rc G (.slice none 0 0) (.slice none 0 0)) rfl rfl 41 _ hba size_Rp (by simp [rc]) (rc_row _ _ _ _ _ _ _) ?_
             intro wo hb8 hs8 hk8))
        have hlt9 := HR9.out.lt
        have HIo := Lib.hid (HI9.out.below (hwa.trans (hk8.below2 (fun q hq => by omega))))
        have HRo := Lib.hid (HR9.out.below (hwa.trans (hk8.below2 (fun q hq => by omega))))
        have HPo : Hid (Bw wo w9.heap.size (rc G (.slice none 0 0) (.slice none 0 0)) 41) := hb8
        clear hlt9
        generalize w9.heap.size = g13 at *
        clear hba hsa hwa hb8 hs8 hk8 HI9 HR9
        have HA : Hid (wo.cell? ⟨bH, k, none⟩ = some (.bool z)) := (HIo.out.has.at k hlt).trans (by rw [HZ.out])
        have hbl : bH < wo.heap.size := World.block_lt_of_cell? wo _ HA.out
        have HSe : Hid ((fun W : World => Below wo.heap.size wo W) wo.drew) := (Below.refl _ wo).drew
        cases z with
        | false =>
          refine wp_region_held_drew (S := (fun W : World => Below wo.heap.size wo W)) (by kernel_rfl) HSe.out (fun _ => ?_)
          change wpAnyH _ _ _ _ _ 45 (Array.replicate 45 false) _ _
          refine takeH (i := 0) 107 (.int .i64 0) rfl rfl (by kernel_rfl) (by kernel_rfl) (by kernel_rfl) (fun _ _ _ h => h) (.inl ⟨by rfl, fun W hW => by go_simp⟩) HSe.out ?_
          simp only [Act.put, List.setIfInBounds_toArray, List.set_cons_zero, List.set_cons_succ]
          refine takeH (i := 1) 108 (.bool false) rfl rfl (by kernel_rfl) (by kernel_rfl) (by kernel_rfl) (fun _ _ _ h => h) (.inl ⟨by rfl, fun W hW => by go_simp⟩) HSe.out ?_
          simp only [Act.put, List.setIfInBounds_toArray, List.set_cons_zero, List.set_cons_succ]
          refine takeH (i := 2) 109 (.bool false) rfl rfl (by kernel_rfl) (by kernel_rfl) (by kernel_rfl) (fun _ _ _ h => h) (.inl ⟨by rfl, fun W hW => by go_simp⟩) HSe.out ?_
          simp only [Act.put, List.setIfInBounds_toArray, List.set_cons_zero, List.set_cons_succ]
          refine takeH (i := 3) 110 (.int .i64 0) rfl rfl (by kernel_rfl) (by kernel_rfl) (by kernel_rfl) (fun _ _ _ h => h) (.inl ⟨by rfl, fun W hW => by go_simp⟩) HSe.out ?_
          simp only [Act.put, List.setIfInBounds_toArray, List.set_cons_zero, List.set_cons_succ]
          refine takeH (i := 4) 111 (.bool false) rfl rfl (by kernel_rfl) (by kernel_rfl) (by kernel_rfl) (fun _ _ _ h => h) (.inl ⟨by rfl, fun W hW => by go_simp⟩) HSe.out ?_
          simp only [Act.put, List.setIfInBounds_toArray, List.set_cons_zero, List.set_cons_succ]
          refine takeH (i := 5) 112 (.bool false) rfl rfl (by kernel_rfl) (by kernel_rfl) (by kernel_rfl) (fun _ _ _ h => h) (.inl ⟨by rfl, fun W hW => by go_simp⟩) HSe.out ?_
          simp only [Act.put, List.setIfInBounds_toArray, List.set_cons_zero, List.set_cons_succ]
          refine takeH (i := 6) 113 (.bool false) rfl rfl (by kernel_rfl) (by kernel_rfl) (by kernel_rfl) (fun _ _ _ h => h) (.inl ⟨by rfl, fun W hW => by go_simp⟩) HSe.out ?_
          simp only [Act.put, List.setIfInBounds_toArray, List.set_cons_zero, List.set_cons_succ]
          refine takeH (i := 7) 114 (.bool false) rfl rfl (by kernel_rfl) (by kernel_rfl) (by kernel_rfl) (fun _ _ _ h => h) (.inl ⟨by rfl, fun W hW => by go_simp⟩) HSe.out ?_
          simp only [Act.put, List.setIfInBounds_toArray, List.set_cons_zero, List.set_cons_succ]
          refine takeH (i := 8) 115 (.slice (some ⟨bH, 0, none⟩) 8 8) rfl rfl (by kernel_rfl) (by kernel_rfl) (by kernel_rfl) (fun _ _ _ h => h) (.inl ⟨by rfl, fun W hW => by go_simp⟩) HSe.out ?_
          simp only [Act.put, List.setIfInBounds_toArray, List.set_cons_zero, List.set_cons_succ]
          refine takeH (i := 9) 116 (.int .u32 (k : Int)) rfl rfl (by kernel_rfl) (by kernel_rfl) (by kernel_rfl) (fun _ _ _ h => h) (.inl ⟨by rfl, fun W hW => by go_simp⟩) HSe.out ?_
          simp only [Act.put, List.setIfInBounds_toArray, List.set_cons_zero, List.set_cons_succ]
          refine takeH (i := 10) 117 (.pointer (some ⟨bH, k, none⟩)) rfl rfl (by kernel_rfl) (by kernel_rfl) (by kernel_rfl) (fun _ _ _ h => h) (.inl ⟨by rfl, fun W hW => by (go_simp; first | done | (intro hh; omega))⟩) HSe.out ?_
          simp only [Act.put, List.setIfInBounds_toArray, List.set_cons_zero, List.set_cons_succ]
          refine takeH (i := 11) 118 (.bool false) rfl rfl (by kernel_rfl) (by kernel_rfl) (by kernel_rfl) (fun _ _ _ h => h) (.inl ⟨by rfl, fun W hW => by (have z0 := (Below.cell hW (p := ⟨bH, k, none⟩) hbl).trans HA.out; go_simp)⟩) HSe.out ?_
          simp only [Act.put, List.setIfInBounds_toArray, List.set_cons_zero, List.set_cons_succ]
          refine takeH (i := 12) 119 (.bool false) rfl rfl (by kernel_rfl) (by kernel_rfl) (by kernel_rfl) (fun _ _ _ h => h) (.inl ⟨by rfl, fun W hW => by go_simp⟩) HSe.out ?_
          simp only [Act.put, List.setIfInBounds_toArray, List.set_cons_zero, List.set_cons_succ]
          refine takeH (i := 13) 120 (.bool false) rfl rfl (by kernel_rfl) (by kernel_rfl) (by kernel_rfl) (fun _ _ _ h => h) (.inl ⟨by rfl, fun W hW => by go_simp⟩) HSe.out ?_
          simp only [Act.put, List.setIfInBounds_toArray, List.set_cons_zero, List.set_cons_succ]
          refine takeH (i := 14) 121 (.bool false) rfl rfl (by kernel_rfl) (by kernel_rfl) (by kernel_rfl) (fun _ _ _ h => h) (.inl ⟨by rfl, fun W hW => by go_simp⟩) HSe.out ?_
          simp only [Act.put, List.setIfInBounds_toArray, List.set_cons_zero, List.set_cons_succ]
          refine takeH (i := 15) 122 (.bool false) rfl rfl (by kernel_rfl) (by kernel_rfl) (by kernel_rfl) (fun _ _ _ h => h) (.inl ⟨by rfl, fun W hW => by go_simp⟩) HSe.out ?_
          simp only [Act.put, List.setIfInBounds_toArray, List.set_cons_zero, List.set_cons_succ]
          refine takeH (i := 16) 123 (.slice (some ⟨bH, 0, none⟩) 8 8) rfl rfl (by kernel_rfl) (by kernel_rfl) (by kernel_rfl) (fun _ _ _ h => h) (.inl ⟨by rfl, fun W hW => by go_simp⟩) HSe.out ?_
          simp only [Act.put, List.setIfInBounds_toArray, List.set_cons_zero, List.set_cons_succ]
          refine takeH (i := 17) 124 (.int .u32 (k : Int)) rfl rfl (by kernel_rfl) (by kernel_rfl) (by kernel_rfl) (fun _ _ _ h => h) (.inl ⟨by rfl, fun W hW => by go_simp⟩) HSe.out ?_
          simp only [Act.put, List.setIfInBounds_toArray, List.set_cons_zero, List.set_cons_succ]
          refine takeH (i := 18) 125 (.pointer (some ⟨bH, k, none⟩)) rfl rfl (by kernel_rfl) (by kernel_rfl) (by kernel_rfl) (fun _ _ _ h => h) (.inl ⟨by rfl, fun W hW => by (go_simp; first | done | (intro hh; omega))⟩) HSe.out ?_
          simp only [Act.put, List.setIfInBounds_toArray, List.set_cons_zero, List.set_cons_succ]
          refine takeH (i := 19) 126 (.bool false) rfl rfl (by kernel_rfl) (by kernel_rfl) (by kernel_rfl) (fun _ _ _ h => h) (.inl ⟨by rfl, fun W hW => by (have z0 := (Below.cell hW (p := ⟨bH, k, none⟩) hbl).trans HA.out; go_simp)⟩) HSe.out ?_
          simp only [Act.put, List.setIfInBounds_toArray, List.set_cons_zero, List.set_cons_succ]
          refine takeH (i := 20) 127 (.bool false) rfl rfl (by kernel_rfl) (by kernel_rfl) (by kernel_rfl) (fun _ _ _ h => h) (.inl ⟨by rfl, fun W hW => by go_simp⟩) HSe.out ?_
          simp only [Act.put, List.setIfInBounds_toArray, List.set_cons_zero, List.set_cons_succ]
          refine takeH (i := 21) 128 (.bool false) rfl rfl (by kernel_rfl) (by kernel_rfl) (by kernel_rfl) (fun _ _ _ h => h) (.inl ⟨by rfl, fun W hW => by go_simp⟩) HSe.out ?_
          simp only [Act.put, List.setIfInBounds_toArray, List.set_cons_zero, List.set_cons_succ]
          refine takeH (i := 22) 129 (.bool false) rfl rfl (by kernel_rfl) (by kernel_rfl) (by kernel_rfl) (fun _ _ _ h => h) (.inl ⟨by rfl, fun W hW => by go_simp⟩) HSe.out ?_
          simp only [Act.put, List.setIfInBounds_toArray, List.set_cons_zero, List.set_cons_succ]
          refine takeH (i := 23) 130 (.bool false) rfl rfl (by kernel_rfl) (by kernel_rfl) (by kernel_rfl) (fun _ _ _ h => h) (.inl ⟨by rfl, fun W hW => by go_simp⟩) HSe.out ?_
          simp only [Act.put, List.setIfInBounds_toArray, List.set_cons_zero, List.set_cons_succ]
          refine takeH (i := 24) 131 (.bool false) rfl rfl (by kernel_rfl) (by kernel_rfl) (by kernel_rfl) (fun _ _ _ h => h) (.inl ⟨by rfl, fun W hW => by go_simp⟩) HSe.out ?_
          simp only [Act.put, List.setIfInBounds_toArray, List.set_cons_zero, List.set_cons_succ]
          refine takeH (i := 25) 132 (undef) rfl rfl (by kernel_rfl) (by kernel_rfl) (by kernel_rfl) (fun _ _ _ h => h) (.inr ⟨by rfl, rfl⟩) HSe.out ?_
          simp only [Act.put, List.setIfInBounds_toArray, List.set_cons_zero, List.set_cons_succ]
          refine takeH (i := 26) 133 (undef) rfl rfl (by kernel_rfl) (by kernel_rfl) (by kernel_rfl) (fun _ _ _ h => h) (.inr ⟨by rfl, rfl⟩) HSe.out ?_
          simp only [Act.put, List.setIfInBounds_toArray, List.set_cons_zero, List.set_cons_succ]
          refine takeH (i := 27) 134 (undef) rfl rfl (by kernel_rfl) (by kernel_rfl) (by kernel_rfl) (fun _ _ _ h => h) (.inr ⟨by rfl, rfl⟩) HSe.out ?_
          simp only [Act.put, List.setIfInBounds_toArray, List.set_cons_zero, List.set_cons_succ]
          refine takeH (i := 28) 135 (undef) rfl rfl (by kernel_rfl) (by kernel_rfl) (by kernel_rfl) (fun _ _ _ h => h) (.inr ⟨by rfl, rfl⟩) HSe.out ?_
          simp only [Act.put, List.setIfInBounds_toArray, List.set_cons_zero, List.set_cons_succ]
          refine takeH (i := 29) 136 (undef) rfl rfl (by kernel_rfl) (by kernel_rfl) (by kernel_rfl) (fun _ _ _ h => h) (.inr ⟨by rfl, rfl⟩) HSe.out ?_
          simp only [Act.put, List.setIfInBounds_toArray, List.set_cons_zero, List.set_cons_succ]
          refine takeH (i := 30) 137 (undef) rfl rfl (by kernel_rfl) (by kernel_rfl) (by kernel_rfl) (fun _ _ _ h => h) (.inr ⟨by rfl, rfl⟩) HSe.out ?_
          simp only [Act.put, List.setIfInBounds_toArray, List.set_cons_zero, List.set_cons_succ]
          refine takeH (i := 31) 138 (undef) rfl rfl (by kernel_rfl) (by kernel_rfl) (by kernel_rfl) (fun _ _ _ h => h) (.inr ⟨by rfl, rfl⟩) HSe.out ?_
          simp only [Act.put, List.setIfInBounds_toArray, List.set_cons_zero, List.set_cons_succ]
          refine takeH (i := 32) 139 (undef) rfl rfl (by kernel_rfl) (by kernel_rfl) (by kernel_rfl) (fun _ _ _ h => h) (.inr ⟨by rfl, rfl⟩) HSe.out ?_
          simp only [Act.put, List.setIfInBounds_toArray, List.set_cons_zero, List.set_cons_succ]
          refine takeH (i := 33) 140 (undef) rfl rfl (by kernel_rfl) (by kernel_rfl) (by kernel_rfl) (fun _ _ _ h => h) (.inr ⟨by rfl, rfl⟩) HSe.out ?_
          simp only [Act.put, List.setIfInBounds_toArray, List.set_cons_zero, List.set_cons_succ]
          refine takeH (i := 34) 141 (undef) rfl rfl (by kernel_rfl) (by kernel_rfl) (by kernel_rfl) (fun _ _ _ h => h) (.inr ⟨by rfl, rfl⟩) HSe.out ?_
          simp only [Act.put, List.setIfInBounds_toArray, List.set_cons_zero, List.set_cons_succ]
          refine takeH (i := 35) 142 (undef) rfl rfl (by kernel_rfl) (by kernel_rfl) (by kernel_rfl) (fun _ _ _ h => h) (.inr ⟨by rfl, rfl⟩) HSe.out ?_
          simp only [Act.put, List.setIfInBounds_toArray, List.set_cons_zero, List.set_cons_succ]
          refine takeH (i := 36) 143 (undef) rfl rfl (by kernel_rfl) (by kernel_rfl) (by kernel_rfl) (fun _ _ _ h => h) (.inr ⟨by rfl, rfl⟩) HSe.out ?_
          simp only [Act.put, List.setIfInBounds_toArray, List.set_cons_zero, List.set_cons_succ]
          refine takeH (i := 37) 144 (undef) rfl rfl (by kernel_rfl) (by kernel_rfl) (by kernel_rfl) (fun _ _ _ h => h) (.inr ⟨by rfl, rfl⟩) HSe.out ?_
          simp only [Act.put, List.setIfInBounds_toArray, List.set_cons_zero, List.set_cons_succ]
          refine takeH (i := 38) 145 (undef) rfl rfl (by kernel_rfl) (by kernel_rfl) (by kernel_rfl) (fun _ _ _ h => h) (.inr ⟨by rfl, rfl⟩) HSe.out ?_
          simp only [Act.put, List.setIfInBounds_toArray, List.set_cons_zero, List.set_cons_succ]
          refine takeH (i := 39) 146 (undef) rfl rfl (by kernel_rfl) (by kernel_rfl) (by kernel_rfl) (fun _ _ _ h => h) (.inr ⟨by rfl, rfl⟩) HSe.out ?_
          simp only [Act.put, List.setIfInBounds_toArray, List.set_cons_zero, List.set_cons_succ]
          refine takeH (i := 40) 147 (undef) rfl rfl (by kernel_rfl) (by kernel_rfl) (by kernel_rfl) (fun _ _ _ h => h) (.inr ⟨by rfl, rfl⟩) HSe.out ?_
          simp only [Act.put, List.setIfInBounds_toArray, List.set_cons_zero, List.set_cons_succ]
          refine takeH (i := 41) 148 (undef) rfl rfl (by kernel_rfl) (by kernel_rfl) (by kernel_rfl) (fun _ _ _ h => h) (.inr ⟨by rfl, rfl⟩) HSe.out ?_
          simp only [Act.put, List.setIfInBounds_toArray, List.set_cons_zero, List.set_cons_succ]
          refine takeH (i := 42) 149 (undef) rfl rfl (by kernel_rfl) (by kernel_rfl) (by kernel_rfl) (fun _ _ _ h => h) (.inr ⟨by rfl, rfl⟩) HSe.out ?_
          simp only [Act.put, List.setIfInBounds_toArray, List.set_cons_zero, List.set_cons_succ]
          refine takeH (i := 43) 150 (.bool false) rfl rfl (by kernel_rfl) (by kernel_rfl) (by kernel_rfl) (fun _ _ _ h => h) (.inl ⟨by rfl, fun W hW => by go_simp⟩) HSe.out ?_
          simp only [Act.put, List.setIfInBounds_toArray, List.set_cons_zero, List.set_cons_succ]
          refine takeH (i := 44) 151 (.bool false) rfl rfl (by kernel_rfl) (by kernel_rfl) (by kernel_rfl) (fun _ _ _ h => h) (.inl ⟨by rfl, fun W hW => by go_simp⟩) HSe.out ?_
          simp only [Act.put, List.setIfInBounds_toArray, List.set_cons_zero, List.set_cons_succ]
          refine wpAnyH_done (by kernel_rfl) ?_ _
          have HIe := Lib.hid (HIo.out.below (Below.refl _ wo).drew)
          go_wp2_with fail
          exact ⟨⟨k + 1, Z, by omega, by simp, HIe, HY6⟩, by simp [intOf]; omega⟩
        | true =>
          obtain ⟨r, hq⟩ := Option.isSome_iff_exists.1 HZ.out
          obtain rfl : G = r := HG.out r hq
          have hok := HB.out.ok k G hq
          have hoo := (Ry.okB_iff G).1 hok.2.2
          have HDT : Hid (G.dt = []) := hoo.2.2.1
          have HET : Hid (G.es = []) := hoo.2.2.2.1
          obtain ⟨L, E, ce, hL, hLc⟩ := HIo.out.last.at k hlt G hq
          have HL := Lib.hid hL
          have HLC : Hid (∀ j u, (rc G (.string (txt G.dt)) (.slice E 0 ce))[j]? = some u → L[k * 15 + j]? = some u) := by rw [HDT.out]; exact hLc
          clear hL hLc hoo hok hq
          refine wp_region_held_drew (S := (fun W : World => Below wo.heap.size wo W)) (by kernel_rfl) HSe.out (fun _ => ?_)
          change wpAnyH _ _ _ _ _ 45 (Array.replicate 45 false) _ _
          refine takeH (i := 0) 107 (.int .i64 0) rfl rfl (by kernel_rfl) (by kernel_rfl) (by kernel_rfl) (fun _ _ _ h => h) (.inl ⟨by rfl, fun W hW => by go_simp⟩) HSe.out ?_
          simp only [Act.put, List.setIfInBounds_toArray, List.set_cons_zero, List.set_cons_succ]
          refine takeH (i := 1) 108 (.bool false) rfl rfl (by kernel_rfl) (by kernel_rfl) (by kernel_rfl) (fun _ _ _ h => h) (.inl ⟨by rfl, fun W hW => by go_simp⟩) HSe.out ?_
          simp only [Act.put, List.setIfInBounds_toArray, List.set_cons_zero, List.set_cons_succ]
          refine takeH (i := 2) 109 (.bool false) rfl rfl (by kernel_rfl) (by kernel_rfl) (by kernel_rfl) (fun _ _ _ h => h) (.inl ⟨by rfl, fun W hW => by go_simp⟩) HSe.out ?_
          simp only [Act.put, List.setIfInBounds_toArray, List.set_cons_zero, List.set_cons_succ]
          refine takeH (i := 3) 110 (.int .i64 0) rfl rfl (by kernel_rfl) (by kernel_rfl) (by kernel_rfl) (fun _ _ _ h => h) (.inl ⟨by rfl, fun W hW => by go_simp⟩) HSe.out ?_
          simp only [Act.put, List.setIfInBounds_toArray, List.set_cons_zero, List.set_cons_succ]
          refine takeH (i := 4) 111 (.bool false) rfl rfl (by kernel_rfl) (by kernel_rfl) (by kernel_rfl) (fun _ _ _ h => h) (.inl ⟨by rfl, fun W hW => by go_simp⟩) HSe.out ?_
          simp only [Act.put, List.setIfInBounds_toArray, List.set_cons_zero, List.set_cons_succ]
          refine takeH (i := 5) 112 (.bool false) rfl rfl (by kernel_rfl) (by kernel_rfl) (by kernel_rfl) (fun _ _ _ h => h) (.inl ⟨by rfl, fun W hW => by go_simp⟩) HSe.out ?_
          simp only [Act.put, List.setIfInBounds_toArray, List.set_cons_zero, List.set_cons_succ]
          refine takeH (i := 6) 113 (.bool false) rfl rfl (by kernel_rfl) (by kernel_rfl) (by kernel_rfl) (fun _ _ _ h => h) (.inl ⟨by rfl, fun W hW => by go_simp⟩) HSe.out ?_
          simp only [Act.put, List.setIfInBounds_toArray, List.set_cons_zero, List.set_cons_succ]
          refine takeH (i := 7) 114 (.bool true) rfl rfl (by kernel_rfl) (by kernel_rfl) (by kernel_rfl) (fun _ _ _ h => h) (.inl ⟨by rfl, fun W hW => by go_simp⟩) HSe.out ?_
          simp only [Act.put, List.setIfInBounds_toArray, List.set_cons_zero, List.set_cons_succ]
          refine takeH (i := 8) 115 (.slice (some ⟨bH, 0, none⟩) 8 8) rfl rfl (by kernel_rfl) (by kernel_rfl) (by kernel_rfl) (fun _ _ _ h => h) (.inl ⟨by rfl, fun W hW => by go_simp⟩) HSe.out ?_
          simp only [Act.put, List.setIfInBounds_toArray, List.set_cons_zero, List.set_cons_succ]
          refine takeH (i := 9) 116 (.int .u32 (k : Int)) rfl rfl (by kernel_rfl) (by kernel_rfl) (by kernel_rfl) (fun _ _ _ h => h) (.inl ⟨by rfl, fun W hW => by go_simp⟩) HSe.out ?_
          simp only [Act.put, List.setIfInBounds_toArray, List.set_cons_zero, List.set_cons_succ]
          refine takeH (i := 10) 117 (.pointer (some ⟨bH, k, none⟩)) rfl rfl (by kernel_rfl) (by kernel_rfl) (by kernel_rfl) (fun _ _ _ h => h) (.inl ⟨by rfl, fun W hW => by (go_simp; first | done | (intro hh; omega))⟩) HSe.out ?_
          simp only [Act.put, List.setIfInBounds_toArray, List.set_cons_zero, List.set_cons_succ]
          refine takeH (i := 11) 118 (.bool true) rfl rfl (by kernel_rfl) (by kernel_rfl) (by kernel_rfl) (fun _ _ _ h => h) (.inl ⟨by rfl, fun W hW => by (have z0 := (Below.cell hW (p := ⟨bH, k, none⟩) hbl).trans HA.out; go_simp)⟩) HSe.out ?_
          simp only [Act.put, List.setIfInBounds_toArray, List.set_cons_zero, List.set_cons_succ]
          refine takeH (i := 12) 119 (.bool false) rfl rfl (by kernel_rfl) (by kernel_rfl) (by kernel_rfl) (fun _ _ _ h => h) (.inl ⟨by rfl, fun W hW => by go_simp⟩) HSe.out ?_
          simp only [Act.put, List.setIfInBounds_toArray, List.set_cons_zero, List.set_cons_succ]
          refine takeH (i := 13) 120 (.bool false) rfl rfl (by kernel_rfl) (by kernel_rfl) (by kernel_rfl) (fun _ _ _ h => h) (.inl ⟨by rfl, fun W hW => by go_simp⟩) HSe.out ?_
          simp only [Act.put, List.setIfInBounds_toArray, List.set_cons_zero, List.set_cons_succ]
          refine takeH (i := 14) 121 (.bool false) rfl rfl (by kernel_rfl) (by kernel_rfl) (by kernel_rfl) (fun _ _ _ h => h) (.inl ⟨by rfl, fun W hW => by go_simp⟩) HSe.out ?_
          simp only [Act.put, List.setIfInBounds_toArray, List.set_cons_zero, List.set_cons_succ]
          refine takeH (i := 15) 122 (.bool true) rfl rfl (by kernel_rfl) (by kernel_rfl) (by kernel_rfl) (fun _ _ _ h => h) (.inl ⟨by rfl, fun W hW => by go_simp⟩) HSe.out ?_
          simp only [Act.put, List.setIfInBounds_toArray, List.set_cons_zero, List.set_cons_succ]
          refine takeH (i := 16) 123 (.slice (some ⟨bH, 0, none⟩) 8 8) rfl rfl (by kernel_rfl) (by kernel_rfl) (by kernel_rfl) (fun _ _ _ h => h) (.inl ⟨by rfl, fun W hW => by go_simp⟩) HSe.out ?_
          simp only [Act.put, List.setIfInBounds_toArray, List.set_cons_zero, List.set_cons_succ]
          refine takeH (i := 17) 124 (.int .u32 (k : Int)) rfl rfl (by kernel_rfl) (by kernel_rfl) (by kernel_rfl) (fun _ _ _ h => h) (.inl ⟨by rfl, fun W hW => by go_simp⟩) HSe.out ?_
          simp only [Act.put, List.setIfInBounds_toArray, List.set_cons_zero, List.set_cons_succ]
          refine takeH (i := 18) 125 (.pointer (some ⟨bH, k, none⟩)) rfl rfl (by kernel_rfl) (by kernel_rfl) (by kernel_rfl) (fun _ _ _ h => h) (.inl ⟨by rfl, fun W hW => by (go_simp; first | done | (intro hh; omega))⟩) HSe.out ?_
          simp only [Act.put, List.setIfInBounds_toArray, List.set_cons_zero, List.set_cons_succ]
          refine takeH (i := 19) 126 (.bool true) rfl rfl (by kernel_rfl) (by kernel_rfl) (by kernel_rfl) (fun _ _ _ h => h) (.inl ⟨by rfl, fun W hW => by (have z0 := (Below.cell hW (p := ⟨bH, k, none⟩) hbl).trans HA.out; go_simp)⟩) HSe.out ?_
          simp only [Act.put, List.setIfInBounds_toArray, List.set_cons_zero, List.set_cons_succ]
          refine takeH (i := 20) 127 (.bool false) rfl rfl (by kernel_rfl) (by kernel_rfl) (by kernel_rfl) (fun _ _ _ h => h) (.inl ⟨by rfl, fun W hW => by go_simp⟩) HSe.out ?_
          simp only [Act.put, List.setIfInBounds_toArray, List.set_cons_zero, List.set_cons_succ]
          refine takeH (i := 21) 128 (.bool false) rfl rfl (by kernel_rfl) (by kernel_rfl) (by kernel_rfl) (fun _ _ _ h => h) (.inl ⟨by rfl, fun W hW => by go_simp⟩) HSe.out ?_
          simp only [Act.put, List.setIfInBounds_toArray, List.set_cons_zero, List.set_cons_succ]
          refine takeH (i := 22) 129 (.bool false) rfl rfl (by kernel_rfl) (by kernel_rfl) (by kernel_rfl) (fun _ _ _ h => h) (.inl ⟨by rfl, fun W hW => by go_simp⟩) HSe.out ?_
          simp only [Act.put, List.setIfInBounds_toArray, List.set_cons_zero, List.set_cons_succ]
          refine takeH (i := 23) 130 (.bool true) rfl rfl (by kernel_rfl) (by kernel_rfl) (by kernel_rfl) (fun _ _ _ h => h) (.inl ⟨by rfl, fun W hW => by go_simp⟩) HSe.out ?_
          simp only [Act.put, List.setIfInBounds_toArray, List.set_cons_zero, List.set_cons_succ]
          refine takeH (i := 24) 131 (.bool true) rfl rfl (by kernel_rfl) (by kernel_rfl) (by kernel_rfl) (fun _ _ _ h => h) (.inl ⟨by rfl, fun W hW => by go_simp⟩) HSe.out ?_
          simp only [Act.put, List.setIfInBounds_toArray, List.set_cons_zero, List.set_cons_succ]
          refine takeH (i := 25) 132 (.agg (rc G (.slice none 0 0) (.slice none 0 0)).toArray) rfl rfl (by kernel_rfl) (by kernel_rfl) (by kernel_rfl) (fun _ _ _ h => h) (.inl ⟨by rfl, fun W hW => by exact run_load_part 41 (.tmp 10) rfl g10 0 rfl _ Try.underlying41 rfl (rc G (.slice none 0 0) (.slice none 0 0)) 41 _ (HRo.out.below hW) size_Rp (fun j u hu => by rw [Nat.zero_add]; exact hu)⟩) HSe.out ?_
          simp only [Act.put, List.setIfInBounds_toArray, List.set_cons_zero, List.set_cons_succ]
          refine takeH (i := 27) 134 (.slice (some ⟨bL, 0, none⟩) 8 8) rfl rfl (by kernel_rfl) (by kernel_rfl) (by kernel_rfl) (fun _ _ _ h => h) (.inl ⟨by rfl, fun W hW => by go_simp⟩) HSe.out ?_
          simp only [Act.put, List.setIfInBounds_toArray, List.set_cons_zero, List.set_cons_succ]
          refine takeH (i := 28) 135 (.int .u32 (k : Int)) rfl rfl (by kernel_rfl) (by kernel_rfl) (by kernel_rfl) (fun _ _ _ h => h) (.inl ⟨by rfl, fun W hW => by go_simp⟩) HSe.out ?_
          simp only [Act.put, List.setIfInBounds_toArray, List.set_cons_zero, List.set_cons_succ]
          refine takeH (i := 29) 136 (.pointer (some ⟨bL, k * 15, none⟩)) rfl rfl (by kernel_rfl) (by kernel_rfl) (by kernel_rfl) (fun _ _ _ h => h) (.inl ⟨by rfl, fun W hW => by (go_simp; first | done | (intro hh; omega))⟩) HSe.out ?_
          simp only [Act.put, List.setIfInBounds_toArray, List.set_cons_zero, List.set_cons_succ]
          refine takeH (i := 30) 137 (.agg (rc G (.string (txt G.dt)) (.slice E 0 ce)).toArray) rfl rfl (by kernel_rfl) (by kernel_rfl) (by kernel_rfl) (fun _ _ _ h => h) (.inl ⟨by rfl, fun W hW => by exact run_load_part 50 (.tmp 136) rfl bL (k * 15) rfl _ Try.underlying50 rfl (rc G (.string (txt G.dt)) (.slice E 0 ce)) 50 _ (HL.out.below hW) size_R9 HLC.out⟩) HSe.out ?_
          simp only [Act.put, List.setIfInBounds_toArray, List.set_cons_zero, List.set_cons_succ]
          refine wpAnyH_ready (rs := [26]) (by kernel_rfl) (by simp) ?_
          refine AllReadyH.cons rfl (fun K hK => ?_) AllReadyH.nil
          try go_simp
          refine (replyOf_any G none 0 0 none 0 0 _ (BS.zero HDT.out) (ES.zero HET.out) (by omega)).mono ?_
          rintro e wa1 ⟨Ea, ca, rfl, -, hba⟩
          have HSa1 : Hid ((fun W : World => Below wo.heap.size wo W) wa1) := HSe.out.trans (hba.mono HSe.out.size)
          refine hK.out _ _ HSa1.out fun _ => ?_
          clear hK K hba
          try simp only [Act.put, List.setIfInBounds_toArray, List.set_cons_zero, List.set_cons_succ]
          refine wpAnyH_ready (rs := [31]) (by kernel_rfl) (by simp) ?_
          refine AllReadyH.cons rfl (fun K hK => ?_) AllReadyH.nil
          try go_simp
          refine (refSame9_any G Ea 0 ca E 0 ce _ (ES.zero HET.out) (ES.zero HET.out) (by omega)).mono ?_
          rintro e wa2 ⟨rfl, hba⟩
          have HSa2 : Hid ((fun W : World => Below wo.heap.size wo W) wa2) := HSa1.out.trans (hba.mono HSa1.out.size)
          refine hK.out _ _ HSa2.out fun _ => ?_
          clear hK K hba
          try simp only [Act.put, List.setIfInBounds_toArray, List.set_cons_zero, List.set_cons_succ]
          refine takeH (i := 32) 139 (.bool false) rfl rfl (by kernel_rfl) (by kernel_rfl) (by kernel_rfl) (fun _ _ _ h => h) (.inl ⟨by rfl, fun W hW => by go_simp⟩) HSa2.out ?_
          simp only [Act.put, List.setIfInBounds_toArray, List.set_cons_zero, List.set_cons_succ]
          refine takeH (i := 33) 140 (.bool false) rfl rfl (by kernel_rfl) (by kernel_rfl) (by kernel_rfl) (fun _ _ _ h => h) (.inl ⟨by rfl, fun W hW => by go_simp⟩) HSa2.out ?_
          simp only [Act.put, List.setIfInBounds_toArray, List.set_cons_zero, List.set_cons_succ]
          refine takeH (i := 34) 141 (.agg (rc G (.slice none 0 0) (.slice none 0 0)).toArray) rfl rfl (by kernel_rfl) (by kernel_rfl) (by kernel_rfl) (fun _ _ _ h => h) (.inl ⟨by rfl, fun W hW => by exact run_load_part 41 (.tmp 13) rfl g13 0 rfl _ Try.underlying41 rfl (rc G (.slice none 0 0) (.slice none 0 0)) 41 _ (HPo.out.below hW) size_Rp (fun j u hu => by rw [Nat.zero_add]; exact hu)⟩) HSa2.out ?_
          simp only [Act.put, List.setIfInBounds_toArray, List.set_cons_zero, List.set_cons_succ]
          refine takeH (i := 36) 143 (.slice (some ⟨bL, 0, none⟩) 8 8) rfl rfl (by kernel_rfl) (by kernel_rfl) (by kernel_rfl) (fun _ _ _ h => h) (.inl ⟨by rfl, fun W hW => by go_simp⟩) HSa2.out ?_
          simp only [Act.put, List.setIfInBounds_toArray, List.set_cons_zero, List.set_cons_succ]
          refine takeH (i := 37) 144 (.int .u32 (k : Int)) rfl rfl (by kernel_rfl) (by kernel_rfl) (by kernel_rfl) (fun _ _ _ h => h) (.inl ⟨by rfl, fun W hW => by go_simp⟩) HSa2.out ?_
          simp only [Act.put, List.setIfInBounds_toArray, List.set_cons_zero, List.set_cons_succ]
          refine takeH (i := 38) 145 (.pointer (some ⟨bL, k * 15, none⟩)) rfl rfl (by kernel_rfl) (by kernel_rfl) (by kernel_rfl) (fun _ _ _ h => h) (.inl ⟨by rfl, fun W hW => by (go_simp; first | done | (intro hh; omega))⟩) HSa2.out ?_
          simp only [Act.put, List.setIfInBounds_toArray, List.set_cons_zero, List.set_cons_succ]
          refine takeH (i := 39) 146 (.agg (rc G (.string (txt G.dt)) (.slice E 0 ce)).toArray) rfl rfl (by kernel_rfl) (by kernel_rfl) (by kernel_rfl) (fun _ _ _ h => h) (.inl ⟨by rfl, fun W hW => by exact run_load_part 50 (.tmp 145) rfl bL (k * 15) rfl _ Try.underlying50 rfl (rc G (.string (txt G.dt)) (.slice E 0 ce)) 50 _ (HL.out.below hW) size_R9 HLC.out⟩) HSa2.out ?_
          simp only [Act.put, List.setIfInBounds_toArray, List.set_cons_zero, List.set_cons_succ]
          refine wpAnyH_ready (rs := [35]) (by kernel_rfl) (by simp) ?_
          refine AllReadyH.cons rfl (fun K hK => ?_) AllReadyH.nil
          try go_simp
          refine (replyOf_any G none 0 0 none 0 0 _ (BS.zero HDT.out) (ES.zero HET.out) (by omega)).mono ?_
          rintro e wb1 ⟨Eb, cb, rfl, -, hbb⟩
          have HSb1 : Hid ((fun W : World => Below wo.heap.size wo W) wb1) := HSa2.out.trans (hbb.mono HSa2.out.size)
          refine hK.out _ _ HSb1.out fun _ => ?_
          clear hK K hbb
          try simp only [Act.put, List.setIfInBounds_toArray, List.set_cons_zero, List.set_cons_succ]
          refine wpAnyH_ready (rs := [40]) (by kernel_rfl) (by simp) ?_
          refine AllReadyH.cons rfl (fun K hK => ?_) AllReadyH.nil
          try go_simp
          refine (refSame9_any G Eb 0 cb E 0 ce _ (ES.zero HET.out) (ES.zero HET.out) (by omega)).mono ?_
          rintro e wb2 ⟨rfl, hbb⟩
          have HSb2 : Hid ((fun W : World => Below wo.heap.size wo W) wb2) := HSb1.out.trans (hbb.mono HSb1.out.size)
          refine hK.out _ _ HSb2.out fun _ => ?_
          clear hK K hbb
          try simp only [Act.put, List.setIfInBounds_toArray, List.set_cons_zero, List.set_cons_succ]
          refine takeH (i := 41) 148 (.bool false) rfl rfl (by kernel_rfl) (by kernel_rfl) (by kernel_rfl) (fun _ _ _ h => h) (.inl ⟨by rfl, fun W hW => by go_simp⟩) HSb2.out ?_
          simp only [Act.put, List.setIfInBounds_toArray, List.set_cons_zero, List.set_cons_succ]
          refine takeH (i := 42) 149 (.bool false) rfl rfl (by kernel_rfl) (by kernel_rfl) (by kernel_rfl) (fun _ _ _ h => h) (.inl ⟨by rfl, fun W hW => by go_simp⟩) HSb2.out ?_
          simp only [Act.put, List.setIfInBounds_toArray, List.set_cons_zero, List.set_cons_succ]
          refine takeH (i := 43) 150 (.bool false) rfl rfl (by kernel_rfl) (by kernel_rfl) (by kernel_rfl) (fun _ _ _ h => h) (.inl ⟨by rfl, fun W hW => by go_simp⟩) HSb2.out ?_
          simp only [Act.put, List.setIfInBounds_toArray, List.set_cons_zero, List.set_cons_succ]
          refine takeH (i := 44) 151 (.bool false) rfl rfl (by kernel_rfl) (by kernel_rfl) (by kernel_rfl) (fun _ _ _ h => h) (.inl ⟨by rfl, fun W hW => by go_simp⟩) HSb2.out ?_
          simp only [Act.put, List.setIfInBounds_toArray, List.set_cons_zero, List.set_cons_succ]
          refine wpAnyH_done (by kernel_rfl) ?_ _
          have HIe := Lib.hid (HIo.out.below HSb2.out)
          clear HSa1 HSb1 HSa2 HSb2
          go_wp2_with fail
          exact ⟨⟨k + 1, Z, by omega, by simp, HIe, HY6⟩, by simp [intOf]; omega⟩
      · go_wp2_with fail
        refine (refFind_any none 0 0 [] [] _ ES.nil (by omega)).mono ?_
        rintro e wz ⟨rfl, rfl⟩
        rw [show fnd [] [] = -1 from rfl]
        go_wp2_with fail
        go_ret
        exact ⟨rfl, HI.out.t.bel⟩
end Go.Proofs.Ytjgmboleiaehaaa
