/-
  The walk of the statement on calls and replies that are cut, or have more behind them (layer 9).
-/
import Derived.Test.YtobhmjokoicpoaaDoorKAwake
import Derived.Test.YtobhmjokoicpoaaDoorKIn
namespace Go.Proofs.YtobhmjokoicpoaaDoor
open Go.RowKit Go.Shelf

/-- The call and the reply lie in blocks of their own. -/
structure G3 (w : World) (p q : Nat) (cs ds : List Value) (W : World) : Prop where
  one : Bw W p cs 28
  two : Bw W q ds 48
  bel : Below w.heap.size w W
  lp : p < w.heap.size + 2
theorem G3.below {w W W' : World} {p q : Nat} {cs ds : List Value} (h : G3 w p q cs ds W) (hb : Below W.heap.size W W') : G3 w p q cs ds W' := ⟨h.one.below hb, h.two.below hb, h.bel.trans (hb.mono h.bel.size), h.lp⟩
/-- A row of the call's own grows: all that was there ahead of it is as it was. -/
theorem own_grow {W0 W W' : World} {base B : Nat} {t : TypeId} {k n : Nat} {v : Value} {xs : List Value} (h : W.ownsRow base t k v n xs) (hg : W.grownBy W' v.ownBlock) (hb : Below B W0 W) (hB : B ≤ base) (hs : B ≤ W.heap.size) : Below B W0 W' :=
  hb.grown hg hs (fun j hj => Nat.le_trans hB (h.lt j hj).1)
theorem own_keep2 {w W W' : World} {p q base : Nat} {cs ds : List Value} {t : TypeId} {k n : Nat} {v : Value} {xs : List Value} (h : W.ownsRow base t k v n xs) (hg : W.grownBy W' v.ownBlock) (hG : G3 w p q cs ds W) (hp : p < base ∧ q < base) (hB : w.heap.size ≤ base) : G3 w p q cs ds W' :=
  ⟨hG.one.grown hg (fun e => by have := (h.lt p e).1; omega), hG.two.grown hg (fun e => by have := (h.lt q e).1; omega), own_grow h hg hG.bel hB hG.bel.size, hG.lp⟩

set_option maxRecDepth 100000 in
set_option maxHeartbeats 4000000 in
theorem cut_walk (w : World) (hch : Ch w) (v1 v2 : Value) (c : Cl) (A : Option Addr) (n cp : Nat) (r : Rp) (B : Option Addr) (m cq : Nat) (E : Option Addr) (me ce : Nat) (at_ : Nat) (hat : at_ < 65536) (M : Option Addr) (mm cm : Nat) (ml : List UInt8) (h1 : CI w v1 c A n cp) (h2 : RI9 w v2 r B m cq E me ce) (h3 : BS w M mm ml) :
    Calls Tryd.prog 5 #[v1, v2, .int .u16 (at_ : Int), .slice M mm cm] w fun e w' => e = .returned (.bool true) ∧ Below w.heap.size w w' := by
  obtain ⟨i0, hi0, hz0, hz1, hz2⟩ := info_parts info_u8
  have HI0 := Lib.hid hi0
  have HZ0 := Lib.hid hz0
  have HZ1 := Lib.hid hz1
  have HZ2 := Lib.hid hz2
  obtain ⟨rfl, hx, hw, _, _, _⟩ := h1
  obtain ⟨rfl, hy, hei, hv, _, _⟩ := h2
  have HCH := Lib.hid hch
  have HX := Lib.hid hx
  have HY := Lib.hid hy
  have HM := Lib.hid h3
  have HE := Lib.hid hei.row
  have HWX := Lib.hid hw
  have HWY := Lib.hid hv
  have HNX := Lib.hid hx.1
  have HML : Hid (ml.length = mm) := h3.1
  clear hch hx hy hw hv hei h3 hi0 hz0 hz1 hz2
  have hb0 : Below w.heap.size w ((w.alloc (.cells (cc c (.slice A n cp)).toArray 28)).alloc (.cells (rc r (.slice B m cq) (.slice E me ce)).toArray 48)) := ((Below.refl _ _).alloc (Nat.le_refl _) _).alloc (by simp) _
  have HG0 : Hid (G3 w w.heap.size (w.heap.size + 1) (cc c (.slice A n cp)) (rc r (.slice B m cq) (.slice E me ce)) ((w.alloc (.cells (cc c (.slice A n cp)).toArray 28)).alloc (.cells (rc r (.slice B m cq) (.slice E me ce)).toArray 48))) := by
    refine ⟨(Below.heap_alloc _ _ _ (by simp)).trans (heap_alloc_new w _), ?_, hb0, by omega⟩
    have := heap_alloc_new (w.alloc (.cells (cc c (.slice A n cp)).toArray 28)) (.cells (rc r (.slice B m cq) (.slice E me ce)).toArray 48)
    unfold Bw
    simpa using this
  clear hb0
  go_enter Tryd.func5, Tryd.ntmps5
  go_wp2_with fail
  refine (awake_any _ (HCH.out.below HG0.out.bel)).mono ?_
  rintro e w1 ⟨rfl, hb1⟩
  have HG1 := Lib.hid (HG0.out.below hb1)
  clear hb1 HG0
  generalize hq : w.heap.size + 1 = q at *
  clear hq
  generalize hbb : w.heap.size = p at HG1 ⊢
  have HPP : Hid (w.heap.size = p) := hbb
  clear hbb
  have f11 := HG1.out.two.cell 11 _ rfl
  by_cases g0 : mm = 0
  · have hd : ((mm : Int) == 0) = true := by simp; omega
    go_wp2_with fail
    go_ret
    exact ⟨rfl, HG1.out.bel⟩
  have hd : ((mm : Int) == 0) = false := by simp; omega
  by_cases g1 : mm > 20
  · have he : decide ((20 : Int) < (mm : Int)) = true := by simp; omega
    go_wp2_with fail
    go_ret
    exact ⟨rfl, HG1.out.bel⟩
  have he : decide ((20 : Int) < (mm : Int)) = false := by simp; omega
  by_cases g2 : me > 30
  · have hf : decide ((30 : Int) < (me : Int)) = true := by simp; omega
    go_wp2_with fail
    go_ret
    exact ⟨rfl, HG1.out.bel⟩
  have hf : decide ((30 : Int) < (me : Int)) = false := by simp; omega
  go_upto_region 6 with fail
  clear hd he hf f11
  go_wp2_with (refine wpList_load_part rfl 28 (.tmp 4) rfl _ 0 rfl _ Tryd.underlying28 rfl (cc c (.slice A n cp)) 28 _ HG1.out.one size_C (fun j u hu => by rw [Nat.zero_add]; exact hu) ?_)
  refine (putCall_any A n cp c _ (fun _ => HX.out.below HG1.out.bel) HNX.out).mono ?_
  rintro e w3z ⟨A3z, n3z, cp3z, rfl, ho3⟩
  have HG3z := Lib.hid (HG1.out.below ho3.2)
  have HO3z := Lib.hid ho3
  have HSZz : Hid (w.heap.size ≤ w1.heap.size) := HG1.out.bel.size
  have HPLz : Hid (p < w1.heap.size ∧ q < w1.heap.size) := ⟨HG1.out.one.lt, HG1.out.two.lt⟩
  have HS3z : Hid (w1.heap.size ≤ w3z.heap.size) := ho3.2.size
  clear ho3 HG1
  by_cases hok : c.okB = true
  rotate_left
  · have hz : c.errP = 1 := if_neg hok
    rw [hz]
    clear hz hok HO3z HSZz HPLz HS3z
    go_upto_region 12 with fail
    go_wp2_with (refine wpList_load_part rfl 48 (.tmp 5) rfl _ 0 rfl _ Tryd.underlying48 rfl (rc r (.slice B m cq) (.slice E me ce)) 48 _ HG3z.out.two size_R (fun j u hu => by rw [Nat.zero_add]; exact hu) ?_)
    refine (putReply_any B m cq E me ce r _ (HY.out.below HG3z.out.bel) (HE.out.below HG3z.out.bel) HWY.out.es).mono ?_
    rintro e w3zn ⟨A3zn, n3zn, cp3zn, rfl, ho3⟩
    have HG3zn := Lib.hid (HG3z.out.below ho3.2)
    have HO3zn := Lib.hid ho3
    have HSZzn : Hid (w.heap.size ≤ w3z.heap.size) := HG3z.out.bel.size
    have HPLzn : Hid (p < w3z.heap.size ∧ q < w3z.heap.size) := ⟨HG3z.out.one.lt, HG3z.out.two.lt⟩
    have HS3zn : Hid (w3z.heap.size ≤ w3zn.heap.size) := ho3.2.size
    clear ho3 HG3z
    by_cases hok : r.okB = true
    rotate_left
    · have hz : r.errP ≠ 0 := fun h => hok (by
        unfold Rp.errP at h
        split at h
        · rename_i ha
          unfold chkE at h
          split at h
          · rename_i hb
            exact r.okB_iff.2 ⟨ha, hb⟩
          · cases h
        · cases h)
      have hzb : (r.errP == 0) = false := by simpa using hz
      clear hz hok HO3zn HSZzn HPLzn HS3zn
      generalize r.errP = z at *
      go_wp2_with fail
      go_ret
      exact ⟨rfl, HG3zn.out.bel⟩
    have hz : r.errP = 0 := r.errP_ok hok
    rw [hz]
    have hlen := Rp.enc_len r hok
    have HCUTzn : Hid (∀ j, j < r.enc.length → Rp.err (r.enc.take j) = 10) := fun j hj => Rp.err_cut r j HWY.out hok hj
    have HMOREzn : Hid (0 < ml.length → Rp.err (r.enc ++ ml) = 12) := fun h => Rp.err_more r ml HWY.out hok h
    have HO4 := HO3zn.out
    rw [show r.put = r.enc from if_pos hok] at HO4
    have HOzn := Lib.hid HO4
    have HCPzn := Lib.hid HO4.cap
    have hnl : r.enc.length = n3zn := HO4.bs.1
    clear hz hok HO3zn HO4
    generalize r.enc = Lzn at *
    have hp0 : (0 : Int) < (n3zn : Int) := by omega
    obtain ⟨kzn, hk, hkn⟩ : ∃ k : Nat, (at_ : Int) % (n3zn : Int) = (k : Int) ∧ k < n3zn := ⟨at_ % n3zn, by omega, Nat.mod_lt _ (by omega)⟩
    have hk0 : (kzn : Int) ≤ (cp3zn : Int) := by have := HCPzn.out; omega
    go_wp2_with fail
    refine (getReply_any A3zn kzn cp3zn (Lzn.take kzn) w3zn (HOzn.out.bs.take (by omega)) (by omega)).mono ?_
    rintro e w4zn ⟨X1, x2, x3, X4, x5, x6, rfl, _, _, hbg⟩
    rw [HCUTzn.out kzn (by omega)]
    have HG4zn := Lib.hid (HG3zn.out.below hbg)
    have HO4zn : Hid (w4zn.ownsRow w3z.heap.size 5 1 (.slice A3zn n3zn cp3zn) n3zn (bc Lzn)) := HOzn.out.1.kept (below_grown hbg) (Classical.em _)
    have HS4zn : Hid (w3z.heap.size ≤ w4zn.heap.size) := Nat.le_trans HS3zn.out hbg.size
    clear hbg HG3zn HOzn HS3zn HCUTzn hk hkn hk0
    generalize Rp.got (List.take kzn Lzn) = gxzn at *
    go_upto_region 15 with (first
      | (refine wpList_alloc_any rfl 48 rfl _ zero_R ?_; intro w5zn hb5 hs5 hw5)
      | (refine wpList_store_part rfl 48 (.tmp 17) (.tmp 95) rfl w4zn.heap.size 0 _ rfl rfl 48 _ hb5 size_R (by simp [rc]) (rc_one _ _ _ _ _ _ _) ?_
         intro w6zn hb6 hs6 hk6))
    have hbw : Below w4zn.heap.size w4zn w6zn := hw5.trans (hk6.below2 (fun k hk => by omega))
    have HG6zn := Lib.hid (HG4zn.out.below hbw)
    have HO6zn : Hid (w6zn.ownsRow w3z.heap.size 5 1 (.slice A3zn n3zn cp3zn) n3zn (bc Lzn)) := HO4zn.out.kept (below_grown hbw) (Classical.em _)
    have HS6zn : Hid (w3z.heap.size ≤ w6zn.heap.size) := Nat.le_trans HS4zn.out hbw.size
    clear hb5 hs5 hw5 hb6 hs6 hk6 hbw HG4zn HO4zn HS4zn
    go_wp2_with (at_builtin
                 refine wpList_append_bytes _ rfl _ _ 26 rfl w3z.heap.size 5 i0 Tryd.underlying26 HI0.out HZ0.out HZ1.out HZ2.out A3zn n3zn cp3zn Lzn rfl HO6zn.out M mm cm ml rfl (HM.out.below HG6zn.out.bel) (by omega) HS6zn.out ?_
                 intro A7zn c7zn w7zn ho7 hg7 _
                 have HB7zn := Lib.hid (BS.of_own ho7)
                 have HG7zn := Lib.hid (own_keep2 HO6zn.out hg7 HG6zn.out HPLzn.out HSZzn.out)
                 clear ho7 hg7)
    refine (getReply_any A7zn (n3zn + mm) c7zn (Lzn ++ ml) w7zn HB7zn.out (by omega)).mono ?_
    rintro e w8zn ⟨Y1, y2, y3, Y4, y5, y6, rfl, _, _, hbg⟩
    rw [HMOREzn.out (by have := HML.out; omega)]
    have HG8zn := Lib.hid (HG7zn.out.below hbg)
    clear hbg HG7zn HB7zn HMOREzn HO6zn HS6zn HG6zn HSZzn HPLzn
    generalize Rp.got (Lzn ++ ml) = gyzn at *
    go_upto_region 16 with (first
      | (refine wpList_alloc_any rfl 48 rfl _ zero_R ?_; intro w9zn hb5 hs5 hw5)
      | (refine wpList_store_part rfl 48 (.tmp 19) (.tmp 102) rfl w8zn.heap.size 0 _ rfl rfl 48 _ hb5 size_R (by simp [rc]) (rc_one _ _ _ _ _ _ _) ?_
         intro w10zn hb6 hs6 hk6))
    have hbw : Below w8zn.heap.size w8zn w10zn := hw5.trans (hk6.below2 (fun k hk => by omega))
    have HG10zn := Lib.hid (HG8zn.out.below hbw)
    clear hb5 hs5 hw5 hb6 hs6 hk6 hbw HG8zn HCPzn
    go_wp2_with fail
    go_ret
    exact ⟨rfl, HG10zn.out.bel⟩
  have hz : c.errP = 0 := if_pos hok
  rw [hz]
  have hlen := Cl.enc_len c hok
  have HCUTz : Hid (∀ j, j < c.enc.length → Cl.err (c.enc.take j) = 10) := fun j hj => Cl.err_cut c j HWX.out hok hj
  have HMOREz : Hid (0 < ml.length → Cl.err (c.enc ++ ml) = 12) := fun h => Cl.err_more c ml HWX.out hok h
  have HO4 := HO3z.out
  rw [show c.put = c.enc from if_pos hok] at HO4
  have HOz := Lib.hid HO4
  have HCPz := Lib.hid HO4.cap
  have hnl : c.enc.length = n3z := HO4.bs.1
  clear hz hok HO3z HO4
  generalize c.enc = Lz at *
  have hp0 : (0 : Int) < (n3z : Int) := by omega
  obtain ⟨kz, hk, hkn⟩ : ∃ k : Nat, (at_ : Int) % (n3z : Int) = (k : Int) ∧ k < n3z := ⟨at_ % n3z, by omega, Nat.mod_lt _ (by omega)⟩
  have hk0 : (kz : Int) ≤ (cp3z : Int) := by have := HCPz.out; omega
  go_wp2_with fail
  refine (getCall_any A3z kz cp3z (Lz.take kz) w3z (HOz.out.bs.take (by omega)) (by omega)).mono ?_
  rintro e w4z ⟨X1, x2, x3, rfl, _, hbg⟩
  rw [HCUTz.out kz (by omega)]
  have HG4z := Lib.hid (HG3z.out.below hbg)
  have HO4z : Hid (w4z.ownsRow w1.heap.size 5 1 (.slice A3z n3z cp3z) n3z (bc Lz)) := HOz.out.1.kept (below_grown hbg) (Classical.em _)
  have HS4z : Hid (w1.heap.size ≤ w4z.heap.size) := Nat.le_trans HS3z.out hbg.size
  clear hbg HG3z HOz HS3z HCUTz hk hkn hk0
  generalize Cl.got (List.take kz Lz) = gxz at *
  go_upto_region 9 with (first
    | (refine wpList_alloc_any rfl 28 rfl _ zero_C ?_; intro w5z hb5 hs5 hw5)
    | (refine wpList_store_part rfl 28 (.tmp 12) (.tmp 59) rfl w4z.heap.size 0 _ rfl rfl 28 _ hb5 size_C (by simp [cc]) (cc_one _ _ _ _) ?_
       intro w6z hb6 hs6 hk6))
  have hbw : Below w4z.heap.size w4z w6z := hw5.trans (hk6.below2 (fun k hk => by omega))
  have HG6z := Lib.hid (HG4z.out.below hbw)
  have HO6z : Hid (w6z.ownsRow w1.heap.size 5 1 (.slice A3z n3z cp3z) n3z (bc Lz)) := HO4z.out.kept (below_grown hbw) (Classical.em _)
  have HS6z : Hid (w1.heap.size ≤ w6z.heap.size) := Nat.le_trans HS4z.out hbw.size
  clear hb5 hs5 hw5 hb6 hs6 hk6 hbw HG4z HO4z HS4z
  go_wp2_with (at_builtin
               refine wpList_append_bytes _ rfl _ _ 26 rfl w1.heap.size 5 i0 Tryd.underlying26 HI0.out HZ0.out HZ1.out HZ2.out A3z n3z cp3z Lz rfl HO6z.out M mm cm ml rfl (HM.out.below HG6z.out.bel) (by omega) HS6z.out ?_
               intro A7z c7z w7z ho7 hg7 _
               have HB7z := Lib.hid (BS.of_own ho7)
               have HG7z := Lib.hid (own_keep2 HO6z.out hg7 HG6z.out HPLz.out HSZz.out)
               clear ho7 hg7)
  refine (getCall_any A7z (n3z + mm) c7z (Lz ++ ml) w7z HB7z.out (by omega)).mono ?_
  rintro e w8z ⟨Y1, y2, y3, rfl, _, hbg⟩
  rw [HMOREz.out (by have := HML.out; omega)]
  have HG8z := Lib.hid (HG7z.out.below hbg)
  clear hbg HG7z HB7z HMOREz HO6z HS6z HG6z HSZz HPLz
  generalize Cl.got (Lz ++ ml) = gyz at *
  go_upto_region 10 with (first
    | (refine wpList_alloc_any rfl 28 rfl _ zero_C ?_; intro w9z hb5 hs5 hw5)
    | (refine wpList_store_part rfl 28 (.tmp 14) (.tmp 66) rfl w8z.heap.size 0 _ rfl rfl 28 _ hb5 size_C (by simp [cc]) (cc_one _ _ _ _) ?_
       intro w10z hb6 hs6 hk6))
  have hbw : Below w8z.heap.size w8z w10z := hw5.trans (hk6.below2 (fun k hk => by omega))
  have HG10z := Lib.hid (HG8z.out.below hbw)
  clear hb5 hs5 hw5 hb6 hs6 hk6 hbw HG8z HCPz
  go_upto_region 12 with fail
  go_wp2_with (refine wpList_load_part rfl 48 (.tmp 5) rfl _ 0 rfl _ Tryd.underlying48 rfl (rc r (.slice B m cq) (.slice E me ce)) 48 _ HG10z.out.two size_R (fun j u hu => by rw [Nat.zero_add]; exact hu) ?_)
  refine (putReply_any B m cq E me ce r _ (HY.out.below HG10z.out.bel) (HE.out.below HG10z.out.bel) HWY.out.es).mono ?_
  rintro e w3zx ⟨A3zx, n3zx, cp3zx, rfl, ho3⟩
  have HG3zx := Lib.hid (HG10z.out.below ho3.2)
  have HO3zx := Lib.hid ho3
  have HSZzx : Hid (w.heap.size ≤ w10z.heap.size) := HG10z.out.bel.size
  have HPLzx : Hid (p < w10z.heap.size ∧ q < w10z.heap.size) := ⟨HG10z.out.one.lt, HG10z.out.two.lt⟩
  have HS3zx : Hid (w10z.heap.size ≤ w3zx.heap.size) := ho3.2.size
  clear ho3 HG10z
  by_cases hok : r.okB = true
  rotate_left
  · have hz : r.errP ≠ 0 := fun h => hok (by
      unfold Rp.errP at h
      split at h
      · rename_i ha
        unfold chkE at h
        split at h
        · rename_i hb
          exact r.okB_iff.2 ⟨ha, hb⟩
        · cases h
      · cases h)
    have hzb : (r.errP == 0) = false := by simpa using hz
    clear hz hok HO3zx HSZzx HPLzx HS3zx
    generalize r.errP = z at *
    go_wp2_with fail
    go_ret
    exact ⟨rfl, HG3zx.out.bel⟩
  have hz : r.errP = 0 := r.errP_ok hok
  rw [hz]
  have hlen := Rp.enc_len r hok
  have HCUTzx : Hid (∀ j, j < r.enc.length → Rp.err (r.enc.take j) = 10) := fun j hj => Rp.err_cut r j HWY.out hok hj
  have HMOREzx : Hid (0 < ml.length → Rp.err (r.enc ++ ml) = 12) := fun h => Rp.err_more r ml HWY.out hok h
  have HO4 := HO3zx.out
  rw [show r.put = r.enc from if_pos hok] at HO4
  have HOzx := Lib.hid HO4
  have HCPzx := Lib.hid HO4.cap
  have hnl : r.enc.length = n3zx := HO4.bs.1
  clear hz hok HO3zx HO4
  generalize r.enc = Lzx at *
  have hp0 : (0 : Int) < (n3zx : Int) := by omega
  obtain ⟨kzx, hk, hkn⟩ : ∃ k : Nat, (at_ : Int) % (n3zx : Int) = (k : Int) ∧ k < n3zx := ⟨at_ % n3zx, by omega, Nat.mod_lt _ (by omega)⟩
  have hk0 : (kzx : Int) ≤ (cp3zx : Int) := by have := HCPzx.out; omega
  go_wp2_with fail
  refine (getReply_any A3zx kzx cp3zx (Lzx.take kzx) w3zx (HOzx.out.bs.take (by omega)) (by omega)).mono ?_
  rintro e w4zx ⟨X1, x2, x3, X4, x5, x6, rfl, _, _, hbg⟩
  rw [HCUTzx.out kzx (by omega)]
  have HG4zx := Lib.hid (HG3zx.out.below hbg)
  have HO4zx : Hid (w4zx.ownsRow w10z.heap.size 5 1 (.slice A3zx n3zx cp3zx) n3zx (bc Lzx)) := HOzx.out.1.kept (below_grown hbg) (Classical.em _)
  have HS4zx : Hid (w10z.heap.size ≤ w4zx.heap.size) := Nat.le_trans HS3zx.out hbg.size
  clear hbg HG3zx HOzx HS3zx HCUTzx hk hkn hk0
  generalize Rp.got (List.take kzx Lzx) = gxzx at *
  go_upto_region 15 with (first
    | (refine wpList_alloc_any rfl 48 rfl _ zero_R ?_; intro w5zx hb5 hs5 hw5)
    | (refine wpList_store_part rfl 48 (.tmp 17) (.tmp 95) rfl w4zx.heap.size 0 _ rfl rfl 48 _ hb5 size_R (by simp [rc]) (rc_one _ _ _ _ _ _ _) ?_
       intro w6zx hb6 hs6 hk6))
  have hbw : Below w4zx.heap.size w4zx w6zx := hw5.trans (hk6.below2 (fun k hk => by omega))
  have HG6zx := Lib.hid (HG4zx.out.below hbw)
  have HO6zx : Hid (w6zx.ownsRow w10z.heap.size 5 1 (.slice A3zx n3zx cp3zx) n3zx (bc Lzx)) := HO4zx.out.kept (below_grown hbw) (Classical.em _)
  have HS6zx : Hid (w10z.heap.size ≤ w6zx.heap.size) := Nat.le_trans HS4zx.out hbw.size
  clear hb5 hs5 hw5 hb6 hs6 hk6 hbw HG4zx HO4zx HS4zx
  go_wp2_with (at_builtin
               refine wpList_append_bytes _ rfl _ _ 26 rfl w10z.heap.size 5 i0 Tryd.underlying26 HI0.out HZ0.out HZ1.out HZ2.out A3zx n3zx cp3zx Lzx rfl HO6zx.out M mm cm ml rfl (HM.out.below HG6zx.out.bel) (by omega) HS6zx.out ?_
               intro A7zx c7zx w7zx ho7 hg7 _
               have HB7zx := Lib.hid (BS.of_own ho7)
               have HG7zx := Lib.hid (own_keep2 HO6zx.out hg7 HG6zx.out HPLzx.out HSZzx.out)
               clear ho7 hg7)
  refine (getReply_any A7zx (n3zx + mm) c7zx (Lzx ++ ml) w7zx HB7zx.out (by omega)).mono ?_
  rintro e w8zx ⟨Y1, y2, y3, Y4, y5, y6, rfl, _, _, hbg⟩
  rw [HMOREzx.out (by have := HML.out; omega)]
  have HG8zx := Lib.hid (HG7zx.out.below hbg)
  clear hbg HG7zx HB7zx HMOREzx HO6zx HS6zx HG6zx HSZzx HPLzx
  generalize Rp.got (Lzx ++ ml) = gyzx at *
  go_upto_region 16 with (first
    | (refine wpList_alloc_any rfl 48 rfl _ zero_R ?_; intro w9zx hb5 hs5 hw5)
    | (refine wpList_store_part rfl 48 (.tmp 19) (.tmp 102) rfl w8zx.heap.size 0 _ rfl rfl 48 _ hb5 size_R (by simp [rc]) (rc_one _ _ _ _ _ _ _) ?_
       intro w10zx hb6 hs6 hk6))
  have hbw : Below w8zx.heap.size w8zx w10zx := hw5.trans (hk6.below2 (fun k hk => by omega))
  have HG10zx := Lib.hid (HG8zx.out.below hbw)
  clear hb5 hs5 hw5 hb6 hs6 hk6 hbw HG8zx HCPzx
  go_wp2_with fail
  go_ret
  exact ⟨rfl, HG10zx.out.bel⟩
end Go.Proofs.YtobhmjokoicpoaaDoor
