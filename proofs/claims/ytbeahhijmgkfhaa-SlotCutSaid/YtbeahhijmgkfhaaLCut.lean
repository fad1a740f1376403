/-
  The walk of the statement on bytes that are cut, or have more behind them (layer 11).
-/
import Derived.Test.YtbeahhijmgkfhaaLIn
import Derived.Test.YtbeahhijmgkfhaaLPk
namespace Go.Proofs.Ytbeahhijmgkfhaa
open Go.RowKit Go.Shelf

theorem wf_u16 {n : Int} (h : (Lit.int .u16 n).wf = true) : 0 ≤ n ∧ n < 65536 := by
  simp [Lit.wf, IntKind.min, IntKind.max, IntKind.bits, IntKind.signed] at h
  omega
/-- A row of the call's own grows: all that was there ahead of it is as it was. -/
theorem own_grow {W0 W W' : World} {base B : Nat} {t : TypeId} {k n : Nat} {v : Value} {xs : List Value} (h : W.ownsRow base t k v n xs) (hg : W.grownBy W' v.ownBlock) (hb : Below B W0 W) (hB : B ≤ base) (hs : B ≤ W.heap.size) : Below B W0 W' :=
  hb.grown hg hs (fun j hj => Nat.le_trans hB (h.lt j hj).1)

set_option maxRecDepth 100000 in
set_option maxHeartbeats 4000000 in
theorem cut_walk (w : World) (hp : Pk) (v1 : Value) (c : Vl.Th) (A : Option Addr) (n cp : Nat) (at_ : Nat) (hat : at_ < 65536) (M : Option Addr) (mm cm : Nat) (ml : List UInt8) (h1 : SI w v1 c A n cp) (h3 : BS w M mm ml) :
    Calls Try.prog 5 #[v1, .int .u16 (at_ : Int), .slice M mm cm] w fun e w' => e = .returned (.bool true) ∧ Below w.heap.size w w' := by
  obtain ⟨i0, hi0, hz0, hz1, hz2⟩ := info_parts info_u8
  have HI0 := Lib.hid hi0
  have HZ0 := Lib.hid hz0
  have HZ1 := Lib.hid hz1
  have HZ2 := Lib.hid hz2
  obtain ⟨rfl, hx, hw, hfew⟩ := h1
  have HPK := Lib.hid hp
  have HX := Lib.hid hx
  have HM := Lib.hid h3
  have HWX := Lib.hid hw
  have HML : Hid (ml.length = mm) := h3.1
  clear hp hx hw h3 hi0 hz0 hz1 hz2 hfew
  go_enter Try.func5, Try.ntmps5
  go_upto_region 1 with fail
  have HB0 : Hid (Bw (w.alloc (.cells (sc c (.slice A n cp)).toArray 26)) w.heap.size (sc c (.slice A n cp)) 26) := heap_alloc_new w _
  have HW0 : Hid (Below w.heap.size w (w.alloc (.cells (sc c (.slice A n cp)).toArray 26))) := (Below.refl _ w).alloc (Nat.le_refl _) _
  generalize w.alloc (.cells (sc c (.slice A n cp)).toArray 26) = w0 at *
  go_wp2_with fail
  refine (HPK.out.awake _).mono ?_
  rintro e w1 ⟨rfl, hb1⟩
  have HB1 := Lib.hid (HB0.out.below hb1)
  have HW1 := Lib.hid (HW0.out.trans (hb1.mono HW0.out.size))
  clear hb1 HB0 HW0
  have e8 := HB1.out.cell 8 _ rfl
  by_cases g2 : n > 900
  · have hf : decide ((900 : Int) < (n : Int)) = true := by simp; omega
    go_wp2_with fail
    go_ret
    exact ⟨rfl, HW1.out⟩
  have hf : decide ((900 : Int) < (n : Int)) = false := by simp; omega
  by_cases g0 : mm = 0
  · have hd : ((mm : Int) == 0) = true := by simp; omega
    go_wp2_with fail
    go_ret
    exact ⟨rfl, HW1.out⟩
  have hd : ((mm : Int) == 0) = false := by simp; omega
  by_cases g1 : mm > 20
  · have he : decide ((20 : Int) < (mm : Int)) = true := by simp; omega
    go_wp2_with fail
    go_ret
    exact ⟨rfl, HW1.out⟩
  have he : decide ((20 : Int) < (mm : Int)) = false := by simp; omega
  go_upto_region 6 with fail
  clear hd he hf e8
  go_wp2_with (refine wpList_load_part rfl 26 (.tmp 3) rfl _ 0 rfl _ Try.underlying26 rfl (sc c (.slice A n cp)) 26 _ HB1.out size_Sl (fun j u hu => by rw [Nat.zero_add]; exact hu) ?_)
  refine (HPK.out.put c A n cp _ HWX.out (HX.out.below HW1.out) (by omega)).mono ?_
  rintro e w3 ⟨A3, n3, cp3, rfl, ho3⟩
  have HW3 := Lib.hid (HW1.out.trans (ho3.2.mono HW1.out.size))
  have HO3 := Lib.hid ho3
  have HSZ : Hid (w.heap.size ≤ w1.heap.size) := HW1.out.size
  have HS3 : Hid (w1.heap.size ≤ w3.heap.size) := ho3.2.size
  clear ho3 HW1 HB1
  by_cases hok : Sl.okS c = true
  rotate_left
  · have hz : Sl.chkS c = 1 := if_neg hok
    rw [hz]
    clear hz hok HO3 HSZ HS3
    go_wp2_with fail
    go_ret
    exact ⟨rfl, HW3.out⟩
  have hz : Sl.chkS c = 0 := if_pos hok
  rw [hz]
  have hlen := Sl.enc_len c hok
  have HCUT : Hid (∀ j, j < (Sl.enc c).length → Sl.err ((Sl.enc c).take j) = 10) := fun j hj => Sl.err_cut c j HWX.out.wide hok hj
  have HMORE : Hid (0 < ml.length → Sl.err (Sl.enc c ++ ml) = 12) := fun h => Sl.err_more c ml HWX.out.wide hok h
  have HO4 := HO3.out
  rw [show Sl.put c = Sl.enc c from if_pos hok] at HO4
  have HO := Lib.hid HO4
  have HCP := Lib.hid HO4.cap
  have hnl : (Sl.enc c).length = n3 := HO4.bs.1
  clear hz hok HO3 HO4
  generalize Sl.enc c = L at *
  have hp0 : (0 : Int) < (n3 : Int) := by omega
  have hp1 : ((n3 : Int) == 0) = false := by simp; omega
  obtain ⟨k, hk, hkn⟩ : ∃ k : Nat, (at_ : Int) % (n3 : Int) = (k : Int) ∧ k < n3 := ⟨at_ % n3, by omega, Nat.mod_lt _ (by omega)⟩
  have hk0 : (k : Int) ≤ (cp3 : Int) := by have := HCP.out; omega
  go_wp2_with fail
  refine (HPK.out.get (L.take k) A3 k cp3 w3 (HO.out.bs.take (by omega)) (by omega)).mono ?_
  rintro e w4 ⟨X1, x2, x3, rfl, _, hbg⟩
  rw [HCUT.out k (by omega)]
  have HW4 := Lib.hid (HW3.out.trans (hbg.mono HW3.out.size))
  have HO4 : Hid (w4.ownsRow w1.heap.size 5 1 (.slice A3 n3 cp3) n3 (bc L)) := HO.out.1.kept (below_grown hbg) (Classical.em _)
  have HS4 : Hid (w1.heap.size ≤ w4.heap.size) := Nat.le_trans HS3.out hbg.size
  clear hbg HW3 HO HS3 HCUT hk hkn hk0
  generalize Sl.got (List.take k L) = gx at *
  go_upto_region 10 with (first
    | (refine wpList_alloc_any rfl 26 rfl _ zero_Sl ?_; intro w5 hb5 hs5 hw5)
    | (refine wpList_store_part rfl 26 (.tmp 10) (.tmp 54) rfl w4.heap.size 0 _ rfl rfl 26 _ hb5 size_Sl (by simp [sc]) (sc_row _ _ _ _) ?_
       intro w6 hb6 hs6 hk6))
  have hbw : Below w4.heap.size w4 w6 := hw5.trans (hk6.below2 (fun k hk => by omega))
  have HW6 := Lib.hid (HW4.out.trans (hbw.mono HW4.out.size))
  have HO6 : Hid (w6.ownsRow w1.heap.size 5 1 (.slice A3 n3 cp3) n3 (bc L)) := HO4.out.kept (below_grown hbw) (Classical.em _)
  have HS6 : Hid (w1.heap.size ≤ w6.heap.size) := Nat.le_trans HS4.out hbw.size
  clear hb5 hs5 hw5 hb6 hs6 hk6 hbw HW4 HO4 HS4
  go_wp2_with (at_builtin
               refine wpList_append_bytes _ rfl _ _ 24 rfl w1.heap.size 5 i0 Try.underlying24 HI0.out HZ0.out HZ1.out HZ2.out A3 n3 cp3 L rfl HO6.out M mm cm ml rfl (HM.out.below HW6.out) (by omega) HS6.out ?_
               intro A7 c7 w7 ho7 hg7 _
               have HB7 := Lib.hid (BS.of_own ho7)
               have HW7 : Hid (Below w.heap.size w w7) := own_grow HO6.out hg7 HW6.out HSZ.out HW6.out.size
               clear ho7 hg7)
  refine (HPK.out.get (L ++ ml) A7 (n3 + mm) c7 w7 HB7.out (by omega)).mono ?_
  rintro e w8 ⟨Y1, y2, y3, rfl, _, hbg⟩
  rw [HMORE.out (by have := HML.out; omega)]
  have HW8 := Lib.hid (HW7.out.trans (hbg.mono HW7.out.size))
  clear hbg HW7 HB7 HMORE HO6 HS6 HW6 HSZ
  generalize Sl.got (L ++ ml) = gy at *
  go_upto_region 11 with (first
    | (refine wpList_alloc_any rfl 26 rfl _ zero_Sl ?_; intro w9 hb5 hs5 hw5)
    | (refine wpList_store_part rfl 26 (.tmp 12) (.tmp 61) rfl w8.heap.size 0 _ rfl rfl 26 _ hb5 size_Sl (by simp [sc]) (sc_row _ _ _ _) ?_
       intro w10 hb6 hs6 hk6))
  have hbw : Below w8.heap.size w8 w10 := hw5.trans (hk6.below2 (fun k hk => by omega))
  have HW10 := Lib.hid (HW8.out.trans (hbw.mono HW8.out.size))
  clear hb5 hs5 hw5 hb6 hs6 hk6 hbw HW8 HCP
  go_wp2_with fail
  go_ret
  exact ⟨rfl, HW10.out⟩
end Go.Proofs.Ytbeahhijmgkfhaa
