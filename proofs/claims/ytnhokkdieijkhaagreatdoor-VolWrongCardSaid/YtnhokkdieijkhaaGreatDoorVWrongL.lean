/-
  The law VolWrong (layer 12).
-/
import Derived.Test.YtnhokkdieijkhaaGreatDoorVLaw
import Derived.Test.YtnhokkdieijkhaaGreatDoorVBad
import Derived.Test.YtnhokkdieijkhaaGreatDoorVGetO
import Derived.Test.YtnhokkdieijkhaaGreatDoorVMark
import Derived.Test.YtnhokkdieijkhaaGreatDoorVBit
namespace Go.Proofs.YtnhokkdieijkhaaGreatDoor
open Go.RowKit Go.Shelf
attribute [local go_sem] Oper.semAt_some

theorem BS.of_bw {w : World} {g : Nat} {l : List UInt8} {t : TypeId} (h : Bw w g (bc l) t) : BS w (some ⟨g, 0, none⟩) l.length l := by
  refine ⟨rfl, fun _ => ⟨g, 0, rfl, fun j hj => ?_⟩⟩
  rw [Nat.zero_add, cell_of_row _ _ _ _ _ _ h]
  simp [bc, hj]
theorem run_make700 {a k : Nat} (h : a % 700 + 1 = k) {Z : List UInt8} (hZ : Z = List.replicate k 0) (W : World) : (Instr.makeSlice 30 (.int .i64 ((a : Int) % 700 + 1)) (.int .i64 ((a : Int) % 700 + 1))).run Tryz.prog W = .ok (.slice (some ⟨W.heap.size, 0, none⟩) k k) (W.alloc (.cells (bc Z).toArray 5)) := by
  rw [show (a : Int) % 700 + 1 = (k : Int) by omega, hZ]
  exact run_make_bytes W k (by omega)
theorem and_three : ∀ c : Nat, c < 256 → bits BinOp.and IntKind.u8 (c : Int) 3 = ((c % 4 : Nat) : Int) := by decide +kernel
theorem own_room {W : World} {base k n c : Nat} {e : TypeId} {A : Option Addr} {xs : List Value} (h : W.ownsRow base e k (.slice A n c) n xs) : n ≤ c := by
  rcases h.2 with ⟨h1, h2⟩ | ⟨g, cap, cur, h1, _, _, h4, _⟩
  · omega
  · injection h1 with _ _ h1
    omega
/-- The same as Vm.saveOne, its blocks told. -/
theorem VX.saveOne {w : World} {p m B c : Nat} {x : Sl} {X : TX} {Sv : Nat → Vl.Th} {bl : Nat → List Nat} (h : VX w p m x B X Sv bl c) (s : Vl.Th) (A : Option Addr) (k d : Nat) (hok : Sl.okS s = true) (hf : Fits s) (hb : BS w A k s.dt) (hc : k ≤ d) (hroom : Vl.tot (Vl.upd Sv s.ino s) ≤ x.n - 35) (W : World) (hW : W = w.alloc (.cells (sc s (.slice A k d)).toArray 32)) :
    Calls Tryz.prog 13 #[.pointer (some ⟨p, 0, none⟩), .slice (some ⟨w.heap.size, 0, none⟩) 1 1] W fun e w' =>
      e = .returned (.int .i64 0) ∧ Ch (· = p) W w' ∧ ∃ m' X' st, VX w' p m' x B X' (Vl.upd Sv s.ino s) st.bl c ∧ Vl.save x.n [s] X.get Sv bl = some st := by
  subst hW
  have h1 := h.below ((Below.refl _ _).alloc (Nat.le_refl _) (.cells (sc s (.slice A k d)).toArray 32))
  refine (h1.save _ 1 1 [s] (SS.one w s A k d hb hc) (fun y hy => ?_) (by omega)).mono ?_
  · obtain rfl := List.mem_singleton.1 hy
    have := (Vl.okB_facts hok).2.2
    exact ⟨hf, by omega⟩
  · rintro e w' ⟨rfl, hch, hv⟩
    have he := Vl.svE_one (n := x.n) (S := Sv) hok
    rw [if_pos hroom] at he
    rcases hv with hv | ⟨_, m', X', st, h2, h3, _⟩
    · exact absurd he hv.1
    · exact ⟨by rw [he], hch, m', X', st, h2, h3⟩
theorem turn_all : ∀ b : Nat, b < 256 → ∀ r : Nat, r < 8 → bits BinOp.xor IntKind.u8 (b : Int) (128 / 2 ^ r) = ((b ^^^ (128 >>> r) : Nat) : Int) ∧ b ^^^ (128 >>> r) < 256 := by decide +kernel
theorem turn_bits (b : UInt8) (r : Nat) (h : r < 8) : bits BinOp.xor IntKind.u8 (b.toNat : Int) (128 / 2 ^ r) = ((b.toNat ^^^ (128 >>> r) : Nat) : Int) := (turn_all b.toNat b.toNat_lt r h).1
theorem turn_nat (b : UInt8) (r : Nat) (h : r < 8) : (UInt8.ofNat (b.toNat ^^^ (128 >>> r))).toNat = b.toNat ^^^ (128 >>> r) := by
  rw [UInt8.toNat_ofNat', Nat.mod_eq_of_lt (turn_all b.toNat b.toNat_lt r h).2]
set_option maxRecDepth 100000 in
set_option maxHeartbeats 800000 in
theorem wrong_walk (a b c : Nat) (w : World) (ha : a < 65536) (hb : b < 256) (hc : c < 256) :
    Calls Tryz.prog 7 #[.int .u16 (a : Int), .int .u8 (b : Int), .int .u8 (c : Int)] w fun e w' => e = .returned (.bool true) ∧ Below w.heap.size w w' := by
  have hmk : ∀ W : World, (Instr.makeSlice 26 (.int .i64 55) (.int .i64 55)).run Tryz.prog W = .ok (.slice (some ⟨W.heap.size, 0, none⟩) 55 55) (W.alloc (.cells (Array.replicate 55 (.slice none 0 0)) 30)) := fun W => run_make_rows W 55 (by omega)
  obtain ⟨na, hna⟩ : ∃ na, a % 700 + 1 = na := ⟨_, rfl⟩
  obtain ⟨Z, hz⟩ : ∃ Z, Z = List.replicate na (0 : UInt8) := ⟨_, rfl⟩
  have hma := run_make700 hna hz
  have HZ := Lib.hid hz
  have hla : 1 ≤ na ∧ na ≤ 700 := by omega
  have hzl : Z.length = na := by rw [hz]; simp
  clear hz
  go_enter Tryz.func7, Tryz.ntmps7
  go_wp2_with fail
  refine (awake_any w).mono ?_
  rintro e w1 ⟨rfl, hw1⟩
  have HW1 := Lib.hid hw1
  clear hw1
  go_wp2_with fail
  refine (new_fresh (B := w.heap.size) 55 _ 55 _ (RI.made w1 55) (by omega) (by omega) (by have := HW1.out.size; simp; omega)).mono ?_
  rintro e w2 ⟨p, m, g, rfl, hv, hw2, -⟩
  have HV2 := Lib.hid hv
  have HW2 : Hid (Below w.heap.size w w2) := HW1.out.trans ((((Below.refl _ _).alloc (Nat.le_refl _) _).trans (hw2.mono (by simp))).mono HW1.out.size)
  clear hv hw2 HW1 hmk
  have hzb := BS.made' HZ.out w2
  have hbl : Below w2.heap.size w2 (w2.alloc (.cells (bc Z).toArray 5)) := (Below.refl _ _).alloc (Nat.le_refl _) _
  obtain ⟨S1, hS1⟩ : ∃ S, S = Vl.upd Vl.bare (Vl.one 1 0 Z).ino (Vl.one 1 0 Z) := ⟨_, rfl⟩
  have HT1 : Hid (Vl.tot S1 = need na) := by
    have h1 := Vl.tot_upd Vl.bare (Vl.one 1 0 Z) (by show 1 < 24; omega)
    rw [Vl.tot_none, show need (Vl.one 1 0 Z).dt.length = need na from (by show need Z.length = _; rw [hzl]), Vl.need_bare, ← hS1] at h1
    show _ = _
    omega
  have hn8 : 1 ≤ need na ∧ need na ≤ 8 := by unfold need; omega
  have HV3 := Lib.hid (HV2.out.below hbl)
  have HW3 := Lib.hid (HW2.out.trans (hbl.mono HW2.out.size))
  have HB3 : Hid (BS (w2.alloc (.cells (bc Z).toArray 5)) (some ⟨w2.heap.size, 0, none⟩) na (Vl.one 1 0 Z).dt) := hzb
  have HSV := Lib.hid (HV3.out.saveOne (Vl.one 1 0 Z) (some ⟨w2.heap.size, 0, none⟩) na na (Vl.one_ok (by omega) (by omega)) (Vl.one_fits (by omega) (by omega)) HB3.out (Nat.le_refl _) (by rw [← hS1, HT1.out]; show need na ≤ 55 - 35; omega) _ rfl)
  rw [← hS1, World.size_alloc] at HSV
  have HS1 := Lib.hid hS1
  clear hbl hzb HV2 HW2 hS1
  go_wp2_with fail
  refine HSV.out.mono ?_
  rintro e w4 ⟨rfl, hc4, m4, X4, st, hv4, hs4⟩
  rw [TX.fresh_get] at hs4
  have HBL : Hid (st.bl 1 = List.range (need na) ∧ ∀ i, i ≠ 1 → st.bl i = []) := by
    obtain ⟨h1, h2⟩ := Vl.save_first hs4
    refine ⟨?_, fun i hi => h2 i hi⟩
    have h3 : st.bl 1 = (Bt.fr [] (55 - 35)).take (need (Vl.one 1 0 Z).dt.length) := h1
    rw [h3, Vl.fr_none, show need (Vl.one 1 0 Z).dt.length = need na from (by show need Z.length = _; rw [hzl]), List.take_range, show min (need na) (55 - 35) = need na by omega]
  have hbl4 := (Below.refl (w2.alloc (.cells (bc Z).toArray 5)).heap.size (w2.alloc (.cells (bc Z).toArray 5))).alloc (Nat.le_refl _) (.cells (sc (Vl.one 1 0 Z) (.slice (some ⟨w2.heap.size, 0, none⟩) na na)).toArray 32)
  have HV4 := Lib.hid hv4
  have HW4 : Hid (Below w.heap.size w w4) := (HW3.out.trans (hbl4.mono HW3.out.size)).trans (hc4.bel (HV3.out.vm.below hbl4))
  clear hv4 hc4 hbl4 HV3 HW3 HB3 HSV hma hs4
  go_wp2_with fail
  refine (HV4.out.wrong (by show 55 ≤ 135; omega)).mono ?_
  rintro e w5 ⟨rfl, hw5⟩
  have HV5 := Lib.hid (HV4.out.below hw5)
  have HW5 := Lib.hid (HW4.out.trans (hw5.mono HW4.out.size))
  clear hw5 HV4 HW4
  go_upto_region 12 with fail
  rw [and_three c hc, show ((a : Int) % 700 + 1 + 95) / 96 = ((need na : Nat) : Int) by unfold need; omega]
  obtain ⟨kd, hkd⟩ : ∃ kd, c % 4 = kd := ⟨_, rfl⟩
  obtain ⟨k, hk⟩ : ∃ k, b % 20 = k := ⟨_, rfl⟩
  rw [hkd, show (b : Int) % 20 = (k : Int) by omega]
  have hk20 : k < 20 := by omega
  have h4 : kd = 0 ∨ kd = 1 ∨ kd = 2 ∨ kd = 3 := by omega
  clear hkd hk
  rcases h4 with rfl | rfl | rfl | rfl
  · -- a bit
    go_wp2_with fail
    refine (get_ok HV5.out.tq 9 (by show 9 < 55; omega)).mono ?_
    rintro e w7 ⟨A7, n7, c7, rfl, hb7, -, -, -, hw7, -⟩
    have HB7 := Lib.hid hb7
    have HW7 := Lib.hid (HW5.out.trans (hw7.mono HW5.out.size))
    have HV7 := Lib.hid (HV5.out.below hw7)
    have hsm9 := HV5.out.sm 9
    obtain ⟨L, hL⟩ : ∃ L, X4.get 9 = L := ⟨_, rfl⟩
    rw [hL] at hb7 hsm9
    have hl7 : L.length = n7 := hb7.1
    have hcv := run_convert_bs w7 A7 n7 c7 L hb7
    have hts : (txt L).size = n7 := by rw [← hl7]; simp [txt, ByteArray.size]
    have hcv2 : (convert 9 30 (.string (txt L))).run Tryz.prog w7 = .ok (.slice (some ⟨w7.heap.size, 0, none⟩) n7 (grownCap w7 n7 0 5)) (Lib.bytesWorld w7 5 (txt L)) := by
      have := Lib.run_convert_string_bytes (P := Tryz.prog) w7 9 30 5 (txt L) Tryz.underlying9 Tryz.underlying30 Tryz.underlying5
      rw [hts] at this
      exact this
    have hom := OM.conv w7 (txt L) (by rw [hts]; unfold maxLen; omega)
    have hbw := bytesWorld_bel w7 (txt L)
    rw [hts, show (txt L).data.toList = L by simp [txt]] at hom
    generalize grownCap w7 n7 0 5 = gc at *
    generalize Lib.bytesWorld w7 5 (txt L) = wb at *
    have HL := Lib.hid hL
    have HI0 : Hid (∃ (q g c : Nat) (L' : List UInt8), (Value.slice (some ⟨w7.heap.size, 0, none⟩) n7 gc) = .slice (some ⟨g, 0, none⟩) q c ∧ OM wb w7.heap.size g q c L' ∧ (∃ j, L' = L ++ List.replicate j 0) ∧ Below w7.heap.size w7 wb ∧ q ≤ 96) :=
      ⟨n7, w7.heap.size, gc, L, rfl, hom, ⟨0, by simp⟩, hbw, by omega⟩
    clear hom hbw hL hb7 hw7 hts HB7
    go_wp2_with fail
    go_loopw [12] (fun v wr => Hid (∃ (q g c : Nat) (L' : List UInt8), v = .slice (some ⟨g, 0, none⟩) q c ∧ OM wr w7.heap.size g q c L' ∧ (∃ j, L' = L ++ List.replicate j 0) ∧ Below w7.heap.size w7 wr ∧ q ≤ 96)) (fun v _ => match v with | .slice _ n _ => 3 - n | _ => 0)
    case atStart => exact HI0
    case round =>
      clear HI0
      obtain ⟨q, g0, c0, L', rfl, hom, ⟨jz, hjz⟩, hbe, hq⟩ := hrel.out
      have HOM := Lib.hid hom
      have HBE := Lib.hid hbe
      have HJZ := Lib.hid hjz
      clear hom hbe hjz hrel
      by_cases hlt : q < 3
      · have hd : decide (q < 3) = true := by simpa using hlt
        have hd2 : decide ((q : Int) < 3) = true := by simp; omega
        have HOM2 : Hid (OM (wr.alloc (.cells #[.int .u8 0] 5)) w7.heap.size g0 q c0 L') := HOM.out.below ((Below.refl _ _).alloc (Nat.le_refl _) _)
        have hc0 : (wr.alloc (.cells #[.int .u8 0] 5)).cell? ⟨wr.heap.size, 0, none⟩ = some (.int .u8 (((0 : UInt8).toNat : Nat) : Int)) := by
          rw [cell_of_row _ _ _ _ _ _ (heap_alloc_new wr _)]; rfl
        have hsz := HBE.out.size
        go_wp2_with (at_builtin; go_must (refine wpList_append_mark rfl _ _ rfl rfl rfl HOM2.out ⟨wr.heap.size, 0, none⟩ 1 rfl 0 hc0 (by omega) (by simp; omega) ?_; intro g1 c1 wz hom1 hgr1))
        have HNX : Hid (∃ (q' g c : Nat) (L2 : List UInt8), (Value.slice (some ⟨g1, 0, none⟩) (q + 1) c1) = .slice (some ⟨g, 0, none⟩) q' c ∧ OM wz w7.heap.size g q' c L2 ∧ (∃ j, L2 = L ++ List.replicate j 0) ∧ Below w7.heap.size w7 wz ∧ q' ≤ 96) :=
          ⟨q + 1, g1, c1, L' ++ [0], rfl, hom1, ⟨jz + 1, by rw [HJZ.out, List.append_assoc, List.replicate_succ']⟩, (HBE.out.alloc hsz _).grown hgr1 (Nat.le_trans hsz (by simp)) (fun j e => by cases e; exact HOM.out.low), by omega⟩
        go_wp2_with fail
        go_roundw
        case rel => exact HNX
        case measure => simp; omega
      · have hd : decide (q < 3) = false := by simpa using hlt
        have hd2 : decide ((q : Int) < 3) = false := by simp; omega
        obtain ⟨kq, hkq⟩ : ∃ kq, k / 8 = kq := ⟨_, rfl⟩
        obtain ⟨kr, hkr⟩ : ∃ kr, k % 8 = kr := ⟨_, rfl⟩
        have hk1 : (k : Int) / 8 = (kq : Int) := by omega
        have hk2 : (k : Int) % 8 = (kr : Int) := by omega
        have hkq3 : kq < 3 := by omega
        have hkr8 : kr < 8 := by omega
        have hql : kq < L'.length := by rw [HOM.out.len]; omega
        have hcl := HOM.out.cell kq hql
        have hfr := HOM.out.froz kq (by omega)
        obtain ⟨bv, hbv⟩ : ∃ bv, L'[kq] = bv := ⟨_, rfl⟩
        rw [hbv] at hcl
        obtain ⟨v, hv⟩ : ∃ v, v = UInt8.ofNat (bv.toNat ^^^ (128 >>> kr)) := ⟨_, rfl⟩
        have hvn : v.toNat = bv.toNat ^^^ (128 >>> kr) := by rw [hv]; exact turn_nat bv kr hkr8
        have HTURN : Hid (Bt.has (L'.set kq v) k = !Bt.has (X4.get 9) k) := by
          show _ = _
          subst hkq
          rw [Bt.has_turn L' k v hql (by rw [hkr, hvn, List.getD_eq_getElem?_getD, List.getElem?_eq_getElem hql, Option.getD_some, hbv]), HJZ.out, Bt.has_zeros, HL.out]
        have hbw : Below w7.heap.size w7 (wr.setCell ⟨g0, kq, none⟩ (.int .u8 (v.toNat : Int))) := HBE.out.setCell (p := ⟨g0, kq, none⟩) HOM.out.low _
        have HBW := Lib.hid hbw
        have HO2 := Lib.hid (HOM.out.set kq v)
        have htn := turn_bits bv kr hkr8
        rw [← hvn] at htn
        have HTN := Lib.hid htn
        clear hbw hv hvn htn hbv
        go_upto_region 17 with fail
        rw [HTN.out]
        generalize wr.setCell ⟨g0, kq, none⟩ (.int .u8 (v.toNat : Int)) = ws at *
        clear hcl hfr hk1 hk2 hd hd2 hlt
        go_wp2_with fail
        refine (putX_any (HV7.out.below HBW.out).tq (fun j hj => Nat.le_trans HW7.out.size (Nat.le_trans HBW.out.size hj)) 9 (by show 9 < 55; omega) _ q c0 _ HO2.out.bs (by rw [HO2.out.len]; exact hq)).mono ?_
        rintro e w8 ⟨rfl, ht8, hc8⟩
        have HT8 := Lib.hid ht8
        have HWS : Hid (Below w.heap.size w ws) := HW7.out.trans (HBW.out.mono HW7.out.size)
        have HW8 : Hid (Below w.heap.size w w8) := (HWS.out).trans (hc8.below (B := w.heap.size) (HWS.out).size (fun j hj => by rw [hj]; exact HV5.out.tq.sm))
        have HWR : Hid (Vl.wrongB Sl.dirB 55 (X4.put 9 (L'.set kq v)).get = true) := HV5.out.vol.bad_map (by show 55 ≤ 803; omega) (x := k) (by show k < 55 - 35; omega) (fun j hj => by rw [TX.get_put, if_neg (by omega)]) (by rw [TX.get_put, if_pos rfl]; exact HTURN.out)
        clear ht8 hc8
        go_wp2_with fail
        refine (wrong_any HT8.out (by show 36 ≤ 55; omega) (by show 55 ≤ 135; omega) (fun j => by
          rw [TX.get_put]
          split
          · rw [HO2.out.len]; exact hq
          · exact HV5.out.sm j)).mono ?_
        rintro e w9 ⟨sx, rfl, -, hsx, hw9⟩
        have HSE : Hid (sx.toList.isEmpty = false) := str_some (hsx HWR.out)
        have HW9 := Lib.hid (HW8.out.trans (hw9.mono HW8.out.size))
        clear hsx hw9
        go_wp2_with fail
        go_ret
        rw [HSE.out]
        exact ⟨rfl, HW9.out⟩
  · -- two with the same blocks
    go_wp2_with fail
    refine (get_ok HV5.out.tq 12 (by show 12 < 55; omega)).mono ?_
    rintro e w7 ⟨A7, n7, c7, rfl, hb7, -, -, -, hw7, -⟩
    have HB7 := Lib.hid hb7
    have HW7 := Lib.hid (HW5.out.trans (hw7.mono HW5.out.size))
    have HV7 := Lib.hid (HV5.out.below hw7)
    clear hb7 hw7
    go_wp2_with fail
    refine (putX_any HV7.out.tq HV7.out.hS 13 (by show 13 < 55; omega) A7 n7 c7 _ HB7.out (HV5.out.sm 12)).mono ?_
    rintro e w8 ⟨rfl, ht8, hc8⟩
    have HT8 := Lib.hid ht8
    have HW8 : Hid (Below w.heap.size w w8) := (HW7.out).trans (hc8.below (B := w.heap.size) (HW7.out).size (fun j hj => by rw [hj]; exact HV5.out.tq.sm))
    have HWR : Hid (Vl.wrongB Sl.dirB 55 (X4.put 13 (X4.get 12)).get = true) := HV5.out.vol.bad_twin (by show 55 ≤ 803; omega) (i := 1) (j := 2) (by omega) (by omega) (by rw [HBL.out.1]; simp; omega) (by rw [TX.get_put, if_neg (by decide)]) (by rw [TX.get_put, if_pos (by decide)])
    clear ht8 hc8
    go_wp2_with fail
    refine (wrong_any HT8.out (by show 36 ≤ 55; omega) (by show 55 ≤ 135; omega) (fun j => by
      rw [TX.get_put]
      split
      · exact HV5.out.sm 12
      · exact HV5.out.sm j)).mono ?_
    rintro e w9 ⟨sx, rfl, -, hsx, hw9⟩
    have HSE : Hid (sx.toList.isEmpty = false) := str_some (hsx HWR.out)
    have HW9 := Lib.hid (HW8.out.trans (hw9.mono HW8.out.size))
    clear hsx hw9
    go_wp2_with fail
    go_ret
    rw [HSE.out]
    exact ⟨rfl, HW9.out⟩
  · -- a block of bytes
    go_wp2_with fail
    rw [show (35 : Int) + (k : Int) = ((35 + k : Nat) : Int) by omega]
    refine (get_own HV5.out.tq (35 + k) (by show 35 + k < 55; omega)).mono ?_
    rintro e w7 ⟨A7, n7, c7, rfl, ho7, hw7⟩
    have HO7 := Lib.hid ho7
    have HW7 := Lib.hid (HW5.out.trans (hw7.mono HW5.out.size))
    have HV7 := Lib.hid (HV5.out.below hw7)
    have hln : (X4.get (35 + k)).length = n7 := by have := ho7.1; simpa [bc] using this
    have HLN := Lib.hid hln
    have HW57 := Lib.hid hw7
    have hs57 := hw7.size
    clear ho7 hw7 hln
    by_cases hlt : k < need na
    · have hkb : k < (st.bl 1).length := by rw [HBL.out.1]; simpa using hlt
      have hbk : (st.bl 1)[k] = k := by simp [HBL.out.1]
      have HPT : Hid (X4.get (35 + k) = Vl.part (S1 1).dt k) := by
        have := (HV5.out.vol.vp.at' 1 (by omega) k hkb).2
        rw [hbk] at this
        exact this
      have hS11 : (S1 1).dt = Z := by
        rw [HS1.out, show Vl.upd Vl.bare (Vl.one 1 0 Z).ino (Vl.one 1 0 Z) 1 = Vl.one 1 0 Z from Vl.upd_same Vl.bare 1 _]
        rfl
      have hn7 : n7 = min 96 (na - 96 * k) := by rw [← HLN.out, HPT.out, Vl.part_len, hS11, hzl]
      have hn71 : 1 ≤ n7 ∧ n7 ≤ 96 := by unfold need at hlt; omega
      have hd : decide (k < need na) = true := by simpa using hlt
      have hd2 : decide ((k : Int) < (need na : Int)) = true := by simp; omega
      obtain ⟨q, rfl⟩ : ∃ q, n7 = q + 1 := ⟨n7 - 1, by omega⟩
      have HROW := Lib.hid (own_pre HO7.out (k := q) (by omega) (by omega))
      have HKB := Lib.hid hkb
      have HBK : Hid (∀ h : k < (st.bl 1).length, (st.bl 1)[k] = k) := fun _ => hbk
      obtain ⟨g7, hA7⟩ : ∃ g7, A7 = some ⟨g7, 0, none⟩ := by
        rcases HO7.out.2 with ⟨h1, h2⟩ | ⟨g, cap, cur, h1, _⟩
        · omega
        · injection h1 with h1 _ _
          exact ⟨g, h1⟩
      subst hA7
      have hcap : q + 1 ≤ c7 := by
        rcases HO7.out.2 with ⟨h1, h2⟩ | ⟨g, cap, cur, h1, _, _, h4, _⟩
        · omega
        · injection h1 with _ _ h1
          omega
      clear hn7 hS11 hbk hkb
      generalize need na = mu at *
      obtain ⟨i0, hi0, hz0, hz1, hz2⟩ := info_parts infos_u8
      have HNEW : Hid (∀ j u, [Value.int .u8 1, Value.int .u8 2][j]? = some u → (w7.alloc (.cells #[.int .u8 1, .int .u8 2] 5)).cell? ((⟨w7.heap.size, 0, none⟩ : Addr).add j) = some u) := fun j u hu => World.news_of_block (heap_alloc_new w7 _) j u (by simpa using hu)
      have HRW := Lib.hid (HROW.out.alloc (.cells #[.int .u8 1, .int .u8 2] 5))
      go_upto_region 22 with fail
      go_upto_region 23 with fail
      go_wp2_with (at_builtin; go_must (refine wpList_append_own_at _ rfl _ _ 30 rfl w5.heap.size 5 i0 (.int .u8 0) 1 1 Tryz.underlying30 hi0 hz0 hz1 hz2 rfl (by decide) (.slice (some ⟨g7, 0, none⟩) q c7) q (bc ((X4.get (35 + k)).take q)) rfl HRW.out ⟨w7.heap.size, 0, none⟩ 2 2 [.int .u8 1, .int .u8 2] rfl rfl HNEW.out (fun u hu => by rcases List.mem_cons.1 hu with rfl | hu <;> first | rfl | (obtain rfl := List.mem_singleton.1 hu; rfl)) (by unfold maxLen; omega) (by omega) (by simp; omega) ?_; intro v' wz hown' hgrow _ hat; obtain ⟨g', cap', rfl⟩ := ownsRow_succ hown'; have hcp := own_room hown'; have HOW := Lib.hid hown'; have HGR := Lib.hid hgrow; clear hown' hgrow hat))
      rw [show (35 : Int) + (k : Int) = ((35 + k : Nat) : Int) by omega]
      have hg7 : w5.heap.size ≤ g7 := (HROW.out.lt g7 rfl).1
      have HA8 : Hid (Below w.heap.size w wz) := ((HW7.out.alloc HW7.out.size _).grown HGR.out (Nat.le_trans HW7.out.size (by simp)) (fun j e => by cases e; have := HW5.out.size; show w.heap.size ≤ g7; omega))
      have htq : Tq wz p m4 ⟨g, 55, 55⟩ (fun j => w.heap.size ≤ j) X4 := (((HV5.out.tq.tight.below HW57.out).below ((Below.refl _ _).alloc (Nat.le_refl _) _)).grown HGR.out (fun j hj e => by cases e; have h9 : g7 < w5.heap.size := hj.2; omega)).mono fun j hj => hj.1
      have hbq : BS wz (some ⟨g', 0, none⟩) q ((X4.get (35 + k)).take q) := by
        have h1 : BS wz (some ⟨g', 0, none⟩) (q + 2) ((X4.get (35 + k)).take q ++ [1, 2]) := BS.of_own (by
          have e : bc ((X4.get (35 + k)).take q ++ [1, 2]) = bc ((X4.get (35 + k)).take q) ++ [.int .u8 1, .int .u8 2] := by simp [bc]
          rw [e]
          exact HOW.out)
        have h2 := h1.take (k := q) (by omega)
        rw [List.take_left' (by rw [List.length_take, HLN.out]; omega)] at h2
        exact h2
      refine (putX_any htq (fun j hj => Nat.le_trans HA8.out.size hj) (35 + k) (by show 35 + k < 55; omega) _ q cap' _ hbq (by rw [List.length_take]; omega)).mono ?_
      rintro e w8 ⟨rfl, ht8, hc8⟩
      have HT8 := Lib.hid ht8
      have HW8 : Hid (Below w.heap.size w w8) := (HA8.out).trans (hc8.below (B := w.heap.size) (HA8.out).size (fun j hj => by rw [hj]; exact HV5.out.tq.sm))
      have HWR : Hid (Vl.wrongB Sl.dirB 55 (X4.put (35 + k) ((X4.get (35 + k)).take q)).get = true) := HV5.out.vol.bad_part (by show 55 ≤ 803; omega) (i := 1) (k := k) (by omega) HKB.out (by rw [TX.get_put, if_neg (by omega)]) (by rw [HBK.out HKB.out, TX.get_put, if_pos rfl, List.length_take, ← HPT.out, HLN.out]; omega)
      clear ht8 hc8
      go_wp2_with fail
      refine (wrong_any HT8.out (by show 36 ≤ 55; omega) (by show 55 ≤ 135; omega) (fun j => by
        rw [TX.get_put]
        split
        · rw [List.length_take]; omega
        · exact HV5.out.sm j)).mono ?_
      rintro e w9 ⟨sx, rfl, -, hsx, hw9⟩
      have HSE : Hid (sx.toList.isEmpty = false) := str_some (hsx HWR.out)
      have HW9 := Lib.hid (HW8.out.trans (hw9.mono HW8.out.size))
      clear hsx hw9
      go_wp2_with fail
      go_ret
      rw [HSE.out]
      exact ⟨rfl, HW9.out⟩
    · have hd : decide (k < need na) = false := by simpa using hlt
      have hd2 : decide ((k : Int) < (need na : Int)) = false := by simp; omega
      go_wp2_with fail
      rw [show (35 : Int) + (k : Int) = ((35 + k : Nat) : Int) by omega]
      have hb1 : BS (w7.alloc (.cells #[.int .u8 1] 5)) (some ⟨w7.heap.size, 0, none⟩) 1 [1] := BS.of_bw (l := [1]) (heap_alloc_new w7 _)
      refine (putX_any (HV7.out.below ((Below.refl _ _).alloc (Nat.le_refl _) _)).tq (fun j hj => Nat.le_trans HW7.out.size (Nat.le_trans (by simp) hj)) (35 + k) (by show 35 + k < 55; omega) _ 1 1 [1] hb1 (by decide)).mono ?_
      rintro e w8 ⟨rfl, ht8, hc8⟩
      have HT8 := Lib.hid ht8
      have HW8 : Hid (Below w.heap.size w w8) := (HW7.out.trans (((Below.refl w7.heap.size w7).alloc (Nat.le_refl _) (.cells #[.int .u8 1] 5)).mono HW7.out.size)).trans (hc8.below (B := w.heap.size) (HW7.out.trans (((Below.refl w7.heap.size w7).alloc (Nat.le_refl _) (.cells #[.int .u8 1] 5)).mono HW7.out.size)).size (fun j hj => by rw [hj]; exact HV5.out.tq.sm))
      have HWR : Hid (Vl.wrongB Sl.dirB 55 (X4.put (35 + k) [1]).get = true) := HV5.out.vol.bad_free (by show 55 ≤ 803; omega) (x := k) (by show k < 55 - 35; omega) (fun i hi h => by
              by_cases e : i = 1
              · subst e; rw [HBL.out.1] at h; simp at h; omega
              · rw [HBL.out.2 i e] at h; cases h) (fun i hi => by rw [TX.get_put, if_neg (by omega)]) (by rw [TX.get_put, if_pos rfl]; decide)
      clear ht8 hc8
      go_wp2_with fail
      refine (wrong_any HT8.out (by show 36 ≤ 55; omega) (by show 55 ≤ 135; omega) (fun j => by
        rw [TX.get_put]
        split
        · decide
        · exact HV5.out.sm j)).mono ?_
      rintro e w9 ⟨sx, rfl, -, hsx, hw9⟩
      have HSE : Hid (sx.toList.isEmpty = false) := str_some (hsx HWR.out)
      have HW9 := Lib.hid (HW8.out.trans (hw9.mono HW8.out.size))
      clear hsx hw9
      go_wp2_with fail
      go_ret
      rw [HSE.out]
      exact ⟨rfl, HW9.out⟩
  · -- the number of changes
    go_wp2_with fail
    have hb1 : BS (w5.alloc (.cells #[.int .u8 1] 5)) (some ⟨w5.heap.size, 0, none⟩) 1 [1] := BS.of_bw (l := [1]) (heap_alloc_new w5 _)
    refine (putX_any (HV5.out.below ((Below.refl _ _).alloc (Nat.le_refl _) _)).tq (fun j hj => Nat.le_trans HW5.out.size (Nat.le_trans (by simp) hj)) 10 (by show 10 < 55; omega) _ 1 1 [1] hb1 (by decide)).mono ?_
    rintro e w8 ⟨rfl, ht8, hc8⟩
    have HT8 := Lib.hid ht8
    have HW8 : Hid (Below w.heap.size w w8) := (HW5.out.trans (((Below.refl w5.heap.size w5).alloc (Nat.le_refl _) (.cells #[.int .u8 1] 5)).mono HW5.out.size)).trans (hc8.below (B := w.heap.size) (HW5.out.trans (((Below.refl w5.heap.size w5).alloc (Nat.le_refl _) (.cells #[.int .u8 1] 5)).mono HW5.out.size)).size (fun j hj => by rw [hj]; exact HV5.out.tq.sm))
    have HWR : Hid (Vl.wrongB Sl.dirB 55 (X4.put 10 [1]).get = true) := Vl.wrong_ch (by rw [TX.get_put, if_pos rfl]; exact Vl.chE_one)
    clear ht8 hc8
    go_wp2_with fail
    refine (wrong_any HT8.out (by show 36 ≤ 55; omega) (by show 55 ≤ 135; omega) (fun j => by
      rw [TX.get_put]
      split
      · decide
      · exact HV5.out.sm j)).mono ?_
    rintro e w9 ⟨sx, rfl, -, hsx, hw9⟩
    have HSE : Hid (sx.toList.isEmpty = false) := str_some (hsx HWR.out)
    have HW9 := Lib.hid (HW8.out.trans (hw9.mono HW8.out.size))
    clear hsx hw9
    go_wp2_with fail
    go_ret
    rw [HSE.out]
    exact ⟨rfl, HW9.out⟩
end Go.Proofs.YtnhokkdieijkhaaGreatDoor
