/-
  The law's sound (layer 13).
-/
import Derived.Test.YtndnkfnhgakibaaGreatOSndM
import Derived.Test.YtndnkfnhgakibaaGreatOAwake
import Derived.Test.YtndnkfnhgakibaaGreatOUsed
import Derived.Test.YtndnkfnhgakibaaGreatOPC
import Derived.Test.YtndnkfnhgakibaaGreatODrop
namespace Go.Proofs.YtndnkfnhgakibaaGreat
open Go.RowKit Go.Shelf
attribute [local go_sem] Oper.semAt_some

/-- While sound counts: its things in a block, the links counted in another one. -/
structure SN (w0 : World) (x g : Nat) (t : Op.TT) (v : Value) (p : Nat → Nat) (W : World) : Prop where
  bel : Below w0.heap.size w0 W
  xb : Bw W x (tc t v) 27
  ub : UB W g p
  hx : w0.heap.size ≤ x
  hg : w0.heap.size ≤ g
  ne : x ≠ g
section
variable {w0 W W' : World} {x g : Nat} {t : Op.TT} {v : Value} {p q : Nat → Nat}
theorem SN.below (h : SN w0 x g t v p W) (hb : Below W.heap.size W W') : SN w0 x g t v p W' := ⟨h.bel.trans (hb.mono h.bel.size), h.xb.below hb, h.ub.below hb, h.hx, h.hg, h.ne⟩
theorem SN.set (h : SN w0 x g t v p W) (k n : Nat) : SN w0 x g t v (upd p k n) (W.setCell ⟨g, k, none⟩ (.int .u32 (n : Int))) :=
  ⟨h.bel.setCell (p := ⟨g, k, none⟩) h.hg _, h.xb.off h.ne _, h.ub.set k n, h.hx, h.hg, h.ne⟩
theorem Below.drewsN (w : World) (B n : Nat) : Below B w (w.drewN n) := ⟨rfl, rfl, rfl, Nat.le_refl _, fun _ _ => rfl⟩
theorem SN.drewN (h : SN w0 x g t v p W) (n : Nat) : SN w0 x g t v p (W.drewN n) := h.below (Below.drewsN W W.heap.size n)
theorem SN.congr (h : SN w0 x g t v p W) (e : ∀ j, j < 24 → p j = q j) : SN w0 x g t v q W := ⟨h.bel, h.xb, h.ub.congr e, h.hx, h.hg, h.ne⟩
end
theorem hc_row (i g : Nat) : ∀ v ∈ hc i g, v.oneCell' = true := by
  intro v hv
  simp only [hc, List.mem_cons, List.not_mem_nil, or_false] at hv
  rcases hv with rfl | rfl <;> rfl
set_option maxRecDepth 100000 in
set_option maxHeartbeats 4000000 in
theorem sound_any {A : Option Addr} {c : Nat} {t : Op.TT} {w : World} (h : TM w A c t) (hs : Op.Sound t) :
    Calls Tryz.prog 32 #[.agg (tc t (.slice A 24 c)).toArray] w fun e w' => e = .returned (.bool true) ∧ Below w.heap.size w w' := by
  have HU : Hid (∀ W, Below w.heap.size w W → Calls Tryz.prog 28 #[.agg (tc t (.slice A 24 c)).toArray] W fun e w' => e = .returned (.int .i64 (Vl.tot t.s : Int)) ∧ Below W.heap.size W w') := fun W hW => used_any (h.ss.below hW) hs.dts
  obtain ⟨b, o, rfl, hat⟩ := ss_at h.ss
  have HA := Lib.hid hat
  have HS := Lib.hid hs
  have HC : Hid (Bw (w.alloc (.cells (tc t (.slice (some ⟨b, o, none⟩) 24 c)).toArray 27)) w.heap.size (tc t (.slice (some ⟨b, o, none⟩) 24 c)) 27) := heap_alloc_new w _
  have HB := Lib.hid (alloc_below w (.cells (tc t (.slice (some ⟨b, o, none⟩) 24 c)).toArray 27))
  have HSZ : Hid ((w.alloc (.cells (tc t (.slice (some ⟨b, o, none⟩) 24 c)).toArray 27)).heap.size = w.heap.size + 1) := by show _ = _; simp
  clear h hat hs
  go_enter Tryz.func32, Tryz.ntmps32
  go_upto_region 1 with fail
  generalize w.alloc (.cells (tc t (.slice (some ⟨b, o, none⟩) 24 c)).toArray 27) = w1 at *
  go_upto_region 2 with (refine wpList_make_row rfl 75 33 (.int .u32 0) 4 _ _ rfl Tryz.underlying75 infoU32 rfl (by omega) 24 rfl rfl (by omega) ?_; intro w2 hr2 hs2 hw2)
  have HN2 : Hid (SN w w.heap.size w1.heap.size t (.slice (some ⟨b, o, none⟩) 24 c) (fun _ => 0) w2) := by
    have hsz := HSZ.out
    exact ⟨HB.out.trans (hw2.mono (by omega)), HC.out.below hw2, hr2, Nat.le_refl _, by omega, by omega⟩
  clear hr2 hs2 hw2 HC HB HSZ
  generalize w1.heap.size = g at *
  have u0 := HN2.out.ub.cell (k := 0) (by omega)
  have f0 := HN2.out.ub.froz 0
  go_upto_region 3 with fail
  have HN4 : Hid (SN w w.heap.size g t (.slice (some ⟨b, o, none⟩) 24 c) (Op.lk t 0 0) (w2.setCell ⟨g, 0, none⟩ (.int .u32 1))) := (HN2.out.set 0 1).congr fun j _ => by
    rw [Op.lk_zero]
    unfold upd
    split <;> simp_all
  clear u0 f0 HN2
  go_wp2_with fail
  generalize w2.setCell ⟨g, 0, none⟩ (.int .u32 1) = w3 at *
  go_loopw [4] (fun i wr => ∃ k : Nat, k ≤ 24 ∧ i = .int .i64 k ∧ Hid (SN w w.heap.size g t (.slice (some ⟨b, o, none⟩) 24 c) (Op.lk t k 0) wr)) (fun i _ => 24 - (intOf i).toNat)
  case atStart => exact ⟨0, by omega, rfl, HN4⟩
  case round =>
    clear HN4
    obtain ⟨k, hk, rfl, HN⟩ := hrel
    obtain ⟨wo, rfl⟩ : ∃ wo, wo = wr := ⟨wr, rfl⟩
    have c0 := HN.out.xb.cell 0 _ rfl
    by_cases hlt : k < 24
    · obtain ⟨y, hy1, hy2⟩ := HA.out wo HN.out.bel k hlt
      have HY := Lib.hid hy1
      have HQ : Hid (∀ W', Below wo.heap.size wo W' → ∀ j u, (sc (t.s k) (.slice y.a y.n y.c))[j]? = some u → W'.cell? ⟨b, o + k * 9 + j, none⟩ = some u) := fun W' hW j u hu => by
        have := hy1 j u hu
        rw [add_plain] at this
        exact (hW.cell (World.block_lt_of_cell? wo _ this)).trans this
      have HBS := Lib.hid hy2
      have hino := HS.out.inv.may.ino k hlt
      have hok := HS.out.inv.may.ok k hlt
      have HOK := Lib.hid hok
      have HF : Hid (Fits (t.s k)) := Fits.of_ok hok (HS.out.inv.wide k hlt)
      have HK : Hid (Sl.chkS (t.s k) = 0) := by show _ = _; unfold Sl.chkS; rw [if_pos hok]
      have HYN : Hid (y.n ≤ 1000) := by show _ ≤ _; rw [← hy2.1]; have := (Vl.okB_facts hok).2.2; omega
      have HCH := Lib.hid (checkS_any (t.s k) y.a y.n y.c wo HF.out HBS.out HYN.out)
      rw [HK.out] at HCH
      clear hy1 hy2 hok HF HK
      go_wp2_with (refine Did.list rfl (did_load 92 (.tmp 23) rfl ⟨b, o + k * 9, none⟩ rfl _ Tryz.underlying92 rfl (sc (t.s k) (.slice y.a y.n y.c)) size_Sl HY.out) ?_)
      refine HCH.out.mono ?_
      rintro e w5 ⟨rfl, hb5⟩
      have HN5 := Lib.hid (HN.out.below hb5)
      have HBS5 := Lib.hid (HBS.out.below hb5)
      clear c0
      have c0 := HN5.out.xb.cell 0 _ rfl
      have q0 : w5.cell? ⟨b, o + k * 9, none⟩ = some (.int .u32 ((t.s k).ino : Int)) := HQ.out w5 hb5 0 _ rfl
      have q1 := HQ.out w5 hb5 1 _ rfl
      have q8 := HQ.out w5 hb5 8 _ rfl
      rw [hino] at q0
      clear hb5 HN HBS HY HQ HCH hino
      by_cases hk2 : (t.s k).kind = 2
      · rw [hk2] at q1
        have HDI : Hid (Op.Dir t k) := ⟨hlt, HOK.out, hk2⟩
        have HDG := Lib.hid (get_any y.a y.n y.c (t.s k).dt w5 HBS5.out (by have := HYN.out; omega))
        rw [HDI.out.err, show gotE (t.s k).dt = Op.ents t k from rfl] at HDG
        have HLV : Hid (∀ e ∈ Op.ents t k, e.ino < 24 ∧ (t.s e.ino).kind ≠ 0 ∧ (t.s e.ino).gen = e.gen) := HS.out.inv.live k hlt hk2
        have HLE : Hid (∀ j n, Op.lk t k n j ≤ 951) := fun j n => Op.lk_le HS.out hlt (.inr hk2) j
        have HLD : Hid (∀ j, Op.lk t k (Op.ents t k).length j = Op.lk t (k + 1) 0 j) := Op.lk_dir t hk2
        clear hk2
        go_wp2_with fail
        refine HDG.out.mono ?_
        rintro e w6 ⟨B, n, cc, rfl, hes, hcc, hb6⟩
        have HN6 := Lib.hid (HN5.out.below hb6)
        have HES := Lib.hid hes
        have HEN : Hid ((Op.ents t k).length = n) := hes.1
        have hn38 : n ≤ 38 := by rw [← hes.1]; exact HDI.out.few
        clear hes hcc hb6 HN5 HBS5 HDG q0 q1 q8 c0
        go_wp2_with fail
        go_loopw [7] (fun i wr => ∃ j : Nat, j ≤ n ∧ i = .int .i64 j ∧ Hid (SN w w.heap.size g t (.slice (some ⟨b, o, none⟩) 24 c) (Op.lk t k j) wr) ∧ Hid (ES wr B n (Op.ents t k))) (fun i _ => n - (intOf i).toNat)
        case atStart => exact ⟨0, by omega, rfl, HN6, HES⟩
        case round =>
          clear HN6 HES
          obtain ⟨j, hj, rfl, HN, HE⟩ := hrel
          obtain ⟨wi, rfl⟩ : ∃ wi, wi = wr := ⟨wr, rfl⟩
          by_cases hjn : j < n
          · obtain ⟨b', o', rfl, hlt', hjl, hce⟩ := HE.out.at hjn
            have HST := Lib.hid (fun i => Op.lk_step t k hjl i)
            have hlv := HLV.out _ (List.getElem_mem hjl)
            generalize (Op.ents t k)[j] = e at *
            obtain ⟨h24, hkd, hgn⟩ := hlv
            have HH : Hid (∀ i u, (hc e.ino e.gen)[i]? = some u → wi.cell? ((⟨b', o' + j * 4 + 1, none⟩ : Addr).add i) = some u) := fun i u hu => by
              rw [add_plain]
              match i, hu with
              | 0, hu => exact hce 1 u hu
              | 1, hu => exact hce 2 u hu
            clear hce
            go_upto_region 16 with (first
              | (refine Did.list rfl (did_load 35 (.tmp 66) rfl ⟨b', o' + j * 4 + 1, none⟩ rfl _ Tryz.underlying35 rfl (hc e.ino e.gen) size_H HH.out) ?_)
              | (refine wpList_alloc_any rfl 35 rfl _ zero_H ?_; intro w7 hb7 hs7 hw7)
              | (refine wpList_store_part rfl 35 (.tmp 8) (.tmp 67) rfl wi.heap.size 0 (hc e.ino e.gen) rfl rfl 35 _ hb7 size_H (by simp [hc]) (hc_row _ _) ?_
                 intro w8 hb8 hs8 hk8))
            have hbb : Below wi.heap.size wi w8 := hw7.trans (hk8.below2 (fun k hk => by omega))
            have HN8 := Lib.hid (HN.out.below hbb)
            have HE8 := Lib.hid (HE.out.below hbb)
            have d0 : w8.cell? ⟨wi.heap.size, 0, none⟩ = some (.int .u32 (e.ino : Int)) := Bw.cell (show Bw w8 wi.heap.size (hc e.ino e.gen) 35 from hb8) 0 _ rfl
            have d1 : w8.cell? ⟨wi.heap.size, 1, none⟩ = some (.int .u32 (e.gen : Int)) := Bw.cell (show Bw w8 wi.heap.size (hc e.ino e.gen) 35 from hb8) 1 _ rfl
            clear hb7 hs7 hw7 hb8 hs8 hk8 hbb HN HE HH
            generalize wi.heap.size = gh at *
            have c0 := HN8.out.xb.cell 0 _ rfl
            obtain ⟨z, hz1, hz2⟩ := HA.out w8 HN8.out.bel e.ino h24
            have r1 := hz1 1 _ rfl
            have r2 := hz1 2 _ rfl
            rw [add_plain] at r1 r2
            rw [hgn] at r2
            have u0 := HN8.out.ub.cell h24
            have f0 := HN8.out.ub.froz e.ino
            have hle := HLE.out e.ino j
            have k1 : decide ((23 : Int) < (e.ino : Int)) = false := by simp; omega
            have k2 : (((t.s e.ino).kind : Int) == 0) = false := by simp; exact hkd
            have HNX : Hid (∀ m, SN w w.heap.size g t (.slice (some ⟨b, o, none⟩) 24 c) (Op.lk t k (j + 1)) ((w8.drewN m).setCell ⟨g, e.ino, none⟩ (.int .u32 (Op.lk t k j e.ino + 1 : Int)))) := fun m => by
              have h1 := ((HN8.out.drewN m).set e.ino (Op.lk t k j e.ino + 1)).congr (q := Op.lk t k (j + 1)) fun i _ => by
                have := HST.out i
                unfold upd
                by_cases ei : i = e.ino
                · rw [if_pos ei, this, if_pos ei.symm, ei]
                · rw [if_neg ei, this, if_neg (fun h => ei h.symm)]; rfl
              exact h1
            have HEX : Hid (∀ m v, ES ((w8.drewN m).setCell ⟨g, e.ino, none⟩ v) (some ⟨b', o', none⟩) n (Op.ents t k)) := fun m v => (HE8.out.below (Below.drewsN w8 w8.heap.size m)).off (fun o s => (HN8.out.drewN m).ub.nostr o s) (set_keep _ g e.ino v)
            clear hz1 hz2 HST HN8 HE8 hgn hkd
            generalize Op.lk t k j e.ino = L at *
            go_frame
            go_quiet (fail)
            go_wp2_with fail
            go_roundw
            case rel => exact ⟨j + 1, by omega, by go_num, HNX.out _, HEX.out _ _⟩
            case measure => simp [intOf]; omega
          · obtain rfl : n = j := by omega
            have HN9 : Hid (SN w w.heap.size g t (.slice (some ⟨b, o, none⟩) 24 c) (Op.lk t (k + 1) 0) wi) := HN.out.congr fun i _ => by rw [← HLD.out i, HEN.out]
            clear HN HE HLV HLE HLD
            go_wp2_with fail
            go_roundw
            case rel => exact ⟨k + 1, by omega, by go_num, HN9⟩
            case measure => simp [intOf]; omega
      · have kb : (((t.s k).kind : Int) != 2) = true := by simp; omega
        have HN9 : Hid (SN w w.heap.size g t (.slice (some ⟨b, o, none⟩) 24 c) (Op.lk t (k + 1) 0) w5) := HN5.out.congr fun i _ => Op.lk_other t hk2 i
        clear hk2 HN5 HBS5 q8
        go_wp2_with fail
        go_roundw
        case rel => exact ⟨k + 1, by omega, by go_num, HN9⟩
        case measure => simp [intOf]; omega
    · obtain rfl : k = 24 := by omega
      have HNR : Hid (SN w w.heap.size g t (.slice (some ⟨b, o, none⟩) 24 c) (Op.refs t) wo) := HN.out.congr fun j _ => Op.lk_all t j
      clear HN
      go_wp2_with fail
      clear c0
      go_loopw [9] (fun i wr => ∃ k : Nat, k ≤ 24 ∧ i = .int .i64 k ∧ Hid (SN w w.heap.size g t (.slice (some ⟨b, o, none⟩) 24 c) (Op.refs t) wr)) (fun i _ => 24 - (intOf i).toNat)
      case atStart => exact ⟨0, by omega, rfl, HNR⟩
      case round =>
        clear HNR
        obtain ⟨k, hk, rfl, HN⟩ := hrel
        obtain ⟨wi, rfl⟩ : ∃ wi, wi = wr := ⟨wr, rfl⟩
        have c0 := HN.out.xb.cell 0 _ rfl
        by_cases hlt : k < 24
        · obtain ⟨z, hz1, hz2⟩ := HA.out wi HN.out.bel k hlt
          have r1 := hz1 1 _ rfl
          have r3 := hz1 3 _ rfl
          rw [add_plain] at r1 r3
          have u0 := HN.out.ub.cell hlt
          have HB := HS.out.inv.bal k hlt
          have HF := HS.out.inv.free k hlt
          have HO := HS.out.inv.one k hlt
          have HNX : Hid (∀ m, SN w w.heap.size g t (.slice (some ⟨b, o, none⟩) 24 c) (Op.refs t) (wi.drewN m)) := fun m => HN.out.drewN m
          clear hz1 hz2 HN
          generalize Op.refs t k = L at *
          by_cases hk0 : (t.s k).kind = 0
          · have hL := (HF hk0).1
            rw [hk0] at r1
            rw [hL] at u0
            clear HB HF HO hL hk0
            go_wp2_with fail
            go_quiet (fail)
            go_wp2_with fail
            go_roundw
            case rel => exact ⟨k + 1, by omega, by go_num, HNX.out _⟩
            case measure => simp [intOf]; omega
          · have hL := HB hk0
            simp only [Nat.add_zero] at hL
            rw [← hL] at r3
            have kb : (((t.s k).kind : Int) == 0) = false := by simp; omega
            have kc : (((t.s k).kind : Int) != 0) = true := by simp; omega
            by_cases hk2 : (t.s k).kind = 2
            · have hL2 := HO hk2
              rw [← hL] at hL2
              rw [hk2] at r1
              rw [hL2] at r3 u0
              clear HB HF HO hL hL2 hk0 kb kc hk2
              go_wp2_with fail
              go_quiet (fail)
              go_wp2_with fail
              go_roundw
              case rel => exact ⟨k + 1, by omega, by go_num, HNX.out _⟩
              case measure => simp [intOf]; omega
            · have kd : (((t.s k).kind : Int) == 2) = false := by simp; omega
              clear HB HF HO hL hk0 hk2
              go_wp2_with fail
              go_quiet (fail)
              go_wp2_with fail
              go_roundw
              case rel => exact ⟨k + 1, by omega, by go_num, HNX.out _⟩
              case measure => simp [intOf]; omega
        · obtain rfl : k = 24 := by omega
          have HRM := HS.out.room
          have hrm : ((Vl.tot t.s : Int)) ≤ t.rm := HRM
          have HU2 := HU
          clear HA HS HRM
          generalize Vl.tot t.s = T at *
          go_upto_region 24 with fail
          have HSd : Hid (SN w w.heap.size g t (.slice (some ⟨b, o, none⟩) 24 c) (Op.refs t) wi.drew) := HN.out.below (Below.refl _ _).drew
          clear c0
          refine wp_region_held_drew (S := SN w w.heap.size g t (.slice (some ⟨b, o, none⟩) 24 c) (Op.refs t)) (by kernel_rfl) HSd.out (fun _ => ?_)
          change wpAnyH _ _ _ _ _ 12 (Array.replicate 12 false) _ _
          refine takeH (i := 0) 159 (.pointer (some ⟨w.heap.size, 0, none⟩)) rfl rfl (by kernel_rfl) (by kernel_rfl) (by kernel_rfl) (fun _ _ _ h => h) (.inl ⟨by rfl, fun W hW => by go_simp⟩) HSd.out ?_
          simp only [Act.put, List.setIfInBounds_toArray, List.set_cons_zero, List.set_cons_succ]
          refine takeH (i := 1) 160 (.slice (some ⟨b, o, none⟩) 24 c) rfl rfl (by kernel_rfl) (by kernel_rfl) (by kernel_rfl) (fun _ _ _ h => h) (.inl ⟨by rfl, fun W hW => by (have hz := hW.xb.cell 0 _ rfl; go_simp)⟩) HSd.out ?_
          simp only [Act.put, List.setIfInBounds_toArray, List.set_cons_zero, List.set_cons_succ]
          refine takeH (i := 2) 161 (.int .i64 24) rfl rfl (by kernel_rfl) (by kernel_rfl) (by kernel_rfl) (fun _ _ _ h => h) (.inl ⟨by rfl, fun W hW => by go_simp⟩) HSd.out ?_
          simp only [Act.put, List.setIfInBounds_toArray, List.set_cons_zero, List.set_cons_succ]
          refine takeH (i := 3) 162 (.bool true) rfl rfl (by kernel_rfl) (by kernel_rfl) (by kernel_rfl) (fun _ _ _ h => h) (.inl ⟨by rfl, fun W hW => by go_simp⟩) HSd.out ?_
          simp only [Act.put, List.setIfInBounds_toArray, List.set_cons_zero, List.set_cons_succ]
          refine takeH (i := 4) 163 (.bool true) rfl rfl (by kernel_rfl) (by kernel_rfl) (by kernel_rfl) (fun _ _ _ h => h) (.inl ⟨by rfl, fun W hW => by go_simp⟩) HSd.out ?_
          simp only [Act.put, List.setIfInBounds_toArray, List.set_cons_zero, List.set_cons_succ]
          refine takeH (i := 5) 164 (.agg (tc t (.slice (some ⟨b, o, none⟩) 24 c)).toArray) rfl rfl (by kernel_rfl) (by kernel_rfl) (by kernel_rfl) (fun _ _ _ h => h) (.inl ⟨by rfl, fun W hW => by exact run_load_part 27 (.tmp 1) rfl w.heap.size 0 rfl _ Tryz.underlying27 rfl (tc t (.slice (some ⟨b, o, none⟩) 24 c)) 27 _ hW.xb size_Th (fun j u hu => by rw [Nat.zero_add]; exact hu)⟩) HSd.out ?_
          simp only [Act.put, List.setIfInBounds_toArray, List.set_cons_zero, List.set_cons_succ]
          refine takeH (i := 7) 166 (.pointer (some ⟨w.heap.size, 2, none⟩)) rfl rfl (by kernel_rfl) (by kernel_rfl) (by kernel_rfl) (fun _ _ _ h => h) (.inl ⟨by rfl, fun W hW => by go_simp⟩) HSd.out ?_
          simp only [Act.put, List.setIfInBounds_toArray, List.set_cons_zero, List.set_cons_succ]
          refine takeH (i := 8) 167 (.int .i64 t.rm) rfl rfl (by kernel_rfl) (by kernel_rfl) (by kernel_rfl) (fun _ _ _ h => h) (.inl ⟨by rfl, fun W hW => by (have hz := hW.xb.cell 2 _ rfl; go_simp)⟩) HSd.out ?_
          simp only [Act.put, List.setIfInBounds_toArray, List.set_cons_zero, List.set_cons_succ]
          refine wpAnyH_ready (rs := [6]) (by kernel_rfl) (by simp) ?_
          refine AllReadyH.cons rfl (fun K hK => ?_) AllReadyH.nil
          go_simp
          refine (HU.out _ HSd.out.bel).mono ?_
          rintro e w7 ⟨rfl, h4⟩
          have HS7 := Lib.hid (HSd.out.below h4)
          refine hK.out _ _ HS7.out fun _ => ?_
          clear hK K h4 HU HSd
          refine takeH (i := 9) 168 (.bool true) rfl rfl (by kernel_rfl) (by kernel_rfl) (by kernel_rfl) (fun _ _ _ h => h) (.inl ⟨by rfl, fun W hW => by go_simp⟩) HS7.out ?_
          simp only [Act.put, List.setIfInBounds_toArray, List.set_cons_zero, List.set_cons_succ]
          refine takeH (i := 10) 169 (.bool true) rfl rfl (by kernel_rfl) (by kernel_rfl) (by kernel_rfl) (fun _ _ _ h => h) (.inl ⟨by rfl, fun W hW => by go_simp⟩) HS7.out ?_
          simp only [Act.put, List.setIfInBounds_toArray, List.set_cons_zero, List.set_cons_succ]
          refine takeH (i := 11) 2 (.bool true) rfl rfl (by kernel_rfl) (by kernel_rfl) (by kernel_rfl) (fun _ _ _ h => h) (.inl ⟨by rfl, fun W hW => by go_simp⟩) HS7.out ?_
          simp only [Act.put, List.setIfInBounds_toArray, List.set_cons_zero, List.set_cons_succ]
          refine wpAnyH_done (by kernel_rfl) ?_ _
          go_wp2_with fail
          go_ret
          exact ⟨rfl, HS7.out.bel⟩
end Go.Proofs.YtndnkfnhgakibaaGreat
