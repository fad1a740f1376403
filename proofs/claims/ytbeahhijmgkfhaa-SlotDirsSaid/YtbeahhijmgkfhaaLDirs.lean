/-
  The walk of the statement on directories (layer 11).
-/
import Derived.Test.YtbeahhijmgkfhaaLDirsM
import Derived.Test.YtbeahhijmgkfhaaLPk
import Derived.Test.YtbeahhijmgkfhaaEMay
import Derived.Test.YtbeahhijmgkfhaaLDirPut
namespace Go.Proofs.Ytbeahhijmgkfhaa
open Go.RowKit Go.Shelf

theorem BS.keepK2 {K : Nat → Prop} {w w' : World} {A : Option Addr} {n : Nat} {l : List UInt8} (h : BS w A n l) (hk : Keep K w w') (hA : 0 < n → ∀ ad, A = some ad → K ad.block) : BS w' A n l :=
  ⟨h.1, fun hn => by
    obtain ⟨b, o, e, hc⟩ := h.2 hn
    exact ⟨b, o, e, fun j hj => (World.cell?_of_block (hk.block b (hA hn _ e))).trans (hc j hj)⟩⟩
theorem built_thD (c : Int) (A : Option Addr) (n cp : Nat) : Try.prog.built 26 [(1, .int .u32 2), (3, .int .u32 1), (6, .int .u64 c), (8, .slice A n cp)] = some #[.int .u32 0, .int .u32 2, .int .u32 0, .int .u32 1, .int .u32 0, .int .u64 0, .int .u64 c, .int .u64 0, .slice A n cp] := by kernel_rfl
theorem thD_fits (c : Nat) (dt : List UInt8) (hc : c < 18446744073709551616) : Fits (thD c dt) := ⟨by show 0 < _; omega, by show 2 < _; omega, ⟨by show 0 < _; omega, by show 1 < _; omega, by show 0 < _; omega, by show 0 < _; omega, hc, by show 0 < _; omega⟩⟩
set_option maxRecDepth 100000 in
set_option maxHeartbeats 4000000 in
theorem dirs_walk (w : World) (hp : Pk) (A : Option Addr) (n c : Nat) (l : List UInt8) (h : BS w A n l) (x : Nat) (hx : x < 256) (y : Nat) (hy : y < 256) :
    Calls Try.prog 6 #[.slice A n c, .int .u8 (x : Int), .int .u8 (y : Int)] w fun e w' => e = .returned (.bool true) ∧ Below w.heap.size w w' := by
  obtain ⟨i0, hi0, hz0, hz1, hz2⟩ := info_parts info_E
  have HI0 := Lib.hid hi0
  have HZ0 := Lib.hid hz0
  have HZ1 := Lib.hid hz1
  have HZ2 := Lib.hid hz2
  have HPK := Lib.hid hp
  have HS := Lib.hid h
  have HNL : Hid (l.length = n) := h.1
  clear hp h hi0 hz0 hz1 hz2
  go_enter Try.func6, Try.ntmps6
  go_wp2_with fail
  refine (HPK.out.awake _).mono ?_
  rintro e w1 ⟨rfl, hb1⟩
  have HW1 := Lib.hid hb1
  clear hb1
  by_cases h12 : 12 < n
  · have h12' : (12 : Int) < (n : Int) := by omega
    go_wp2_with fail
    go_ret
    exact ⟨rfl, HW1.out⟩
  have h12' : ¬ (12 : Int) < (n : Int) := by omega
  have HN : Hid (n ≤ 12) := Nat.le_of_not_lt h12
  clear h12
  go_wp2_with fail
  go_loopw [8, 9, 10] (fun L C i wr => ∃ k : Nat, k ≤ n ∧ i = .int .i64 k ∧ C = .int .u64 (ckD l k : Nat) ∧ ∃ A' c', L = .slice A' k c' ∧ Hid (wr.ownsRow w.heap.size 51 4 (.slice A' k c') k (ecs (entsD l k))) ∧ Hid (Below w.heap.size w wr)) (fun _ _ i _ => n - (intOf i).toNat)
  case atStart => exact ⟨0, Nat.zero_le _, rfl, rfl, none, 0, rfl, World.ownsRow_nil _ _ _ _, HW1⟩
  case round =>
    obtain ⟨k, hk, rfl, rfl, A', c', rfl, HO, HWr⟩ := hrel
    clear HW1
    by_cases hlt : k < n
    · have hlt' : (k : Int) < (n : Int) := by omega
      have hk12 : k ≤ 12 := by have := HN.out; omega
      obtain ⟨bb, oo, rfl, hj, hc0⟩ := (HS.out.below HWr.out).at hlt
      have hck : ckD l (k + 1) = ckD l k + l[k].toNat % 4 + 1 := by
        show ckD l k + (l.getD k 0).toNat % 4 + 1 = _
        rw [List.getD_eq_getElem?_getD, List.getElem?_eq_getElem hj]
        rfl
      have hle := ckD_le l (k + 1)
      have HSU : Hid (entsD l (k + 1) = entsD l k ++ [⟨ckD l (k + 1), 0, 0, [nb k]⟩]) := entsD_succ l k
      have hand := and3 l[k] _ rfl
      generalize l[k].toNat = z at *
      obtain ⟨D, hD⟩ : ∃ D, ckD l (k + 1) = D := ⟨_, rfl⟩
      have HD := Lib.hid hD
      rw [hD] at HSU hck hle
      clear hD
      generalize ckD l k = C at *
      obtain ⟨q, hq⟩ : ∃ q, z % 4 = q := ⟨_, rfl⟩
      rw [hq] at hand hck
      clear hq hj
      have q1 : IntKind.u64.wrap (q : Int) = q := wrap_u64 (by omega) (by omega)
      have q2 : IntKind.u64.wrap ((q : Int) + 1) = (q : Int) + 1 := wrap_u64 (by omega) (by omega)
      have q3 : IntKind.u64.wrap ((C : Int) + ((q : Int) + 1)) = (D : Int) := (wrap_u64 (by omega) (by omega)).trans (by omega)
      have q4 : IntKind.u8.wrap (k : Int) = k := wrap_u8 (by omega) (by omega)
      have q5 : IntKind.u8.wrap (97 + (k : Int)) = 97 + (k : Int) := wrap_u8 (by omega) (by omega)
      have HNB : Hid (97 + (k : Int) = ((nb k).toNat : Int)) := (nb_int (by omega)).symm
      clear hck hle
      go_wp2_with (first
        | (refine wpList_byte1 rfl (.tmp 40) rfl (nb k) (congrArg (Value.int .u8) HNB.out) ?_
           intro w3 hs3 hb3
           have HX3 := Lib.hid hs3
           have HW3 := Lib.hid (HWr.out.trans (hb3.mono HWr.out.size))
           have HO3 : Hid (w3.ownsRow w.heap.size 51 4 (.slice A' k c') k (ecs (entsD l k))) := HO.out.kept (below_grown hb3) (Classical.em _)
           clear hs3 hb3)
        | (refine wpList_conv_bs rfl (.tmp 41) rfl _ 1 1 [nb k] rfl HX3.out ?_)
        | (at_builtin
           go_must (refine wpList_append_es _ rfl (.tmp 36) (.tmp 44) 49 rfl w.heap.size 51 i0 _ Try.underlying49 HI0.out HZ0.out HZ1.out HZ2.out rfl A' k c' (entsD l k) rfl (HO3.out.kept (below_grown ((Below.refl _ _).alloc (Nat.le_refl _) _)) (Classical.em _)) (some ⟨w3.heap.size, 0, none⟩) 1 1 [⟨D, 0, 0, [nb k]⟩] rfl ((EB.new w3 51 ⟨D, 0, 0, [nb k]⟩).es) (by omega) (Nat.le_trans HW3.out.size (by simp)) ?_)
           intro A4 c4 wD ho hgr _
           have HO4 := Lib.hid ho
           have HW4 : Hid (Below w.heap.size w wD) := own_below (HW3.out.trans (((Below.refl _ _).alloc (Nat.le_refl _) _).mono HW3.out.size)) (HO3.out.kept (below_grown ((Below.refl _ _).alloc (Nat.le_refl _) _)) (Classical.em _)) hgr
           clear ho hgr))
      go_roundw
      case rel => 
        refine ⟨k + 1, by omega, by go_num, by rw [HD.out], A4, c4, rfl, ?_, HW4⟩
        rw [HSU.out]
        exact HO4
      case measure => simp [intOf]; omega
    · obtain rfl : k = n := by omega
      have HES := Lib.hid (ES.of_own HO.out)
      have HSB := Lib.hid (HNL.out)
      have hn12 : k ≤ 12 := HN.out
      have HOKE := Lib.hid (entsD_ok l k (by omega))
      have hlen := encsD_len l k
      have HPE : Hid (putE (entsD l k) = encs (entsD l k)) := if_pos HOKE.out
      clear hk hlt HO HS
      go_wp2_with fail
      refine (putCap_any A' k c' (entsD l k) wr HES.out (entsD_wide l k (by omega)) (by omega) (fun _ => by omega)).mono ?_
      rintro e w3 ⟨A3, n3, c3, rfl, hbs3, hcap3, hb3⟩
      have HCAP : Hid (n3 ≤ c3) := hcap3
      rw [show chkE (entsD l k) = 0 from if_pos HOKE.out]
      have hn3 : n3 = 24 * k := by have := hbs3.1; rw [HPE.out, hlen] at this; omega
      subst hn3
      have HB3 := Lib.hid hbs3
      have HW3 := Lib.hid (HWr.out.trans (hb3.mono HWr.out.size))
      have HALL : Hid (Sl.chkS (thD x (putE (entsD l k))) = if decide (ckD l k ≤ x) then 0 else 1) := by
        show _ = _
        have := chkD_all l k x hn12
        by_cases hle : ckD l k ≤ x
        · rw [decide_eq_true hle, if_pos rfl]; exact this.2 hle
        · rw [decide_eq_false hle, if_neg (by decide)]
          unfold Sl.chkS at this ⊢
          split at this
          · exact absurd (this.1 rfl) hle
          · rename_i h; rw [if_neg h]
      have HCUT : Hid (∀ m, m < 24 * k → Sl.chkS (thD 1000 ((putE (entsD l k)).take m)) = if m % 24 = 0 then 0 else 1) := fun m hm => by
        have := chkD_cut l k m hn12 hm
        by_cases hle : m % 24 = 0
        · rw [if_pos hle]; exact this.2 hle
        · rw [if_neg hle]
          unfold Sl.chkS at this ⊢
          split at this
          · exact absurd (this.1 rfl) hle
          · rename_i h; rw [if_neg h]
      clear hbs3 hb3 hcap3 hlen HPE HOKE HES HWr
      generalize putE (entsD l k) = bl at *
      have hle4 := ckD_le l k
      generalize ckD l k = D at *
      go_upto_region 17 with (first
        | (refine Did.list rfl (did_build 26 #[(1, .const (.int .u32 2)), (3, .const (.int .u32 1)), (6, .tmp 54), (8, .tmp 55)] rfl _ (built_thD _ _ _ _)) ?_)
        | (refine wpList_alloc_any rfl 26 rfl _ zero_Sl ?_; intro w4 hb4 hs4 hw4)
        | (refine wpList_store_part rfl 26 (.tmp 13) (.tmp 56) rfl w3.heap.size 0 (sc (thD x bl) (.slice A3 (24 * k) c3)) rfl rfl 26 _ hb4 size_Sl (by simp [sc]) (sc_row _ _ _ _) ?_
           intro w5 hb5 hs5 hk5))
      have HQ5 : Hid (Bw w5 w3.heap.size (sc (thD x bl) (.slice A3 (24 * k) c3)) 26) := hb5
      have hbw : Below w3.heap.size w3 w5 := hw4.trans (hk5.below2 (fun k hk => by omega))
      have HW5 := Lib.hid (HW3.out.trans (hbw.mono HW3.out.size))
      have HB5 := Lib.hid (HB3.out.below hbw)
      have HSZ : Hid (w.heap.size ≤ w3.heap.size) := HW3.out.size
      have HAD : Hid (∀ ad, A3 = some ad → 0 < 24 * k → ad.block < w3.heap.size) := fun ad ha h0 => HB3.out.lt_block h0 ad ha
      clear hb4 hs4 hw4 hb5 hs5 hk5 hbw HW3 HB3
      generalize w3.heap.size = p at *
      go_wp2_with (refine wpList_load_part rfl 26 (.tmp 13) rfl _ 0 rfl _ Try.underlying26 rfl (sc (thD x bl) (.slice A3 (24 * k) c3)) 26 _ HQ5.out size_Sl (fun j u hu => by rw [Nat.zero_add]; exact hu) ?_)
      refine (HPK.out.check (thD x bl) A3 (24 * k) c3 w5 (thD_fits _ _ (by omega)) HB5.out (by omega)).mono ?_
      rintro e w6 ⟨rfl, hb6⟩
      have HQ6 := Lib.hid (HQ5.out.below hb6)
      have HW6 := Lib.hid (HW5.out.trans (hb6.mono HW5.out.size))
      have HB6 := Lib.hid (HB5.out.below hb6)
      have HP6 : Hid (p < w6.heap.size) := HQ6.out.lt
      clear hb6 HQ5 HW5 HB5
      have hq1 : IntKind.u64.wrap (x : Int) = x := wrap_u64 (by omega) (by omega)
      obtain ⟨z, hz⟩ : ∃ z, Sl.chkS (thD x bl) = z := ⟨_, rfl⟩
      obtain ⟨ok, hok⟩ : ∃ b, decide (D ≤ x) = b := ⟨_, rfl⟩
      have hz0 : (z == 0) = ok := by
        rw [← hz, HALL.out, hok]
        cases ok <;> rfl
      rw [hz]
      clear hz HALL
      go_upto_region 19 with fail
      clear hz0 hq1
      by_cases hk0 : k = 0
      · have hkz : ((24 * (k : Int)) == 0) = true := by simp; omega
        go_wp2_with fail
        go_ret
        exact ⟨rfl, HW6.out⟩
      have hkz : ((24 * (k : Int)) == 0) = false := by simp; omega
      go_upto_region 22 with (refine wpList_store_cell rfl 23 (.tmp 68) (.const (.int .u64 1000)) rfl _ 6 (.int .u64 1000) rfl rfl 26 _ HQ6.out (by kernel_rfl) rfl (by simp [sc]) rfl ?_; intro w7 hb7 hs7 hk7)
      have HQ7 : Hid (Bw w7 p (sc (thD 1000 bl) (.slice A3 (24 * k) c3)) 26) := hb7
      have HW7 : Hid (Below w.heap.size w w7) := HW6.out.trans (hk7.below2 (fun k hk => by have := HSZ.out; omega))
      have HB7 : Hid (BS w7 A3 (24 * k) bl) := HB6.out.keepK2 hk7 (fun h0 ad ha => by have := HAD.out ad ha h0; omega)
      clear hb7 hs7 hk7 HQ6 HW6 HB6
      obtain ⟨m, hm, hmk⟩ : ∃ m : Nat, wrap64 ((24 * (k : Int)) - 1 - (y : Int) % (24 * (k : Int))) = (m : Int) ∧ m < 24 * k := by
        have h1 : y % (24 * k) < 24 * k := Nat.mod_lt _ (by omega)
        have h2 : (y : Int) % (24 * (k : Int)) = ((y % (24 * k) : Nat) : Int) := by simp
        have h3 : (24 * (k : Int)) - 1 - (y : Int) % (24 * (k : Int)) = ((24 * k - 1 - y % (24 * k) : Nat) : Int) := by rw [h2]; omega
        refine ⟨24 * k - 1 - y % (24 * k), ?_, by omega⟩
        rw [h3]
        exact IntWalk.wrap64_in _ (by omega)
      have hm0 : (0 : Int) ≤ (m : Int) := by omega
      have hmc : (m : Int) ≤ (c3 : Int) := by have := HCAP.out; omega
      have hmn : (m : Int).toNat = m := rfl
      go_upto_region 23 with (refine wpList_store_cell rfl 24 (.tmp 80) (.tmp 79) rfl _ 8 (.slice A3 m c3) rfl rfl 26 _ HQ7.out (by kernel_rfl) rfl (by simp [sc]) rfl ?_; intro w8 hb8 hs8 hk8)
      have HQ8 : Hid (Bw w8 p (sc (thD 1000 (bl.take m)) (.slice A3 m c3)) 26) := hb8
      have HW8 : Hid (Below w.heap.size w w8) := HW7.out.trans (hk8.below2 (fun k hk => by have := HSZ.out; omega))
      have HB8 : Hid (BS w8 A3 m (bl.take m)) := (HB7.out.keepK2 hk8 (fun h0 ad ha => by have := HAD.out ad ha h0; omega)).take (by omega)
      clear hb8 hs8 hk8 HQ7 HW7 HB7 hm hm0 hmc hmn
      have k8 := HQ8.out.cell 8 _ rfl
      go_upto_region 24 with fail
      clear k8
      go_wp2_with (refine wpList_load_part rfl 26 (.tmp 13) rfl _ 0 rfl _ Try.underlying26 rfl (sc (thD 1000 (bl.take m)) (.slice A3 m c3)) 26 _ HQ8.out size_Sl (fun j u hu => by rw [Nat.zero_add]; exact hu) ?_)
      refine (HPK.out.check (thD 1000 (bl.take m)) A3 m c3 w8 (thD_fits _ _ (by omega)) HB8.out (by omega)).mono ?_
      rintro e w9 ⟨rfl, hb9⟩
      have HW9 := Lib.hid (HW8.out.trans (hb9.mono HW8.out.size))
      have hc := HCUT.out m hmk
      rw [hc]
      clear hb9 HQ8 HW8 HB8 hc HCUT
      by_cases hmz : m % 24 = 0
      · rw [if_pos hmz]
        have hr : ((m : Int) % 24 == 0) = true := by simp; omega
        have hr2 : (24 : Int) ∣ (m : Int) := by omega
        have hr3 : (m : Int) % 24 = 0 := by omega
        go_wp2_with fail
        go_ret
        exact ⟨by simp, HW9.out⟩
      · rw [if_neg hmz]
        have hr : ((m : Int) % 24 == 0) = false := by simp; omega
        go_wp2_with fail
        go_ret
        exact ⟨by simp, HW9.out⟩
end Go.Proofs.Ytbeahhijmgkfhaa
