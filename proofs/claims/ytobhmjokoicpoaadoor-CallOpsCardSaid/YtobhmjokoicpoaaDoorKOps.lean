/-
  The walk of the statement on ops (layer 9).
-/
import Derived.Test.YtobhmjokoicpoaaDoorKStates
namespace Go.Proofs.YtobhmjokoicpoaaDoor
open Go.RowKit Go.Shelf

def cS (op : Nat) : Cl := ⟨0, 0, op, 0, 0, [], 0, 0, [], 0, 0, 0, 0, []⟩
theorem built_cS (op : Int) : Tryd.prog.built 28 [(2, .int .u32 op)] = some #[.int .u32 0, .int .u32 0, .int .u32 op, .int .u32 0, .int .u32 0, .string ⟨#[]⟩, .int .u32 0, .int .u32 0, .string ⟨#[]⟩, .int .u64 0, .int .u64 0, .int .u32 0, .int .u32 0, .slice none 0 0] := by kernel_rfl
theorem cS_wide (op : Nat) (h : op < 4294967296) : (cS op).Wide :=
  ⟨Nat.zero_lt_succ _, Nat.zero_lt_succ _, h, Nat.zero_lt_succ _, Nat.zero_lt_succ _, Nat.zero_lt_succ _, Nat.zero_lt_succ _, Nat.zero_lt_succ _, Nat.zero_lt_succ _, Nat.zero_lt_succ _, Nat.zero_lt_succ _⟩
theorem cS_okB (op : Nat) : (cS op).okB = opOk op := by simp [Cl.okB, cS]
theorem cS_bad : ∀ op ∈ List.range 17, 1 ≤ op → Cl.err ((cS op).enc.set 11 17) = 11 := by decide +kernel
theorem chB_may (op : Nat) (h : opOk op = false) : chB op = false := by
  rcases Nat.eq_zero_or_pos op with rfl | hp
  · rfl
  · refine chB_no op fun h2 => ?_
    unfold opOk at h
    rw [decide_eq_true (by omega : 1 ≤ op), decide_eq_true h2] at h
    cases h
/-- How many of the first k ops change something. -/
def cnt (k : Nat) : Nat := ((List.range k).filter chB).length
theorem cnt_succ (k : Nat) : cnt (k + 1) = cnt k + (if chB k then 1 else 0) := by
  unfold cnt
  rw [List.range_succ, List.filter_append, List.length_append]
  congr 1
  cases h : chB k <;> simp [h]
theorem cnt_40 : cnt 40 = 9 := by decide +kernel
theorem cnt_le (k : Nat) : cnt k ≤ k := by
  unfold cnt
  have := List.length_filter_le chB (List.range k)
  rwa [List.length_range] at this

set_option maxRecDepth 100000 in
set_option maxHeartbeats 4000000 in
theorem ops_walk (w : World) (hch : Ch w) (op : Nat) (hop : op < 4294967296) : Calls Tryd.prog 7 #[.int .u32 (op : Int)] w fun e w' => e = .returned (.bool true) ∧ Below w.heap.size w w' := by
  have HCH := Lib.hid hch
  clear hch
  go_enter Tryd.func7, Tryd.ntmps7
  go_wp2_with fail
  refine (awake_any w HCH.out).mono ?_
  rintro en w1 ⟨rfl, hb1⟩
  have HW1 := Lib.hid hb1
  clear hb1
  go_wp2_with (refine Did.list rfl (did_build 28 #[(2, .tmp 17)] rfl _ (built_cS (op : Int))) ?_)
  refine (putCall_any none 0 0 (cS op) w1 (fun _ => BS.nil) rfl).mono ?_
  rintro en w2 ⟨A2, n2, c2, rfl, ho2⟩
  have HW2 := Lib.hid (HW1.out.trans (ho2.2.mono HW1.out.size))
  have HC2 := Lib.hid (HCH.out.below HW2.out)
  by_cases hok : opOk op = true
  rotate_left
  · have hno : opOk op = false := by simpa using hok
    have he : (cS op).errP = 1 := if_neg (by rw [cS_okB]; exact hok)
    have hp : (cS op).put = [] := if_neg (by rw [cS_okB]; exact hok)
    rw [he]
    rw [hp] at ho2
    have h0 : n2 = 0 := by have := ho2.bs.1; simpa using this.symm
    subst h0
    have HCB := Lib.hid (chB_may op hno)
    unfold opOk at hno
    clear ho2 hok he hp
    -- WAYS
    by_cases z1 : 1 ≤ op
    · have z1' : (1 : Int) ≤ (op : Int) := by omega
      have z2 : decide ((op : Int) ≤ 16) = false := by
        rw [decide_eq_true z1] at hno
        simp at hno
        simp
        omega
      clear hno z1
      go_wp2_with fail
      refine (changes_any op w2 HC2.out).mono ?_
      rintro en w3 ⟨rfl, rfl⟩
      rw [HCB.out]
      go_wp2_with fail
      go_loopw [7, 8] (fun n i wr => ∃ k : Nat, k ≤ 40 ∧ n = .int .i64 (cnt k : Int) ∧ i = .int .u32 (k : Int) ∧ Hid (Below w2.heap.size w2 wr)) (fun _ i _ => 40 - (intOf i).toNat)
      case atStart => exact ⟨0, by omega, rfl, rfl, Below.refl _ _⟩
      case round =>
        obtain ⟨k, hk, rfl, rfl, HB⟩ := hrel
        by_cases hlt : k < 40
        · have HCR := Lib.hid (HC2.out.below HB.out)
          have hcs := cnt_succ k
          have hcl := cnt_le k
          go_wp2_with fail
          refine (changes_any k wr HCR.out).mono ?_
          rintro en wz ⟨rfl, rfl⟩
          cases hcb : chB k
          · rw [hcb] at hcs
            have hc1 : cnt (k + 1) = cnt k := hcs
            clear hcs
            go_wp2_with fail
            go_roundw
            case rel => exact ⟨k + 1, by omega, by rw [hc1], by go_num, HB⟩
            case measure => simp [intOf]; omega
          · rw [hcb] at hcs
            have hc1 : cnt (k + 1) = cnt k + 1 := hcs
            clear hcs
            go_wp2_with fail
            go_roundw
            case rel => exact ⟨k + 1, by omega, by rw [hc1]; go_num, by go_num, HB⟩
            case measure => simp [intOf]; omega
        · obtain rfl : k = 40 := by omega
          rw [cnt_40]
          clear hk hlt
          go_wp2_with fail
          go_ret
          exact ⟨rfl, HW2.out.trans (HB.out.mono HW2.out.size)⟩
    · have z1' : decide ((1 : Int) ≤ (op : Int)) = false := decide_eq_false (by omega)
      clear hno z1
      go_wp2_with fail
      refine (changes_any op w2 HC2.out).mono ?_
      rintro en w3 ⟨rfl, rfl⟩
      rw [HCB.out]
      go_wp2_with fail
      go_loopw [7, 8] (fun n i wr => ∃ k : Nat, k ≤ 40 ∧ n = .int .i64 (cnt k : Int) ∧ i = .int .u32 (k : Int) ∧ Hid (Below w2.heap.size w2 wr)) (fun _ i _ => 40 - (intOf i).toNat)
      case atStart => exact ⟨0, by omega, rfl, rfl, Below.refl _ _⟩
      case round =>
        obtain ⟨k, hk, rfl, rfl, HB⟩ := hrel
        by_cases hlt : k < 40
        · have HCR := Lib.hid (HC2.out.below HB.out)
          have hcs := cnt_succ k
          have hcl := cnt_le k
          go_wp2_with fail
          refine (changes_any k wr HCR.out).mono ?_
          rintro en wz ⟨rfl, rfl⟩
          cases hcb : chB k
          · rw [hcb] at hcs
            have hc1 : cnt (k + 1) = cnt k := hcs
            clear hcs
            go_wp2_with fail
            go_roundw
            case rel => exact ⟨k + 1, by omega, by rw [hc1], by go_num, HB⟩
            case measure => simp [intOf]; omega
          · rw [hcb] at hcs
            have hc1 : cnt (k + 1) = cnt k + 1 := hcs
            clear hcs
            go_wp2_with fail
            go_roundw
            case rel => exact ⟨k + 1, by omega, by rw [hc1]; go_num, by go_num, HB⟩
            case measure => simp [intOf]; omega
        · obtain rfl : k = 40 := by omega
          rw [cnt_40]
          clear hk hlt
          go_wp2_with fail
          go_ret
          exact ⟨rfl, HW2.out.trans (HB.out.mono HW2.out.size)⟩
  have hbad := Lib.hid (cS_bad op (by simp [opOk] at hok; simp; omega) (by simp [opOk] at hok; omega))
  have z1 : (1 : Int) ≤ (op : Int) := by simp [opOk] at hok; omega
  have z2 : (op : Int) ≤ 16 := by simp [opOk] at hok; omega
  have hokB : (cS op).okB = true := by rw [cS_okB]; exact hok
  have hg := (cS op).got_put (cS_wide op hop) hokB
  have HG1 := Lib.hid hg.1
  have HG2 := Lib.hid hg.2
  have hlen := (cS op).enc_len hokB
  rw [show (cS op).errP = 0 from if_pos hokB]
  rw [show (cS op).put = (cS op).enc from if_pos hokB] at ho2
  clear hg hok hokB
  generalize (cS op).enc = L at *
  have hn2 : L.length = n2 := ho2.bs.1
  obtain ⟨g, cap, hv, hgl, hgs⟩ := ho2.1.form (by omega)
  injection hv with hA _ hC
  subst hA hC
  have HG : Hid (g < w2.heap.size) := by show _ < _; exact hgs
  have HS := Lib.hid ho2.1
  have HGW : Hid (w.heap.size ≤ g) := Nat.le_trans HW1.out.size hgl
  have HN : Hid (12 ≤ n2 ∧ n2 ≤ 10000000) := by show _ ∧ _; omega
  have h11 : (11 : Int) < (n2 : Int) := by omega
  clear hlen hgl hgs ho2
  go_wp2_with fail
  go_loopw [7, 8] (fun n i wr => ∃ k : Nat, k ≤ 40 ∧ n = .int .i64 (cnt k : Int) ∧ i = .int .u32 (k : Int) ∧ Hid (Below w2.heap.size w2 wr)) (fun _ i _ => 40 - (intOf i).toNat)
  case atStart => exact ⟨0, by omega, rfl, rfl, Below.refl _ _⟩
  case round =>
    obtain ⟨k, hk, rfl, rfl, HB⟩ := hrel
    by_cases hlt : k < 40
    · have HCR := Lib.hid (HC2.out.below HB.out)
      have hcs := cnt_succ k
      have hcl := cnt_le k
      go_wp2_with fail
      refine (changes_any k wr HCR.out).mono ?_
      rintro en wz ⟨rfl, rfl⟩
      cases hcb : chB k
      · rw [hcb] at hcs
        have hc1 : cnt (k + 1) = cnt k := hcs
        clear hcs
        go_wp2_with fail
        go_roundw
        case rel => exact ⟨k + 1, by omega, by rw [hc1], by go_num, HB⟩
        case measure => simp [intOf]; omega
      · rw [hcb] at hcs
        have hc1 : cnt (k + 1) = cnt k + 1 := hcs
        clear hcs
        go_wp2_with fail
        go_roundw
        case rel => exact ⟨k + 1, by omega, by rw [hc1]; go_num, by go_num, HB⟩
        case measure => simp [intOf]; omega
    · obtain rfl : k = 40 := by omega
      rw [cnt_40]
      clear hk hlt
      have HWR := Lib.hid (HW2.out.trans (HB.out.mono HW2.out.size))
      have HSR := Lib.hid (HS.out.kept (below_grown HB.out) (Classical.em _))
      have HGR : Hid (g < wr.heap.size) := Nat.lt_of_lt_of_le HG.out HB.out.size
      clear HB HW2 HS HG HC2
      go_wp2_with fail
      refine (getCall_any (some ⟨g, 0, none⟩) n2 c2 L wr (BS.of_own HSR.out) (by have := HN.out; omega)).mono ?_
      rintro en w3 ⟨A3, n3, c3, rfl, _, hb3⟩
      rw [HG1.out, HG2.out]
      have HW3 := Lib.hid (HWR.out.trans (hb3.mono HWR.out.size))
      have HS3 := Lib.hid (HSR.out.kept (below_grown hb3) (Classical.em _))
      have HG3 : Hid (g < w3.heap.size) := Nat.lt_of_lt_of_le HGR.out hb3.size
      clear hb3 HWR HSR HGR
      go_upto_region 17 with (first
        | (refine wpList_alloc_any rfl 28 rfl _ zero_C ?_; intro w4 hb4 hs4 hw4)
        | (refine wpList_store_part rfl 28 (.tmp 9) (.tmp 60) rfl w3.heap.size 0 (cc (cS op) (.slice A3 n3 c3)) rfl rfl 28 _ hb4 size_C (by simp [cc]) (cc_one _ _ _ _) ?_
           intro w5 hb5 hs5 hk5))
      have HR5 : Hid (Bw w5 w3.heap.size (cc (cS op) (.slice A3 n3 c3)) 28) := hb5
      have hbw : Below w3.heap.size w3 w5 := hw4.trans (hk5.below2 (fun k hk => by omega))
      have HW5 := Lib.hid (HW3.out.trans (hbw.mono HW3.out.size))
      have HS5 := Lib.hid (HS3.out.kept (below_grown hbw) (Classical.em _))
      have HRG : Hid (w3.heap.size ≠ g) := by show _ ≠ _; have := HG3.out; omega
      clear hb4 hs4 hw4 hb5 hs5 hk5 hbw HW3 HS3 HG3
      generalize w3.heap.size = r at *
      have h11n : 11 < n2 := by omega
      obtain ⟨⟨_, hc11⟩, hf11, _, hset⟩ := own_set HS5.out (j := 11) h11n
      have hset1 := Lib.hid (hset 17)
      have HW6 : Hid (Below w.heap.size w (w5.setCell ⟨g, 11, none⟩ (.int .u8 17))) := HW5.out.setCell (p := ⟨g, 11, none⟩) HGW.out _
      have HR6 : Hid (Bw (w5.setCell ⟨g, 11, none⟩ (.int .u8 17)) r (cc (cS op) (.slice A3 n3 c3)) 28) := HR5.out.keep (set_other w5 g 11 _) HRG.out
      have HB6 : Hid (BS (w5.setCell ⟨g, 11, none⟩ (.int .u8 17)) (some ⟨g, 0, none⟩) n2 (L.set 11 17)) := BS.of_own hset1.out
      clear hset hset1 HW5 HR5 HS5 h11n
      go_upto_region 18 with fail
      clear hc11 hf11
      generalize w5.setCell ⟨g, 11, none⟩ (.int .u8 17) = w6 at *
      go_wp2_with fail
      refine (getCall_any (some ⟨g, 0, none⟩) n2 c2 (L.set 11 17) w6 HB6.out (by have := HN.out; omega)).mono ?_
      rintro en w7 ⟨A7, n7, c7, rfl, _, hb7⟩
      rw [hbad.out]
      have HW7 := Lib.hid (HW6.out.trans (hb7.mono HW6.out.size))
      have HR7 := Lib.hid (HR6.out.below hb7)
      clear hb7 HW6 HB6 HR6
      go_upto_region 19 with (first
        | (refine wpList_alloc_any rfl 28 rfl _ zero_C ?_; intro w8 hb8 hs8 hw8)
        | (refine wpList_store_part rfl 28 (.tmp 11) (.tmp 67) rfl w7.heap.size 0 _ rfl rfl 28 _ hb8 size_C (by simp [cc]) (cc_one _ _ _ _) ?_
           intro w9 hb9 hs9 hk9))
      have hbw : Below w7.heap.size w7 w9 := hw8.trans (hk9.below2 (fun k hk => by omega))
      have HW9 := Lib.hid (HW7.out.trans (hbw.mono HW7.out.size))
      have HR9 := Lib.hid (HR7.out.below hbw)
      clear hb8 hs8 hw8 hb9 hs9 hk9 hbw HW7 HR7
      have k2 : w9.cell? ⟨r, 2, none⟩ = some (.int .u32 (op : Int)) := HR9.out.cell 2 _ rfl
      go_wp2_with fail
      go_ret
      exact ⟨rfl, HW9.out⟩
end Go.Proofs.YtobhmjokoicpoaaDoor
